import Derived.Test.YteefieidfgpijaaCgS
import Derived.Test.YteefieidfgpijaaCwA
import Derived.Test.YteefieidfgpijaaCrA
namespace Go.Proofs.Yteefieidfgpijaa.CF
open Go.RowKit
attribute [local go_sem] run_store_float

/-- The points of whole numbers. -/
def ptsW (f s : Int) (g : Nat → Int) : Nat → Dots
  | 0 => []
  | k + 1 => ptsW f s g k ++ [(f + (k : Int) * s, wholeN (g k))]
theorem ptsW_len (f s : Int) (g : Nat → Int) : ∀ k, (ptsW f s g k).length = k
  | 0 => rfl
  | k + 1 => by
    have := ptsW_len f s g k
    unfold ptsW
    rw [List.length_append, this]
    rfl
set_option maxRecDepth 8000 in
set_option maxHeartbeats 2000000 in
theorem samp_line (f s : Int) (n : Nat) (hn1 : 1 ≤ n) (hn2 : n ≤ 64) (hok : okS f s ((n : Int) - 1) = true) (g : Nat → Int) (hg : ∀ k, -9223372036854775808 ≤ g k ∧ g k ≤ 9223372036854775807) (w : World)
    (hf : ∀ k, k < n → ∀ X, Below w.heap.size w X → Calls Try.prog 23 #[.int .i64 (f + (k : Int) * s)] X fun e w' => e = .returned (.agg #[.int .i64 1, .int .i64 (g k)]) ∧ Below X.heap.size X w') :
    Calls Try.prog 10 #[.func (.func 23) #[] #[], .int .i64 f, .int .i64 s, .int .i64 (n : Int)] w fun e w' => ∃ pv, e = .returned (.tuple #[pv, .int .i64 0]) ∧ w'.ownsRow w.heap.size 35 2 pv n (ptV (ptsW f s g n)) ∧ Below w.heap.size w w' := by
  obtain ⟨i0, hi, hz0, hz1, hz2⟩ := info_parts infoP
  have hms := mayStep_any f s ((n : Int) - 1) (by omega) (by omega) w
  rw [hok] at hms
  obtain ⟨⟨hs1, hf1, hf2⟩, hks⟩ := okS_bounds hok (by omega)
  have h1 : ¬ (n : Int) < 1 := by omega
  have h2 : ¬ (64 : Int) < (n : Int) := by omega
  replace hks := Hid.mk hks
  have hfH := Hid.mk hf
  clear hok hf
  go_enter Try.func10, Try.ntmps10
  go_wp2_with (go_at_call 24; refine hms.mono ?_; rintro _ w1 ⟨rfl, hw1⟩; subst w1)
  go_loopw [10, 29] (fun pv x wr => ∃ k : Nat, k ≤ n ∧ x = .int .i64 (k : Int) ∧ wr.ownsRow w.heap.size 35 2 pv k (ptV (ptsW f s g k)) ∧ Below w.heap.size w wr) (fun _ x _ => n - (intOf x).toNat)
  case atStart => exact ⟨0, by omega, rfl, World.ownsRow_nil _ _ _ _, Below.refl _ _⟩
  case round =>
    clear hms
    obtain ⟨k, hk, rfl, ho, hB⟩ := hrel
    by_cases hlt : k < n
    · have hlt' : (k : Int) < (n : Int) := by omega
      have hkb := hks.out (k : Int) (by omega) (by omega)
      have hask := hfH.out k hlt wr hB
      have hpd : Hid (ptsW f s g (k + 1) = ptsW f s g k ++ [(f + (k : Int) * s, wholeN (g k))]) := ⟨rfl⟩
      have hcv := conv_f32 (g k)
      have hvr2 := hg k
      generalize wholeN (g k) = U at *
      generalize g k = q2 at *
      go_wp2_with (go_at_call 23; fail)
      refine hask.mono ?_
      clear hask
      rintro _ w2 ⟨rfl, hB2⟩
      have ho2 := own_bel ho hB2
      have hBw2 : Below w.heap.size w w2 := hB.trans (hB2.mono hB.size)
      obtain ⟨X3, hX3⟩ : ∃ X, w2.alloc (.cells #[.int .i64 1, .int .i64 q2] 25) = X := ⟨_, rfl⟩
      have t0 : X3.cell? ⟨w2.heap.size, 0, none⟩ = some (.int .i64 1) := by rw [← hX3]; simp
      have t1 : X3.cell? ⟨w2.heap.size, 1, none⟩ = some (.int .i64 q2) := by rw [← hX3]; simp
      have hB3 : Below w.heap.size w X3 := by rw [← hX3]; exact hBw2.alloc hBw2.size _
      have ho3 := ho2.alloc (.cells #[.int .i64 1, .int .i64 q2] 25)
      rw [hX3] at ho3
      have ho4 := ho3.alloc (.cells #[.int .i64 (f + (k : Int) * s), .float .f32 U] 35)
      have hB4 : Below w.heap.size w (X3.alloc (.cells #[.int .i64 (f + (k : Int) * s), .float .f32 U] 35)) := hB3.alloc hB3.size _
      have hlv := Hid.mk (fun (j : Nat) hj => (ho3.lt j hj).1)
      clear ho ho2 ho3 hB hB2 hBw2
      go_wp2_with (at_builtin; refine wpList_append_own _ rfl _ _ 27 rfl w.heap.size 35 i0 _ 2 16 Try.underlying27 hi hz0 hz1 hz2 rfl (by decide) _ k (ptV (ptsW f s g k)) rfl ho4 ⟨X3.heap.size, 0, none⟩ 1 1 [.int .i64 (f + (k : Int) * s), .float .f32 U] rfl rfl (lit_at X3 _ _) (by simp [Value.oneCell']) (by unfold maxLen; omega) (by omega) hB4.size ?_; intro v5 w5 hown5 hgrow5 _; have hB5 := hB4.grown hgrow5 hB4.size hlv.out)
      go_roundw
      case rel => exact ⟨k + 1, by omega, by go_num, by rw [hpd.out, ptV_snoc]; exact hown5, hB5⟩
      case measure => simp [intOf]; omega
    · obtain rfl : k = n := by omega
      have hlt' : ¬ (k : Int) < (k : Int) := by omega
      obtain ⟨p, cp, rfl⟩ := own_len ho
      go_wp2
      exact bodyPost_ret (v := .tuple #[_, .int .i64 0]) (by simp [results, Try.results10, go_sem]) rfl ⟨_, rfl, ho, hB⟩
set_option maxRecDepth 8000 in
set_option maxHeartbeats 2000000 in
theorem samp_k (f s : Int) (n : Nat) (hn1 : 1 ≤ n) (hn2 : n ≤ 64) (hok : okS f s ((n : Int) - 1) = true) (g : Nat → Int) (hg : ∀ k, -9223372036854775808 ≤ g k ∧ g k ≤ 9223372036854775807) (kb bb : Nat) (w : World)
    (hf : ∀ k, k < n → ∀ X, Below w.heap.size w X → Calls Try.prog 9 #[.int .i64 (f + (k : Int) * s), .pointer (some ⟨kb, 0, none⟩), .pointer (some ⟨bb, 0, none⟩)] X fun e w' => e = .returned (.agg #[.int .i64 2, .int .i64 (g k)]) ∧ Below X.heap.size X w') :
    Calls Try.prog 10 #[.func (.func 9) #[] #[.pointer (some ⟨kb, 0, none⟩), .pointer (some ⟨bb, 0, none⟩)], .int .i64 f, .int .i64 s, .int .i64 (n : Int)] w fun e w' => ∃ pv, e = .returned (.tuple #[pv, .int .i64 0]) ∧ w'.ownsRow w.heap.size 35 2 pv n (ptV (ptsW f s g n)) ∧ Below w.heap.size w w' := by
  obtain ⟨i0, hi, hz0, hz1, hz2⟩ := info_parts infoP
  have hms := mayStep_any f s ((n : Int) - 1) (by omega) (by omega) w
  rw [hok] at hms
  obtain ⟨⟨hs1, hf1, hf2⟩, hks⟩ := okS_bounds hok (by omega)
  have h1 : ¬ (n : Int) < 1 := by omega
  have h2 : ¬ (64 : Int) < (n : Int) := by omega
  replace hks := Hid.mk hks
  have hfH := Hid.mk hf
  clear hok hf
  go_enter Try.func10, Try.ntmps10
  go_wp2_with (go_at_call 24; refine hms.mono ?_; rintro _ w1 ⟨rfl, hw1⟩; subst w1)
  go_loopw [10, 29] (fun pv x wr => ∃ k : Nat, k ≤ n ∧ x = .int .i64 (k : Int) ∧ wr.ownsRow w.heap.size 35 2 pv k (ptV (ptsW f s g k)) ∧ Below w.heap.size w wr) (fun _ x _ => n - (intOf x).toNat)
  case atStart => exact ⟨0, by omega, rfl, World.ownsRow_nil _ _ _ _, Below.refl _ _⟩
  case round =>
    clear hms
    obtain ⟨k, hk, rfl, ho, hB⟩ := hrel
    by_cases hlt : k < n
    · have hlt' : (k : Int) < (n : Int) := by omega
      have hkb := hks.out (k : Int) (by omega) (by omega)
      have hask := hfH.out k hlt wr hB
      have hpd : Hid (ptsW f s g (k + 1) = ptsW f s g k ++ [(f + (k : Int) * s, wholeN (g k))]) := ⟨rfl⟩
      have hcv := conv_f32 (g k)
      have hvr2 := hg k
      generalize wholeN (g k) = U at *
      generalize g k = q2 at *
      go_wp2_with (go_at_call 9; fail)
      refine hask.mono ?_
      clear hask
      rintro _ w2 ⟨rfl, hB2⟩
      have ho2 := own_bel ho hB2
      have hBw2 : Below w.heap.size w w2 := hB.trans (hB2.mono hB.size)
      obtain ⟨X3, hX3⟩ : ∃ X, w2.alloc (.cells #[.int .i64 2, .int .i64 q2] 25) = X := ⟨_, rfl⟩
      have t0 : X3.cell? ⟨w2.heap.size, 0, none⟩ = some (.int .i64 2) := by rw [← hX3]; simp
      have t1 : X3.cell? ⟨w2.heap.size, 1, none⟩ = some (.int .i64 q2) := by rw [← hX3]; simp
      have hB3 : Below w.heap.size w X3 := by rw [← hX3]; exact hBw2.alloc hBw2.size _
      have ho3 := ho2.alloc (.cells #[.int .i64 2, .int .i64 q2] 25)
      rw [hX3] at ho3
      have ho4 := ho3.alloc (.cells #[.int .i64 (f + (k : Int) * s), .float .f32 U] 35)
      have hB4 : Below w.heap.size w (X3.alloc (.cells #[.int .i64 (f + (k : Int) * s), .float .f32 U] 35)) := hB3.alloc hB3.size _
      have hlv := Hid.mk (fun (j : Nat) hj => (ho3.lt j hj).1)
      clear ho ho2 ho3 hB hB2 hBw2
      go_wp2_with (at_builtin; refine wpList_append_own _ rfl _ _ 27 rfl w.heap.size 35 i0 _ 2 16 Try.underlying27 hi hz0 hz1 hz2 rfl (by decide) _ k (ptV (ptsW f s g k)) rfl ho4 ⟨X3.heap.size, 0, none⟩ 1 1 [.int .i64 (f + (k : Int) * s), .float .f32 U] rfl rfl (lit_at X3 _ _) (by simp [Value.oneCell']) (by unfold maxLen; omega) (by omega) hB4.size ?_; intro v5 w5 hown5 hgrow5 _; have hB5 := hB4.grown hgrow5 hB4.size hlv.out)
      go_roundw
      case rel => exact ⟨k + 1, by omega, by go_num, by rw [hpd.out, ptV_snoc]; exact hown5, hB5⟩
      case measure => simp [intOf]; omega
    · obtain rfl : k = n := by omega
      have hlt' : ¬ (k : Int) < (k : Int) := by omega
      obtain ⟨p, cp, rfl⟩ := own_len ho
      go_wp2
      exact bodyPost_ret (v := .tuple #[_, .int .i64 0]) (by simp [results, Try.results10, go_sem]) rfl ⟨_, rfl, ho, hB⟩
end Go.Proofs.Yteefieidfgpijaa.CF

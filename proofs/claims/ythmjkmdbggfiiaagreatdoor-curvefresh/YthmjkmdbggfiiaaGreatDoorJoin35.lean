import Derived.Test.YthmjkmdbggfiiaaGreatDoorTurnCw7
import Derived.Test.YthmjkmdbggfiiaaGreatDoorJoin24
import Derived.Test.YthmjkmdbggfiiaaGreatDoorJoin25
import Derived.Test.YthmjkmdbggfiiaaGreatDoorJoin34
import Derived.Test.YthmjkmdbggfiiaaGreatDoorJoin33
import Derived.Test.YthmjkmdbggfiiaaGreatDoorJoin31
import Derived.Test.YthmjkmdbggfiiaaGreatDoorRows
import Derived.Deep.SlicePairs
import Derived.SizedLaws
import Derived.ProofKit
import Derived.OpenShut
namespace Go.Proofs.YthmjkmdbggfiiaaGreatDoor.CF
open Go.RowKit
attribute [local go_sem] run_store_float

/-- May there be so many more steps? -/
def okS (f s m : Int) : Bool := decide (1 ≤ s) && bw f && (decide (m = 0) || decide (s ≤ (9999999999999 - f) / m))
set_option maxHeartbeats 1000000 in
theorem mayStep_any (f s m : Int) (hm0 : 0 ≤ m) (hm : m ≤ 63) (w : World) : Calls Tryz.prog 48 #[.int .i64 f, .int .i64 s, .int .i64 m] w fun e w' => e = .returned (.bool (okS f s m)) ∧ w' = w := by
  have hwi := within_any f w
  unfold okS
  by_cases h1 : 1 ≤ s
  · have h1' : ¬ s < 1 := by omega
    rw [decide_eq_true h1, Bool.true_and]
    by_cases h2 : -9999999999999 ≤ f ∧ f ≤ 9999999999999
    · have hb : bw f = true := by unfold bw; exact decide_eq_true h2
      rw [hb] at hwi
      rw [hb, Bool.true_and]
      by_cases h3 : m = 0
      · subst h3
        go_enter Tryz.func48, Tryz.ntmps48
        go_wp2_with (go_at_call 84; refine hwi.mono ?_; rintro _ w1 ⟨rfl, hw1⟩; subst w1)
        go_ret
        exact ⟨rfl, rfl⟩
      · have h3' : (m == 0) = false := beq_eq_false_iff_ne.2 h3
        have hq : (9999999999999 - f).tdiv m = (9999999999999 - f) / m := Int.tdiv_eq_ediv_of_nonneg (by omega)
        have hq0 : 0 ≤ (9999999999999 - f) / m := Int.ediv_nonneg (by omega) hm0
        have hq1 : (9999999999999 - f) / m ≤ 20000000000000 := Int.le_trans (Int.ediv_le_self _ (by omega)) (by omega)
        rw [decide_eq_false h3, Bool.false_or]
        obtain ⟨q, hqe⟩ : ∃ q, q = (9999999999999 - f) / m := ⟨_, rfl⟩
        rw [← hqe] at hq hq0 hq1 ⊢
        have hqe2 : (9999999999999 - f) / m = q := hqe.symm
        clear hqe hb
        go_enter Tryz.func48, Tryz.ntmps48
        go_wp2_with (go_at_call 84; refine hwi.mono ?_; rintro _ w1 ⟨rfl, hw1⟩; subst w1)
        go_ret
        exact ⟨rfl, rfl⟩
    · have hb : bw f = false := by unfold bw; exact decide_eq_false h2
      rw [hb] at hwi
      rw [hb, Bool.false_and]
      go_enter Tryz.func48, Tryz.ntmps48
      go_wp2_with (go_at_call 84; refine hwi.mono ?_; rintro _ w1 ⟨rfl, hw1⟩; subst w1)
      go_ret
      exact ⟨rfl, rfl⟩
  · have h1' : s < 1 := by omega
    rw [decide_eq_false h1, Bool.false_and, Bool.false_and]
    go_enter Tryz.func48, Tryz.ntmps48
    go_wp2
    go_ret
    exact ⟨rfl, rfl⟩
/-- The numbers that are asked for. -/
def xsL (f s : Int) (n : Nat) : List Int := (List.range n).map fun (i : Nat) => f + (i : Int) * s
theorem xsL_snoc (f s : Int) (n : Nat) : xsL f s (n + 1) = xsL f s n ++ [f + (n : Int) * s] := by unfold xsL; rw [List.range_succ, List.map_append]; rfl
theorem xsL_len (f s : Int) (n : Nat) : (xsL f s n).length = n := by simp [xsL]
theorem okS_bounds {f s m : Int} (h : okS f s m = true) (hm0 : 0 ≤ m) : (1 ≤ s ∧ -9999999999999 ≤ f ∧ f ≤ 9999999999999) ∧ (∀ k : Int, 0 ≤ k → k ≤ m → 0 ≤ k * s ∧ k * s ≤ 9999999999999 - f) := by
  unfold okS at h
  rw [Bool.and_eq_true, Bool.and_eq_true, Bool.or_eq_true] at h
  obtain ⟨⟨h1, h2⟩, h3⟩ := h
  have h1 := of_decide_eq_true h1
  have h2 : -9999999999999 ≤ f ∧ f ≤ 9999999999999 := of_decide_eq_true h2
  refine ⟨⟨h1, h2⟩, fun k hk0 hkm => ⟨Int.mul_nonneg hk0 (by omega), ?_⟩⟩
  rcases h3 with h3 | h3
  · have h3 : m = 0 := of_decide_eq_true h3
    have : k = 0 := by omega
    subst this
    rw [Int.zero_mul]
    omega
  · have h3 : s ≤ (9999999999999 - f) / m := of_decide_eq_true h3
    by_cases hm : m = 0
    · have : k = 0 := by omega
      subst this
      rw [Int.zero_mul]
      omega
    · have h4 : m * s ≤ m * ((9999999999999 - f) / m) := Int.mul_le_mul_of_nonneg_left h3 hm0
      have h5 : m * ((9999999999999 - f) / m) ≤ 9999999999999 - f := Int.mul_ediv_self_le hm
      have h6 : k * s ≤ m * s := Int.mul_le_mul_of_nonneg_right hkm (by omega)
      omega
end Go.Proofs.YthmjkmdbggfiiaaGreatDoor.CF


namespace Go.Proofs.YthmjkmdbggfiiaaGreatDoor.CF
open Go.RowKit
attribute [local go_sem] run_store_float

/-- The points of whole numbers. -/
def ptsW (f s : Int) (g : Nat → Int) : Nat → Dots
  | 0 => []
  | k + 1 => ptsW f s g k ++ [(f + (k : Int) * s, wholeN (g k))]
theorem ptsW_len (f s : Int) (g : Nat → Int) : ∀ k, (ptsW f s g k).length = k
  | 0 => rfl
  | k + 1 => by
    have := ptsW_len f s g k
    unfold ptsW
    rw [List.length_append, this]
    rfl
set_option maxRecDepth 8000 in
set_option maxHeartbeats 2000000 in
theorem samp_line (f s : Int) (n : Nat) (hn1 : 1 ≤ n) (hn2 : n ≤ 64) (hok : okS f s ((n : Int) - 1) = true) (g : Nat → Int) (hg : ∀ k, -9223372036854775808 ≤ g k ∧ g k ≤ 9223372036854775807) (w : World)
    (hf : ∀ k, k < n → ∀ X, Below w.heap.size w X → Calls Tryz.prog 13 #[.int .i64 (f + (k : Int) * s)] X fun e w' => e = .returned (.agg #[.int .i64 1, .int .i64 (g k)]) ∧ Below X.heap.size X w') :
    Calls Tryz.prog 12 #[.func (.func 13) #[] #[], .int .i64 f, .int .i64 s, .int .i64 (n : Int)] w fun e w' => ∃ pv, e = .returned (.tuple #[pv, .int .i64 0]) ∧ w'.ownsRow w.heap.size 64 2 pv n (ptV (ptsW f s g n)) ∧ Below w.heap.size w w' := by
  obtain ⟨i0, hi, hz0, hz1, hz2⟩ := info_parts infoP
  have hms := mayStep_any f s ((n : Int) - 1) (by omega) (by omega) w
  rw [hok] at hms
  obtain ⟨⟨hs1, hf1, hf2⟩, hks⟩ := okS_bounds hok (by omega)
  have h1 : ¬ (n : Int) < 1 := by omega
  have h2 : ¬ (64 : Int) < (n : Int) := by omega
  replace hks := Hid.mk hks
  have hfH := Hid.mk hf
  clear hok hf
  go_enter Tryz.func12, Tryz.ntmps12
  go_wp2_with (go_at_call 48; refine hms.mono ?_; rintro _ w1 ⟨rfl, hw1⟩; subst w1)
  go_loopw [10, 29] (fun pv x wr => ∃ k : Nat, k ≤ n ∧ x = .int .i64 (k : Int) ∧ wr.ownsRow w.heap.size 64 2 pv k (ptV (ptsW f s g k)) ∧ Below w.heap.size w wr) (fun _ x _ => n - (intOf x).toNat)
  case atStart => exact ⟨0, by omega, rfl, World.ownsRow_nil _ _ _ _, Below.refl _ _⟩
  case round =>
    clear hms
    obtain ⟨k, hk, rfl, ho, hB⟩ := hrel
    by_cases hlt : k < n
    · have hlt' : (k : Int) < (n : Int) := by omega
      have hkb := hks.out (k : Int) (by omega) (by omega)
      have hask := hfH.out k hlt wr hB
      have hpd : Hid (ptsW f s g (k + 1) = ptsW f s g k ++ [(f + (k : Int) * s, wholeN (g k))]) := ⟨rfl⟩
      have hcv := conv_f32 (g k)
      have hvr2 := hg k
      generalize wholeN (g k) = U at *
      generalize g k = q2 at *
      go_wp2_with (go_at_call 13; fail)
      refine hask.mono ?_
      clear hask
      rintro _ w2 ⟨rfl, hB2⟩
      have ho2 := own_bel ho hB2
      have hBw2 : Below w.heap.size w w2 := hB.trans (hB2.mono hB.size)
      obtain ⟨X3, hX3⟩ : ∃ X, w2.alloc (.cells #[.int .i64 1, .int .i64 q2] 87) = X := ⟨_, rfl⟩
      have t0 : X3.cell? ⟨w2.heap.size, 0, none⟩ = some (.int .i64 1) := by rw [← hX3]; simp
      have t1 : X3.cell? ⟨w2.heap.size, 1, none⟩ = some (.int .i64 q2) := by rw [← hX3]; simp
      have hB3 : Below w.heap.size w X3 := by rw [← hX3]; exact hBw2.alloc hBw2.size _
      have ho3 := ho2.alloc (.cells #[.int .i64 1, .int .i64 q2] 87)
      rw [hX3] at ho3
      have ho4 := ho3.alloc (.cells #[.int .i64 (f + (k : Int) * s), .float .f32 U] 64)
      have hB4 : Below w.heap.size w (X3.alloc (.cells #[.int .i64 (f + (k : Int) * s), .float .f32 U] 64)) := hB3.alloc hB3.size _
      have hlv := Hid.mk (fun (j : Nat) hj => (ho3.lt j hj).1)
      clear ho ho2 ho3 hB hB2 hBw2
      go_wp2_with (at_builtin; refine wpList_append_own _ rfl _ _ 24 rfl w.heap.size 64 i0 _ 2 16 Tryz.underlying24 hi hz0 hz1 hz2 rfl (by decide) _ k (ptV (ptsW f s g k)) rfl ho4 ⟨X3.heap.size, 0, none⟩ 1 1 [.int .i64 (f + (k : Int) * s), .float .f32 U] rfl rfl (lit_at X3 _ _) (by simp [Value.oneCell']) (by unfold maxLen; omega) (by omega) hB4.size ?_; intro v5 w5 hown5 hgrow5 _; have hB5 := hB4.grown hgrow5 hB4.size hlv.out)
      go_roundw
      case rel => exact ⟨k + 1, by omega, by go_num, by rw [hpd.out, ptV_snoc]; exact hown5, hB5⟩
      case measure => simp [intOf]; omega
    · obtain rfl : k = n := by omega
      have hlt' : ¬ (k : Int) < (k : Int) := by omega
      obtain ⟨p, cp, rfl⟩ := own_len ho
      go_wp2
      exact bodyPost_ret (v := .tuple #[_, .int .i64 0]) (by simp [results, Tryz.results12, go_sem]) rfl ⟨_, rfl, ho, hB⟩
end Go.Proofs.YthmjkmdbggfiiaaGreatDoor.CF


namespace Go.Proofs.YthmjkmdbggfiiaaGreatDoor.CF
open Go.RowKit
attribute [local go_sem] run_store_float

theorem line_any (x : Int) (h : 0 ≤ x ∧ x ≤ 1000) (v : Int) (hv : x / 2 = v) (w : World) : Calls Tryz.prog 13 #[.int .i64 x] w fun e w' => e = .returned (.agg #[.int .i64 1, .int .i64 v]) ∧ Below w.heap.size w w' := by
  have hq : x.tdiv 2 = v := by rw [Int.tdiv_eq_ediv_of_nonneg h.1, hv]
  have hvb : 0 ≤ v ∧ v ≤ 1000 := by omega
  have hB : Below w.heap.size w (w.alloc (.cells #[.int .i64 1, .int .i64 v] 87)) := (Below.refl _ _).alloc (Nat.le_refl _) _
  clear hv
  go_enter Tryz.func13, Tryz.ntmps13
  go_wp2
  exact bodyPost_ret (v := .agg #[.int .i64 1, .int .i64 v]) (by simp [results, Tryz.results13, go_sem]) rfl ⟨rfl, hB⟩
/-- The chapter's first example. -/
def D0 : Dots := [(0, 0), (200, 1120403456), (400, 1128792064), (600, 1133903872)]
theorem D0_eq : ptsW 0 200 (fun k => (k : Int) * 100) 4 = D0 := by decide +kernel
theorem D0_io : inO D0 = true := by decide +kernel
theorem D0_ok : Ok D0 := by
  intro d hd
  simp only [D0, List.mem_cons, List.not_mem_nil, or_false] at hd
  rcases hd with rfl | rfl | rfl | rfl <;> exact ⟨by decide, by decide⟩
theorem D0_slope : slopeD D0 = [(0, 1056964608), (200, 1056964608), (400, 1056964608)] ∧ slopeE D0 = 0 := by decide +kernel
theorem D0_btw : btwN (200, 1120403456) (400, 1128792064) 300 = 1125515264 := by decide +kernel
theorem D0_at : AtR D0 300 1125515264 0 := .inr (.inr (.inr (.inr ⟨D0_io, by decide, by decide, by decide, rfl, 2, by decide, by decide, by decide, .inr ⟨by decide, by decide, D0_btw.symm⟩⟩)))
theorem D0_line : lineL D0 3 7 3 = [32, 32, 32, 32, 32, 32, 42] ∧ lineL D0 3 7 0 = [42, 45, 45, 45, 45, 45, 45] := by decide +kernel
theorem D0_draw : DrR D0 7 4 0 (textsL D0 3 7 4) := .inr (.inr (.inr ⟨7, 3, ⟨rfl, rfl, by decide, by decide, by decide⟩, D0_io, by decide +kernel, rfl, rfl⟩))
end Go.Proofs.YthmjkmdbggfiiaaGreatDoor.CF


namespace Go.Proofs.YthmjkmdbggfiiaaGreatDoor.CF
open Go.RowKit
attribute [local go_sem] run_store_float

theorem eq_pt1 (w : World) : (binOp .eql 64 (.agg #[.int .i64 600, .float .f32 1133903872]) (.agg #[.int .i64 600, .float .f32 1133903872])).run Tryz.prog w = .ok (.bool true) w := by kernel_rfl
theorem eq_pt2 (w : World) : (binOp .eql 64 (.agg #[.int .i64 400, .float .f32 1056964608]) (.agg #[.int .i64 400, .float .f32 1056964608])).run Tryz.prog w = .ok (.bool true) w := by kernel_rfl
theorem ne_150 (w : World) : (binOp .neq 62 (.float .f32 1125515264) (.float .f32 1125515264)).run Tryz.prog w = .ok (.bool false) w := by kernel_rfl
theorem eq_s1 (w : World) : (binOp .eql 9 (.string ⟨#[32, 32, 32, 32, 32, 32, 42]⟩) (.string ⟨#[32, 32, 32, 32, 32, 32, 42]⟩)).run Tryz.prog w = .ok (.bool true) w := by kernel_rfl
theorem eq_s2 (w : World) : (binOp .eql 9 (.string ⟨#[42, 45, 45, 45, 45, 45, 45]⟩) (.string ⟨#[42, 45, 45, 45, 45, 45, 45]⟩)).run Tryz.prog w = .ok (.bool true) w := by kernel_rfl
theorem D0_t0 : (textsL D0 3 7 4)[0]? = some (.string ⟨#[32, 32, 32, 32, 32, 32, 42]⟩) ∧ (textsL D0 3 7 4)[3]? = some (.string ⟨#[42, 45, 45, 45, 45, 45, 45]⟩) := by
  have h1 : (textsL D0 3 7 4)[0]? = some (.string ⟨(lineL D0 3 7 3).toArray⟩) := rfl
  have h2 : (textsL D0 3 7 4)[3]? = some (.string ⟨(lineL D0 3 7 0).toArray⟩) := rfl
  rw [h1, h2, D0_line.1, D0_line.2]
  exact ⟨rfl, rfl⟩
theorem own_at2 {w : World} {base n : Nat} {e : TypeId} {p : Option Addr} {cap : Nat} {xs : List Value} (h : w.ownsRow base e 1 (.slice p n cap) n xs) {k : Nat} (hk : k < xs.length) (hn : n = xs.length) : ∃ g, p = some ⟨g, 0, none⟩ ∧ ∀ k (hk : k < xs.length), w.cell? ⟨g, k, none⟩ = some xs[k] := by
  obtain ⟨g, cap', e1⟩ := own_some h (by omega)
  injection e1 with e1 e2 e3
  subst e1 e3
  exact ⟨g, rfl, fun k hk => (h.cellAt k (by omega)).trans (List.getElem?_eq_getElem hk)⟩
theorem own_lenW {w : World} {base n size : Nat} {e : TypeId} {v : Value} {xs : List Value} (h : w.ownsRow base e size v n xs) : ∃ p cap, v = .slice p n cap := by
  obtain ⟨_, ⟨rfl, rfl⟩ | ⟨g, cap, cur, rfl, _⟩⟩ := h
  · exact ⟨_, _, rfl⟩
  · exact ⟨_, _, rfl⟩
set_option maxRecDepth 8000 in
set_option maxHeartbeats 2000000 in
theorem known_any (w : World) : Calls Tryz.prog 4 #[] w fun e w' => e = .returned (.bool true) ∧ Below w.heap.size w w' := by
  have hsa := samp_line 0 200 4 (by decide) (by decide) (by decide) (fun k => if k < 4 then (k : Int) * 100 else 0) (fun k => by show _ ≤ (if k < 4 then (k : Int) * 100 else 0) ∧ (if k < 4 then (k : Int) * 100 else 0) ≤ _; split <;> omega) w (fun k hk X _ => by
    refine line_any (0 + (k : Int) * 200) (by omega) _ ?_ X
    show (0 + (k : Int) * 200) / 2 = if k < 4 then (k : Int) * 100 else 0
    rw [if_pos hk]
    omega)
  have hsD : ptsW 0 200 (fun k => if k < 4 then (k : Int) * 100 else 0) 4 = D0 := by decide +kernel
  rw [hsD] at hsa
  have hsl := fun X a c (hX : PtAt X a D0) => slopeP_any D0 D0_ok (by decide) a c X hX
  rw [D0_slope.1, D0_slope.2] at hsl
  have hat := fun X a c (hX : PtAt X a D0) => at_any D0 D0_ok (by decide) 300 1125515264 0 D0_at a c X hX
  have hdr := fun X a c (hX : PtAt X a D0) => draw_any D0 D0_ok (by decide) 7 4 0 _ D0_draw a c X hX
  rw [show D0.length = 4 from rfl] at hsl hat hdr
  have e1 := eq_pt1
  have e2 := eq_pt2
  go_enter Tryz.func4, Tryz.ntmps4
  go_wp2_with (go_at_call 12; fail)
  refine hsa.mono ?_
  rintro _ w1 ⟨pv, rfl, ho1, hB1⟩
  obtain ⟨a1, c1, rfl, hp1⟩ := pt_of_own ho1 rfl
  clear hsa ho1
  go_wp2_with (go_at_call 14; fail)
  refine (hsl _ _ _ hp1).mono ?_
  rintro _ w2 ⟨a2, c2, rfl, hp2, hB2⟩
  clear hsl
  have hp1' := hp1.later hB2
  go_wp2_with (go_at_call 15; fail)
  refine (hat _ _ _ hp1').mono ?_
  rintro _ w3 ⟨rfl, hB3⟩
  clear hat
  have hp1'' := hp1'.later hB3
  go_wp2_with (go_at_call 16; fail)
  refine (hdr _ _ _ hp1'').mono ?_
  rintro _ w4 ⟨v4, rfl, ho4, hB4⟩
  clear hdr
  obtain ⟨b1, off1, rfl, hc1⟩ := (hp1''.later hB4).cells (k := 3) (by decide)
  obtain ⟨b2, off2, rfl, hc2⟩ := ((hp2.later hB3).later hB4).cells (k := 2) (by decide)
  obtain ⟨s0, s1⟩ := hc1 3 (by decide)
  obtain ⟨t0, t1⟩ := hc2 2 (by decide)
  obtain ⟨p4, cap4, rfl⟩ := own_lenW ho4
  rw [textsL_len] at ho4 ⊢
  obtain ⟨g4, rfl, hc4⟩ := own_at2 (k := 0) ho4 (by rw [textsL_len]; decide) (by rw [textsL_len])
  have u0 := hc4 0 (by rw [textsL_len]; decide)
  have u3 := hc4 3 (by rw [textsL_len]; decide)
  rw [← List.getElem?_eq_getElem, D0_t0.1] at u0
  rw [← List.getElem?_eq_getElem, D0_t0.2] at u3
  change w4.cell? ⟨b1, off1 + 6, none⟩ = some (.int .i64 600) at s0
  change w4.cell? ⟨b1, off1 + 6 + 1, none⟩ = some (.float .f32 1133903872) at s1
  change w4.cell? ⟨b2, off2 + 4, none⟩ = some (.int .i64 400) at t0
  change w4.cell? ⟨b2, off2 + 4 + 1, none⟩ = some (.float .f32 1056964608) at t1
  have e3 := ne_150
  have e4 := eq_s1
  have e5 := eq_s2
  have hBe : Below w.heap.size w w4 := ((hB1.trans (hB2.mono hB1.size)).trans (hB3.mono (Nat.le_trans hB1.size hB2.size))).trans (hB4.mono (Nat.le_trans hB1.size (Nat.le_trans hB2.size hB3.size)))
  clear hc1 hc2 hc4 ho4 hp1 hp1' hp1'' hp2 hsD hB1 hB2 hB3 hB4
  go_wp2
  go_ret
  exact ⟨rfl, hBe⟩
end Go.Proofs.YthmjkmdbggfiiaaGreatDoor.CF


namespace Go.Proofs.YthmjkmdbggfiiaaGreatDoor.CF
open Go.ChangeShapes Go.WideShapes Go.ChangeAt Go.WideMaps Go.WideElems Go.RowKit

theorem own : ownKnob Tryz.prog.godebug = none := by kernel_rfl
theorem laidOutP : laidOutB Tryz.prog = true := by kernel_rfl
theorem cDot : Tryz.prog.cellsOf 77 = 2 := by kernel_rfl
theorem bDot : Tryz.prog.bytesOf 77 = 16 := by kernel_rfl
theorem cI64 : Tryz.prog.cellsOf 2 = 1 := by kernel_rfl
theorem cU32 : Tryz.prog.cellsOf 75 = 1 := by kernel_rfl
theorem wf_i64 {n : Int} (h : (Lit.int .i64 n).wf = true) : -9223372036854775808 ≤ n ∧ n ≤ 9223372036854775807 := by
  simp [Lit.wf] at h
  have h1 : IntKind.i64.min = -9223372036854775808 := by decide
  have h2 : IntKind.i64.max = 9223372036854775807 := by decide
  first | (rw [h1, h2] at h; exact h) | exact h | (simp at h; omega)
theorem wf_u32 {n : Int} (h : (Lit.int .u32 n).wf = true) : 0 ≤ n ∧ n < 4294967296 := by
  simp [Lit.wf] at h
  have h1 : IntKind.u32.min = 0 := by decide
  have h2 : IntKind.u32.max = 4294967295 := by decide
  rw [h1, h2] at h
  omega
set_option maxRecDepth 100000 in
/-- A list of dots that came in. -/
theorem open_dots {H : Type} {enc : TypeId × Value → H} {W : World} {base : Nat} {v : Value} {d : DataW H} {ps : List MemPlace} (hval : Value.okWide Tryz.prog W .any base 22 v)
    (h : DataW.Trod enc Tryz.prog W 0 (fun _ => true) true 22 v d ps) (hsz : ∀ elems spare, d = .slice elems spare → (elems.length + spare.length) * Tryz.prog.bytesOf 77 ≤ reachBytes) :
    ∃ a cap D, v = .slice a (List.length D) cap ∧ (a = none → cap = 0) ∧ RtAt W a D ∧ Ok D ∧ D.length ≤ 8796093021952 := by
  obtain ⟨a0, len, cap, rfl⟩ := okWide_slice Tryz.underlying22 hval
  obtain ⟨fuel, hf⟩ := h
  rcases Go.Deep.open_slice_pairs Tryz.underlying22 Tryz.underlying77 cDot rfl rfl cI64 cU32 hf with ⟨hcs, hx⟩ | ⟨a, len', cap', m, n, V0, V1, D0, D1, P0, P1, hcs, _, hl, hm, hmm, hx, hcell⟩
  · simp [Value.cells] at hcs
    obtain ⟨rfl, rfl, rfl⟩ := hcs
    exact ⟨none, 0, [], rfl, fun _ => rfl, .inl rfl, fun d hd => (by cases hd), by decide⟩
  · simp [Value.cells] at hcs
    obtain ⟨rfl, rfl, rfl⟩ := hcs
    simp only [if_true] at hmm
    simp only [Prod.mk.injEq] at hx
    obtain ⟨rfl, rfl⟩ := hx
    have hs := hsz _ _ rfl
    rw [bDot] at hs
    simp only [List.length_map, List.length_range, reachBytes] at hs
    rw [hmm] at hcell
    have key : ∀ i, i < cap → ∃ q : Int × Nat, (W.cell? (a.add (i * 2)) = some (.int .i64 q.1) ∧ W.cell? (a.add (i * 2 + 1)) = some (.int .u32 (q.2 : Int))) ∧ (-9223372036854775808 ≤ q.1 ∧ q.1 ≤ 9223372036854775807) ∧ q.2 < 4294967296 := fun i hi => by
      obtain ⟨h0, h1, t0, t1⟩ := hcell i hi
      obtain ⟨x, ex, _, wx⟩ := DataW.trod_int Tryz.underlying2 t0
      obtain ⟨y, ey, _, wy⟩ := DataW.trod_int Tryz.underlying75 t1
      simp at ex ey
      have hy := wf_u32 wy
      refine ⟨(x, y.toNat), ⟨by rw [h0, ex], ?_⟩, wf_i64 wx, ?_⟩
      · rw [h1, ey]
        simp only [Int.toNat_of_nonneg hy.1]
      · simp only
        omega
    obtain ⟨q, hq⟩ := Go.Deep.choose_lt key
    have hlen : ((List.range len).map q).length = len := by simp
    refine ⟨some a, cap, (List.range len).map q, by rw [hlen], fun h => (nomatch h), ?_, ?_, ?_⟩
    · by_cases h0 : len = 0
      · left
        rw [h0]
        rfl
      · obtain ⟨b, off, spot⟩ := a
        have hspot : spot = none := by simpa [Addr.add] using World.cell?_spot (hq 0 (by omega)).1.1
        subst hspot
        have hc : ∀ i, i < len → W.cell? ⟨b, off + i * 2, none⟩ = some (.int .i64 (q i).1) ∧ W.cell? ⟨b, off + i * 2 + 1, none⟩ = some (.int .u32 ((q i).2 : Int)) := fun i hi => by
          have := (hq i (by omega)).1
          rw [add_plain, add_plain] at this
          exact this
        refine .inr ⟨b, off, rfl, World.block_lt_of_cell? _ _ (hc 0 (by omega)).1, fun i hi => ?_⟩
        rw [hlen] at hi
        have := hc i hi
        simpa using this
    · intro d hd
      obtain ⟨i, hi, rfl⟩ := List.mem_map.1 hd
      have := List.mem_range.1 hi
      exact (hq i (by omega)).2
    · rw [hlen]
      omega
end Go.Proofs.YthmjkmdbggfiiaaGreatDoor.CF

import Derived.Test.YthmjkmdbggfiiaaGreatDoorTurnCw6
import Derived.Test.YthmjkmdbggfiiaaGreatDoorJoin21
import Derived.Deep.RegionHeld3
import Derived.RegionIn
namespace Go.Proofs.YthmjkmdbggfiiaaGreatDoor.CF
open Go.RowKit
attribute [local go_sem] run_store_float

theorem conv_f32 (z : Int) (w : World) : (convert 2 62 (.int .i64 z)).run Tryz.prog w = .ok (.float .f32 (wholeN z)) w := by
  rw [run_convert_int_float w 2 62 .i64 .f32 z (by rw [Tryz.underlying2]; rfl) Tryz.underlying62]
  rw [wholeN_eq]
  rfl
theorem quo_f32 {x y r : Nat} (h : Ieee.single.div x y = some r) (w : World) : (binOp .quo 62 (.float .f32 x) (.float .f32 y)).run Tryz.prog w = .ok (.float .f32 r) w := run_float_arith w .quo 62 .f32 x y r h
theorem mul_f32 {x y r : Nat} (h : Ieee.single.mul x y = some r) (w : World) : (binOp .mul 62 (.float .f32 x) (.float .f32 y)).run Tryz.prog w = .ok (.float .f32 r) w := run_float_arith w .mul 62 .f32 x y r h
theorem add_f32 {x y r : Nat} (h : Ieee.single.add x y = some r) (w : World) : (binOp .add 62 (.float .f32 x) (.float .f32 y)).run Tryz.prog w = .ok (.float .f32 r) w := run_float_arith w .add 62 .f32 x y r h
theorem sub_f32 {x y r : Nat} (h : Ieee.single.sub x y = some r) (w : World) : (binOp .sub 62 (.float .f32 x) (.float .f32 y)).run Tryz.prog w = .ok (.float .f32 r) w := run_float_arith w .sub 62 .f32 x y r h
set_option maxHeartbeats 1000000 in
theorem between_any (a b : Int × Nat) (x : Int) (ha : a.2 < 4294967296) (hb : b.2 < 4294967296) (fa : a.2 % 2147483648 < 2139095040) (fb : b.2 % 2147483648 < 2139095040) (h1 : a.1 < x) (h2 : x < b.1) (h3 : b.1 - a.1 ≤ 20000000000000) (h4 : -9999999999999 ≤ a.1) (h5 : b.1 ≤ 9999999999999) (w : World) : Calls Tryz.prog 51 #[.agg #[.int .i64 a.1, .float .f32 a.2], .agg #[.int .i64 b.1, .float .f32 b.2], .int .i64 x] w fun e w' => e = .returned (.float .f32 (btwN a b x)) ∧ Below w.heap.size w w' := by
  obtain ⟨part, dif, prod, q1, -, q2, -, q3, q4⟩ := btw_ok ha hb fa fb h1 h2 h3
  have c1 := conv_f32 (x - a.1)
  have c2 := conv_f32 (b.1 - a.1)
  have o1 := quo_f32 q1
  have o2 := sub_f32 q2
  have o3 := mul_f32 q3
  have o4 := add_f32 q4
  have hB : Below w.heap.size w ((w.alloc (.cells #[.int .i64 a.1, .float .f32 a.2] 64)).alloc (.cells #[.int .i64 b.1, .float .f32 b.2] 64)) := ((Below.refl _ _).alloc (Nat.le_refl _) _).alloc (by simp) _
  clear q1 q2 q3 q4 ha hb fa fb h3
  generalize wholeN (x - a.1) = U at *
  generalize wholeN (b.1 - a.1) = V at *
  generalize btwN a b x = R at *
  generalize a.1 = a1 at *
  generalize a.2 = a2 at *
  generalize b.1 = b1 at *
  generalize b.2 = b2 at *
  go_enter Tryz.func51, Tryz.ntmps51
  go_wp2
  go_ret
  exact ⟨rfl, hB⟩
/-- What At answers. -/
def AtR (D : Dots) (x : Int) (r : Nat) (e : Int) : Prop :=
  (inO D = false ∧ r = 0 ∧ e = 172) ∨
  (inO D = true ∧ D.length = 0 ∧ r = 0 ∧ e = 175) ∨
  (inO D = true ∧ 0 < D.length ∧ x < (D.getD 0 (0, 0)).1 ∧ r = 0 ∧ e = 175) ∨
  (inO D = true ∧ 0 < D.length ∧ ¬ x < (D.getD 0 (0, 0)).1 ∧ (D.getD (D.length - 1) (0, 0)).1 < x ∧ r = 0 ∧ e = 175) ∨
  (inO D = true ∧ 0 < D.length ∧ ¬ x < (D.getD 0 (0, 0)).1 ∧ ¬ (D.getD (D.length - 1) (0, 0)).1 < x ∧ e = 0 ∧ ∃ i, i < D.length ∧ (∀ j, j < i → (D.getD j (0, 0)).1 < x) ∧ ¬ (D.getD i (0, 0)).1 < x ∧ (((D.getD i (0, 0)).1 = x ∧ r = (D.getD i (0, 0)).2) ∨ (x < (D.getD i (0, 0)).1 ∧ 0 < i ∧ r = btwN (D.getD (i - 1) (0, 0)) (D.getD i (0, 0)) x)))
theorem first_idx' (D : Dots) (x : Int) : ∀ n, ¬ (D.getD n (0, 0)).1 < x → ∃ i, i ≤ n ∧ (∀ j, j < i → (D.getD j (0, 0)).1 < x) ∧ ¬ (D.getD i (0, 0)).1 < x := fun n => by
  induction n using Nat.strongRecOn with
  | ind n ih =>
    intro h
    by_cases hc : ∃ j, j < n ∧ ¬ (D.getD j (0, 0)).1 < x
    · obtain ⟨j, hj, hx⟩ := hc
      obtain ⟨i, h1, h2, h3⟩ := ih j hj hx
      exact ⟨i, by omega, h2, h3⟩
    · exact ⟨n, Nat.le_refl _, fun j hj => Classical.byContradiction fun h2 => hc ⟨j, hj, h2⟩, h⟩
theorem gB_parts {D : Dots} {k : Nat} (h : gB D k = true) : ((-9999999999999 ≤ (D.getD k (0, 0)).1 ∧ (D.getD k (0, 0)).1 ≤ 9999999999999) ∧ (D.getD k (0, 0)).2 % 2147483648 < 2139095040) ∧ (k = 0 ∨ (D.getD (k - 1) (0, 0)).1 < (D.getD k (0, 0)).1) := by
  unfold gB at h
  rw [Bool.and_eq_true, Bool.and_eq_true, Bool.or_eq_true] at h
  obtain ⟨⟨h1, h2⟩, h3⟩ := h
  unfold bw at h1
  unfold bf at h2
  refine ⟨⟨of_decide_eq_true h1, of_decide_eq_true h2⟩, h3.imp (fun h => by simpa using h) (fun h => of_decide_eq_true h)⟩
theorem atR_some (D : Dots) (x : Int) : ∃ r e, AtR D x r e := by
  by_cases h1 : inO D = true
  · by_cases h2 : D.length = 0
    · exact ⟨0, 175, .inr (.inl ⟨h1, h2, rfl, rfl⟩)⟩
    · by_cases h3 : x < (D.getD 0 (0, 0)).1
      · exact ⟨0, 175, .inr (.inr (.inl ⟨h1, by omega, h3, rfl, rfl⟩))⟩
      · by_cases h4 : (D.getD (D.length - 1) (0, 0)).1 < x
        · exact ⟨0, 175, .inr (.inr (.inr (.inl ⟨h1, by omega, h3, h4, rfl, rfl⟩)))⟩
        · obtain ⟨i, k1, k2, k3⟩ := first_idx' D x (D.length - 1) h4
          by_cases h5 : (D.getD i (0, 0)).1 = x
          · exact ⟨_, 0, .inr (.inr (.inr (.inr ⟨h1, by omega, h3, h4, rfl, i, by omega, k2, k3, .inl ⟨h5, rfl⟩⟩)))⟩
          · have h6 : 0 < i := Nat.pos_of_ne_zero (fun e => by subst e; omega)
            exact ⟨_, 0, .inr (.inr (.inr (.inr ⟨h1, by omega, h3, h4, rfl, i, by omega, k2, k3, .inr ⟨by omega, h6, rfl⟩⟩)))⟩
  · exact ⟨0, 172, .inl ⟨by cases h : inO D with
      | false => rfl
      | true => exact absurd h h1, rfl, rfl⟩⟩
set_option maxRecDepth 8000 in
set_option maxHeartbeats 2000000 in
theorem at_any (D : Dots) (hD : Ok D) (hl : D.length ≤ 9223372036854775806) (x : Int) (r : Nat) (en : Int) (hR : AtR D x r en) (a : Option Addr) (c : Nat) (w : World) (h : PtAt w a D) : Calls Tryz.prog 15 #[.slice a D.length c, .int .i64 x] w fun e w' => e = .returned (.tuple #[.float .f32 r, .int .i64 en]) ∧ Below w.heap.size w w' := by
  have hio := inOrder_any D hD hl a c w h
  rcases hR with ⟨h1, rfl, rfl⟩ | ⟨h1, h2, rfl, rfl⟩ | ⟨h1, h2, h3, rfl, rfl⟩ | ⟨h1, h2, h3, h4, rfl, rfl⟩ | ⟨h1, h2, h3, h4, rfl, i, hi, k2, k3, hr⟩
  · rw [h1] at hio
    go_enter Tryz.func15, Tryz.ntmps15
    go_wp2_with (go_at_call 49; refine hio.mono ?_; rintro _ w1 ⟨rfl, hB1⟩)
    exact bodyPost_ret (v := .tuple #[.float .f32 0, .int .i64 172]) (by simp [results, Tryz.results15, go_sem]) rfl ⟨rfl, hB1⟩
  · rw [h1] at hio
    have h0 : ((D.length : Int) == 0) = true := by rw [h2]; rfl
    clear h2
    go_enter Tryz.func15, Tryz.ntmps15
    go_wp2_with (go_at_call 49; refine hio.mono ?_; rintro _ w1 ⟨rfl, hB1⟩)
    exact bodyPost_ret (v := .tuple #[.float .f32 0, .int .i64 175]) (by simp [results, Tryz.results15, go_sem]) rfl ⟨rfl, hB1⟩
  · rw [h1] at hio
    have h0 : ((D.length : Int) == 0) = false := beq_eq_false_iff_ne.2 (by omega)
    have hlen0 : (0 : Int) < (D.length : Int) := by omega
    go_enter Tryz.func15, Tryz.ntmps15
    go_wp2_with (go_at_call 49; fail)
    refine hio.mono ?_
    rintro _ w1 ⟨rfl, hB1⟩
    obtain ⟨b, off, rfl, hc⟩ := (h.later hB1).cells h2
    have p0 := (hc 0 h2).1
    rw [Nat.zero_mul, Nat.add_zero] at p0
    clear hc hio h hD
    generalize (D.getD 0 (0, 0)).1 = d0 at *
    go_wp2
    exact bodyPost_ret (v := .tuple #[.float .f32 0, .int .i64 175]) (by simp [results, Tryz.results15, go_sem]) rfl ⟨rfl, hB1⟩
  · rw [h1] at hio
    obtain ⟨n, hn⟩ : ∃ n, D.length = n + 1 := ⟨D.length - 1, by omega⟩
    rw [hn, Nat.add_sub_cancel] at h4
    have h0 : (((n + 1 : Nat) : Int) == 0) = false := beq_eq_false_iff_ne.2 (by omega)
    rw [hn] at hio ⊢
    have hn2 : n ≤ 9223372036854775805 := by omega
    have hlen0 : (0 : Int) < ((n + 1 : Nat) : Int) := by omega
    go_enter Tryz.func15, Tryz.ntmps15
    go_wp2_with (go_at_call 49; fail)
    refine hio.mono ?_
    rintro _ w1 ⟨rfl, hB1⟩
    obtain ⟨b, off, rfl, hc⟩ := (h.later hB1).cells h2
    have p0 := (hc 0 h2).1
    have pn := (hc n (by omega)).1
    rw [Nat.zero_mul, Nat.add_zero] at p0
    clear hc hio h hD hn hl
    generalize (D.getD 0 (0, 0)).1 = d0 at *
    generalize (D.getD n (0, 0)).1 = dn at *
    go_wp2
    exact bodyPost_ret (v := .tuple #[.float .f32 0, .int .i64 175]) (by simp [results, Tryz.results15, go_sem]) rfl ⟨rfl, hB1⟩
  · rw [h1] at hio
    obtain ⟨n, hn⟩ : ∃ n, D.length = n + 1 := ⟨D.length - 1, by omega⟩
    rw [hn, Nat.add_sub_cancel] at h4
    have h0 : (((n + 1 : Nat) : Int) == 0) = false := beq_eq_false_iff_ne.2 (by omega)
    have hn2 : n ≤ 9223372036854775805 := by omega
    have hlen0 : (0 : Int) < ((n + 1 : Nat) : Int) := by omega
    have hgB := Hid.mk (inO_true.1 h1)
    rw [hn] at hio hi ⊢
    go_enter Tryz.func15, Tryz.ntmps15
    go_wp2_with (go_at_call 49; fail)
    refine hio.mono ?_
    rintro _ w1 ⟨rfl, hB1⟩
    obtain ⟨b, off, rfl, hc⟩ := (h.later hB1).cells h2
    have hbl : b < w1.heap.size := World.block_lt_of_cell? _ _ (hc 0 h2).1
    have p0 := (hc 0 h2).1
    have pn := (hc n (by omega)).1
    rw [Nat.zero_mul, Nat.add_zero] at p0
    clear hio h hl
    obtain ⟨d0, hd0⟩ : ∃ d, d = (D.getD 0 (0, 0)).1 := ⟨_, rfl⟩
    rw [← hd0] at p0 h3
    obtain ⟨dn, hdn⟩ : ∃ d, d = (D.getD n (0, 0)).1 := ⟨_, rfl⟩
    rw [← hdn] at pn h4
    have hcH : Hid (∀ k, k < n + 1 → ∀ X, Below w1.heap.size w1 X → X.cell? ⟨b, off + k * 2, none⟩ = some (.int .i64 (D.getD k (0, 0)).1) ∧ X.cell? ⟨b, off + k * 2 + 1, none⟩ = some (.float .f32 (D.getD k (0, 0)).2)) := ⟨fun k hk X hX => ⟨(hX.cell (p := ⟨b, off + k * 2, none⟩) hbl).trans (hc k (by omega)).1, (hX.cell (p := ⟨b, off + k * 2 + 1, none⟩) hbl).trans (hc k (by omega)).2⟩⟩
    replace k2 := Hid.mk k2
    replace hr := Hid.mk hr
    replace k3 := Hid.mk k3
    replace hD := Hid.mk hD
    replace hd0 := Hid.mk hd0
    replace hn := Hid.mk hn
    have h3' : decide (x < d0) = false := decide_eq_false (by omega)
    have h4' : decide (dn < x) = false := decide_eq_false (by omega)
    clear hc hdn
    go_wp2
    go_loopw [6] (fun v wr => ∃ k : Nat, k ≤ i ∧ v = .int .i64 (k : Int) ∧ wr = w1) (fun v _ => i - (intOf v).toNat)
    case atStart => exact ⟨0, by omega, rfl, rfl⟩
    case round =>
      obtain ⟨k, hk, rfl, hwr⟩ := hrel
      subst wr
      have hk0 : (0 : Int) ≤ (k : Int) := by omega
      have hkn : (k : Int) < ((n + 1 : Nat) : Int) := by omega
      obtain ⟨q0, q1⟩ := hcH.out k (by omega) w1 (Below.refl _ _)
      by_cases hki : k < i
      · have hlt := k2.out k hki
        generalize (D.getD k (0, 0)).1 = y at *
        clear q1
        go_wp2
        go_roundw
        case rel => exact ⟨k + 1, by omega, by go_num, trivial⟩
        case measure => simp [intOf]; omega
      · obtain rfl : k = i := by omega
        have hlt := k3.out
        rcases hr.out with ⟨hy, hr2⟩ | ⟨hy, hpos, hr2⟩
        · have he : ((D.getD k (0, 0)).1 == x) = true := beq_iff_eq.2 hy
          generalize (D.getD k (0, 0)).1 = y at *
          generalize (D.getD k (0, 0)).2 = z at *
          subst hr2
          clear hy k2 hr hgB hD hcH
          go_wp2
          exact bodyPost_ret (v := .tuple #[.float .f32 r, .int .i64 0]) (by simp [results, Tryz.results15, go_sem]) rfl ⟨rfl, hB1⟩
        · obtain ⟨j, rfl⟩ : ∃ j, k = j + 1 := ⟨k - 1, by omega⟩
          rw [Nat.add_sub_cancel] at hr2
          have hb1 := gB_parts (hgB.out j (by have := hn.out; omega))
          have hb2 := gB_parts (hgB.out (j + 1) (by have := hn.out; omega))
          have hbt := fun W => between_any (D.getD j (0, 0)) (D.getD (j + 1) (0, 0)) x (hD.out.getD j).2 (hD.out.getD (j + 1)).2 hb1.1.2 hb2.1.2 (k2.out j (by omega)) hy (by omega) hb1.1.1.1 hb2.1.1.2 W
          rw [← hr2] at hbt
          obtain ⟨s0, s1⟩ := hcH.out j (by omega) w1 (Below.refl _ _)
          have he : ((D.getD (j + 1) (0, 0)).1 == x) = false := beq_eq_false_iff_ne.2 (by omega)
          generalize (D.getD (j + 1) (0, 0)).1 = v1 at *
          generalize (D.getD (j + 1) (0, 0)).2 = v2 at *
          generalize (D.getD j (0, 0)).1 = u1 at *
          generalize (D.getD j (0, 0)).2 = u2 at *
          clear hy k2 hr hgB hD hr2 hb1 hb2 hpos hcH hki hk
          go_upto_region 10 with fail
          have hS : w1.drew.cell? ⟨b, off + j * 2, none⟩ = some (.int .i64 u1) ∧ w1.drew.cell? ⟨b, off + j * 2 + 1, none⟩ = some (.float .f32 u2) ∧ w1.drew.cell? ⟨b, off + (j + 1) * 2, none⟩ = some (.int .i64 v1) ∧ w1.drew.cell? ⟨b, off + (j + 1) * 2 + 1, none⟩ = some (.float .f32 v2) := ⟨s0, s1, q0, q1⟩
          have hS0 : ∀ X, Below w1.heap.size w1 X → X.cell? ⟨b, off + j * 2, none⟩ = some (.int .i64 u1) ∧ X.cell? ⟨b, off + j * 2 + 1, none⟩ = some (.float .f32 u2) ∧ X.cell? ⟨b, off + (j + 1) * 2, none⟩ = some (.int .i64 v1) ∧ X.cell? ⟨b, off + (j + 1) * 2 + 1, none⟩ = some (.float .f32 v2) := fun X hX => ⟨(hX.cell (p := ⟨b, off + j * 2, none⟩) hbl).trans s0, (hX.cell (p := ⟨b, off + j * 2 + 1, none⟩) hbl).trans s1, (hX.cell (p := ⟨b, off + (j + 1) * 2, none⟩) hbl).trans q0, (hX.cell (p := ⟨b, off + (j + 1) * 2 + 1, none⟩) hbl).trans q1⟩
          have hD1 : Below w1.heap.size w1 w1.drew := (Below.refl _ _).drew
          have e1 : IntKind.i64.wrap (((j + 1 : Nat) : Int) - 1) = (j : Int) := by rw [IntKind.wrap_i64]; omega
          have e1' : IntKind.i64.wrap ((j : Int) + 1 - 1) = (j : Int) := by rw [IntKind.wrap_i64]; omega
          have e2 : (0 : Int) ≤ (j : Int) := by omega
          have e3 : (j : Int) < ((n + 1 : Nat) : Int) := by omega
          have e3' : (j : Int) < (n : Int) + 1 := by omega
          have e4 : (0 : Int) ≤ ((j + 1 : Nat) : Int) := by omega
          have e5 : ((j + 1 : Nat) : Int) < ((n + 1 : Nat) : Int) := by omega
          have e5' : (j : Int) + 1 < (n : Int) + 1 := by omega
          have e6 : IntKind.i64.wrap (j : Int) = (j : Int) := by rw [IntKind.wrap_i64]; omega
          have e7 : (j : Int) < (n : Int) := by omega
          have e8 : ((j : Int) + 1).toNat = j + 1 := by omega
          have e9 : (0 : Int) ≤ (j : Int) + 1 := by omega
          have e10 : j < n := by omega
          have e11 : j < n + 1 := by omega
          go_region_held3 (fun X => X.cell? ⟨b, off + j * 2, none⟩ = some (.int .i64 u1) ∧ X.cell? ⟨b, off + j * 2 + 1, none⟩ = some (.float .f32 u2) ∧ X.cell? ⟨b, off + (j + 1) * 2, none⟩ = some (.int .i64 v1) ∧ X.cell? ⟨b, off + (j + 1) * 2 + 1, none⟩ = some (.float .f32 v2)) (with_reducible assumption)
            ((go_at_call 51; refine (hbt _).mono ?_; rintro e w5 ⟨rfl, hB5⟩; have hB15 := hD1.trans (hB5.mono (Nat.le_refl _)); have hS5 := hS0 _ hB15))
          have hBe : Below w.heap.size w w5 := hB1.trans (hB15.mono hB1.size)
          clear hS0 hS5 hB15 hB5
          go_wp2
          exact bodyPost_ret (v := .tuple #[.float .f32 r, .int .i64 0]) (by simp [results, Tryz.results15, go_sem]) rfl ⟨rfl, hBe⟩
end Go.Proofs.YthmjkmdbggfiiaaGreatDoor.CF

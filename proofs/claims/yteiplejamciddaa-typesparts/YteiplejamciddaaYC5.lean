import Derived.Test.YteiplejamciddaaYC0
import Derived.Test.YteiplejamciddaaYL1
import Derived.Test.YteiplejamciddaaYN1
import Derived.Lib.MinMax
namespace Go.Proofs.Yteiplejamciddaa
open Go.RowKit

set_option maxRecDepth 20000 in
theorem itemAt_any (a b : Int) (W : World) : Calls Try.prog 37 #[.int .i64 a, .int .i64 b] W fun e W' => e = .returned (.agg #[.int .i64 a, .int .i64 b, .int .i64 (-1), .slice none 0 0]) ∧ W.alloc (.cells #[.int .i64 a, .int .i64 b, .int .i64 (-1), .slice none 0 0] 41) = W' := by
  go_enter Try.func37, Try.ntmps37
  go_wp2
  exact bodyPost_ret (v := .agg #[.int .i64 a, .int .i64 b, .int .i64 (-1), .slice none 0 0]) (by simp [results, Try.results37, go_sem]) rfl ⟨rfl, rfl⟩
set_option maxRecDepth 20000 in
theorem isZero_any (x : Ex) (ax : Option Addr) (cx : Nat) (W : World) : Calls Try.prog 72 #[.agg #[.int .i64 x.op, .int .i64 x.num, .int .i64 x.den, .int .i64 x.mode, .slice ax x.args.len cx]] W (Lk (.bool (zrB x)) W) := by
  obtain ⟨op, num, den, mode, args⟩ := x
  have hB : Below W.heap.size W (W.alloc (.cells #[.int .i64 op, .int .i64 num, .int .i64 den, .int .i64 mode, .slice ax args.len cx] 31)) := (Below.refl _ _).alloc (Nat.le_refl _) _
  have hz : zrB ⟨op, num, den, mode, args⟩ = (decide (op = 0) && decide (num = 0) && decide (den = 0) && decide (mode = 0) && decide (args.len = 0)) := rfl
  simp only
  by_cases h0 : op = 0
  rotate_left
  · have g0 : (op == 0) = false := beq_eq_false_iff_ne.2 h0
    have hf : Lk (.bool (zrB ⟨op, num, den, mode, args⟩)) W (.returned (.bool false)) (W.alloc (.cells #[.int .i64 op, .int .i64 num, .int .i64 den, .int .i64 mode, .slice ax args.len cx] 31)) := ⟨by rw [hz, decide_eq_false h0]; simp, hB⟩
    clear hz hB h0
    go_enter Try.func72, Try.ntmps72
    go_wp2
    go_ret
    exact hf
  subst h0
  by_cases h1 : num = 0
  rotate_left
  · have g1 : (num == 0) = false := beq_eq_false_iff_ne.2 h1
    have hf : Lk (.bool (zrB ⟨0, num, den, mode, args⟩)) W (.returned (.bool false)) (W.alloc (.cells #[.int .i64 0, .int .i64 num, .int .i64 den, .int .i64 mode, .slice ax args.len cx] 31)) := ⟨by rw [hz, decide_eq_false h1]; simp, hB⟩
    clear hz hB h1
    go_enter Try.func72, Try.ntmps72
    go_wp2
    go_ret
    exact hf
  subst h1
  by_cases h2 : den = 0
  rotate_left
  · have g2 : (den == 0) = false := beq_eq_false_iff_ne.2 h2
    have hf : Lk (.bool (zrB ⟨0, 0, den, mode, args⟩)) W (.returned (.bool false)) (W.alloc (.cells #[.int .i64 0, .int .i64 0, .int .i64 den, .int .i64 mode, .slice ax args.len cx] 31)) := ⟨by rw [hz, decide_eq_false h2]; simp, hB⟩
    clear hz hB h2
    go_enter Try.func72, Try.ntmps72
    go_wp2
    go_ret
    exact hf
  subst h2
  by_cases h3 : mode = 0
  rotate_left
  · have g3 : (mode == 0) = false := beq_eq_false_iff_ne.2 h3
    have hf : Lk (.bool (zrB ⟨0, 0, 0, mode, args⟩)) W (.returned (.bool false)) (W.alloc (.cells #[.int .i64 0, .int .i64 0, .int .i64 0, .int .i64 mode, .slice ax args.len cx] 31)) := ⟨by rw [hz, decide_eq_false h3]; simp, hB⟩
    clear hz hB h3
    go_enter Try.func72, Try.ntmps72
    go_wp2
    go_ret
    exact hf
  subst h3
  by_cases h4 : args.len = 0
  rotate_left
  · have g4 : ((args.len : Int) == 0) = false := by simp; omega
    have g5 : ¬ (args.len : Int) = 0 := by omega
    have hf : Lk (.bool (zrB ⟨0, 0, 0, 0, args⟩)) W (.returned (.bool false)) (W.alloc (.cells #[.int .i64 0, .int .i64 0, .int .i64 0, .int .i64 0, .slice ax args.len cx] 31)) := ⟨by rw [hz, decide_eq_false h4]; rfl, hB⟩
    clear hz hB h4
    go_enter Try.func72, Try.ntmps72
    go_wp2
    go_ret
    exact hf
  · have g4 : ((args.len : Int) == 0) = true := by simp; omega
    have g5 : (args.len : Int) = 0 := by omega
    have hf : Lk (.bool (zrB ⟨0, 0, 0, 0, args⟩)) W (.returned (.bool true)) (W.alloc (.cells #[.int .i64 0, .int .i64 0, .int .i64 0, .int .i64 0, .slice ax args.len cx] 31)) := ⟨by rw [hz, decide_eq_true h4]; rfl, hB⟩
    clear hz hB h4
    go_enter Try.func72, Try.ntmps72
    go_wp2
    go_ret
    exact hf
set_option maxRecDepth 20000 in
theorem rows_any (g : List UInt8 × Int) (W : World) : Calls Try.prog 23 #[.agg #[.string ⟨g.1.toArray⟩, .int .i64 g.2]] W (Lk (.int .i64 (rwF g)) W) := by
  obtain ⟨nm, r⟩ := g
  simp only
  have hB : Below W.heap.size W (W.alloc (.cells #[.string ⟨nm.toArray⟩, .int .i64 r] 70)) := (Below.refl _ _).alloc (Nat.le_refl _) _
  have hr : rwF (nm, r) = min (max r 0) 8 := rfl
  go_enter Try.func23, Try.ntmps23
  go_wp2
  go_ret
  exact ⟨rfl, hB⟩
set_option maxRecDepth 20000 in
theorem cellsIn_any (p : Pk) (g : Int) (a3 a4 a5 a6 a7 : Option Addr) (c3 c4 c5 c6 c7 : Nat) (W : World) (hR : RowR eG W AnyB p.grps a5) : Calls Try.prog 22 #[.agg #[.string ⟨p.name.toArray⟩, .int .i64 p.year, .slice a3 p.opts.length c3, .slice a4 p.tabs.length c4, .slice a5 p.grps.length c5, .slice a6 p.lns.length c6, .slice a7 p.cks.length c7], .int .i64 g] W (Lk (.int .i64 (ceF p g)) W) := by
  have hq := bx_new W #[.string ⟨p.name.toArray⟩, .int .i64 p.year, .slice a3 p.opts.length c3, .slice a4 p.tabs.length c4, .slice a5 p.grps.length c5, .slice a6 p.lns.length c6, .slice a7 p.cks.length c7] 28
  obtain ⟨W2, hW2⟩ : ∃ W2, W2 = W.alloc (.cells #[.string ⟨p.name.toArray⟩, .int .i64 p.year, .slice a3 p.opts.length c3, .slice a4 p.tabs.length c4, .slice a5 p.grps.length c5, .slice a6 p.lns.length c6, .slice a7 p.cks.length c7] 28) := ⟨_, rfl⟩
  have hB2 : Below W.heap.size W W2 := by rw [hW2]; exact (Below.refl _ _).alloc (Nat.le_refl _) _
  rw [← hW2] at hq
  have hhas := fun X => has_grp a5 p.grps.length c5 g X
  by_cases hg : 0 ≤ g ∧ g < p.grps.length
  · rw [decide_eq_true hg.1, decide_eq_true hg.2] at hhas
    obtain ⟨k, rfl⟩ : ∃ k : Nat, g = (k : Int) := ⟨g.toNat, by omega⟩
    have hk : k < p.grps.length := by omega
    have hce : ceF p (k : Int) = rwF p.grps[k] := by
      unfold ceF
      rw [at?_some hg.1 hg.2]
      rfl
    rw [hce]
    obtain ⟨ge, oe, rfl⟩ := hR.some hk
    have hC : Hid (∀ X, Below W2.heap.size W2 X → X.cell? ⟨W.heap.size, 4, none⟩ = some (.slice (some ⟨ge, oe, none⟩) p.grps.length c5) ∧ X.cell? ⟨ge, oe + k * 2, none⟩ = some (.string ⟨(p.grps[k]).1.toArray⟩) ∧ X.cell? ⟨ge, oe + k * 2 + 1, none⟩ = some (.int .i64 (p.grps[k]).2) ∧ Below W.heap.size W X) := ⟨fun X hX => by
      have hBX := bthr hB2 hX (Nat.le_refl _)
      obtain ⟨cs, -, -, ⟨rfl, -⟩, hcs⟩ := (row_bel hR hBX (Nat.le_refl _)).item hk
      exact ⟨(hq.bel hX hq.1).2.1 4 (by simp), hcs 0 (by decide), hcs 1 (by decide), hBX⟩⟩
    generalize p.grps[k] = y at hC
    obtain ⟨q4, k0, k1, -⟩ := hC.out W2 (Below.refl _ _)
    have hi0 := hg.1
    have hi1 := hg.2
    have hW2H := Hid.mk hW2
    clear hg hce hR hq hW2
    go_enter Try.func22, Try.ntmps22
    go_wp2_with fail
    rw [← hW2H.out]
    go_wp2_with (first | (go_at_call 57; refine (hhas _).mono ?_; rintro e w1 ⟨rfl, hb1⟩; obtain ⟨f4, f0, f1, hbw⟩ := hC.out w1 hb1) | (go_at_call 23; refine (rows_any y _).mono ?_; rintro e w2 ⟨rfl, hb2⟩; have hb3 := bthr hbw hb2 (Nat.le_refl _)))
    go_ret
    exact ⟨rfl, hb3⟩
  · have hhas2 : (decide (0 ≤ g) && decide (g < p.grps.length)) = false := by
      cases hd : (decide (0 ≤ g) && decide (g < p.grps.length)) with
      | false => rfl
      | true =>
        rw [Bool.and_eq_true, decide_eq_true_eq, decide_eq_true_eq] at hd
        exact absurd hd hg
    rw [hhas2] at hhas
    have hce : ceF p g = 1 := by
      unfold ceF
      rw [at?_none hg]
    rw [hce]
    have q4 := hq.2.1 4 (by simp)
    have hW2H := Hid.mk hW2
    clear hg hhas2 hce hR hq hW2
    go_enter Try.func22, Try.ntmps22
    go_wp2_with fail
    rw [← hW2H.out]
    go_wp2_with (go_at_call 57; refine (hhas _).mono ?_; rintro e w1 ⟨rfl, hb1⟩; have hb3 := bthr hB2 hb1 (Nat.le_refl _))
    go_ret
    exact ⟨rfl, hb3⟩
end Go.Proofs.Yteiplejamciddaa

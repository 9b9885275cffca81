import Derived.Test.YtnmcniibcjjflaaDoorTurnRefTaken
import Derived.Test.YtnmcniibcjjflaaDoorJoin6
import Derived.Laws.Externs
import Derived.Laws.Shifts
namespace Go.Proofs.YtnmcniibcjjflaaDoor
open Go.RowKit

theorem add64_call (x y c : Int) (hx : 0 ≤ x) (hy : 0 ≤ y) (hc0 : 0 ≤ c) (hc : c ≤ 1) (w : World) (s t : Int) (hs : (x + y + c) % 18446744073709551616 = s) (ht : (x + y + c) / 18446744073709551616 = t) :
    (callFunc 80 #[.int .u64 x, .int .u64 y, .int .u64 c]).run Tryd.prog w = .ok (.value (.tuple #[.int .u64 s, .int .u64 t])) w := by
  rw [run_callFunc_extern Tryd.func80 (by kernel_rfl) (by kernel_rfl) (by kernel_rfl) (e := add64Entry) (by kernel_rfl), run_add64 x y c hx hy hc0 hc, hs, ht]
  rfl

/-- The lower word of a sum in two's complement, and the upper. -/
def lowOf (S : Int) : Int := S % 18446744073709551616
def highOf (S : Int) : Int := if S < 0 then 18446744073709551615 else 0

theorem wrapU (n : Int) : IntKind.u64.wrap n = n % 18446744073709551616 := by simp [IntKind.wrap, IntKind.signed, IntKind.bits]

theorem tally_low {S n : Int} : (lowOf S + IntKind.u64.wrap n + 0) % 18446744073709551616 = lowOf (S + n) := by rw [wrapU]; unfold lowOf; omega
theorem tally_high {S n : Int} (hS : -4000000000000000000 ≤ S ∧ S ≤ 4000000000000000000) (hn : -4000000000000000000 ≤ n ∧ n ≤ 4000000000000000000) :
    (highOf S + IntKind.u64.wrap (n / 9223372036854775808) + (lowOf S + IntKind.u64.wrap n + 0) / 18446744073709551616) % 18446744073709551616 = highOf (S + n) := by
  rw [wrapU, wrapU]
  unfold highOf lowOf
  by_cases h1 : S < 0 <;> by_cases h2 : S + n < 0 <;> simp only [h1, h2, if_true, if_false] <;> omega

set_option maxRecDepth 10000 in
set_option maxHeartbeats 600000 in
theorem tadd_any (T : Nat) (S n : Int) (hS : -4000000000000000000 ≤ S ∧ S ≤ 4000000000000000000) (hn : -4000000000000000000 ≤ n ∧ n ≤ 4000000000000000000) (W : World)
    (c1 : W.cell? ⟨T, 1, none⟩ = some (.int .u64 (highOf S))) (c2 : W.cell? ⟨T, 2, none⟩ = some (.int .u64 (lowOf S))) (f1 : W.frozen? ⟨T, 1, none⟩ = false) (f2 : W.frozen? ⟨T, 2, none⟩ = false) :
    Calls Tryd.prog 72 #[.pointer (some ⟨T, 0, none⟩), .int .i64 n] W fun e W' => e = .returned (.tuple #[]) ∧ W' = (W.setCell ⟨T, 2, none⟩ (.int .u64 (lowOf (S + n)))).setCell ⟨T, 1, none⟩ (.int .u64 (highOf (S + n))) := by
  have hl : 0 ≤ lowOf S ∧ lowOf S < 18446744073709551616 := by unfold lowOf; omega
  have hh : 0 ≤ highOf S := by unfold highOf; split <;> simp
  have hw : 0 ≤ IntKind.u64.wrap n ∧ IntKind.u64.wrap n < 18446744073709551616 := by rw [wrapU]; omega
  have hw2 : 0 ≤ IntKind.u64.wrap (n / 9223372036854775808) := by rw [wrapU]; omega
  obtain ⟨t, ht⟩ : ∃ t, (lowOf S + IntKind.u64.wrap n + 0) / 18446744073709551616 = t := ⟨_, rfl⟩
  have h1 := add64_call (lowOf S) (IntKind.u64.wrap n) 0 hl.1 hw.1 (by omega) (by omega) W _ t tally_low ht
  have hhi := tally_high hS hn
  rw [ht] at hhi
  have h2 := add64_call (highOf S) (IntKind.u64.wrap (n / 9223372036854775808)) t hh hw2 (by omega) (by omega) W _ _ hhi rfl
  clear hhi ht
  generalize lowOf (S + n) = s at *
  generalize highOf (S + n) = s2 at *
  generalize (highOf S + IntKind.u64.wrap (n / 9223372036854775808) + t) / 18446744073709551616 = t2 at *
  generalize lowOf S = L at *
  generalize highOf S = H at *
  go_enter Tryd.func72, Tryd.ntmps72
  go_wp2_with (simp only [h1, h2])
  go_end0
  exact ⟨rfl, rfl⟩

/-- A tally on its way: the sum so far, the fault found (0, 0: none). -/
def Tal (X : World) (T : Nat) (kind S f0 f1 : Int) : Prop := X.cell? ⟨T, 0, none⟩ = some (.int .i64 kind) ∧ X.cell? ⟨T, 1, none⟩ = some (.int .u64 (highOf S)) ∧ X.cell? ⟨T, 2, none⟩ = some (.int .u64 (lowOf S)) ∧ X.cell? ⟨T, 3, none⟩ = some (.int .i64 f0) ∧ X.cell? ⟨T, 4, none⟩ = some (.int .i64 f1) ∧
  X.frozen? ⟨T, 1, none⟩ = false ∧ X.frozen? ⟨T, 2, none⟩ = false ∧ X.frozen? ⟨T, 3, none⟩ = false ∧ X.frozen? ⟨T, 4, none⟩ = false
theorem Tal.lt {X : World} {T : Nat} {kind S f0 f1 : Int} (h : Tal X T kind S f0 f1) : T < X.heap.size := World.block_lt_of_cell? _ _ h.1
theorem Tal.later {X X' : World} {T : Nat} {kind S f0 f1 : Int} (h : Tal X T kind S f0 f1) (hb : Below X.heap.size X X') : Tal X' T kind S f0 f1 := by
  have l := h.lt
  obtain ⟨h0, h1, h2, h3, h4, g1, g2, g3, g4⟩ := h
  exact ⟨(hb.cell (p := ⟨T, 0, none⟩) l).trans h0, (hb.cell (p := ⟨T, 1, none⟩) l).trans h1, (hb.cell (p := ⟨T, 2, none⟩) l).trans h2, (hb.cell (p := ⟨T, 3, none⟩) l).trans h3, (hb.cell (p := ⟨T, 4, none⟩) l).trans h4,
    (hb.frozen (p := ⟨T, 1, none⟩) l).trans g1, (hb.frozen (p := ⟨T, 2, none⟩) l).trans g2, (hb.frozen (p := ⟨T, 3, none⟩) l).trans g3, (hb.frozen (p := ⟨T, 4, none⟩) l).trans g4⟩
theorem cell_o {X : World} {T i k : Nat} {v : Value} (h : i ≠ k) : (X.setCell ⟨T, i, none⟩ v).cell? ⟨T, k, none⟩ = X.cell? ⟨T, k, none⟩ := World.cell?_setCell_other _ _ _ _ (by intro e; injection e; omega)
theorem Tal.added {X : World} {T : Nat} {kind S f0 f1 : Int} (h : Tal X T kind S f0 f1) (n : Int) : Tal ((X.setCell ⟨T, 2, none⟩ (.int .u64 (lowOf (S + n)))).setCell ⟨T, 1, none⟩ (.int .u64 (highOf (S + n)))) T kind (S + n) f0 f1 := by
  obtain ⟨h0, h1, h2, h3, h4, g1, g2, g3, g4⟩ := h
  refine ⟨by rw [cell_o (by omega), cell_o (by omega)]; exact h0, World.cell?_setCell_same _ _ _ (by rw [cell_o (by omega)]; exact h1), by rw [cell_o (by omega)]; exact World.cell?_setCell_same _ _ _ h2, by rw [cell_o (by omega), cell_o (by omega)]; exact h3, by rw [cell_o (by omega), cell_o (by omega)]; exact h4, ?_, ?_, ?_, ?_⟩ <;> (rw [World.frozen?_setCell, World.frozen?_setCell]; assumption)
theorem Tal.faulted {X : World} {T : Nat} {kind S f0 f1 : Int} (h : Tal X T kind S f0 f1) (x y : Int) : Tal ((X.setCell ⟨T, 3, none⟩ (.int .i64 x)).setCell ⟨T, 4, none⟩ (.int .i64 y)) T kind S x y := by
  obtain ⟨h0, h1, h2, h3, h4, g1, g2, g3, g4⟩ := h
  refine ⟨by rw [cell_o (by omega), cell_o (by omega)]; exact h0, by rw [cell_o (by omega), cell_o (by omega)]; exact h1, by rw [cell_o (by omega), cell_o (by omega)]; exact h2, by rw [cell_o (by omega)]; exact World.cell?_setCell_same _ _ _ h3, World.cell?_setCell_same _ _ _ (by rw [cell_o (by omega)]; exact h4), ?_, ?_, ?_, ?_⟩ <;> (rw [World.frozen?_setCell, World.frozen?_setCell]; assumption)

theorem grown_two {W X : World} {T : Nat} (h : Below W.heap.size W X) (i j : Nat) (a b : Value) : W.grownBy ((X.setCell ⟨T, i, none⟩ a).setCell ⟨T, j, none⟩ b) (some T) :=
  ⟨h.os, h.tape, h.output, Nat.le_trans h.size (by simp), fun k hk hn => by
    have e : k ≠ T := fun e => hn (by rw [e])
    rw [Below.heap_setCell _ _ _ k e, Below.heap_setCell _ _ _ k e]
    exact h.block k hk⟩

theorem valid_v (k n : Int) (w : World) (hK : Kinds w) (b : Bool) (h : M.valid k n = b) :
    Calls Tryd.prog 12 #[.agg #[.int .i64 k, .int .i64 n]] w fun e w' => e = .returned (.bool b) ∧ Below w.heap.size w w' := by
  rw [← h]
  exact valid_any k n w hK

set_option maxHeartbeats 600000 in
theorem take_bad (T : Nat) (kind S f0 f1 k n : Int) (W : World) (hK : Kinds W) (hT : Tal W T kind S f0 f1) (hv : M.valid k n = false) :
    Calls Tryd.prog 52 #[.pointer (some ⟨T, 0, none⟩), .agg #[.int .i64 k, .int .i64 n]] W fun e W' => e = .returned (.tuple #[]) ∧ Tal W' T kind S 6 5 ∧ W.grownBy W' (some T) := by
  have hB := (Below.refl W.heap.size W).alloc (Nat.le_refl _) (.cells #[.int .i64 k, .int .i64 n] 24)
  have hX := Box.new W (.int .i64 k) (.int .i64 n) 24
  have hK1 := hK.later hB
  have hT1 := hT.later hB
  go_enter Tryd.func52, Tryd.ntmps52
  go_wp2_with (first | (go_at_call 12; refine (valid_v _ _ _ hK1 _ hv).mono ?_; rintro e w1 ⟨rfl, hb1⟩; have hB1 := below_step hB hb1; have hT2 := hT1.later hb1; obtain ⟨x0, x1, -, -⟩ := hX.later hb1; obtain ⟨p0, p1, p2, p3, p4, o1, o2, o3, o4⟩ := id hT2; clear hb1) | (go_at_call 18; refine (fault_any _ _).mono ?_; rintro e w2 ⟨rfl, hb2⟩; have hB2 := below_step hB1 hb2; have hT3 := hT2.later hb2; obtain ⟨h0, h1, h2, h3, h4, g1, g2, g3, g4⟩ := id hT3; clear hb2))
  go_end0
  exact ⟨rfl, hT3.faulted 6 5, grown_two hB2 _ _ _ _⟩

set_option maxHeartbeats 600000 in
theorem take_blank (T : Nat) (kind S f0 f1 k n : Int) (W : World) (hK : Kinds W) (hT : Tal W T kind S f0 f1) (hk0 : k = 0) (hv : M.valid k n = true) :
    Calls Tryd.prog 52 #[.pointer (some ⟨T, 0, none⟩), .agg #[.int .i64 k, .int .i64 n]] W fun e W' => e = .returned (.tuple #[]) ∧ Tal W' T kind S f0 f1 ∧ W.grownBy W' (some T) := by
  have hB := (Below.refl W.heap.size W).alloc (Nat.le_refl _) (.cells #[.int .i64 k, .int .i64 n] 24)
  have hX := Box.new W (.int .i64 k) (.int .i64 n) 24
  have hK1 := hK.later hB
  have hT1 := hT.later hB
  subst hk0
  go_enter Tryd.func52, Tryd.ntmps52
  go_wp2_with (first | (go_at_call 12; refine (valid_v _ _ _ hK1 _ hv).mono ?_; rintro e w1 ⟨rfl, hb1⟩; have hB1 := below_step hB hb1; have hT2 := hT1.later hb1; obtain ⟨x0, x1, -, -⟩ := hX.later hb1; obtain ⟨p0, p1, p2, p3, p4, o1, o2, o3, o4⟩ := id hT2; clear hb1) | (go_at_call 18; refine (fault_any _ _).mono ?_; rintro e w2 ⟨rfl, hb2⟩; have hB2 := below_step hB1 hb2; have hT3 := hT2.later hb2; obtain ⟨h0, h1, h2, h3, h4, g1, g2, g3, g4⟩ := id hT3; clear hb2))
  go_end0
  exact ⟨rfl, hT2, hB1.os, hB1.tape, hB1.output, hB1.size, fun k hk _ => hB1.block k hk⟩

set_option maxHeartbeats 600000 in
theorem take_fault (T : Nat) (kind S f0 f1 k n : Int) (W : World) (hK : Kinds W) (hT : Tal W T kind S f0 f1) (hk6 : k = 6) (hv : M.valid k n = true) :
    Calls Tryd.prog 52 #[.pointer (some ⟨T, 0, none⟩), .agg #[.int .i64 k, .int .i64 n]] W fun e W' => e = .returned (.tuple #[]) ∧ Tal W' T kind S k n ∧ W.grownBy W' (some T) := by
  have hB := (Below.refl W.heap.size W).alloc (Nat.le_refl _) (.cells #[.int .i64 k, .int .i64 n] 24)
  have hX := Box.new W (.int .i64 k) (.int .i64 n) 24
  have hK1 := hK.later hB
  have hT1 := hT.later hB
  subst hk6
  go_enter Tryd.func52, Tryd.ntmps52
  go_wp2_with (first | (go_at_call 12; refine (valid_v _ _ _ hK1 _ hv).mono ?_; rintro e w1 ⟨rfl, hb1⟩; have hB1 := below_step hB hb1; have hT2 := hT1.later hb1; obtain ⟨x0, x1, -, -⟩ := hX.later hb1; obtain ⟨p0, p1, p2, p3, p4, o1, o2, o3, o4⟩ := id hT2; clear hb1) | (go_at_call 18; refine (fault_any _ _).mono ?_; rintro e w2 ⟨rfl, hb2⟩; have hB2 := below_step hB1 hb2; have hT3 := hT2.later hb2; obtain ⟨h0, h1, h2, h3, h4, g1, g2, g3, g4⟩ := id hT3; clear hb2))
  go_end0
  exact ⟨rfl, hT2.faulted _ _, grown_two hB1 _ _ _ _⟩

set_option maxHeartbeats 600000 in
theorem take_other (T : Nat) (kind S f0 f1 k n : Int) (W : World) (hK : Kinds W) (hT : Tal W T kind S f0 f1) (hk0 : (k == 0) = false) (hk6 : (k == 6) = false) (hkk : (k != kind) = true) (hv : M.valid k n = true) :
    Calls Tryd.prog 52 #[.pointer (some ⟨T, 0, none⟩), .agg #[.int .i64 k, .int .i64 n]] W fun e W' => e = .returned (.tuple #[]) ∧ Tal W' T kind S 6 5 ∧ W.grownBy W' (some T) := by
  have hB := (Below.refl W.heap.size W).alloc (Nat.le_refl _) (.cells #[.int .i64 k, .int .i64 n] 24)
  have hX := Box.new W (.int .i64 k) (.int .i64 n) 24
  have hK1 := hK.later hB
  have hT1 := hT.later hB
  go_enter Tryd.func52, Tryd.ntmps52
  go_wp2_with (go_at_call 12; refine (valid_v _ _ _ hK1 _ hv).mono ?_; rintro e w1 ⟨rfl, hb1⟩; have hB1 := below_step hB hb1; have hT2 := hT1.later hb1; have hX1 := hX.later hb1; obtain ⟨x0, x1, -, -⟩ := id hX1; obtain ⟨p0, p1, p2, p3, p4, o1, o2, o3, o4⟩ := id hT2; clear hb1)
  go_quiet (fail)
  have hbq := below_drewN (Below.refl w1.heap.size w1) nq
  replace hB1 := below_step hB1 hbq
  replace hT2 := hT2.later hbq
  replace hX1 := hX1.later hbq
  clear p0 p1 p2 p3 p4 o1 o2 o3 o4 x0 x1 hbq
  generalize w1.drewN nq = wq at *
  obtain ⟨x0, x1, -, -⟩ := id hX1
  obtain ⟨p0, p1, p2, p3, p4, o1, o2, o3, o4⟩ := id hT2
  go_wp2_with (go_at_call 18; refine (fault_any _ _).mono ?_; rintro e w2 ⟨rfl, hb2⟩; have hB2 := below_step hB1 hb2; have hT3 := hT2.later hb2; obtain ⟨h0, h1, h2, h3, h4, g1, g2, g3, g4⟩ := id hT3; clear hb2)
  go_end0
  exact ⟨rfl, hT3.faulted 6 5, grown_two hB2 _ _ _ _⟩

set_option maxHeartbeats 600000 in
theorem take_add (T : Nat) (kind S f0 f1 k n : Int) (W : World) (hK : Kinds W) (hT : Tal W T kind S f0 f1) (hkk : k = kind) (hk0 : (k == 0) = false) (hk6 : (k == 6) = false) (hv : M.valid k n = true) (hS : -4000000000000000000 ≤ S ∧ S ≤ 4000000000000000000) (hn : -4000000000000000000 ≤ n ∧ n ≤ 4000000000000000000) :
    Calls Tryd.prog 52 #[.pointer (some ⟨T, 0, none⟩), .agg #[.int .i64 k, .int .i64 n]] W fun e W' => e = .returned (.tuple #[]) ∧ Tal W' T kind (S + n) f0 f1 ∧ W.grownBy W' (some T) := by
  have hB := (Below.refl W.heap.size W).alloc (Nat.le_refl _) (.cells #[.int .i64 k, .int .i64 n] 24)
  have hX := Box.new W (.int .i64 k) (.int .i64 n) 24
  have hK1 := hK.later hB
  have hT1 := hT.later hB
  subst hkk
  go_enter Tryd.func52, Tryd.ntmps52
  go_wp2_with (go_at_call 12; refine (valid_v _ _ _ hK1 _ hv).mono ?_; rintro e w1 ⟨rfl, hb1⟩; have hB1 := below_step hB hb1; have hT2 := hT1.later hb1; have hX1 := hX.later hb1; obtain ⟨x0, x1, -, -⟩ := id hX1; obtain ⟨p0, p1, p2, p3, p4, o1, o2, o3, o4⟩ := id hT2; clear hb1)
  go_quiet (fail)
  have hbq := below_drewN (Below.refl w1.heap.size w1) nq
  replace hB1 := below_step hB1 hbq
  replace hT2 := hT2.later hbq
  replace hX1 := hX1.later hbq
  clear p0 p1 p2 p3 p4 o1 o2 o3 o4 x0 x1 hbq
  generalize w1.drewN nq = wq at *
  obtain ⟨x0, x1, -, -⟩ := id hX1
  obtain ⟨p0, p1, p2, p3, p4, o1, o2, o3, o4⟩ := id hT2
  go_wp2_with (go_at_call 72; refine (tadd_any T S n hS hn _ p1 p2 o1 o2).mono ?_; rintro e w2 ⟨rfl, rfl⟩)
  go_end0
  exact ⟨rfl, hT2.added n, grown_two hB1 _ _ _ _⟩

end Go.Proofs.YtnmcniibcjjflaaDoor

import Derived.Test.YtjgngmmepheioaaJoin48
namespace Go.Proofs.Ytjgngmmepheioaa
open Go.RowKit

theorem conv_in {X : World} {a : Option Addr} {cap : Nat} {l : List UInt8} (h : InB X a cap l) : (convert 22 9 (.slice a l.length cap)).run Try.prog X = .ok (.string ⟨l.toArray⟩) X := by
  obtain ⟨h1, h2, h3⟩ := h
  cases a with
  | none =>
    have hc := h2 rfl
    subst hc
    have hl : l = [] := List.eq_nil_of_length_eq_zero (by omega)
    subst hl
    exact run_convert_bytes_nil X 22 5 Try.underlying22 Try.underlying5 0 0 9 Try.underlying9
  | some p =>
    refine conv_at X p cap l (fun j hj => ?_)
    rcases h1 with rfl | ⟨b, off, ha, _, hc⟩
    · simp at hj
    · cases ha
      rw [Go.WideShapes.add_plain]
      exact hc j hj
set_option maxHeartbeats 1000000 in
theorem same_any (a a2 : Option Addr) (cap cap2 : Nat) (l l2 : List UInt8) (W : World) (h : InB W a cap l) (h2 : InB W a2 cap2 l2) : Calls Try.prog 9 #[.slice a l.length cap, .slice a2 l2.length cap2] W fun e W' => e = .returned (.bool (l == l2)) ∧ W' = W := by
  have k1 := conv_in h
  have k2 := conv_in h2
  clear h h2
  go_enter Try.func9, Try.ntmps9
  go_wp2
  go_ret
  exact ⟨rfl, rfl⟩
set_option maxHeartbeats 1000000 in
theorem num_any (n : Int) (W : World) : Calls Try.prog 7 #[.int .i64 n] W fun e W' => e = .returned (.int .i64 n) ∧ W = W' := by
  go_enter Try.func7, Try.ntmps7
  go_wp2
  go_ret
  exact ⟨rfl, rfl⟩

end Go.Proofs.Ytjgngmmepheioaa


namespace Go.Proofs.Ytjgngmmepheioaa
open Go.RowKit

theorem bel_cell {n : Nat} {W W' : World} (h : Below n W W') {b : Nat} (hb : b < n) (i : Nat) : W'.cell? ⟨b, i, none⟩ = W.cell? ⟨b, i, none⟩ := World.cell?_of_block (h.block b hb)
set_option maxRecDepth 8000 in
set_option maxHeartbeats 1000000 in
theorem sameHeads0 (a3 a4 a5 a6 a7 : Option Addr) (c3 c4 c5 c6 c7 : Nat) (W : World) : Calls Try.prog 22 #[.agg #[.string ⟨#[]⟩, .int .i64 0, .slice a3 0 c3, .slice a4 0 c4, .slice a5 0 c5, .slice a6 0 c6, .slice a7 0 c7], .agg #[.string ⟨#[]⟩, .int .i64 0, .slice none 0 0, .slice none 0 0, .slice none 0 0, .slice none 0 0, .slice none 0 0]] W fun e W' => e = .returned (.bool true) ∧ Below W.heap.size W W' := by
  have hfin : Below W.heap.size W ((W.alloc (.cells #[.string ⟨#[]⟩, .int .i64 0, .slice a3 0 c3, .slice a4 0 c4, .slice a5 0 c5, .slice a6 0 c6, .slice a7 0 c7] 29)).alloc (.cells #[.string ⟨#[]⟩, .int .i64 0, .slice none 0 0, .slice none 0 0, .slice none 0 0, .slice none 0 0, .slice none 0 0] 29)) := ((Below.refl _ _).alloc (Nat.le_refl _) _).alloc (by simp) _
  go_enter Try.func22, Try.ntmps22
  go_wp2
  refine wp_loop_rounds 1 ?_
  rw [rounds_succ]
  go_wp2
  refine wp_loop_rounds 1 ?_
  rw [rounds_succ]
  go_wp2
  refine wp_loop_rounds 1 ?_
  rw [rounds_succ]
  go_wp2
  go_ret
  exact ⟨rfl, hfin⟩
set_option maxRecDepth 8000 in
set_option maxHeartbeats 1000000 in
theorem samePack0 (a3 a4 a5 a6 a7 : Option Addr) (c3 c4 c5 c6 c7 : Nat) (W : World) : Calls Try.prog 8 #[.agg #[.string ⟨#[]⟩, .int .i64 0, .slice a3 0 c3, .slice a4 0 c4, .slice a5 0 c5, .slice a6 0 c6, .slice a7 0 c7], .agg #[.string ⟨#[]⟩, .int .i64 0, .slice none 0 0, .slice none 0 0, .slice none 0 0, .slice none 0 0, .slice none 0 0]] W fun e W' => e = .returned (.bool true) ∧ Below W.heap.size W W' := by
  have hB : Below W.heap.size W ((W.alloc (.cells #[.string ⟨#[]⟩, .int .i64 0, .slice a3 0 c3, .slice a4 0 c4, .slice a5 0 c5, .slice a6 0 c6, .slice a7 0 c7] 29)).alloc (.cells #[.string ⟨#[]⟩, .int .i64 0, .slice none 0 0, .slice none 0 0, .slice none 0 0, .slice none 0 0, .slice none 0 0] 29)) := ((Below.refl _ _).alloc (Nat.le_refl _) _).alloc (by simp) _
  have hk := sameHeads0 a3 a4 a5 a6 a7 c3 c4 c5 c6 c7 ((W.alloc (.cells #[.string ⟨#[]⟩, .int .i64 0, .slice a3 0 c3, .slice a4 0 c4, .slice a5 0 c5, .slice a6 0 c6, .slice a7 0 c7] 29)).alloc (.cells #[.string ⟨#[]⟩, .int .i64 0, .slice none 0 0, .slice none 0 0, .slice none 0 0, .slice none 0 0, .slice none 0 0] 29))
  have hs1 : (W.alloc (.cells #[.string ⟨#[]⟩, .int .i64 0, .slice a3 0 c3, .slice a4 0 c4, .slice a5 0 c5, .slice a6 0 c6, .slice a7 0 c7] 29)).heap.size = W.heap.size + 1 := by simp
  have hx1 := (bx_new W #[.string ⟨#[]⟩, .int .i64 0, .slice a3 0 c3, .slice a4 0 c4, .slice a5 0 c5, .slice a6 0 c6, .slice a7 0 c7] 29).kept (World.grownBy_alloc (W.alloc (.cells #[.string ⟨#[]⟩, .int .i64 0, .slice a3 0 c3, .slice a4 0 c4, .slice a5 0 c5, .slice a6 0 c6, .slice a7 0 c7] 29)) (.cells #[.string ⟨#[]⟩, .int .i64 0, .slice none 0 0, .slice none 0 0, .slice none 0 0, .slice none 0 0, .slice none 0 0] 29) none) (by simp)
  have hx2 := bx_new (W.alloc (.cells #[.string ⟨#[]⟩, .int .i64 0, .slice a3 0 c3, .slice a4 0 c4, .slice a5 0 c5, .slice a6 0 c6, .slice a7 0 c7] 29)) #[.string ⟨#[]⟩, .int .i64 0, .slice none 0 0, .slice none 0 0, .slice none 0 0, .slice none 0 0, .slice none 0 0] 29
  rw [hs1] at hx2
  have e0 : ((W.alloc (.cells #[.string ⟨#[]⟩, .int .i64 0, .slice a3 0 c3, .slice a4 0 c4, .slice a5 0 c5, .slice a6 0 c6, .slice a7 0 c7] 29)).alloc (.cells #[.string ⟨#[]⟩, .int .i64 0, .slice none 0 0, .slice none 0 0, .slice none 0 0, .slice none 0 0, .slice none 0 0] 29)).cell? ⟨W.heap.size, 0, none⟩ = some (.string ⟨#[]⟩) := hx1.2.1 0 (by simp)
  have g0 : ((W.alloc (.cells #[.string ⟨#[]⟩, .int .i64 0, .slice a3 0 c3, .slice a4 0 c4, .slice a5 0 c5, .slice a6 0 c6, .slice a7 0 c7] 29)).alloc (.cells #[.string ⟨#[]⟩, .int .i64 0, .slice none 0 0, .slice none 0 0, .slice none 0 0, .slice none 0 0, .slice none 0 0] 29)).cell? ⟨W.heap.size + 1, 0, none⟩ = some (.string ⟨#[]⟩) := hx2.2.1 0 (by simp)
  have e1 : ((W.alloc (.cells #[.string ⟨#[]⟩, .int .i64 0, .slice a3 0 c3, .slice a4 0 c4, .slice a5 0 c5, .slice a6 0 c6, .slice a7 0 c7] 29)).alloc (.cells #[.string ⟨#[]⟩, .int .i64 0, .slice none 0 0, .slice none 0 0, .slice none 0 0, .slice none 0 0, .slice none 0 0] 29)).cell? ⟨W.heap.size, 1, none⟩ = some (.int .i64 0) := hx1.2.1 1 (by simp)
  have g1 : ((W.alloc (.cells #[.string ⟨#[]⟩, .int .i64 0, .slice a3 0 c3, .slice a4 0 c4, .slice a5 0 c5, .slice a6 0 c6, .slice a7 0 c7] 29)).alloc (.cells #[.string ⟨#[]⟩, .int .i64 0, .slice none 0 0, .slice none 0 0, .slice none 0 0, .slice none 0 0, .slice none 0 0] 29)).cell? ⟨W.heap.size + 1, 1, none⟩ = some (.int .i64 0) := hx2.2.1 1 (by simp)
  have e2 : ((W.alloc (.cells #[.string ⟨#[]⟩, .int .i64 0, .slice a3 0 c3, .slice a4 0 c4, .slice a5 0 c5, .slice a6 0 c6, .slice a7 0 c7] 29)).alloc (.cells #[.string ⟨#[]⟩, .int .i64 0, .slice none 0 0, .slice none 0 0, .slice none 0 0, .slice none 0 0, .slice none 0 0] 29)).cell? ⟨W.heap.size, 2, none⟩ = some (.slice a3 0 c3) := hx1.2.1 2 (by simp)
  have g2 : ((W.alloc (.cells #[.string ⟨#[]⟩, .int .i64 0, .slice a3 0 c3, .slice a4 0 c4, .slice a5 0 c5, .slice a6 0 c6, .slice a7 0 c7] 29)).alloc (.cells #[.string ⟨#[]⟩, .int .i64 0, .slice none 0 0, .slice none 0 0, .slice none 0 0, .slice none 0 0, .slice none 0 0] 29)).cell? ⟨W.heap.size + 1, 2, none⟩ = some (.slice none 0 0) := hx2.2.1 2 (by simp)
  have e3 : ((W.alloc (.cells #[.string ⟨#[]⟩, .int .i64 0, .slice a3 0 c3, .slice a4 0 c4, .slice a5 0 c5, .slice a6 0 c6, .slice a7 0 c7] 29)).alloc (.cells #[.string ⟨#[]⟩, .int .i64 0, .slice none 0 0, .slice none 0 0, .slice none 0 0, .slice none 0 0, .slice none 0 0] 29)).cell? ⟨W.heap.size, 3, none⟩ = some (.slice a4 0 c4) := hx1.2.1 3 (by simp)
  have g3 : ((W.alloc (.cells #[.string ⟨#[]⟩, .int .i64 0, .slice a3 0 c3, .slice a4 0 c4, .slice a5 0 c5, .slice a6 0 c6, .slice a7 0 c7] 29)).alloc (.cells #[.string ⟨#[]⟩, .int .i64 0, .slice none 0 0, .slice none 0 0, .slice none 0 0, .slice none 0 0, .slice none 0 0] 29)).cell? ⟨W.heap.size + 1, 3, none⟩ = some (.slice none 0 0) := hx2.2.1 3 (by simp)
  have e4 : ((W.alloc (.cells #[.string ⟨#[]⟩, .int .i64 0, .slice a3 0 c3, .slice a4 0 c4, .slice a5 0 c5, .slice a6 0 c6, .slice a7 0 c7] 29)).alloc (.cells #[.string ⟨#[]⟩, .int .i64 0, .slice none 0 0, .slice none 0 0, .slice none 0 0, .slice none 0 0, .slice none 0 0] 29)).cell? ⟨W.heap.size, 4, none⟩ = some (.slice a5 0 c5) := hx1.2.1 4 (by simp)
  have g4 : ((W.alloc (.cells #[.string ⟨#[]⟩, .int .i64 0, .slice a3 0 c3, .slice a4 0 c4, .slice a5 0 c5, .slice a6 0 c6, .slice a7 0 c7] 29)).alloc (.cells #[.string ⟨#[]⟩, .int .i64 0, .slice none 0 0, .slice none 0 0, .slice none 0 0, .slice none 0 0, .slice none 0 0] 29)).cell? ⟨W.heap.size + 1, 4, none⟩ = some (.slice none 0 0) := hx2.2.1 4 (by simp)
  have e5 : ((W.alloc (.cells #[.string ⟨#[]⟩, .int .i64 0, .slice a3 0 c3, .slice a4 0 c4, .slice a5 0 c5, .slice a6 0 c6, .slice a7 0 c7] 29)).alloc (.cells #[.string ⟨#[]⟩, .int .i64 0, .slice none 0 0, .slice none 0 0, .slice none 0 0, .slice none 0 0, .slice none 0 0] 29)).cell? ⟨W.heap.size, 5, none⟩ = some (.slice a6 0 c6) := hx1.2.1 5 (by simp)
  have g5 : ((W.alloc (.cells #[.string ⟨#[]⟩, .int .i64 0, .slice a3 0 c3, .slice a4 0 c4, .slice a5 0 c5, .slice a6 0 c6, .slice a7 0 c7] 29)).alloc (.cells #[.string ⟨#[]⟩, .int .i64 0, .slice none 0 0, .slice none 0 0, .slice none 0 0, .slice none 0 0, .slice none 0 0] 29)).cell? ⟨W.heap.size + 1, 5, none⟩ = some (.slice none 0 0) := hx2.2.1 5 (by simp)
  have e6 : ((W.alloc (.cells #[.string ⟨#[]⟩, .int .i64 0, .slice a3 0 c3, .slice a4 0 c4, .slice a5 0 c5, .slice a6 0 c6, .slice a7 0 c7] 29)).alloc (.cells #[.string ⟨#[]⟩, .int .i64 0, .slice none 0 0, .slice none 0 0, .slice none 0 0, .slice none 0 0, .slice none 0 0] 29)).cell? ⟨W.heap.size, 6, none⟩ = some (.slice a7 0 c7) := hx1.2.1 6 (by simp)
  have g6 : ((W.alloc (.cells #[.string ⟨#[]⟩, .int .i64 0, .slice a3 0 c3, .slice a4 0 c4, .slice a5 0 c5, .slice a6 0 c6, .slice a7 0 c7] 29)).alloc (.cells #[.string ⟨#[]⟩, .int .i64 0, .slice none 0 0, .slice none 0 0, .slice none 0 0, .slice none 0 0, .slice none 0 0] 29)).cell? ⟨W.heap.size + 1, 6, none⟩ = some (.slice none 0 0) := hx2.2.1 6 (by simp)
  have hsz : ((W.alloc (.cells #[.string ⟨#[]⟩, .int .i64 0, .slice a3 0 c3, .slice a4 0 c4, .slice a5 0 c5, .slice a6 0 c6, .slice a7 0 c7] 29)).alloc (.cells #[.string ⟨#[]⟩, .int .i64 0, .slice none 0 0, .slice none 0 0, .slice none 0 0, .slice none 0 0, .slice none 0 0] 29)).heap.size = W.heap.size + 1 + 1 := by simp
  clear hx1 hx2 hs1
  go_enter Try.func8, Try.ntmps8
  go_wp2_with (go_at_call 22; go_loud (refine hk.mono ?_; clear hk; rintro e w1 ⟨rfl, hB1⟩; have q0 := (bel_cell hB1 (show W.heap.size < ((W.alloc (.cells #[.string ⟨#[]⟩, .int .i64 0, .slice a3 0 c3, .slice a4 0 c4, .slice a5 0 c5, .slice a6 0 c6, .slice a7 0 c7] 29)).alloc (.cells #[.string ⟨#[]⟩, .int .i64 0, .slice none 0 0, .slice none 0 0, .slice none 0 0, .slice none 0 0, .slice none 0 0] 29)).heap.size by rw [hsz]; omega) 0).trans e0; have r0 := (bel_cell hB1 (show W.heap.size + 1 < ((W.alloc (.cells #[.string ⟨#[]⟩, .int .i64 0, .slice a3 0 c3, .slice a4 0 c4, .slice a5 0 c5, .slice a6 0 c6, .slice a7 0 c7] 29)).alloc (.cells #[.string ⟨#[]⟩, .int .i64 0, .slice none 0 0, .slice none 0 0, .slice none 0 0, .slice none 0 0, .slice none 0 0] 29)).heap.size by rw [hsz]; omega) 0).trans g0; have q1 := (bel_cell hB1 (show W.heap.size < ((W.alloc (.cells #[.string ⟨#[]⟩, .int .i64 0, .slice a3 0 c3, .slice a4 0 c4, .slice a5 0 c5, .slice a6 0 c6, .slice a7 0 c7] 29)).alloc (.cells #[.string ⟨#[]⟩, .int .i64 0, .slice none 0 0, .slice none 0 0, .slice none 0 0, .slice none 0 0, .slice none 0 0] 29)).heap.size by rw [hsz]; omega) 1).trans e1; have r1 := (bel_cell hB1 (show W.heap.size + 1 < ((W.alloc (.cells #[.string ⟨#[]⟩, .int .i64 0, .slice a3 0 c3, .slice a4 0 c4, .slice a5 0 c5, .slice a6 0 c6, .slice a7 0 c7] 29)).alloc (.cells #[.string ⟨#[]⟩, .int .i64 0, .slice none 0 0, .slice none 0 0, .slice none 0 0, .slice none 0 0, .slice none 0 0] 29)).heap.size by rw [hsz]; omega) 1).trans g1; have q2 := (bel_cell hB1 (show W.heap.size < ((W.alloc (.cells #[.string ⟨#[]⟩, .int .i64 0, .slice a3 0 c3, .slice a4 0 c4, .slice a5 0 c5, .slice a6 0 c6, .slice a7 0 c7] 29)).alloc (.cells #[.string ⟨#[]⟩, .int .i64 0, .slice none 0 0, .slice none 0 0, .slice none 0 0, .slice none 0 0, .slice none 0 0] 29)).heap.size by rw [hsz]; omega) 2).trans e2; have r2 := (bel_cell hB1 (show W.heap.size + 1 < ((W.alloc (.cells #[.string ⟨#[]⟩, .int .i64 0, .slice a3 0 c3, .slice a4 0 c4, .slice a5 0 c5, .slice a6 0 c6, .slice a7 0 c7] 29)).alloc (.cells #[.string ⟨#[]⟩, .int .i64 0, .slice none 0 0, .slice none 0 0, .slice none 0 0, .slice none 0 0, .slice none 0 0] 29)).heap.size by rw [hsz]; omega) 2).trans g2; have q3 := (bel_cell hB1 (show W.heap.size < ((W.alloc (.cells #[.string ⟨#[]⟩, .int .i64 0, .slice a3 0 c3, .slice a4 0 c4, .slice a5 0 c5, .slice a6 0 c6, .slice a7 0 c7] 29)).alloc (.cells #[.string ⟨#[]⟩, .int .i64 0, .slice none 0 0, .slice none 0 0, .slice none 0 0, .slice none 0 0, .slice none 0 0] 29)).heap.size by rw [hsz]; omega) 3).trans e3; have r3 := (bel_cell hB1 (show W.heap.size + 1 < ((W.alloc (.cells #[.string ⟨#[]⟩, .int .i64 0, .slice a3 0 c3, .slice a4 0 c4, .slice a5 0 c5, .slice a6 0 c6, .slice a7 0 c7] 29)).alloc (.cells #[.string ⟨#[]⟩, .int .i64 0, .slice none 0 0, .slice none 0 0, .slice none 0 0, .slice none 0 0, .slice none 0 0] 29)).heap.size by rw [hsz]; omega) 3).trans g3; have q4 := (bel_cell hB1 (show W.heap.size < ((W.alloc (.cells #[.string ⟨#[]⟩, .int .i64 0, .slice a3 0 c3, .slice a4 0 c4, .slice a5 0 c5, .slice a6 0 c6, .slice a7 0 c7] 29)).alloc (.cells #[.string ⟨#[]⟩, .int .i64 0, .slice none 0 0, .slice none 0 0, .slice none 0 0, .slice none 0 0, .slice none 0 0] 29)).heap.size by rw [hsz]; omega) 4).trans e4; have r4 := (bel_cell hB1 (show W.heap.size + 1 < ((W.alloc (.cells #[.string ⟨#[]⟩, .int .i64 0, .slice a3 0 c3, .slice a4 0 c4, .slice a5 0 c5, .slice a6 0 c6, .slice a7 0 c7] 29)).alloc (.cells #[.string ⟨#[]⟩, .int .i64 0, .slice none 0 0, .slice none 0 0, .slice none 0 0, .slice none 0 0, .slice none 0 0] 29)).heap.size by rw [hsz]; omega) 4).trans g4; have q5 := (bel_cell hB1 (show W.heap.size < ((W.alloc (.cells #[.string ⟨#[]⟩, .int .i64 0, .slice a3 0 c3, .slice a4 0 c4, .slice a5 0 c5, .slice a6 0 c6, .slice a7 0 c7] 29)).alloc (.cells #[.string ⟨#[]⟩, .int .i64 0, .slice none 0 0, .slice none 0 0, .slice none 0 0, .slice none 0 0, .slice none 0 0] 29)).heap.size by rw [hsz]; omega) 5).trans e5; have r5 := (bel_cell hB1 (show W.heap.size + 1 < ((W.alloc (.cells #[.string ⟨#[]⟩, .int .i64 0, .slice a3 0 c3, .slice a4 0 c4, .slice a5 0 c5, .slice a6 0 c6, .slice a7 0 c7] 29)).alloc (.cells #[.string ⟨#[]⟩, .int .i64 0, .slice none 0 0, .slice none 0 0, .slice none 0 0, .slice none 0 0, .slice none 0 0] 29)).heap.size by rw [hsz]; omega) 5).trans g5; have q6 := (bel_cell hB1 (show W.heap.size < ((W.alloc (.cells #[.string ⟨#[]⟩, .int .i64 0, .slice a3 0 c3, .slice a4 0 c4, .slice a5 0 c5, .slice a6 0 c6, .slice a7 0 c7] 29)).alloc (.cells #[.string ⟨#[]⟩, .int .i64 0, .slice none 0 0, .slice none 0 0, .slice none 0 0, .slice none 0 0, .slice none 0 0] 29)).heap.size by rw [hsz]; omega) 6).trans e6; have r6 := (bel_cell hB1 (show W.heap.size + 1 < ((W.alloc (.cells #[.string ⟨#[]⟩, .int .i64 0, .slice a3 0 c3, .slice a4 0 c4, .slice a5 0 c5, .slice a6 0 c6, .slice a7 0 c7] 29)).alloc (.cells #[.string ⟨#[]⟩, .int .i64 0, .slice none 0 0, .slice none 0 0, .slice none 0 0, .slice none 0 0, .slice none 0 0] 29)).heap.size by rw [hsz]; omega) 6).trans g6; clear e0 g0 e1 g1 e2 g2 e3 g3 e4 g4 e5 g5 e6 g6))
  refine wp_loop_rounds 1 ?_
  rw [rounds_succ]
  go_wp2
  refine wp_loop_rounds 1 ?_
  rw [rounds_succ]
  go_wp2
  go_ret
  exact ⟨rfl, hB.trans ⟨hB1.os, hB1.tape, hB1.output, hB1.size, fun k hk => hB1.block k (by omega)⟩⟩
end Go.Proofs.Ytjgngmmepheioaa


namespace Go.Proofs.Ytjgngmmepheioaa
open Go.RowKit

def pk0 : Pk := ⟨[], 0, [], [], [], [], []⟩
theorem enc0 : encP pk0 = [76, 86, 89, 49, 0, 0, 0, 0, 0, 0, 0] := by
  simp [encP, pk0, encS, encI, encL, zig, encN_small]
theorem z15_eq : encP pk0 ++ sum4 (fnvB (encP pk0)) = [76, 86, 89, 49, 0, 0, 0, 0, 0, 0, 0, 107, 221, 142, 116] := by
  rw [enc0]
  kernel_rfl
theorem z15_read : rPack [76, 86, 89, 49, 0, 0, 0, 0, 0, 0, 0, 107, 221, 142, 116] 0 = .ok (pk0, 15) := by kernel_rfl
theorem z6_read : rPack [76, 86, 89, 49, 128, 0] 0 = .error (4, 71) := by kernel_rfl
theorem InB.of_own {W : World} {base n : Nat} {a : Option Addr} {cap : Nat} {l : List UInt8} (h : W.ownsRow base 5 1 (.slice a n cap) l.length (Go.Lib.byteCells l)) : InB W a cap l := by
  have h0 := h
  obtain ⟨_, ⟨e, hn⟩ | ⟨g, cp, cur, e, hb, hc, hle, _⟩⟩ := h0
  · injection e with e1 e2 e3
    subst e1 e3
    exact ⟨.inl (List.eq_nil_of_length_eq_zero hn), fun _ => rfl, by omega⟩
  · injection e with e1 e2 e3
    subst e1 e2 e3
    refine ⟨.inr ⟨g, 0, rfl, heap_lt hc, fun i hi => ?_⟩, fun h => by (cases h), by omega⟩
    rw [Nat.zero_add, h.cellAt i (by omega)]
    unfold Go.Lib.byteCells
    rw [List.getElem?_map, List.getElem?_eq_getElem hi]
    rfl
theorem InB.pre {W : World} {a : Option Addr} {cap : Nat} {l : List UInt8} (h : InB W a cap l) (n : Nat) : InB W a cap (l.take n) := by
  obtain ⟨h1, h2, h3⟩ := h
  refine ⟨?_, h2, by rw [List.length_take]; omega⟩
  rcases h1 with rfl | ⟨b, off, ha, hb, hc⟩
  · left; simp
  · right
    refine ⟨b, off, ha, hb, fun i hi => ?_⟩
    rw [List.length_take] at hi
    rw [hc i (by omega), List.getElem_take]
theorem InB.bel {W W' : World} {a : Option Addr} {cap n : Nat} {l : List UInt8} (h : InB W a cap l) (hB : Below n W W') (hn : W.heap.size ≤ n) : InB W' a cap l := by
  obtain ⟨h1, h2, h3⟩ := h
  refine ⟨?_, h2, h3⟩
  rcases h1 with rfl | ⟨b, off, ha, hb, hc⟩
  · exact .inl rfl
  · exact .inr ⟨b, off, ha, Nat.lt_of_lt_of_le hb hB.size, fun i hi => (bel_cell hB (Nat.lt_of_lt_of_le hb hn) _).trans (hc i hi)⟩
theorem InB.lit (W : World) (l : List UInt8) (cs : Array Value) (h : cs.toList = Go.Lib.byteCells l) : InB (W.alloc (.cells cs 5)) (some ⟨W.heap.size, 0, none⟩) l.length l := by
  refine ⟨.inr ⟨W.heap.size, 0, rfl, by simp, fun i hi => ?_⟩, fun h => by (cases h), Nat.le_refl _⟩
  have hb := (bx_new W cs 5).2.1 i (by rw [h]; unfold Go.Lib.byteCells; rw [List.length_map]; exact hi)
  rw [Nat.zero_add, hb, h]
  unfold Go.Lib.byteCells
  rw [List.getElem?_map, List.getElem?_eq_getElem hi]
  rfl
theorem Below.tr {n m : Nat} {W X Y : World} (h : Below n W X) (k : Below m X Y) (hm : n ≤ m) : Below n W Y := h.trans ⟨k.os, k.tape, k.output, k.size, fun b hb => k.block b (Nat.lt_of_lt_of_le hb hm)⟩
/-- What is written of it is read. -/
theorem get15 (a : Option Addr) (cap : Nat) (W : World) (h : InB W a cap [76, 86, 89, 49, 0, 0, 0, 0, 0, 0, 0, 107, 221, 142, 116]) : Calls Try.prog 6 #[.slice a 15 cap] W fun e W' => Below W.heap.size W W' ∧ ∃ a3 c3 a4 c4 a5 c5 a6 c6 a7 c7, e = .returned (.tuple #[.agg #[.string ⟨#[]⟩, .int .i64 0, .slice a3 0 c3, .slice a4 0 c4, .slice a5 0 c5, .slice a6 0 c6, .slice a7 0 c7], .int .i64 0, .int .i64 0]) := by
  refine (get_any a cap [76, 86, 89, 49, 0, 0, 0, 0, 0, 0, 0, 107, 221, 142, 116] W h).mono ?_
  rintro e W' ⟨hB, ⟨h1, -⟩ | ⟨-, ft, er, h1, -⟩ | ⟨-, p, a2, cs, h1, rfl, a3, c3, a4, c4, a5, c5, a6, c6, a7, c7, rfl, -⟩⟩
  · exact absurd h1 (by decide)
  · rw [z15_read] at h1; cases h1
  · rw [z15_read] at h1
    cases h1
    exact ⟨hB, a3, c3, a4, c4, a5, c5, a6, c6, a7, c7, rfl⟩
theorem get6 (a : Option Addr) (cap : Nat) (W : World) (h : InB W a cap [76, 86, 89, 49, 128, 0]) : Calls Try.prog 6 #[.slice a 6 cap] W fun e W' => Below W.heap.size W W' ∧ e = .returned (.tuple #[.agg #[.string ⟨#[]⟩, .int .i64 0, .slice none 0 0, .slice none 0 0, .slice none 0 0, .slice none 0 0, .slice none 0 0], .int .i64 4, .int .i64 71]) := by
  refine (get_any a cap [76, 86, 89, 49, 128, 0] W h).mono ?_
  rintro e W' ⟨hB, ⟨h1, -⟩ | ⟨-, ft, er, h1, -, -, rfl⟩ | ⟨-, p, a2, cs, h1, rfl, -⟩⟩
  · exact absurd h1 (by decide)
  · rw [z6_read] at h1
    cases h1
    exact ⟨hB, rfl⟩
  · rw [z6_read] at h1; cases h1
theorem sum0 (W : World) : Calls Try.prog 75 #[.slice none 0 0] W fun e W' => e = .returned (.int .u32 2166136261) ∧ W = W' := by
  have := sum_any none 0 [] (by decide) W ⟨fun n hn => by simp at hn, .inl rfl⟩
  rw [show ((fnv [] : Nat) : Int) = 2166136261 from by kernel_rfl] at this
  refine this.mono ?_
  rintro e W' ⟨rfl, rfl⟩
  exact ⟨rfl, rfl⟩
end Go.Proofs.Ytjgngmmepheioaa


namespace Go.Proofs.Ytjgngmmepheioaa
open Go.RowKit

theorem get_cases (a : Option Addr) (cap : Nat) (l : List UInt8) (W : World) (h : InB W a cap l) : Calls Try.prog 6 #[.slice a l.length cap] W fun e W' => Below W.heap.size W W' ∧ ((∃ ft er : Nat, ft ≤ l.length ∧ er ≠ 0 ∧ e = .returned (.tuple #[.agg #[.string ⟨#[]⟩, .int .i64 0, .slice none 0 0, .slice none 0 0, .slice none 0 0, .slice none 0 0, .slice none 0 0], .int .i64 (ft : Int), .int .i64 (er : Int)])) ∨ ∃ (p : Pk) (a3 : Option Addr) (c3 : Nat) (a4 : Option Addr) (c4 : Nat) (a5 : Option Addr) (c5 : Nat) (a6 : Option Addr) (c6 : Nat) (a7 : Option Addr) (c7 : Nat), e = .returned (.tuple #[.agg #[.string ⟨p.name.toArray⟩, .int .i64 p.year, .slice a3 p.opts.length c3, .slice a4 p.tabs.length c4, .slice a5 p.grps.length c5, .slice a6 p.lns.length c6, .slice a7 p.cks.length c7], .int .i64 0, .int .i64 0]) ∧ PkE W' (fun b => b < W'.heap.size) p [.string ⟨p.name.toArray⟩, .int .i64 p.year, .slice a3 p.opts.length c3, .slice a4 p.tabs.length c4, .slice a5 p.grps.length c5, .slice a6 p.lns.length c6, .slice a7 p.cks.length c7] ∧ Hid (l.length ≤ 131072 ∧ l = encP p ++ sum4 (fnvB (encP p)) ∧ okP p)) := by
  refine (get_any a cap l W h).mono ?_
  rintro e W' ⟨hB, ⟨h1, rfl⟩ | ⟨-, ft, er, h1, h2, h3, rfl⟩ | ⟨hl, p, a2, cs, h1, rfl, hE⟩⟩
  · exact ⟨hB, .inl ⟨0, 72, Nat.zero_le _, by decide, rfl⟩⟩
  · exact ⟨hB, .inl ⟨ft, er, h3, h2, rfl⟩⟩
  · have hE0 := hE
    obtain ⟨a3, c3, a4, c4, a5, c5, a6, c6, a7, c7, rfl, -⟩ := hE0
    exact ⟨hB, .inr ⟨p, a3, c3, a4, c4, a5, c5, a6, c6, a7, c7, rfl, pke_mo hE (fun b hb _ => hb), ⟨hl, rPack_sound h1⟩⟩⟩
end Go.Proofs.Ytjgngmmepheioaa

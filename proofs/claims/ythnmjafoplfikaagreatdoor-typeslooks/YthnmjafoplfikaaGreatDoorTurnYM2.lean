import Derived.Test.YthnmjafoplfikaaGreatDoorTurnYM1
namespace Go.Proofs.YthnmjafoplfikaaGreatDoor
open Go.RowKit

def loadX : Oper → TypeId × Operand
  | ⟨_, .load t x, _, _, _, _⟩ => (t, x)
  | _ => (0, .const undef)
/-- The variables' cells. -/
def Lc (s : Nat) (w : World) : Prop := ∀ b j, b < 22 → w.cell? ⟨s + b, j, none⟩ = (lits.getD b (#[], 0)).1.toList[j]?
def trip (s b : Nat) : (TypeId × Value) × Value := (((lits.getD b (#[], 0)).2, .pointer (some ⟨s + b, 0, none⟩)), .agg (lits.getD b (#[], 0)).1)
set_option maxRecDepth 20000 in
theorem ld_0 (s : Nat) (w : World) (hC : Lc s w) : (Instr.loadAt (trip s 0).1.1 (trip s 0).1.2).run Tryz.prog w = .ok (trip s 0).2 w := by
  have h0 := hC 0 0 (by decide)
  have h1 := hC 0 1 (by decide)
  simp [trip, lits] at h0 h1 ⊢
  simp [go_sem, h0, h1]
set_option maxRecDepth 20000 in
theorem ld_1 (s : Nat) (w : World) (hC : Lc s w) : (Instr.loadAt (trip s 1).1.1 (trip s 1).1.2).run Tryz.prog w = .ok (trip s 1).2 w := by
  have h0 := hC 1 0 (by decide)
  have h1 := hC 1 1 (by decide)
  simp [trip, lits] at h0 h1 ⊢
  simp [go_sem, h0, h1]
set_option maxRecDepth 20000 in
theorem ld_5 (s : Nat) (w : World) (hC : Lc s w) : (Instr.loadAt (trip s 5).1.1 (trip s 5).1.2).run Tryz.prog w = .ok (trip s 5).2 w := by
  have h0 := hC 5 0 (by decide)
  have h1 := hC 5 1 (by decide)
  have h2 := hC 5 2 (by decide)
  have h3 := hC 5 3 (by decide)
  simp [trip, lits] at h0 h1 h2 h3 ⊢
  simp [go_sem, h0, h1, h2, h3]
set_option maxRecDepth 20000 in
theorem ld_6 (s : Nat) (w : World) (hC : Lc s w) : (Instr.loadAt (trip s 6).1.1 (trip s 6).1.2).run Tryz.prog w = .ok (trip s 6).2 w := by
  have h0 := hC 6 0 (by decide)
  have h1 := hC 6 1 (by decide)
  have h2 := hC 6 2 (by decide)
  have h3 := hC 6 3 (by decide)
  simp [trip, lits] at h0 h1 h2 h3 ⊢
  simp [go_sem, h0, h1, h2, h3]
set_option maxRecDepth 20000 in
theorem ld_7 (s : Nat) (w : World) (hC : Lc s w) : (Instr.loadAt (trip s 7).1.1 (trip s 7).1.2).run Tryz.prog w = .ok (trip s 7).2 w := by
  have h0 := hC 7 0 (by decide)
  have h1 := hC 7 1 (by decide)
  have h2 := hC 7 2 (by decide)
  have h3 := hC 7 3 (by decide)
  simp [trip, lits] at h0 h1 h2 h3 ⊢
  simp [go_sem, h0, h1, h2, h3]
set_option maxRecDepth 20000 in
theorem ld_11 (s : Nat) (w : World) (hC : Lc s w) : (Instr.loadAt (trip s 11).1.1 (trip s 11).1.2).run Tryz.prog w = .ok (trip s 11).2 w := by
  have h0 := hC 11 0 (by decide)
  have h1 := hC 11 1 (by decide)
  have h2 := hC 11 2 (by decide)
  have h3 := hC 11 3 (by decide)
  simp [trip, lits] at h0 h1 h2 h3 ⊢
  simp [go_sem, h0, h1, h2, h3]
set_option maxRecDepth 20000 in
theorem ld_12 (s : Nat) (w : World) (hC : Lc s w) : (Instr.loadAt (trip s 12).1.1 (trip s 12).1.2).run Tryz.prog w = .ok (trip s 12).2 w := by
  have h0 := hC 12 0 (by decide)
  have h1 := hC 12 1 (by decide)
  have h2 := hC 12 2 (by decide)
  have h3 := hC 12 3 (by decide)
  simp [trip, lits] at h0 h1 h2 h3 ⊢
  simp [go_sem, h0, h1, h2, h3]
set_option maxRecDepth 20000 in
theorem ld_13 (s : Nat) (w : World) (hC : Lc s w) : (Instr.loadAt (trip s 13).1.1 (trip s 13).1.2).run Tryz.prog w = .ok (trip s 13).2 w := by
  have h0 := hC 13 0 (by decide)
  have h1 := hC 13 1 (by decide)
  have h2 := hC 13 2 (by decide)
  have h3 := hC 13 3 (by decide)
  simp [trip, lits] at h0 h1 h2 h3 ⊢
  simp [go_sem, h0, h1, h2, h3]
set_option maxRecDepth 20000 in
theorem ld_14 (s : Nat) (w : World) (hC : Lc s w) : (Instr.loadAt (trip s 14).1.1 (trip s 14).1.2).run Tryz.prog w = .ok (trip s 14).2 w := by
  have h0 := hC 14 0 (by decide)
  have h1 := hC 14 1 (by decide)
  have h2 := hC 14 2 (by decide)
  have h3 := hC 14 3 (by decide)
  simp [trip, lits] at h0 h1 h2 h3 ⊢
  simp [go_sem, h0, h1, h2, h3]
set_option maxRecDepth 20000 in
theorem ld_15 (s : Nat) (w : World) (hC : Lc s w) : (Instr.loadAt (trip s 15).1.1 (trip s 15).1.2).run Tryz.prog w = .ok (trip s 15).2 w := by
  have h0 := hC 15 0 (by decide)
  have h1 := hC 15 1 (by decide)
  have h2 := hC 15 2 (by decide)
  have h3 := hC 15 3 (by decide)
  simp [trip, lits] at h0 h1 h2 h3 ⊢
  simp [go_sem, h0, h1, h2, h3]
set_option maxRecDepth 20000 in
theorem ld_16 (s : Nat) (w : World) (hC : Lc s w) : (Instr.loadAt (trip s 16).1.1 (trip s 16).1.2).run Tryz.prog w = .ok (trip s 16).2 w := by
  have h0 := hC 16 0 (by decide)
  have h1 := hC 16 1 (by decide)
  have h2 := hC 16 2 (by decide)
  have h3 := hC 16 3 (by decide)
  simp [trip, lits] at h0 h1 h2 h3 ⊢
  simp [go_sem, h0, h1, h2, h3]
set_option maxRecDepth 100000 in
theorem load_list (s : Nat) : ((opsOf 6 Tryz.f72).toList.filter isLoad).map (fun o => (((loadX o).1, (opFin s).eval (loadX o).2), (opFin s).eval (.tmp (o.dst.getD 0)))) = [0, 0, 0, 0, 0, 0, 0, 0, 0, 5, 5, 5, 5, 5, 5, 5, 1, 11, 14, 1, 14, 1, 11, 0, 11, 7, 7, 6, 6, 6, 6, 12, 12, 12, 16, 7, 7, 13, 13, 13, 13, 15].map (trip s) := by kernel_rfl
theorem ld_any (s : Nat) (w : World) (hC : Lc s w) : ∀ b ∈ [0, 1, 5, 6, 7, 11, 12, 13, 14, 15, 16], (Instr.loadAt (trip s b).1.1 (trip s b).1.2).run Tryz.prog w = .ok (trip s b).2 w := by
  intro b hb
  simp at hb
  rcases hb with rfl | rfl | rfl | rfl | rfl | rfl | rfl | rfl | rfl | rfl | rfl
  · exact ld_0 s w hC
  · exact ld_1 s w hC
  · exact ld_5 s w hC
  · exact ld_6 s w hC
  · exact ld_7 s w hC
  · exact ld_11 s w hC
  · exact ld_12 s w hC
  · exact ld_13 s w hC
  · exact ld_14 s w hC
  · exact ld_15 s w hC
  · exact ld_16 s w hC
theorem exec_load {P : Program} (ρ : Operand → Value) (o : Oper) (h : isLoad o = true) (w : World) (v : Value) (hl : (Instr.loadAt (loadX o).1 (ρ (loadX o).2)).run P w = .ok v w) : (execOp ρ o).run P w = .ok (.value v) w := by
  obtain ⟨dst, op, ty, pos, af, gd⟩ := o
  cases op
  case load t x =>
    simp only [loadX] at hl
    simp only [execOp, Sem.run_bind, hl, Result.andThen_ok, Sem.run_pure]
  all_goals (simp [isLoad] at h)
theorem load_sub : ∀ b ∈ [0, 0, 0, 0, 0, 0, 0, 0, 0, 5, 5, 5, 5, 5, 5, 5, 1, 11, 14, 1, 14, 1, 11, 0, 11, 7, 7, 6, 6, 6, 6, 12, 12, 12, 16, 7, 7, 13, 13, 13, 13, 15], b ∈ [0, 1, 5, 6, 7, 11, 12, 13, 14, 15, 16] := by decide
theorem load_run (s : Nat) (w : World) (hC : Lc s w) (o : Oper) (ho : o ∈ (opsOf 6 Tryz.f72).toList.filter isLoad) : (execOp (opFin s).eval o).run Tryz.prog w = .ok (.value ((opFin s).eval (.tmp (o.dst.getD 0)))) w := by
  have hm : (((loadX o).1, (opFin s).eval (loadX o).2), (opFin s).eval (.tmp (o.dst.getD 0))) ∈ [0, 0, 0, 0, 0, 0, 0, 0, 0, 5, 5, 5, 5, 5, 5, 5, 1, 11, 14, 1, 14, 1, 11, 0, 11, 7, 7, 6, 6, 6, 6, 12, 12, 12, 16, 7, 7, 13, 13, 13, 13, 15].map (trip s) := by
    rw [← load_list]
    exact List.mem_map.2 ⟨o, ho, rfl⟩
  obtain ⟨b, hb, he⟩ := List.mem_map.1 hm
  have hl := ld_any s w hC b (load_sub b hb)
  rw [he] at hl
  exact exec_load _ o (List.mem_filter.1 ho).2 w _ hl
end Go.Proofs.YthnmjafoplfikaaGreatDoor

import Derived.Test.YtekapipfaahhcaaGreatDoorDYear
namespace Go.Proofs.YtekapipfaahhcaaGreatDoor
open Go.RowKit

/-- A variable of three cells. -/
def Box3 (w : World) (b : Nat) (x y z : Value) : Prop := w.cell? ⟨b, 0, none⟩ = some x ∧ w.cell? ⟨b, 1, none⟩ = some y ∧ w.cell? ⟨b, 2, none⟩ = some z ∧ w.frozen? ⟨b, 0, none⟩ = false ∧ w.frozen? ⟨b, 1, none⟩ = false ∧ w.frozen? ⟨b, 2, none⟩ = false
theorem Box3.lt {w : World} {b : Nat} {x y z : Value} (h : Box3 w b x y z) : b < w.heap.size := World.block_lt_of_cell? _ _ h.1
theorem Box3.later {w w' : World} {b : Nat} {x y z : Value} (h : Box3 w b x y z) (hb : Below w.heap.size w w') : Box3 w' b x y z := by
  have hl := h.lt
  obtain ⟨h0, h1, h2, h3, h4, h5⟩ := h
  exact ⟨(hb.cell (p := ⟨b, 0, none⟩) hl).trans h0, (hb.cell (p := ⟨b, 1, none⟩) hl).trans h1, (hb.cell (p := ⟨b, 2, none⟩) hl).trans h2, (hb.frozen (p := ⟨b, 0, none⟩) hl).trans h3, (hb.frozen (p := ⟨b, 1, none⟩) hl).trans h4, (hb.frozen (p := ⟨b, 2, none⟩) hl).trans h5⟩
theorem Box3.alloc {w : World} {b : Nat} {x y z : Value} (h : Box3 w b x y z) (o : Obj) : Box3 (w.alloc o) b x y z := h.later ((Below.refl _ _).alloc (Nat.le_refl _) _)
theorem Box3.drew {w : World} {b : Nat} {x y z : Value} (h : Box3 w b x y z) : Box3 w.drew b x y z := h.later (Below.refl _ _).drew
theorem Box3.drewN {w : World} {b : Nat} {x y z : Value} (h : Box3 w b x y z) (n : Nat) : Box3 (w.drewN n) b x y z := h.later (below_drewN (Below.refl _ _) n)
theorem Box3.new (w : World) (x y z : Value) (t : TypeId) : Box3 (w.alloc (.cells #[x, y, z] t)) w.heap.size x y z := by
  refine ⟨?_, ?_, ?_, ?_, ?_, ?_⟩
  · rw [World.cell?_alloc_at _ _ _ _ rfl]; rfl
  · rw [World.cell?_alloc_at _ _ _ _ rfl]; rfl
  · rw [World.cell?_alloc_at _ _ _ _ rfl]; rfl
  · exact World.frozen?_alloc_at _ _ _ _ rfl
  · exact World.frozen?_alloc_at _ _ _ _ rfl
  · exact World.frozen?_alloc_at _ _ _ _ rfl
theorem Box3.of {w : World} {b c : Nat} {x y z : Value} (h : Box3 w b x y z) (e : b = c) : Box3 w c x y z := e ▸ h

/-- One call behind the other. -/
theorem below_step {w X w1 : World} (h : Below w.heap.size w X) (hb : Below X.heap.size X w1) : Below w.heap.size w w1 := h.trans (hb.mono h.size)

def Hid (p : Prop) : Prop := p
theorem Hid.out {p : Prop} (h : Hid p) : p := h

theorem numberOf_any (y m d : Int) (hy0 : 1900 ≤ y) (hy1 : y ≤ 2199) (hm0 : 1 ≤ m) (hm1 : m ≤ 12) (hd0 : -100 ≤ d) (hd1 : d ≤ 100) (w : World) (hM : Mon w) :
    Calls Tryz.prog 157 #[.agg #[.int .i64 y, .int .i64 m, .int .i64 d]] w fun e w' => e = .returned (.int .i64 (D.ys y + D.ms y m + d - 1)) ∧ Below w.heap.size w w' := by
  have hB := Box3.new w (.int .i64 y) (.int .i64 m) (.int .i64 d) 193
  have hYs := fun W => yearStart_any y hy0 (by omega) W
  have by' := D.ys_bd y hy0 (by omega)
  have bm := D.ms_bd y m hm0 (by omega)
  have hM1 := hM.alloc (.cells #[.int .i64 y, .int .i64 m, .int .i64 d] 193)
  have e1 : wrap64 (D.ys y + d) = D.ys y + d := wrap64_id (by omega) (by omega)
  have e2 : wrap64 (D.ys y + d - 1) = D.ys y + d - 1 := wrap64_id (by omega) (by omega)
  obtain ⟨b0, b1, b2, -, -, -⟩ := id hB
  go_enter Tryz.func157, Tryz.ntmps157
  go_wp2
  go_quiet ((go_at_call 163; exact Calls.quiet_of_same (hYs _)))
  go_wp2
  go_loopw [3, 4] (fun v x wr => ∃ j : Int, x = .int .i64 j ∧ 1 ≤ j ∧ j ≤ m ∧ v = .int .i64 (D.ys y + d - 1 + D.ms y j) ∧ Mon wr ∧ Box3 wr w.heap.size (.int .i64 y) (.int .i64 m) (.int .i64 d) ∧ Below w.heap.size w wr) (fun _ x _ => (m - intOf x).toNat)
  case atStart => exact ⟨1, rfl, by omega, by omega, by rw [D.ms_1]; simp, hM1.drewN _, hB.drewN _, below_drewN ((Below.refl _ _).alloc (Nat.le_refl _) _) _⟩
  case round =>
    obtain ⟨j, rfl, j1, j2, rfl, hMr, hBr, hbr⟩ := hrel
    obtain ⟨b0, b1, b2, -, -, -⟩ := id hBr
    by_cases hj : j = m
    · subst hj
      go_wp2
      go_ret
      exact ⟨ret_int (by omega), hbr⟩
    · have hlt : j < m := by omega
      have bl := D.last_bd y j j1 (by omega)
      have es := D.ms_succ y j j1 (by omega)
      have bj := D.ms_bd y j j1 (by omega)
      have hL := last_any y j wr hMr _ rfl
      generalize D.last y j = L at *
      generalize D.ms y j = S at *
      have e3 : wrap64 (D.ys y + d - 1 + S + L) = D.ys y + d - 1 + S + L := wrap64_id (by omega) (by omega)
      have e4 : wrap64 (j + 1) = j + 1 := wrap64_id (by omega) (by omega)
      go_wp2_with (go_at_call 155; refine hL.mono ?_; rintro e w' ⟨rfl, rfl⟩)
      go_roundw
      case rel => exact ⟨j + 1, rfl, by omega, by omega, by rw [es]; simp only [Int.add_assoc], hMr, hBr, hbr⟩
      case measure => simp [intOf]; omega

end Go.Proofs.YtekapipfaahhcaaGreatDoor

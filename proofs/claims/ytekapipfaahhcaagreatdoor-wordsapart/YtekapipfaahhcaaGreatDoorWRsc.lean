import Derived.Test.YtekapipfaahhcaaGreatDoorWR9
import Derived.Test.YtekapipfaahhcaaGreatDoorWSame
namespace Go.Proofs.YtekapipfaahhcaaGreatDoor.Q
open Go.RowKit Go.Shelf

set_option maxRecDepth 4000 in
set_option maxHeartbeats 1000000 in
theorem rscan_any (s : ByteArray) (w : World) (hS : RSgn w) : Calls Tryz.prog 4 #[.string s] w (ScanP s w) := by
  have hu := upto_any s w hS
  have hpost : Hid (∀ e w', (Below w.heap.size w w' ∧ ((∃ pre x, foundL s.data.toList = pre ++ [x] ∧ x.2.2 ≠ 0 ∧ e = .returned (.tuple #[.slice none 0 0, .int .i64 (x.2.1 : Int), .int .i64 (x.2.2 : Int)])) ∨ ((∀ x ∈ foundL s.data.toList, x.2.2 = 0) ∧ ∃ v, e = .returned (.tuple #[v, .int .i64 0, .int .i64 0]) ∧ w'.ownsRow w.heap.size 66 5 v (foundL s.data.toList).length (tokLs (foundL s.data.toList))))) → ScanP s w e w') := fun e w' h => h
  go_enter Tryz.func4, Tryz.ntmps4
  go_wp2_with (first | (go_at_call 10; refine hu.mono ?_; rintro e w1 ⟨hb1, ⟨pre, x, v, hL, hx, hpre, rfl, ho⟩ | ⟨hall, v, rfl, ho⟩⟩))
  · have hne : ((x.2.2 : Int) != 0) = true := by simp; omega
    have hL' : Hid (foundL s.data.toList = pre ++ [x]) := hL
    clear hL hpre
    go_wp2_with fail
    refine bodyPost_ret (v := .tuple #[.slice none 0 0, .int .i64 (x.2.1 : Int), .int .i64 (x.2.2 : Int)]) (by simp [results, Tryz.results4, go_sem]) rfl ?_
    exact hpost.out _ _ ⟨hb1, .inl ⟨pre, x, hL'.out, hx, rfl⟩⟩
  · obtain ⟨lp, lm, lc, rfl⟩ := own_slice ho
    go_wp2_with fail
    refine bodyPost_ret (v := .tuple #[.slice lp lm lc, .int .i64 0, .int .i64 0]) (by simp [results, Tryz.results4, go_sem]) rfl ?_
    exact hpost.out _ _ ⟨hb1, .inr ⟨hall, _, rfl, ho⟩⟩

end Go.Proofs.YtekapipfaahhcaaGreatDoor.Q

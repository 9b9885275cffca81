import Derived.Test.YthbojlbgjmecoaaGreatDmF
import Derived.Defers
/- change. -/
namespace Go.Proofs.YthbojlbgjmecoaaGreat.DJ
open Go.RowKit

/-- The deferred function where the machine has not fallen. -/
theorem change1_no {e : Int} (he : (e == 190) = false) (eb xb : Nat) (u : FrameMode) (w : World) (h0 : w.cell? ⟨eb, 0, none⟩ = some (.int .i64 e)) :
    CallsD Tryz.prog 86 #[.pointer (some ⟨eb, 0, none⟩), .pointer (some ⟨xb, 0, none⟩)] u w fun e u' w' => u' = u ∧ (e = .returned (.tuple #[]) ∧ w' = w) := by
  go_enter_d Tryz.func86, Tryz.ntmps86
  go_wp2
  go_end0
  exact ⟨rfl, rfl⟩
set_option maxRecDepth 4000 in
set_option maxHeartbeats 1000000 in
theorem change1_yes {lo db : Nat} {S : Nat → Prop} {d : Dk} (eb xb : Nat) (u : FrameMode) (w : World) (h0 : w.cell? ⟨eb, 0, none⟩ = some (.int .i64 190)) (h1 : w.cell? ⟨xb, 0, none⟩ = some (.pointer (some ⟨db, 0, none⟩))) (h : DiskAt w lo S db d) :
    CallsD Tryz.prog 86 #[.pointer (some ⟨eb, 0, none⟩), .pointer (some ⟨xb, 0, none⟩)] u w fun e u' w' => u' = u ∧ (e = .returned (.tuple #[]) ∧ DiskAt w' lo S db (falls d) ∧ GrS (fun k => k = db) w w') := by
  have hc := crash_any w h
  clear h
  go_enter_d Tryz.func86, Tryz.ntmps86
  go_wp2_with (go_at_call 29; refine hc.mono ?_; rintro e w9 ⟨rfl, hD9, hg9⟩)
  go_end0
  exact ⟨rfl, hD9, hg9⟩
end Go.Proofs.YthbojlbgjmecoaaGreat.DJ

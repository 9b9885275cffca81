import Derived.Test.YtaecodgmfmijlaaDoorDLast
import Derived.Test.YtaecodgmfmijlaaDoorRows
import Derived.Test.YtaecodgmfmijlaaDoorTie
import Derived.Test.YtaecodgmfmijlaaDoorCards
import Derived.ProofKit
import Derived.LaidMore
import Derived.OpenShut
import Derived.Stop.Joined
import Derived.Lib.SmallJoins
import Derived.Deep.Strs
import Derived.SevenTiedAt
namespace Go.Proofs.YtaecodgmfmijlaaDoor
open Go.ChangeShapes Go.WideShapes Go.ChangeAt Go.WideMaps Go.WideElems Go.RowKit Go.Joins

theorem own : ownKnob Tryd.prog.godebug = none := by kernel_rfl
theorem gMon : Tryd.prog.globalNamed "levy/days.monthDays" = some 0 := by kernel_rfl
theorem tMon : (Tryd.prog.globals[0]?).map (·.type) = some 62 := by kernel_rfl
theorem cInt : Tryd.prog.cellsOf 3 = 1 := by kernel_rfl

abbrev laidK : List (String × DataW Unit) := [("levy/days.monthDays", Rows.laid_levy_days_monthDays)]

theorem take_one {α : Type} {l : List α} {i : Nat} {x : α} (h : (l.drop i).take 1 = [x]) : l[i]? = some x := by
  have := congrArg (fun l => l[0]?) h
  simpa using this

/-- WHAT THE TIED TABLE GIVES THE WALKS. -/
theorem mon_of_laid {W : World} (h : laidMetH Tryd.prog laidK W) : Mon W := by
  rw [MakeChecks.laidMetH_plain _ _ _ (by kernel_rfl)] at h
  obtain ⟨ps, ⟨g0, t0, cs0, f0, p0, q0, hg0, ht0, hv0, hd0, _, _⟩, _, _⟩ := h
  obtain rfl := Option.some.inj (gMon.symm.trans hg0)
  obtain rfl := Option.some.inj (tMon.symm.trans ht0)
  obtain ⟨xs, m1, rfl, hx1, hlen, hn, hel⟩ := DataW.trod_array Tryd.underlying62 hd0
  have hcell := fun j => World.var?_cell hg0 hv0 j
  have key : ∀ i : Nat, i < 12 → ∃ a : Int, cs0[i]? = some (.int .i64 a) ∧ (xs.map (·.1))[i]? = some (.lit (.int .i64 a)) := by
    intro i hi
    have h1 := hel i hi
    obtain ⟨x, hx⟩ : ∃ x, xs[i]? = some x := ⟨xs[i]'(by omega), by simp⟩
    rw [hx, cInt] at h1
    obtain ⟨a, ea, hxe, _⟩ := DataW.trod_int Tryd.underlying3 h1
    refine ⟨a, ?_, by simp [hx, hxe]⟩
    have := take_one ea; simpa using this
  have hD := (Prod.mk.injEq .. ▸ hx1).1
  simp only [Rows.laid_levy_days_monthDays, DataW.agg.injEq] at hD
  refine ⟨?_, fun i hi => ?_⟩
  · obtain ⟨a, ha, _⟩ := key 0 (by omega)
    exact World.block_lt_of_cell? _ _ ((hcell 0).trans (by simpa using ha))
  · obtain ⟨a, ha, hx⟩ := key i hi
    rw [hcell, ha]
    rw [← hD] at hx
    have : i = 0 ∨ i = 1 ∨ i = 2 ∨ i = 3 ∨ i = 4 ∨ i = 5 ∨ i = 6 ∨ i = 7 ∨ i = 8 ∨ i = 9 ∨ i = 10 ∨ i = 11 := by omega
    rcases this with rfl | rfl | rfl | rfl | rfl | rfl | rfl | rfl | rfl | rfl | rfl | rfl <;> simp at hx <;> subst hx <;> simp [D.md]

/-- The door's own heap meets the condition. -/
theorem door_met (os : Os) (args : Array Value) : laidMetH Tryd.prog laidK ((World.doorLaid Tryd.prog 400 os).forCall (fun _ _ => 0) ⟨#[], args, []⟩).memory :=
  laidMetH_of_parts3 (fuel := 8) (laidMet_of_run' 8 (by kernel_rfl) (by kernel_rfl)) (by kernel_rfl) (by kernel_rfl)

theorem range64 {n : Int} (h : (Lit.int .i64 n).wf = true) : -9223372036854775808 ≤ n ∧ n ≤ 9223372036854775807 := by
  simp [Lit.wf, IntKind.min, IntKind.max, IntKind.signed, IntKind.bits] at h
  omega

end Go.Proofs.YtaecodgmfmijlaaDoor

import Derived.Test.YteefieidfgpijaaCgC
import Derived.Test.YteefieidfgpijaaCgB
import Derived.Test.YteefieidfgpijaaCrG
import Derived.Test.YteefieidfgpijaaCqC
namespace Go.Proofs.Yteefieidfgpijaa.CF
open Go.RowKit
attribute [local go_sem] run_store_float

theorem line_any (x : Int) (h : 0 ≤ x ∧ x ≤ 1000) (v : Int) (hv : x / 2 = v) (w : World) : Calls Try.prog 23 #[.int .i64 x] w fun e w' => e = .returned (.agg #[.int .i64 1, .int .i64 v]) ∧ Below w.heap.size w w' := by
  have hq : x.tdiv 2 = v := by rw [Int.tdiv_eq_ediv_of_nonneg h.1, hv]
  have hvb : 0 ≤ v ∧ v ≤ 1000 := by omega
  have hB : Below w.heap.size w (w.alloc (.cells #[.int .i64 1, .int .i64 v] 25)) := (Below.refl _ _).alloc (Nat.le_refl _) _
  clear hv
  go_enter Try.func23, Try.ntmps23
  go_wp2
  exact bodyPost_ret (v := .agg #[.int .i64 1, .int .i64 v]) (by simp [results, Try.results23, go_sem]) rfl ⟨rfl, hB⟩
/-- The chapter's first example. -/
def D0 : Dots := [(0, 0), (200, 1120403456), (400, 1128792064), (600, 1133903872)]
theorem D0_eq : ptsW 0 200 (fun k => (k : Int) * 100) 4 = D0 := by decide +kernel
theorem D0_io : inO D0 = true := by decide +kernel
theorem D0_ok : Ok D0 := by
  intro d hd
  simp only [D0, List.mem_cons, List.not_mem_nil, or_false] at hd
  rcases hd with rfl | rfl | rfl | rfl <;> exact ⟨by decide, by decide⟩
theorem D0_slope : slopeD D0 = [(0, 1056964608), (200, 1056964608), (400, 1056964608)] ∧ slopeE D0 = 0 := by decide +kernel
theorem D0_btw : btwN (200, 1120403456) (400, 1128792064) 300 = 1125515264 := by decide +kernel
theorem D0_at : AtR D0 300 1125515264 0 := .inr (.inr (.inr (.inr ⟨D0_io, by decide, by decide, by decide, rfl, 2, by decide, by decide, by decide, .inr ⟨by decide, by decide, D0_btw.symm⟩⟩)))
theorem D0_line : lineL D0 3 7 3 = [32, 32, 32, 32, 32, 32, 42] ∧ lineL D0 3 7 0 = [42, 45, 45, 45, 45, 45, 45] := by decide +kernel
theorem D0_draw : DrR D0 7 4 0 (textsL D0 3 7 4) := .inr (.inr (.inr ⟨7, 3, ⟨rfl, rfl, by decide, by decide, by decide⟩, D0_io, by decide +kernel, rfl, rfl⟩))
end Go.Proofs.Yteefieidfgpijaa.CF

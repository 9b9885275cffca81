import Derived.Test.YtnmcniibcjjflaaDoorTurnRefRound
namespace Go.Proofs.YtnmcniibcjjflaaDoor
open Go.RowKit

theorem refuse_one_some {t : Bool} {k n x y : Int} (h : M.mish [(k, n)] = some (x, y)) : M.refuse t k n [] = some (x, y) := M.refuse_some_any h
theorem refuse_one {t : Bool} {k n : Int} (h : M.mish [(k, n)] = none) : M.refuse t k n [] = if t = true then none else some (6, 5) := by
  unfold M.refuse
  rw [h]
  cases t <;> rfl

theorem rround_any (k0 n0 unit mode : Int) (w : World) (m : Int × Bool) (hm : Hid (m = M.wh (decide (n0 < 0)) mode n0.natAbs unit.natAbs)) (r : Int × Int) (hr : Hid (r = M.ans (M.refuse (takesB k0 8) k0 n0 []) (M.rnd unit mode m.2 (wrap64 (m.1 * unit))))) :
    Calls Tryd.prog 46 #[.agg #[.int .i64 k0, .int .i64 n0], .int .i64 unit, .int .i64 mode] w fun e w' => e = .returned (.agg #[.int .i64 r.1, .int .i64 r.2]) ∧ Below w.heap.size w w' := by
  cases h1 : M.mish [(k0, n0)] with
  | some v =>
    have e2 : r = (v.1, v.2) := by rw [hr.out, refuse_one_some (x := v.1) (y := v.2) h1]; rfl
    rw [e2]
    exact rround_some k0 n0 unit mode w v.1 v.2 h1
  | none =>
    by_cases hk : k0 = 1
    · subst hk
      have e3 : r = M.rnd unit mode m.2 (wrap64 (m.1 * unit)) := by rw [hr.out, refuse_one h1]; rfl
      have v0 := M.valid_1 (M.mish_none h1 (1, n0) (by simp)).1
      by_cases hu : 1 ≤ unit ∧ unit ≤ 9999999999999
      · by_cases hmd : 1 ≤ mode ∧ mode ≤ 5
        · refine rround_ok n0 unit mode w h1 hu.1 hu.2 hmd v0.1 v0.2 _ rfl r ?_
          have hs : n0.natAbs / unit.natAbs ≤ 9999999999999 := Nat.le_trans (Nat.div_le_self _ _) (by omega)
          unfold Hid
          rw [e3, M.rnd_ok hu hmd, hm.out, M.wh_small hs]
        · rw [e3, M.rnd_no (fun h => hmd h.2)]
          exact rround_mode n0 unit mode w h1 (decide_eq_true hu) hmd
      · rw [e3, M.rnd_no (fun h => hu h.1)]
        exact rround_unit n0 unit mode w h1 (decide_eq_false hu)
    · have e2 : r = (6, 5) := by
        rw [hr.out, refuse_one h1, takes_8, if_neg (by simpa using hk)]
        rfl
      rw [e2]
      exact rround_k0 k0 n0 unit mode w h1 (by simpa using hk)

end Go.Proofs.YtnmcniibcjjflaaDoor

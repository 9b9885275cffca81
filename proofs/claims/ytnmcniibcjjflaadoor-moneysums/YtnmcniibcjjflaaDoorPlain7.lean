import Derived.Test.YtnmcniibcjjflaaDoorPlain5
import Derived.Test.YtnmcniibcjjflaaDoorPlain6
/- THE PLAIN MATHEMATICS of layer 1, more: the rounded quotient on paper is the other one. -/
namespace Go.Proofs.YtnmcniibcjjflaaDoor
namespace M

theorem rq_ge (s : Bool) (mode : Int) (q r d : Nat) : q ≤ rq s mode q r d := by unfold rq; split <;> omega

theorem fit_far_out (s : Bool) {n : Nat} (h : 9999999999999 < n) : fit true 1 (sgn s n) = (6, 1) := by
  refine fit_over ?_
  unfold valid sgn
  simp
  cases s <;> simp <;> omega

/-- 'whole' and 'rounded', each made a value. -/
theorem fit_same (s : Bool) (mode : Int) (p d : Nat) : fit true 1 (sgn s (rq s mode (cap14 (p / d)) (p % d) d)) = fit (wh s mode p d).2 1 (wh s mode p d).1 := by
  unfold wh
  by_cases h : p / d ≤ 9999999999999
  · rw [if_pos h, cap14_small (by omega), rq_same]
  · rw [if_neg h, fit_far]
    refine fit_far_out s ?_
    have h1 := rq_ge s mode (cap14 (p / d)) (p % d) d
    have h2 : 10000000000000 ≤ cap14 (p / d) := by unfold cap14; split <;> omega
    omega

theorem digs_getD (n i : Nat) : (digs n).getD i 0 ≤ 1000000 := by
  by_cases h : i < (digs n).length
  · have := digs_lt n _ (List.getElem_mem h)
    rw [List.getD_eq_getElem?_getD, List.getElem?_eq_getElem h]
    simp
    omega
  · rw [List.getD_eq_getElem?_getD, List.getElem?_eq_none (by omega)]
    simp

end M
end Go.Proofs.YtnmcniibcjjflaaDoor

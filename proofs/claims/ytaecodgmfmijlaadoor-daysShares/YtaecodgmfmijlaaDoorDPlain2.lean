import Derived.Test.YtaecodgmfmijlaaDoorDPlain
namespace Go.Proofs.YtaecodgmfmijlaaDoor
namespace D

theorem addv_mono {n m k d k2 d2 by' : Int} (h : At n k d) (h2 : At m k2 d2) (hl : n ≤ m) : addv k d by' ≤ addv k2 d2 by' := by
  have hk := h.le h2 hl
  have a1 := ln_bd (k + by')
  have a2 := ln_bd (k2 + by')
  have b1 := h.d0
  have b2 := h2.d0
  unfold addv
  by_cases he : k = k2
  · subst he
    have c1 := h.eq
    have c2 := h2.eq
    split <;> split <;> omega
  · have c := bg_mono (j := k + by' + 1) (k := k2 + by') (by omega)
    rw [bg_succ] at c
    split <;> split <;> omega
theorem addv_next {n k d : Int} (h : At n k d) (by' : Int) : addv k d by' < addv k d (by' + 1) := by
  have a1 := ln_bd (k + by')
  have a2 := ln_bd (k + (by' + 1))
  have b1 := h.d0
  have c := bg_succ (k + by')
  rw [show k + by' + 1 = k + (by' + 1) by omega] at c
  unfold addv
  split <;> split <;> omega
theorem addv_zero {n k d : Int} (h : At n k d) : addv k d 0 = n := by
  have := h.d1
  have := h.eq
  unfold addv
  rw [show k + 0 = k by omega, if_pos (by omega)]
  omega
theorem addv_ge {n k d by' : Int} (h : At n k d) (h0 : 0 ≤ by') : n ≤ addv k d by' := by
  by_cases he : by' = 0
  · rw [he, addv_zero h]; omega
  · have a := h.hi
    have b := bg_mono (j := k + 1) (k := k + by') (by omega)
    have c := h.d0
    have e := ln_bd (k + by')
    unfold addv
    split <;> omega
theorem addv_lt {n k d by' : Int} (h : At n k d) (h0 : by' < 0) : addv k d by' < n := by
  have a := h.lo
  have b := bg_mono (j := k + by' + 1) (k := k) (by omega)
  rw [bg_succ] at b
  have e := ln_bd (k + by')
  unfold addv
  split <;> omega
theorem bet_up {n k d by' : Int} (h : At n k d) (h0 : 0 ≤ by') (h1 : k + by' < 3600) : BetIs n (addv k d by') by' 0 := by
  have hA := addv_at h (by have := h.k0; omega) h1
  have hB := BetIs.le k d _ _ h hA (addv_ge h h0)
  have e : whole k d (k + by') (addv k d by') = by' := by
    unfold whole
    rw [show k + by' - k = by' by omega, if_neg (by omega)]
  rw [e] at hB
  exact hB
theorem bet_down {n k d by' : Int} (h : At n k d) (h0 : by' < 0) (h1 : 0 ≤ k + by') : ∃ v, BetIs n (addv k d by') (-v) 0 ∧ BetIs (addv k d by') n v 0 ∧ 0 ≤ v ∧ v ≤ 3600 := by
  have hA := addv_at h h1 (by have := h.k1; omega)
  have hl := addv_lt h h0
  have hb := whole_bd hA h (by omega)
  exact ⟨_, .gt k d _ _ h hA hl, .le _ _ k d hA h (by omega), hb.1, hb.2⟩
theorem tmod_bd (n c : Int) (hc : 0 < c) : -c < n.tmod c ∧ n.tmod c < c := by
  have := Int.natAbs_tmod n c
  have h2 : n.natAbs % c.natAbs < c.natAbs := Nat.mod_lt _ (by omega)
  omega

end D
end Go.Proofs.YtaecodgmfmijlaaDoor

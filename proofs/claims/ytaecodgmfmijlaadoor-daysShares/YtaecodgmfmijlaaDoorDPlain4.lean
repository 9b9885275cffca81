import Derived.Test.YtaecodgmfmijlaaDoorDPlain3
namespace Go.Proofs.YtaecodgmfmijlaaDoor
namespace D

theorem at_num {n k d : Int} (h : At n k d) : num (1900 + k / 12) (k % 12 + 1) (d + 1) = (n, 0) := by
  have h0 := h.k0
  have h1 := h.k1
  have h2 := h.d0
  have h3 : d < last (1900 + k / 12) (k % 12 + 1) := h.d1
  have h4 := h.eq
  have h5 : bg k = ys (1900 + k / 12) + ms (1900 + k / 12) (k % 12 + 1) := rfl
  unfold num
  rw [if_neg (by omega), if_neg (by omega)]
  simp
  omega
theorem at_max : At 109572 3599 30 := ⟨by omega, by omega, by omega, by decide, by decide⟩
theorem At.next {n k d : Int} (h : At n k d) (hn : n < 109572) : (d + 1 < ln k ∧ At (n + 1) k (d + 1)) ∨ (d + 1 = ln k ∧ At (n + 1) (k + 1) 0) := by
  have h0 := h.k0
  have h1 := h.k1
  have h2 := h.d0
  have h3 := h.d1
  have h4 := h.eq
  by_cases c : d + 1 < ln k
  · exact .inl ⟨c, h0, h1, by omega, c, by omega⟩
  · have e : d + 1 = ln k := by omega
    have hb := bg_succ k
    have hk : k + 1 < 3600 := by
      apply Classical.byContradiction
      intro hc
      have : k = 3599 := by omega
      subst this
      have h5 := bg_end
      rw [show (3600 : Int) = 3599 + 1 by omega] at h5
      omega
    have l := ln_bd (k + 1)
    exact .inr ⟨e, by omega, hk, by omega, by omega, by omega⟩

end D
end Go.Proofs.YtaecodgmfmijlaaDoor

import Derived.Test.YtdhjpnnpeicpiaaGreatDoorTurnWSpl
/- THE TEXT OF A DAY. No program. -/
namespace Go.Proofs.YtdhjpnnpeicpiaaGreatDoor.Q

def d2 (n k : Nat) : UInt8 := UInt8.ofNat (48 + n / 10 ^ k % 10)
def dtT (Y M K : Nat) : List UInt8 := [d2 Y 3, d2 Y 2, d2 Y 1, d2 Y 0, 45, d2 M 1, d2 M 0, 45, d2 K 1, d2 K 0]
open Classical in
noncomputable def dtx (n : Nat) : List UInt8 := if h : ∃ p : Int × Int, D.At (n : Int) p.1 p.2 then dtT (1900 + h.choose.1 / 12).toNat (h.choose.1 % 12 + 1).toNat (h.choose.2 + 1).toNat else []
theorem dtx_at {n : Nat} {k d : Int} (h : D.At (n : Int) k d) {Y M K : Nat} (hY : (Y : Int) = 1900 + k / 12) (hM : (M : Int) = k % 12 + 1) (hK : (K : Int) = d + 1) : dtx n = dtT Y M K := by
  have hex : ∃ p : Int × Int, D.At (n : Int) p.1 p.2 := ⟨(k, d), h⟩
  unfold dtx
  rw [dif_pos hex]
  obtain ⟨h1, h2⟩ := D.At.uniq hex.choose_spec h
  rw [h1, h2, ← hY, ← hM, ← hK]
  rfl
theorem num_at {y m d v : Int} (h : D.num y m d = (v, 0)) : ∃ k d', D.At v k d' ∧ y = 1900 + k / 12 ∧ m = k % 12 + 1 ∧ d = d' + 1 := by
  unfold D.num at h
  split at h
  · cases h
  · rename_i h1
    split at h
    · cases h
    · rename_i h2
      injection h with h _
      have hm : 1 ≤ m ∧ m ≤ 12 := by
        apply Classical.byContradiction
        intro hn
        have := D.last_no y m (by omega)
        omega
      obtain ⟨y1, y2⟩ := D.ym (y := y) hm.1 hm.2
      refine ⟨12 * (y - 1900) + m - 1, d - 1, ⟨by omega, by omega, by omega, ?_, ?_⟩, y1.symm, y2.symm, by omega⟩
      · rw [D.ln_ym hm.1 hm.2]; omega
      · rw [D.bg_ym hm.1 hm.2]; omega
theorem d2_is {b : UInt8} {n k : Nat} (hb : 48 ≤ b.toNat ∧ b.toNat ≤ 57) (h : n / 10 ^ k % 10 = b.toNat - 48) : d2 n k = b := by
  unfold d2
  rw [h, of_nat8 b hb]
theorem take_dX (x : List UInt8) (hs : (dX x 0).size = 10) : (dX x 0).data.toList = x.take 10 ∧ 10 ≤ x.length := by
  have hl : 10 ≤ x.length := by
    have : (dX x 0).size = min (0 + 10) x.length := by
      unfold dX slc
      show (List.toArray _).size = _
      rw [List.size_toArray, List.length_drop, List.length_take]
      omega
    omega
  refine ⟨?_, hl⟩
  unfold dX slc
  rw [show min (0 + 10) x.length = 10 from by omega]
  simp
theorem dtx_back (x : List UInt8) (hf : dForm (dX x 0)) (h0 : (dNum (dX x 0)).2 = 0) : dtx (dNum (dX x 0)).1.toNat = x.take 10 := by
  obtain ⟨hs, hck⟩ := hf
  obtain ⟨ht, hl⟩ := take_dX x hs
  rw [← ht]
  generalize dX x 0 = X at *
  have hat : ∀ i, i < 10 → ∃ b : UInt8, X.data.toList[i]? = some b ∧ ck i b.toNat = true ∧ cc X i = (b.toNat : Int) - 48 := fun i hi => by
    have hi' : i < X.size := by omega
    refine ⟨X[i], ?_, hck i hi', ?_⟩
    · have : i < X.data.toList.length := by rw [size_list]; exact hi'
      rw [List.getElem?_eq_getElem this, at_list X i hi']
    · unfold cc
      rw [dif_pos hi']
  have hlen : X.data.toList.length = 10 := by rw [size_list]; exact hs
  obtain ⟨b0, l0, k0, c0⟩ := hat 0 (by decide)
  obtain ⟨b1, l1, k1, c1⟩ := hat 1 (by decide)
  obtain ⟨b2, l2, k2, c2⟩ := hat 2 (by decide)
  obtain ⟨b3, l3, k3, c3⟩ := hat 3 (by decide)
  obtain ⟨b4, l4, k4, c4⟩ := hat 4 (by decide)
  obtain ⟨b5, l5, k5, c5⟩ := hat 5 (by decide)
  obtain ⟨b6, l6, k6, c6⟩ := hat 6 (by decide)
  obtain ⟨b7, l7, k7, c7⟩ := hat 7 (by decide)
  obtain ⟨b8, l8, k8, c8⟩ := hat 8 (by decide)
  obtain ⟨b9, l9, k9, c9⟩ := hat 9 (by decide)
  have hlist : X.data.toList = [b0, b1, b2, b3, b4, b5, b6, b7, b8, b9] := by
    apply List.ext_getElem?
    intro i
    by_cases hi : i < 10
    · have : i = 0 ∨ i = 1 ∨ i = 2 ∨ i = 3 ∨ i = 4 ∨ i = 5 ∨ i = 6 ∨ i = 7 ∨ i = 8 ∨ i = 9 := by omega
      rcases this with rfl | rfl | rfl | rfl | rfl | rfl | rfl | rfl | rfl | rfl <;> assumption
    · rw [List.getElem?_eq_none (by omega), List.getElem?_eq_none (by simp; omega)]
  have dig : ∀ i (b : UInt8), ¬ (i = 4 ∨ i = 7) → ck i b.toNat = true → 48 ≤ b.toNat ∧ b.toNat ≤ 57 := fun i b hi h => by
    unfold ck at h
    rw [if_neg hi] at h
    have := of_decide_eq_true h
    omega
  have sig : ∀ i (b : UInt8), (i = 4 ∨ i = 7) → ck i b.toNat = true → b = 45 := fun i b hi h => by
    unfold ck at h
    rw [if_pos hi] at h
    have := of_decide_eq_true h
    exact UInt8.toNat_inj.1 (by show b.toNat = 45; omega)
  have d0 := dig 0 b0 (by decide) k0
  have d1 := dig 1 b1 (by decide) k1
  have d2' := dig 2 b2 (by decide) k2
  have d3 := dig 3 b3 (by decide) k3
  have e4 := sig 4 b4 (by decide) k4
  have d5 := dig 5 b5 (by decide) k5
  have d6 := dig 6 b6 (by decide) k6
  have e7 := sig 7 b7 (by decide) k7
  have d8 := dig 8 b8 (by decide) k8
  have d9 := dig 9 b9 (by decide) k9
  obtain ⟨v, e⟩ : ∃ v, dNum X = (v, 0) := ⟨(dNum X).1, by rw [← h0]⟩
  rw [e, hlist]
  unfold dNum at e
  obtain ⟨k, d', hA, hy, hm, hd⟩ := num_at e
  have hv := hA.nn
  simp only [dval, show 4 - 0 = 4 from rfl, Nat.zero_add, c0, c1, c2, c3] at hy
  simp only [dval, show 7 - 5 = 2 from rfl, Nat.add_zero, c5, show 5 + 1 = 6 from rfl, c6] at hm
  simp only [dval, show 10 - 8 = 2 from rfl, Nat.add_zero, c8, show 8 + 1 = 9 from rfl, c9] at hd
  have hA' : D.At ((v.toNat : Nat) : Int) k d' := by rw [Int.toNat_of_nonneg hv.1]; exact hA
  rw [dtx_at (Y := 1000 * (b0.toNat - 48) + 100 * (b1.toNat - 48) + 10 * (b2.toNat - 48) + (b3.toNat - 48)) (M := 10 * (b5.toNat - 48) + (b6.toNat - 48)) (K := 10 * (b8.toNat - 48) + (b9.toNat - 48)) hA' (by omega) (by omega) (by omega)]
  unfold dtT
  rw [d2_is d0 (by omega), d2_is d1 (by omega), d2_is d2' (by omega), d2_is d3 (by omega), d2_is d5 (by omega), d2_is d6 (by omega), d2_is d8 (by omega), d2_is d9 (by omega), e4, e7]

end Go.Proofs.YtdhjpnnpeicpiaaGreatDoor.Q

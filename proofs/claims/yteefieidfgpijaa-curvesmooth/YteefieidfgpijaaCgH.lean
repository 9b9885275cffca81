import Derived.Test.YteefieidfgpijaaCgG
namespace Go.Proofs.Yteefieidfgpijaa.CF
open Go.RowKit
attribute [local go_sem] run_store_float

def mnZ (Z : Nat → Int) : Nat → Int
  | 0 => 0
  | k + 1 => if k = 0 ∨ Z k < mnZ Z k then Z k else mnZ Z k
def mxZ (Z : Nat → Int) : Nat → Int
  | 0 => 0
  | k + 1 => if k = 0 ∨ mxZ Z k < Z k then Z k else mxZ Z k
theorem mnZ_le (Z : Nat → Int) : ∀ k j, j < k → mnZ Z k ≤ Z j
  | k + 1, j, h => by
    unfold mnZ
    by_cases hj : j = k
    · subst hj; split <;> omega
    · have := mnZ_le Z k j (by omega)
      split <;> omega
theorem mxZ_le (Z : Nat → Int) : ∀ k j, j < k → Z j ≤ mxZ Z k
  | k + 1, j, h => by
    unfold mxZ
    by_cases hj : j = k
    · subst hj; split <;> omega
    · have := mxZ_le Z k j (by omega)
      split <;> omega
theorem mnZ_b {Z : Nat → Int} {m : Nat} (hz : ∀ k, k < m → (Z k).natAbs ≤ 10000) : ∀ k, k ≤ m → (mnZ Z k).natAbs ≤ 10000 ∧ (mxZ Z k).natAbs ≤ 10000
  | 0, _ => ⟨by show (0 : Int).natAbs ≤ _; decide, by show (0 : Int).natAbs ≤ _; decide⟩
  | k + 1, h => by
    have ih := mnZ_b hz k (by omega)
    have h2 := hz k (by omega)
    unfold mnZ mxZ
    constructor
    · split <;> omega
    · split <;> omega
theorem own_capW {w : World} {base n size : Nat} {e : TypeId} {a : Option Addr} {c : Nat} {xs : List Value} (h : w.ownsRow base e size (.slice a n c) n xs) : n ≤ c := by
  obtain ⟨_, ⟨e, rfl⟩ | ⟨g, cap', cur, h1, _, _, h2, _⟩⟩ := h
  · omega
  · injection h1 with h1 h3 h4
    omega
theorem smooth_ok {X Z : Nat → Int} {m : Nat} (h : Snd X Z m) {r : Nat} (hr : r ≤ 6) : smoothD (WD X Z m) (2 * (r : Int) + 1) = smoothN (WD X Z m) r m ∧ smoothE (WD X Z m) (2 * (r : Int) + 1) = 0 := by
  have ho : okW (2 * (r : Int) + 1) = true := by
    unfold okW
    rw [decide_eq_false (by omega), decide_eq_false (by omega), Int.tmod_eq_emod_of_nonneg (by omega)]
    have : ((2 * (r : Int) + 1) % 2 == 0) = false := beq_eq_false_iff_ne.2 (by omega)
    rw [this]
    rfl
  unfold smoothD smoothE
  rw [if_pos ⟨ho, WD_io h⟩, if_neg (by rw [ho]; decide), if_pos (WD_io h), WD_len, show ((2 * (r : Int) + 1 - 1) / 2).toNat = r by omega]
  exact ⟨rfl, rfl⟩
/-- A smoothed point. -/
theorem smooth_pt {X Z : Nat → Int} {m r k : Nat} (hz : ∀ k, k < m → (Z k).natAbs ≤ 10000) (hr : r ≤ 6) (hk : k < m) : ∃ u, (smoothN (WD X Z m) r m).getD k (0, 0) = (X k, u) ∧ u < 4294967296 ∧ u % 2147483648 < 2139095040 ∧ ordN (wholeN (mnZ Z m)) ≤ ordN u ∧ ordN u ≤ ordN (wholeN (mxZ Z m)) ∧ (r = 0 → ordN u = ordN (wholeN (Z k))) ∧ (∀ z, z.natAbs ≤ 10000 → (∀ j, j < m → Z j = z) → ordN u = ordN (wholeN z)) := by
  have hb := mnZ_b hz m (Nat.le_refl _)
  have h1 : loN k r < hiN k r m := by unfold loN hiN; omega
  have h2 : hiN k r m ≤ m := by unfold hiN; omega
  have h3 : hiN k r m - loN k r ≤ 20 := by unfold loN hiN; omega
  obtain ⟨q1, q2, q3⟩ := mean_b (X := X) hz h1 h2 h3
  refine ⟨_, by rw [smoothN_get _ _ _ _ hk, WD_get X Z hk, WD_len], q1, q2, (q3 _ hb.1).2 (fun j _ hj => mnZ_le Z m j (by omega)), (q3 _ hb.2).1 (fun j _ hj => mxZ_le Z m j (by omega)), fun h0 => ?_, fun z hzb hall => ?_⟩
  · have hzk := hz k hk
    have e : ∀ j, loN k r ≤ j → j < hiN k r m → j = k := fun j a b => by unfold loN at a; unfold hiN at b; omega
    have a1 := (q3 (Z k) hzk).1 (fun j a b => by rw [e j a b]; exact Int.le_refl _)
    have a2 := (q3 (Z k) hzk).2 (fun j a b => by rw [e j a b]; exact Int.le_refl _)
    omega
  · have a1 := (q3 z hzb).1 (fun j a b => by rw [hall j (by omega)]; exact Int.le_refl _)
    have a2 := (q3 z hzb).2 (fun j a b => by rw [hall j (by omega)]; exact Int.le_refl _)
    omega
end Go.Proofs.Yteefieidfgpijaa.CF

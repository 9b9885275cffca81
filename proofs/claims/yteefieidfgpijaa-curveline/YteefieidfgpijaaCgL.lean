import Derived.Test.YteefieidfgpijaaCgG
namespace Go.Proofs.Yteefieidfgpijaa.CF
open Go.RowKit

/-- A line. -/
def lX (i : Nat) : Int := 0 + (i : Int) * 4
def lZ (k b : Int) (i : Nat) : Int := k * (0 + (i : Int) * 4) + b
theorem lZ_succ (k b : Int) (i : Nat) : lZ k b (i + 1) - lZ k b i = 4 * k := by
  unfold lZ
  have e : (0 + ((i + 1 : Nat) : Int) * 4) = (0 + (i : Int) * 4) + 4 := by omega
  rw [e, Int.mul_add]
  omega
theorem lZ_b {k b : Int} (hk : -1000 ≤ k ∧ k ≤ 1000) (hb : -100000 ≤ b ∧ b ≤ 100000) {i : Nat} (hi : i ≤ 62) : -348000 ≤ lZ k b i ∧ lZ k b i ≤ 348000 := by
  unfold lZ
  have h1 : k * (0 + (i : Int) * 4) ≤ 1000 * (0 + (i : Int) * 4) := Int.mul_le_mul_of_nonneg_right hk.2 (by omega)
  have h2 : -1000 * (0 + (i : Int) * 4) ≤ k * (0 + (i : Int) * 4) := Int.mul_le_mul_of_nonneg_right hk.1 (by omega)
  omega
theorem snd_L {k b : Int} (hk : -1000 ≤ k ∧ k ≤ 1000) (hb : -100000 ≤ b ∧ b ≤ 100000) {m : Nat} (hm : m ≤ 62) : Snd lX (lZ k b) m :=
  ⟨fun i _ => by unfold lX; omega, fun i hi => by unfold lX; omega, fun i hi => by have := lZ_b hk hb (i := i) (by omega); omega⟩
theorem ptsW_WD (f s : Int) (g : Nat → Int) : ∀ m, ptsW f s g m = WD (fun i => f + (i : Int) * s) g m
  | 0 => rfl
  | m + 1 => by
    rw [WD_succ, ← ptsW_WD f s g m]
    rfl
/-- Slopes of a line. -/
theorem slope_L {k b : Int} (hk : -1000 ≤ k ∧ k ≤ 1000) (hb : -100000 ≤ b ∧ b ≤ 100000) {m : Nat} (hm : m ≤ 62) : ∀ n, n < m → (slopeN (WD lX (lZ k b) m) n).length = n ∧ ∀ i, i < n → ∃ u, (slopeN (WD lX (lZ k b) m) n).getD i (0, 0) = (lX i, u) ∧ u < 4294967296 ∧ u % 2147483648 < 2139095040 ∧ ordN u = ordN (wholeN k)
  | 0, _ => ⟨rfl, fun i hi => absurd hi (by omega)⟩
  | n + 1, h => by
    obtain ⟨ih1, ih2⟩ := slope_L hk hb hm n (by omega)
    refine ⟨slopeN_len _ _, fun i hi => ?_⟩
    have e : slopeN (WD lX (lZ k b) m) (n + 1) = slopeN (WD lX (lZ k b) m) n ++ [(((WD lX (lZ k b) m).getD n (0, 0)).1, riseN ((WD lX (lZ k b) m).getD n (0, 0)) ((WD lX (lZ k b) m).getD (n + 1) (0, 0)))] := rfl
    rw [e, List.getD_eq_getElem?_getD]
    by_cases hin : i < n
    · obtain ⟨u, hu⟩ := ih2 i hin
      refine ⟨u, ?_⟩
      rw [List.getElem?_append_left (by omega), ← List.getD_eq_getElem?_getD]
      exact hu
    · obtain rfl : i = n := by omega
      rw [List.getElem?_append_right (by omega), ih1, Nat.sub_self]
      have b1 := lZ_b hk hb (i := i) (by omega)
      have b2 := lZ_b hk hb (i := i + 1) (by omega)
      obtain ⟨q1, q2, q3⟩ := quo_whole (S := 4 * k) (n := 4) (by omega) (by decide) (by decide)
      obtain ⟨q4, q5⟩ := q3 k (by omega)
      refine ⟨divN (wholeN (4 * k)) (wholeN ((4 : Nat) : Int)), ?_, q1, q2, ?_⟩
      · show ((((WD lX (lZ k b) m).getD i (0, 0)).1, riseN ((WD lX (lZ k b) m).getD i (0, 0)) ((WD lX (lZ k b) m).getD (i + 1) (0, 0))) : Int × Nat) = _
        rw [WD_get _ _ (by omega), WD_get _ _ (by omega)]
        unfold riseN
        simp only
        rw [sub_whole (by omega), lZ_succ, show lX (i + 1) - lX i = ((4 : Nat) : Int) by unfold lX; omega]
      · have a1 := q4 (by omega)
        have a2 := q5 (by omega)
        omega
/-- Rates along a line. -/
theorem rate_L {k b : Int} (hk : -1000 ≤ k ∧ k ≤ 1000) (hb : -100000 ≤ b ∧ b ≤ 100000) {m : Nat} (hm : m ≤ 62) : ∀ n, n + 1 ≤ m → (rateN (WD lX (lZ k b) m) (n + 1)).length = n ∧ ∀ i, i < n → ∃ u, (rateN (WD lX (lZ k b) m) (n + 1)).getD i (0, 0) = (lX (i + 1), u) ∧ u < 4294967296 ∧ u % 2147483648 < 2139095040 ∧ (b = 0 → ordN u = ordN (wholeN k))
  | 0, h => by
    have e : rateN (WD lX (lZ k b) m) (0 + 1) = [] := by
      show rateN (WD lX (lZ k b) m) 0 ++ (if _ then _ else _) = _
      rw [WD_get _ _ (k := 0) (by omega), if_neg (fun hc => hc.1 rfl)]
      rfl
    rw [e]
    exact ⟨rfl, fun i hi => absurd hi (by omega)⟩
  | n + 1, h => by
    obtain ⟨ih1, ih2⟩ := rate_L hk hb hm n (by omega)
    have hb1 := lZ_b hk hb (i := n + 1) (by omega)
    obtain ⟨x1, x2, x3, x4⟩ := whole_parts (z := lZ k b (n + 1)) (by omega)
    have e : rateN (WD lX (lZ k b) m) (n + 1 + 1) = rateN (WD lX (lZ k b) m) (n + 1) ++ [(lX (n + 1), divN (wholeN (lZ k b (n + 1))) (wholeN (lX (n + 1))))] := by
      show rateN (WD lX (lZ k b) m) (n + 1) ++ (if _ then _ else _) = _
      rw [WD_get _ _ (by omega), if_pos ⟨by show lX (n + 1) ≠ 0; unfold lX; omega, by show wholeN _ % _ < _; omega⟩]
    rw [e]
    refine ⟨by rw [List.length_append, ih1]; rfl, fun i hi => ?_⟩
    rw [List.getD_eq_getElem?_getD]
    by_cases hin : i < n
    · obtain ⟨u, hu⟩ := ih2 i hin
      refine ⟨u, ?_⟩
      rw [List.getElem?_append_left (by omega), ← List.getD_eq_getElem?_getD]
      exact hu
    · obtain rfl : i = n := by omega
      rw [List.getElem?_append_right (by omega), ih1, Nat.sub_self]
      have ex : lX (i + 1) = ((4 * (i + 1) : Nat) : Int) := by unfold lX; omega
      obtain ⟨q1, q2, q3⟩ := quo_whole (S := lZ k b (i + 1)) (n := 4 * (i + 1)) (by omega) (by omega) (by omega)
      rw [← ex] at q1 q2 q3
      refine ⟨_, rfl, q1, q2, fun h0 => ?_⟩
      obtain ⟨q4, q5⟩ := q3 k (by omega)
      have ez : lZ k b (i + 1) = k * ((4 * (i + 1) : Nat) : Int) := by
        unfold lZ
        rw [h0, Int.add_zero]
        congr 1
      rw [← ex] at ez
      have a1 := q4 (by rw [ez]; exact Int.le_refl _)
      have a2 := q5 (by rw [ez]; exact Int.le_refl _)
      omega
/-- Heights at the points, and half way. -/
theorem at_L {k b : Int} (hk : -1000 ≤ k ∧ k ≤ 1000) (hb : -100000 ≤ b ∧ b ≤ 100000) {m i : Nat} (hm : m ≤ 62) (hi : i < m) : AtR (WD lX (lZ k b) m) (lX i) (wholeN (lZ k b i)) 0 := by
  have hS := snd_L hk hb hm
  refine .inr (.inr (.inr (.inr ⟨WD_io hS, by rw [WD_len]; omega, ?_, ?_, rfl, i, by rw [WD_len]; exact hi, fun j hj => ?_, ?_, .inl ⟨?_, ?_⟩⟩)))
  · rw [WD_get _ _ (by omega)]; show ¬ lX i < lX 0; unfold lX; omega
  · rw [WD_len, WD_get _ _ (by omega)]; show ¬ lX (m - 1) < lX i; unfold lX; omega
  · rw [WD_get _ _ (by omega)]; show lX j < lX i; unfold lX; omega
  · rw [WD_get _ _ (by omega)]; show ¬ lX i < lX i; omega
  · rw [WD_get _ _ (by omega)]
  · rw [WD_get _ _ (by omega)]
theorem half_q : divN (wholeN 2) (wholeN 4) = 1056964608 := by decide +kernel
theorem at_L2 {k b : Int} (hk : -1000 ≤ k ∧ k ≤ 1000) (hb : -100000 ≤ b ∧ b ≤ 100000) {m i : Nat} (hm : m ≤ 62) (hi : i + 1 < m) : AtR (WD lX (lZ k b) m) (lX i + 2) (wholeN (lZ k b i + 2 * k)) 0 := by
  have hS := snd_L hk hb hm
  refine .inr (.inr (.inr (.inr ⟨WD_io hS, by rw [WD_len]; omega, ?_, ?_, rfl, i + 1, by rw [WD_len]; exact hi, fun j hj => ?_, ?_, .inr ⟨?_, by omega, ?_⟩⟩)))
  · rw [WD_get _ _ (by omega)]; show ¬ lX i + 2 < lX 0; unfold lX; omega
  · rw [WD_len, WD_get _ _ (by omega)]; show ¬ lX (m - 1) < lX i + 2; unfold lX; omega
  · rw [WD_get _ _ (by omega)]; show lX j < lX i + 2; unfold lX; omega
  · rw [WD_get _ _ (by omega)]; show ¬ lX (i + 1) < lX i + 2; unfold lX; omega
  · rw [WD_get _ _ (by omega)]; show lX i + 2 < lX (i + 1); unfold lX; omega
  · have b1 := lZ_b hk hb (i := i) (by omega)
    have b2 := lZ_b hk hb (i := i + 1) (by omega)
    obtain ⟨x1, x2, x3, x4⟩ := whole_parts (z := 4 * k) (by omega)
    rw [Nat.add_sub_cancel, WD_get _ _ (by omega), WD_get _ _ (by omega)]
    unfold btwN
    simp only
    rw [sub_whole (by omega), lZ_succ, if_pos (by omega), show lX i + 2 - lX i = 2 by omega, show lX (i + 1) - lX i = 4 by unfold lX; omega, half_q, show 4 * k = 2 * (2 * k) by omega, half_whole (by omega), add_whole (by omega)]
theorem at_L3 {k b : Int} (hk : -1000 ≤ k ∧ k ≤ 1000) (hb : -100000 ≤ b ∧ b ≤ 100000) {m i : Nat} (hm : m ≤ 62) (hi : i + 1 = m) : AtR (WD lX (lZ k b) m) (lX i + 2) 0 175 := by
  have hS := snd_L hk hb hm
  refine .inr (.inr (.inr (.inl ⟨WD_io hS, by rw [WD_len]; omega, ?_, ?_, rfl, rfl⟩)))
  · rw [WD_get _ _ (by omega)]; show ¬ lX i + 2 < lX 0; unfold lX; omega
  · rw [WD_len, WD_get _ _ (by omega)]; show lX (m - 1) < lX i + 2; unfold lX; omega
/-- Jumps of a line. -/
theorem jump_L {k b : Int} (hk : -1000 ≤ k ∧ k ≤ 1000) (hb : -100000 ≤ b ∧ b ≤ 100000) {m : Nat} (hm : m ≤ 62) : ∀ n, n < m → (jumpsN (WD lX (lZ k b) m) (wholeN (max (4 * k) (-4 * k))) n).length = n
  | 0, _ => rfl
  | n + 1, h => by
    have ih := jump_L hk hb hm n (by omega)
    have b1 := lZ_b hk hb (i := n) (by omega)
    have b2 := lZ_b hk hb (i := n + 1) (by omega)
    obtain ⟨x1, x2, x3, x4⟩ := whole_parts (z := 4 * k) (by omega)
    obtain ⟨y1, y2, y3, y4⟩ := whole_parts (z := max (4 * k) (-4 * k)) (by omega)
    have hj : jmp (subN ((WD lX (lZ k b) m).getD (n + 1) (0, 0)).2 ((WD lX (lZ k b) m).getD n (0, 0)).2) (wholeN (max (4 * k) (-4 * k))) = true := by
      rw [WD_get _ _ (by omega), WD_get _ _ (by omega)]
      simp only
      rw [sub_whole (by omega), lZ_succ]
      unfold jmp
      rw [decide_eq_true]
      refine ⟨by omega, by omega, ?_⟩
      rw [whole_ord (by omega), if_neg (by omega), x2, show (max (4 * k) (-4 * k)).natAbs = (4 * k).natAbs by omega]
      exact Int.le_refl _
    show (jumpsN _ _ n ++ (if _ then _ else _)).length = _
    rw [if_pos hj, List.length_append, ih]
    rfl
end Go.Proofs.Yteefieidfgpijaa.CF

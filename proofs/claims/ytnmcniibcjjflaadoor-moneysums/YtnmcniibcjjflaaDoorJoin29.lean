import Derived.Test.YtnmcniibcjjflaaDoorJoin8
/- THE PLAIN MATHEMATICS of layer 1, more: the product on paper. -/
namespace Go.Proofs.YtnmcniibcjjflaaDoor
namespace M

/-- What n cells say. -/
def fval (f : Nat → Nat) : Nat → Nat
  | 0 => 0
  | n + 1 => fval f n + f n * 10 ^ n

theorem fval_congr {f g : Nat → Nat} {n : Nat} (h : ∀ i, i < n → f i = g i) : fval f n = fval g n := by
  induction n with
  | zero => rfl
  | succ n ih => simp only [fval]; rw [ih fun i hi => h i (by omega), h n (by omega)]

theorem fval_zero (n : Nat) : fval (fun _ => 0) n = 0 := by
  induction n with
  | zero => rfl
  | succ n ih => simp [fval, ih]

theorem fval_add (f : Nat → Nat) (x i : Nat) (n : Nat) (hi : i < n) : fval (fun j => if j = i then f i + x else f j) n = fval f n + x * 10 ^ i := by
  induction n with
  | zero => omega
  | succ n ih =>
    simp only [fval]
    by_cases h : i = n
    · subst h
      rw [if_pos rfl, fval_congr (g := f) fun j hj => if_neg (by omega), Nat.add_mul]
      omega
    · rw [ih (by omega), if_neg (Ne.symm h)]
      omega

/-- One carry leaves the number. -/
theorem fval_carry (f : Nat → Nat) (i n : Nat) (hi : i + 1 < n) : fval (fun j => if j = i then f i % 10 else if j = i + 1 then f (i + 1) + f i / 10 else f j) n = fval f n := by
  -- with the tens left in place i the number is the one with the tens put back
  have h1 := fval_add (fun j => if j = i then f i % 10 else f j) (f i / 10) (i + 1) n hi
  have h2 := fval_add (fun j => if j = i then f i % 10 else f j) (f i / 10 * 10) i n (by omega)
  have e1 : fval (fun j => if j = i then f i % 10 else if j = i + 1 then f (i + 1) + f i / 10 else f j) n = fval (fun j => if j = i + 1 then (fun j => if j = i then f i % 10 else f j) (i + 1) + f i / 10 else (fun j => if j = i then f i % 10 else f j) j) n := by
    refine fval_congr fun j _ => ?_
    by_cases hj : j = i
    · subst hj; simp
    · by_cases hk : j = i + 1
      · subst hk; simp
      · simp [hj, hk]
  have e2 : fval (fun j => if j = i then (fun j => if j = i then f i % 10 else f j) i + f i / 10 * 10 else (fun j => if j = i then f i % 10 else f j) j) n = fval f n := by
    refine fval_congr fun j _ => ?_
    by_cases hj : j = i
    · subst hj; simp; omega
    · simp [hj]
  rw [e1, h1, ← e2, h2, Nat.pow_succ, Nat.mul_comm (10 ^ i) 10, ← Nat.mul_assoc]

theorem val_range (f : Nat → Nat) (n : Nat) : val ((List.range n).map f) = fval f n := by
  induction n with
  | zero => rfl
  | succ n ih =>
    rw [List.range_succ, List.map_append, val_append, ih]
    simp [fval, val, Nat.mul_comm]

theorem val_take_succ (l : List Nat) (j : Nat) (h : j < l.length) : val (l.take (j + 1)) = val (l.take j) + l.getD j 0 * 10 ^ j := by
  rw [List.take_succ_eq_append_getElem h, val_append, List.getD_eq_getElem?_getD, List.getElem?_eq_getElem h]
  simp [val, Nat.mul_comm, Nat.min_eq_left (Nat.le_of_lt h)]

/-- One step of the product on paper. -/
theorem prod_step (f : Nat → Nat) (n : Nat) (A B : List Nat) (i k : Nat) (hk : k < B.length) (hn : i + k < n)
    (h : fval f n = val (A.take i) * val B + A.getD i 0 * 10 ^ i * val (B.take k)) :
    fval (fun j => if j = i + k then f (i + k) + A.getD i 0 * B.getD k 0 else f j) n = val (A.take i) * val B + A.getD i 0 * 10 ^ i * val (B.take (k + 1)) := by
  rw [fval_add f _ _ n hn, h, val_take_succ B k hk, Nat.mul_add, ← Nat.add_assoc, Nat.pow_add]
  congr 1
  rw [Nat.mul_mul_mul_comm]

theorem prod_row (A B : List Nat) (i : Nat) (hi : i < A.length) : val (A.take i) * val B + A.getD i 0 * 10 ^ i * val (B.take B.length) = val (A.take (i + 1)) * val B := by
  rw [val_take_succ A i hi, List.take_length, Nat.add_mul]

end M
end Go.Proofs.YtnmcniibcjjflaaDoor


/- THE PLAIN MATHEMATICS of layer 1, more: the sum on paper. -/
namespace Go.Proofs.YtnmcniibcjjflaaDoor
namespace M

theorem take_succ_any (l : List Nat) (j : Nat) : val (l.take (j + 1)) = val (l.take j) + l.getD j 0 * 10 ^ j := by
  by_cases h : j < l.length
  · exact val_take_succ l j h
  · rw [List.take_of_length_le (by omega), List.take_of_length_le (by omega), List.getD_eq_getElem?_getD, List.getElem?_eq_none (by omega)]
    simp

/-- How the sum on paper stands at place i. -/
def Sums (A B : List Nat) (n i : Nat) (f : Nat → Nat) : Prop :=
  fval f n = val (A.take i) + val (B.take i) ∧ (∀ j, j < i → f j ≤ 9) ∧ f i ≤ 1 ∧ ∀ j, i < j → f j = 0

theorem sums_zero (A B : List Nat) (n : Nat) : Sums A B n 0 (fun _ => 0) := by
  refine ⟨by rw [fval_zero]; simp [val], fun j h => absurd h (Nat.not_lt_zero j), by simp, fun _ _ => rfl⟩

theorem sums_low {A B : List Nat} {n i : Nat} {f : Nat → Nat} (h : Sums A B n i f) (hi : i < n) (hc : ¬ 9 < f i + (A.getD i 0 + B.getD i 0)) :
    Sums A B n (i + 1) (fun j => if j = i then f i + (A.getD i 0 + B.getD i 0) else f j) := by
  obtain ⟨h1, h2, h3, h4⟩ := h
  refine ⟨?_, fun j hj => ?_, ?_, fun j hj => ?_⟩
  · rw [fval_add f _ i n hi, h1, take_succ_any, take_succ_any, Nat.add_mul]
    omega
  · dsimp only
    by_cases e : j = i
    · rw [if_pos e]; omega
    · rw [if_neg e]; exact h2 j (by omega)
  · dsimp only
    rw [if_neg (by omega), h4 (i + 1) (by omega)]
    omega
  · dsimp only
    rw [if_neg (by omega)]
    exact h4 j (by omega)

theorem sums_high {A B : List Nat} {n i : Nat} {f : Nat → Nat} (h : Sums A B n i f) (hi : i + 1 < n) (dA : A.getD i 0 ≤ 9) (dB : B.getD i 0 ≤ 9) (hc : 9 < f i + (A.getD i 0 + B.getD i 0)) :
    Sums A B n (i + 1) (fun j => if j = i then f i + (A.getD i 0 + B.getD i 0) - 10 else if j = i + 1 then 1 else f j) := by
  obtain ⟨h1, h2, h3, h4⟩ := h
  refine ⟨?_, fun j hj => ?_, ?_, fun j hj => ?_⟩
  · have e := fval_carry (fun j => if j = i then f i + (A.getD i 0 + B.getD i 0) else f j) i n hi
    rw [fval_add f _ i n (by omega), h1] at e
    rw [take_succ_any, take_succ_any]
    generalize A.getD i 0 = α at *
    generalize B.getD i 0 = β at *
    have e2 : fval (fun j => if j = i then f i + (α + β) - 10 else if j = i + 1 then 1 else f j) n = val (A.take i) + val (B.take i) + (α + β) * 10 ^ i := by
      rw [← e]
      refine fval_congr fun j _ => ?_
      by_cases ej : j = i
      · subst ej; simp; omega
      · by_cases ek : j = i + 1
        · subst ek; simp [h4 (i + 1) (by omega)]; omega
        · simp [ej, ek]
    rw [e2, Nat.add_mul]
    omega
  · dsimp only
    by_cases e : j = i
    · rw [if_pos e]; omega
    · rw [if_neg e, if_neg (by omega)]; exact h2 j (by omega)
  · dsimp only
    rw [if_neg (by omega), if_pos rfl]
    omega
  · dsimp only
    rw [if_neg (by omega), if_neg (by omega)]
    exact h4 j (by omega)

theorem sums_end {A B : List Nat} {n : Nat} {f : Nat → Nat} (h : Sums A B n n f) (hA : A.length ≤ n) (hB : B.length ≤ n) : fval f n = val A + val B ∧ ∀ j, j < n → f j ≤ 9 := by
  refine ⟨?_, h.2.1⟩
  rw [h.1, List.take_of_length_le hA, List.take_of_length_le hB]

theorem no_carry {A B : List Nat} {n i : Nat} {f : Nat → Nat} (h : Sums A B n i f) (hA : A.length < n) (hB : B.length < n) (hi : i + 1 = n) : ¬ 9 < f i + (A.getD i 0 + B.getD i 0) := by
  have h1 := h.2.2.1
  have e1 : A.getD i 0 = 0 := by rw [List.getD_eq_getElem?_getD, List.getElem?_eq_none (by omega)]; rfl
  have e2 : B.getD i 0 = 0 := by rw [List.getD_eq_getElem?_getD, List.getElem?_eq_none (by omega)]; rfl
  omega

end M
end Go.Proofs.YtnmcniibcjjflaaDoor

import Derived.Test.YtnmcniibcjjflaaDoorJoin5
/- THE PLAIN MATHEMATICS of layer 1, more: numbers in tens. -/
namespace Go.Proofs.YtnmcniibcjjflaaDoor
namespace M

/-- The digits of a number, the lowest first. -/
def digs (n : Nat) : List Nat := if h : n = 0 then [] else n % 10 :: digs (n / 10)
termination_by n
decreasing_by omega

theorem digs_zero : digs 0 = [] := by rw [digs]; simp
theorem digs_pos {n : Nat} (h : n ≠ 0) : digs n = n % 10 :: digs (n / 10) := by rw [digs]; simp [h]

/-- What digits say. -/
def val : List Nat → Nat
  | [] => 0
  | d :: r => d + 10 * val r

theorem val_digs (n : Nat) : val (digs n) = n := by
  induction n using Nat.strongRecOn with
  | ind n ih =>
    by_cases h : n = 0
    · subst h; rw [digs_zero]; rfl
    · rw [digs_pos h]
      simp only [val]
      rw [ih (n / 10) (by omega)]
      omega

theorem digs_lt (n : Nat) : ∀ d ∈ digs n, d < 10 := by
  induction n using Nat.strongRecOn with
  | ind n ih =>
    by_cases h : n = 0
    · subst h; rw [digs_zero]; intro d hd; cases hd
    · rw [digs_pos h]
      intro d hd
      rcases List.mem_cons.1 hd with rfl | hd
      · omega
      · exact ih (n / 10) (by omega) d hd

theorem digs_len (k : Nat) : ∀ n, n < 10 ^ k → (digs n).length ≤ k := by
  induction k with
  | zero => intro n h; obtain rfl : n = 0 := by simpa using h
            rw [digs_zero]; simp
  | succ k ih =>
    intro n h
    by_cases h0 : n = 0
    · subst h0; rw [digs_zero]; simp
    · rw [digs_pos h0]
      have : n / 10 < 10 ^ k := by rw [Nat.pow_succ] at h; omega
      have := ih _ this
      simp; omega

/-- The number that the upper digits say, from place j on. -/
theorem val_append (a b : List Nat) : val (a ++ b) = val a + 10 ^ a.length * val b := by
  induction a with
  | nil => simp [val]
  | cons d r ih =>
    simp only [List.cons_append, val, ih, List.length_cons, Nat.pow_succ]
    rw [Nat.mul_add, Nat.mul_comm (10 ^ r.length) 10, Nat.mul_assoc]
    omega

theorem val_drop (l : List Nat) (j : Nat) (h : j < l.length) : val (l.drop j) = l.getD j 0 + 10 * val (l.drop (j + 1)) := by
  rw [List.drop_eq_getElem_cons h, List.getD_eq_getElem?_getD, List.getElem?_eq_getElem h]
  rfl

/-- One step of the long division. -/
theorem div_step (v d n : Nat) (hn : 0 < n) : (d + 10 * v) / n = 10 * (v / n) + (10 * (v % n) + d) / n ∧ (d + 10 * v) % n = (10 * (v % n) + d) % n := by
  have e : d + 10 * v = n * (10 * (v / n)) + (10 * (v % n) + d) := by
    have := Nat.div_add_mod v n
    have h2 : n * (10 * (v / n)) = 10 * (n * (v / n)) := by rw [Nat.mul_left_comm]
    rw [h2]
    omega
  constructor
  · rw [e, Nat.mul_add_div hn]
  · rw [e, Nat.mul_add_mod]

/-- The quotient, at most 10^14. -/
def cap14 (q : Nat) : Nat := if 100000000000000 < q then 100000000000000 else q

theorem cap14_le (q : Nat) : cap14 q ≤ 100000000000000 := by unfold cap14; split <;> omega
theorem cap14_step (q t : Nat) : cap14 (10 * q + t) = if 100000000000000 < 10 * cap14 q + t then 100000000000000 else 10 * cap14 q + t := by
  unfold cap14
  by_cases h : 100000000000000 < q
  · rw [if_pos h, if_pos (by omega), if_pos (by omega)]
  · rw [if_neg h]
theorem cap14_small {q : Nat} (h : q ≤ 100000000000000) : cap14 q = q := by unfold cap14; rw [if_neg (by omega)]

end M
end Go.Proofs.YtnmcniibcjjflaaDoor


/- THE PLAIN MATHEMATICS of layer 1, more: what a call answers. -/
namespace Go.Proofs.YtnmcniibcjjflaaDoor
namespace M

/-- The fault, or else the answer. -/
def ans (r : Option (Int × Int)) (d : Int × Int) : Int × Int := match r with | none => d | some x => x

theorem mish_split (k n : Int) (os : List (Int × Int)) : mish ((k, n) :: os) = match mish [(k, n)] with | some v => some v | none => mish os := by
  simp only [mish]
  by_cases h : valid k n = false
  · rw [if_pos h, if_pos h]
  · rw [if_neg h, if_neg h]
    by_cases h6 : k = 6
    · rw [if_pos h6, if_pos h6]
    · rw [if_neg h6, if_neg h6]
      by_cases h0 : k = 0
      · rw [if_pos h0, if_pos h0]
      · rw [if_neg h0, if_neg h0]

theorem ans_some (x d : Int × Int) : ans (some x) d = x := rfl
theorem ans_none (d : Int × Int) : ans none d = d := rfl

/-- 'looked', then 'alike', is 'refuse'. -/
theorem refuse_some {k n : Int} {os : List (Int × Int)} {ks : List Int} {x y : Int} (h : mish ((k, n) :: os) = some (x, y)) : refuse (ks.any fun z => k == z) k n os = some (x, y) := by
  rw [mish_split] at h
  unfold refuse
  cases h1 : mish [(k, n)] with
  | some v => simp [h1] at h; simp [h]
  | none => simp [h1] at h; simp [h]

theorem refuse_alike {k n : Int} {os : List (Int × Int)} {ks : List Int} (h : mish ((k, n) :: os) = none) :
    refuse (ks.any fun z => k == z) k n os = if alike k ((k, n) :: os) ks = true then none else some (6, 5) := by
  rw [mish_split] at h
  unfold refuse alike
  cases h1 : mish [(k, n)] with
  | some v => simp [h1] at h
  | none =>
    simp [h1] at h
    simp only [h]
    cases h2 : ks.any fun z => k == z <;> cases h3 : os.all fun x => x.1 == k <;> simp [h3]

end M
end Go.Proofs.YtnmcniibcjjflaaDoor

import Derived.Test.YtnmcniibcjjflaaDoorJoin12
import Derived.Test.YtnmcniibcjjflaaDoorJoin7
import Derived.Test.YtnmcniibcjjflaaDoorJoin6
namespace Go.Proofs.YtnmcniibcjjflaaDoor
open Go.RowKit

theorem ratio_v (a num den : Int) (w : World) (a1 : -10000000000000 ≤ a) (a2 : a ≤ 10000000000000) (n1 : -10000000000000 ≤ num) (n2 : num ≤ 10000000000000) (d1 : -10000000000000 ≤ den) (d2 : den ≤ 10000000000000)
    (s : Bool) (hs : Hid (s = ((decide (a < 0) != decide (num < 0)) != decide (den < 0)))) (hi lo d : Nat) (h1 : Hid (hi = a.natAbs * num.natAbs / 18446744073709551616)) (h2 : Hid (lo = a.natAbs * num.natAbs % 18446744073709551616)) (h3 : Hid (d = den.natAbs)) :
    Calls Tryd.prog 56 #[.int .i64 a, .int .i64 num, .int .i64 den] w fun e w' => e = .returned (qv s hi lo d) ∧ Below w.heap.size w w' := by
  rw [h1.out, h2.out, h3.out]
  exact ratio_any a num den w a1 a2 n1 n2 d1 d2 s hs

theorem divides_small (p d : Nat) (hp : p < 18446744073709551616) (hd : 0 < d) (hd2 : d < 18446744073709551616) : Divides (p / 18446744073709551616) (p % 18446744073709551616) d p := by
  rw [Nat.div_eq_of_lt hp, Nat.mod_eq_of_lt hp]
  exact fun w => div64_small p d hd hp hd2 w

/-- What a quotient of two numbers within bounds is as a value: ratio, whole, fitting, one behind the other. -/
structure Quo (a num den mode : Int) (s : Bool) (hi lo d p : Nat) (r : Int × Bool) : Prop where
  a1 : -10000000000000 ≤ a
  a2 : a ≤ 10000000000000
  n1 : -10000000000000 ≤ num
  n2 : num ≤ 10000000000000
  d1 : -10000000000000 ≤ den
  d2 : den ≤ 10000000000000
  hs : s = ((decide (a < 0) != decide (num < 0)) != decide (den < 0))
  h1 : hi = a.natAbs * num.natAbs / 18446744073709551616
  h2 : lo = a.natAbs * num.natAbs % 18446744073709551616
  h3 : d = den.natAbs
  hp : p = a.natAbs * num.natAbs
  h0 : den ≠ 0
  div : hi < d → Divides hi lo d p
  hr : r = M.wh s mode p d

theorem Quo.ratio {a num den mode : Int} {s : Bool} {hi lo d p : Nat} {r : Int × Bool} (q : Quo a num den mode s hi lo d p r) (w : World) :
    Calls Tryd.prog 56 #[.int .i64 a, .int .i64 num, .int .i64 den] w fun e w' => e = .returned (qv s hi lo d) ∧ Below w.heap.size w w' :=
  ratio_v a num den w q.a1 q.a2 q.n1 q.n2 q.d1 q.d2 s q.hs hi lo d q.h1 q.h2 q.h3

theorem Quo.whole {a num den mode : Int} {s : Bool} {hi lo d p : Nat} {r : Int × Bool} (q : Quo a num den mode s hi lo d p r) (w : World) :
    Calls Tryd.prog 57 #[qv s hi lo d, .int .i64 mode] w fun e w' => e = .returned (.tuple #[.int .i64 r.1, .bool r.2]) ∧ Below w.heap.size w w' :=
  whole_any s hi lo d p mode w (by rw [q.hp, q.h1, q.h2]; omega) (by have := q.h3; have := q.h0; omega) (by have := q.h3; have := q.d1; have := q.d2; omega) q.div r q.hr

end Go.Proofs.YtnmcniibcjjflaaDoor


/- THE PLAIN MATHEMATICS of layer 1, more: bands. -/
namespace Go.Proofs.YtnmcniibcjjflaaDoor
namespace M

/-- May the bands from here on be, the first From from least to most? -/
def areB (least most : Int) : List (Int × Int) → Bool
  | [] => true
  | (f, r) :: l => decide (least ≤ f ∧ f ≤ most) && decide (0 ≤ r ∧ r ≤ 1000000) && areB (f + 1) 9999999999999 l

def areBands (l : List (Int × Int)) : Bool := decide (1 ≤ l.length ∧ l.length ≤ 8) && areB 0 0 l

theorem areB_cons_no {least most f r : Int} {l : List (Int × Int)} (h : ¬ (least ≤ f ∧ f ≤ most)) : areB least most ((f, r) :: l) = false := by simp [areB]; omega
theorem areB_cons_rate {least most f r : Int} {l : List (Int × Int)} (h : ¬ (0 ≤ r ∧ r ≤ 1000000)) : areB least most ((f, r) :: l) = false := by simp [areB]; omega
theorem areB_cons_ok {least most f r : Int} {l : List (Int × Int)} (h : least ≤ f ∧ f ≤ most) (h2 : 0 ≤ r ∧ r ≤ 1000000) : areB least most ((f, r) :: l) = areB (f + 1) 9999999999999 l := by simp [areB, h, h2]

/-- The top of a band: the next From, or x. -/
def top (x : Int) : List (Int × Int) → Int
  | [] => x
  | (f, _) :: _ => if f < x then f else x

/-- What the bands take of x, in millionths. -/
def took (x : Int) : List (Int × Int) → Nat
  | [] => 0
  | (f, r) :: l => (top x l - f).toNat * r.toNat + took x l

/-- Bands that may be: each From from least on, each below the next. -/
def Rising (least : Int) : List (Int × Int) → Prop
  | [] => True
  | (f, r) :: l => least ≤ f ∧ f ≤ 9999999999999 ∧ 0 ≤ r ∧ r ≤ 1000000 ∧ Rising (f + 1) l

theorem rising_of_areB {least most : Int} (hm : most ≤ 9999999999999) : ∀ l : List (Int × Int), areB least most l = true → Rising least l := by
  intro l
  induction l generalizing least most with
  | nil => intro _; trivial
  | cons y l ih =>
    obtain ⟨f, r⟩ := y
    intro h
    simp [areB] at h
    exact ⟨h.1.1.1, by omega, h.1.2.1, h.1.2.2, ih (Int.le_refl _) h.2⟩

theorem top_le (x : Int) (l : List (Int × Int)) : top x l ≤ x := by
  cases l with
  | nil => exact Int.le_refl _
  | cons y l => obtain ⟨f, r⟩ := y; simp only [top]; split <;> omega

/-- All that is taken is at most a million times what lies above the least. -/
theorem took_le (x : Int) : ∀ (least : Int) (l : List (Int × Int)), Rising least l → took x l ≤ (x - least).toNat * 1000000 := by
  intro least l
  induction l generalizing least with
  | nil => intro _; simp [took]
  | cons y l ih =>
    obtain ⟨f, r⟩ := y
    intro h
    obtain ⟨h1, h2, h3, h4, h5⟩ := h
    simp only [took]
    have hr : r.toNat ≤ 1000000 := by omega
    cases l with
    | nil =>
      have e1 : (x - f).toNat * r.toNat ≤ (x - f).toNat * 1000000 := Nat.mul_le_mul_left _ hr
      have e4 : (x - f).toNat ≤ (x - least).toNat := by omega
      exact Nat.le_trans e1 (Nat.mul_le_mul_right _ e4)
    | cons z l =>
      obtain ⟨g, s⟩ := z
      have i2 : took x ((g, s) :: l) ≤ (x - g).toNat * 1000000 := ih g ⟨Int.le_refl _, h5.2.1, h5.2.2.1, h5.2.2.2.1, h5.2.2.2.2⟩
      have hg : f + 1 ≤ g := h5.1
      by_cases hc : g < x
      · have e2 : top x ((g, s) :: l) = g := by simp only [top]; rw [if_pos hc]
        rw [e2]
        have e1 : (g - f).toNat * r.toNat ≤ (g - f).toNat * 1000000 := Nat.mul_le_mul_left _ hr
        have e4 : (g - f).toNat + (x - g).toNat ≤ (x - least).toNat := by omega
        refine Nat.le_trans (Nat.add_le_add e1 i2) ?_
        rw [← Nat.add_mul]
        exact Nat.mul_le_mul_right _ e4
      · have e2 : top x ((g, s) :: l) = x := by simp only [top]; rw [if_neg hc]
        rw [e2]
        have e1 : (x - f).toNat * r.toNat ≤ (x - f).toNat * 1000000 := Nat.mul_le_mul_left _ hr
        have e4 : (x - f).toNat + (x - g).toNat ≤ (x - least).toNat := by omega
        refine Nat.le_trans (Nat.add_le_add e1 i2) ?_
        rw [← Nat.add_mul]
        exact Nat.mul_le_mul_right _ e4

theorem rising_at (l : List (Int × Int)) (least : Int) (h : Rising least l) : ∀ j, j < l.length → least ≤ (l.getD j (0, 0)).1 ∧ (l.getD j (0, 0)).1 ≤ 9999999999999 ∧ 0 ≤ (l.getD j (0, 0)).2 ∧ (l.getD j (0, 0)).2 ≤ 1000000 := by
  induction l generalizing least with
  | nil => intro j hj; simp at hj
  | cons y l ih =>
    obtain ⟨f, r⟩ := y
    intro j hj
    obtain ⟨h1, h2, h3, h4, h5⟩ := h
    cases j with
    | zero => exact ⟨h1, h2, h3, h4⟩
    | succ j =>
      have := ih (f + 1) h5 j (by simpa using hj)
      simp only [List.getD_cons_succ]
      exact ⟨by omega, this.2⟩

end M
end Go.Proofs.YtnmcniibcjjflaaDoor

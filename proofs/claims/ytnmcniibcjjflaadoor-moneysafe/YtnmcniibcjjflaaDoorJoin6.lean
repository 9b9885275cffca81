import Derived.Test.YtnmcniibcjjflaaDoorJoin5
import Derived.Test.YtnmcniibcjjflaaDoorJoin4
/- THE PLAIN MATHEMATICS of layer 1, more: rounding. -/
namespace Go.Proofs.YtnmcniibcjjflaaDoor
namespace M

/-- Does the mode take a quotient (its sign: s) that lies r / d beyond n on to the next one away from zero? -/
def outw (s : Bool) (mode : Int) (n r d : Nat) : Bool :=
  if mode = 1 then s else if mode = 2 then !s else if mode = 4 then decide (d < 2 * r) || (decide (d = 2 * r) && !s) else if mode = 5 then decide (d < 2 * r) || (decide (d = 2 * r) && decide (n % 2 = 1)) else false

/-- The size of P / d, rounded. -/
def rndn (s : Bool) (mode : Int) (p d : Nat) : Nat := if p % d ≠ 0 ∧ outw s mode (p / d) (p % d) d = true then p / d + 1 else p / d

def sgn (s : Bool) (n : Nat) : Int := if s then -(n : Int) else n

theorem rndn_zero {s : Bool} {mode : Int} {p d : Nat} (h : p % d = 0) : rndn s mode p d = p / d := by simp [rndn, h]
theorem rndn_no {s : Bool} {mode : Int} {p d : Nat} (h : outw s mode (p / d) (p % d) d = false) : rndn s mode p d = p / d := by simp [rndn, h]
theorem rndn_yes {s : Bool} {mode : Int} {p d : Nat} (h0 : p % d ≠ 0) (h : outw s mode (p / d) (p % d) d = true) : rndn s mode p d = p / d + 1 := by simp [rndn, h, h0]

/-- What 'whole' answers. -/
def wh (s : Bool) (mode : Int) (p d : Nat) : Int × Bool := if p / d ≤ 9999999999999 then (sgn s (rndn s mode p d), true) else (0, false)

/-- The fault of an amount and a number. -/
def pair (t0 t1 : Bool) (k0 n0 k1 n1 : Int) : Option (Int × Int) :=
  match mish [(k0, n0), (k1, n1)] with
  | some v => some v
  | none => if t0 = true ∧ t1 = true then none else some (6, 5)

/-- The same of a quotient and what is left. -/
def rq (s : Bool) (mode : Int) (q r d : Nat) : Nat := if r ≠ 0 ∧ outw s mode q r d = true then q + 1 else q

theorem rq_same (s : Bool) (mode : Int) (p d : Nat) : rq s mode (p / d) (p % d) d = rndn s mode p d := rfl
theorem rq_yes {s : Bool} {mode : Int} {q r d : Nat} (h0 : r ≠ 0) (h : outw s mode q r d = true) : rq s mode q r d = q + 1 := by simp [rq, h, h0]
theorem rq_no {s : Bool} {mode : Int} {q r d : Nat} (h : r = 0 ∨ outw s mode q r d = false) : rq s mode q r d = q := by rcases h with h | h <;> simp [rq, h]

theorem pair_none {t0 t1 : Bool} {k0 n0 k1 n1 : Int} (h : pair t0 t1 k0 n0 k1 n1 = none) : t0 = true ∧ t1 = true ∧ valid k0 n0 = true ∧ valid k1 n1 = true := by
  unfold pair at h
  cases h1 : mish [(k0, n0), (k1, n1)] with
  | some v => simp [h1] at h
  | none =>
    simp [h1] at h
    exact ⟨h.1, h.2, (mish_none h1 (k0, n0) (by simp)).1, (mish_none h1 (k1, n1) (by simp)).1⟩

theorem valid_1 {n : Int} (h : valid 1 n = true) : -9999999999999 ≤ n ∧ n ≤ 9999999999999 := by unfold valid at h; simp at h; exact h
theorem valid_2 {n : Int} (h : valid 2 n = true) : -1000000000 ≤ n ∧ n ≤ 1000000000 := by unfold valid at h; simp at h; exact h

end M
end Go.Proofs.YtnmcniibcjjflaaDoor


/- THE PLAIN MATHEMATICS of layer 1, more: the rounded quotient on paper is the other one. -/
namespace Go.Proofs.YtnmcniibcjjflaaDoor
namespace M

theorem rq_ge (s : Bool) (mode : Int) (q r d : Nat) : q ≤ rq s mode q r d := by unfold rq; split <;> omega

theorem fit_far_out (s : Bool) {n : Nat} (h : 9999999999999 < n) : fit true 1 (sgn s n) = (6, 1) := by
  refine fit_over ?_
  unfold valid sgn
  simp
  cases s <;> simp <;> omega

/-- 'whole' and 'rounded', each made a value. -/
theorem fit_same (s : Bool) (mode : Int) (p d : Nat) : fit true 1 (sgn s (rq s mode (cap14 (p / d)) (p % d) d)) = fit (wh s mode p d).2 1 (wh s mode p d).1 := by
  unfold wh
  by_cases h : p / d ≤ 9999999999999
  · rw [if_pos h, cap14_small (by omega), rq_same]
  · rw [if_neg h, fit_far]
    refine fit_far_out s ?_
    have h1 := rq_ge s mode (cap14 (p / d)) (p % d) d
    have h2 : 10000000000000 ≤ cap14 (p / d) := by unfold cap14; split <;> omega
    omega

theorem digs_getD (n i : Nat) : (digs n).getD i 0 ≤ 1000000 := by
  by_cases h : i < (digs n).length
  · have := digs_lt n _ (List.getElem_mem h)
    rw [List.getD_eq_getElem?_getD, List.getElem?_eq_getElem h]
    simp
    omega
  · rw [List.getD_eq_getElem?_getD, List.getElem?_eq_none (by omega)]
    simp

end M
end Go.Proofs.YtnmcniibcjjflaaDoor


/- THE PLAIN MATHEMATICS of layer 1, more: what the quotients answer. -/
namespace Go.Proofs.YtnmcniibcjjflaaDoor
namespace M

def isMode (m : Int) : Prop := 1 ≤ m ∧ m ≤ 5
instance (m : Int) : Decidable (isMode m) := by unfold isMode; exact inferInstance

/-- Split, of operands that it takes. -/
def spl (mode n1 : Int) (m : Int × Bool) : Int × Int := if isMode mode then (if n1 = 0 then (6, 2) else fit m.2 1 m.1) else (6, 5)
theorem spl_mode {mode n1 : Int} {m : Int × Bool} (h : ¬ isMode mode) : spl mode n1 m = (6, 5) := by simp [spl, h]
theorem spl_zero {mode : Int} {m : Int × Bool} (h : isMode mode) : spl mode 0 m = (6, 2) := by simp [spl, h]
theorem spl_ok {mode n1 : Int} {m : Int × Bool} (h : isMode mode) (h0 : n1 ≠ 0) : spl mode n1 m = fit m.2 1 m.1 := by simp [spl, h, h0]

/-- Scale, of an operand that it takes. -/
def scl (num den mode : Int) (m : Int × Bool) : Int × Int := if (-1000000000 ≤ num ∧ num ≤ 1000000000) ∧ (1 ≤ den ∧ den ≤ 1000000000) ∧ isMode mode then fit m.2 1 m.1 else (6, 5)
theorem scl_no {num den mode : Int} {m : Int × Bool} (h : ¬ ((-1000000000 ≤ num ∧ num ≤ 1000000000) ∧ (1 ≤ den ∧ den ≤ 1000000000) ∧ isMode mode)) : scl num den mode m = (6, 5) := by unfold scl; rw [if_neg h]
theorem scl_ok {num den mode : Int} {m : Int × Bool} (h1 : -1000000000 ≤ num ∧ num ≤ 1000000000) (h2 : 1 ≤ den ∧ den ≤ 1000000000) (h3 : isMode mode) : scl num den mode m = fit m.2 1 m.1 := by unfold scl; rw [if_pos ⟨h1, h2, h3⟩]

/-- Round, of an operand that it takes; x: the product, as it is reckoned. -/
def rnd (unit mode : Int) (b : Bool) (x : Int) : Int × Int := if (1 ≤ unit ∧ unit ≤ 9999999999999) ∧ isMode mode then fit b 1 x else (6, 5)
theorem rnd_no {unit mode : Int} {b : Bool} {x : Int} (h : ¬ ((1 ≤ unit ∧ unit ≤ 9999999999999) ∧ isMode mode)) : rnd unit mode b x = (6, 5) := by unfold rnd; rw [if_neg h]
theorem rnd_ok {unit mode : Int} {b : Bool} {x : Int} (h1 : 1 ≤ unit ∧ unit ≤ 9999999999999) (h3 : isMode mode) : rnd unit mode b x = fit b 1 x := by unfold rnd; rw [if_pos ⟨h1, h3⟩]

theorem wh_small {s : Bool} {mode : Int} {p d : Nat} (h : p / d ≤ 9999999999999) : wh s mode p d = (sgn s (rq s mode (cap14 (p / d)) (p % d) d), true) := by unfold wh; rw [if_pos h, cap14_small (by omega), rq_same]

end M
end Go.Proofs.YtnmcniibcjjflaaDoor


namespace Go.Proofs.YtnmcniibcjjflaaDoor
open Go.RowKit

theorem isMode_yes (m : Int) (w : World) (h : 1 ≤ m ∧ m ≤ 5) : Calls Tryd.prog 55 #[.int .i64 m] w fun e w' => e = .returned (.bool true) ∧ w' = w := by
  obtain ⟨h1, h2⟩ := h
  go_enter Tryd.func55, Tryd.ntmps55
  go_wp2
  go_ret
  exact ⟨rfl, rfl⟩
theorem isMode_no (m : Int) (w : World) (h : ¬ (1 ≤ m ∧ m ≤ 5)) : Calls Tryd.prog 55 #[.int .i64 m] w fun e w' => e = .returned (.bool false) ∧ w' = w := by
  by_cases c : 1 ≤ m
  · have c2 : ¬ m ≤ 5 := by omega
    go_enter Tryd.func55, Tryd.ntmps55
    go_wp2
    go_ret
    exact ⟨rfl, rfl⟩
  · have c2 : decide (1 ≤ m) = false := by simpa using c
    go_enter Tryd.func55, Tryd.ntmps55
    go_wp2
    go_ret
    exact ⟨rfl, rfl⟩

theorem risMode_yes (m : Int) (w : World) (h : 1 ≤ m ∧ m ≤ 5) : Calls Tryd.prog 65 #[.int .i64 m] w fun e w' => e = .returned (.bool true) ∧ w' = w := by
  obtain ⟨h1, h2⟩ := h
  go_enter Tryd.func65, Tryd.ntmps65
  go_wp2
  go_ret
  exact ⟨rfl, rfl⟩
theorem risMode_no (m : Int) (w : World) (h : ¬ (1 ≤ m ∧ m ≤ 5)) : Calls Tryd.prog 65 #[.int .i64 m] w fun e w' => e = .returned (.bool false) ∧ w' = w := by
  by_cases c : 1 ≤ m
  · have c2 : ¬ m ≤ 5 := by omega
    go_enter Tryd.func65, Tryd.ntmps65
    go_wp2
    go_ret
    exact ⟨rfl, rfl⟩
  · have c2 : decide (1 ≤ m) = false := by simpa using c
    go_enter Tryd.func65, Tryd.ntmps65
    go_wp2
    go_ret
    exact ⟨rfl, rfl⟩

end Go.Proofs.YtnmcniibcjjflaaDoor


namespace Go.Proofs.YtnmcniibcjjflaaDoor
open Go.RowKit

theorem takes_in (i : Nat) (hi : i < 7) (use : Int) (w : World) (hK : Kinds w) :
    Calls Tryd.prog 17 #[.int .i64 i, .int .i64 use] w fun e w' => e = .returned (.bool (bits .and .i64 (M.us.getD i 0) use != 0)) ∧ w' = w := by
  obtain ⟨hz, -, -, h2⟩ := And.intro hK.1 (hK.2 i hi)
  generalize M.us.getD i 0 = u at *
  clear hK
  have hi' : (i : Int) < 7 := by omega
  have h00 : 0 ≤ (i : Int) := by omega
  go_enter Tryd.func17, Tryd.ntmps17
  go_wp2_with (go_at_call 34; refine (known_yes _ _ ⟨h00, hi'⟩).mono ?_; rintro e w' ⟨rfl, rfl⟩)
  go_ret
  exact ⟨rfl, rfl⟩

theorem takes_out (k : Int) (hk : ¬ (0 ≤ k ∧ k < 7)) (use : Int) (w : World) :
    Calls Tryd.prog 17 #[.int .i64 k, .int .i64 use] w fun e w' => e = .returned (.bool false) ∧ w' = w := by
  go_enter Tryd.func17, Tryd.ntmps17
  go_wp2_with (go_at_call 34; refine (known_no _ _ hk).mono ?_; rintro e w' ⟨rfl, rfl⟩)
  go_ret
  exact ⟨rfl, rfl⟩

/-- Which kinds bear the use. -/
def takesB (k use : Int) : Bool := decide (0 ≤ k ∧ k < 7) && (bits .and .i64 (M.us.getD k.toNat 0) use != 0)

theorem takes_any (k use : Int) (w : World) (hK : Kinds w) :
    Calls Tryd.prog 17 #[.int .i64 k, .int .i64 use] w fun e w' => e = .returned (.bool (takesB k use)) ∧ w' = w := by
  by_cases hk : 0 ≤ k ∧ k < 7
  · obtain ⟨i, rfl⟩ : ∃ i : Nat, k = i := ⟨k.toNat, by omega⟩
    refine (takes_in i (by omega) use w hK).mono ?_
    rintro e w' ⟨rfl, rfl⟩
    exact ⟨ret_bool (by unfold takesB; rw [decide_eq_true hk]; rfl), rfl⟩
  · refine (takes_out k hk use w).mono ?_
    rintro e w' ⟨rfl, rfl⟩
    exact ⟨ret_bool (by unfold takesB; rw [decide_eq_false hk]; rfl), rfl⟩

theorem seven {p : Int → Prop} (k : Int) (h0 : p 0) (h1 : p 1) (h2 : p 2) (h3 : p 3) (h4 : p 4) (h5 : p 5) (h6 : p 6) (ho : ¬ (0 ≤ k ∧ k < 7) → p k) : p k := by
  by_cases hk : 0 ≤ k ∧ k < 7
  · have : k = 0 ∨ k = 1 ∨ k = 2 ∨ k = 3 ∨ k = 4 ∨ k = 5 ∨ k = 6 := by omega
    rcases this with rfl | rfl | rfl | rfl | rfl | rfl | rfl <;> assumption
  · exact ho hk

theorem takes_1 (k : Int) : takesB k 1 = decide (k = 1 ∨ k = 2) :=
  seven (p := fun k => takesB k 1 = decide (k = 1 ∨ k = 2)) k rfl rfl rfl rfl rfl rfl rfl (fun h => by unfold takesB; rw [decide_eq_false h]; simp; omega)
theorem takes_2 (k : Int) : takesB k 2 = decide (k = 1 ∨ k = 2 ∨ k = 4) :=
  seven (p := fun k => takesB k 2 = decide (k = 1 ∨ k = 2 ∨ k = 4)) k rfl rfl rfl rfl rfl rfl rfl (fun h => by unfold takesB; rw [decide_eq_false h]; simp; omega)
theorem takes_4 (k : Int) : takesB k 4 = decide (1 ≤ k ∧ k ≤ 5) :=
  seven (p := fun k => takesB k 4 = decide (1 ≤ k ∧ k ≤ 5)) k rfl rfl rfl rfl rfl rfl rfl (fun h => by unfold takesB; rw [decide_eq_false h]; simp; omega)
theorem takes_8 (k : Int) : takesB k 8 = decide (k = 1) :=
  seven (p := fun k => takesB k 8 = decide (k = 1)) k rfl rfl rfl rfl rfl rfl rfl (fun h => by unfold takesB; rw [decide_eq_false h]; simp; omega)
theorem takes_16 (k : Int) : takesB k 16 = decide (k = 2) :=
  seven (p := fun k => takesB k 16 = decide (k = 2)) k rfl rfl rfl rfl rfl rfl rfl (fun h => by unfold takesB; rw [decide_eq_false h]; simp; omega)

end Go.Proofs.YtnmcniibcjjflaaDoor


namespace Go.Proofs.YtnmcniibcjjflaaDoor
open Go.RowKit

/-- Numbers in a row of memory. -/
def Ints (w : World) (b : Nat) (ks : List Int) : Prop := ks.length ≤ maxLen ∧ b < w.heap.size ∧ ∀ i, i < ks.length → w.cell? ⟨b, i, none⟩ = some (.int .i64 (ks.getD i 0))

theorem Ints.later {w w' : World} {b : Nat} {ks : List Int} (h : Ints w b ks) (hb : Below w.heap.size w w') : Ints w' b ks := by
  obtain ⟨h0, hlt, hc⟩ := h
  refine ⟨h0, Nat.lt_of_lt_of_le hlt hb.size, fun i hi => ?_⟩
  rw [hb.cell (p := ⟨b, i, none⟩) hlt]
  exact hc i hi

/-- Values in a row of memory of their own, from its first cell. -/
def Row (w : World) (b : Nat) (vs : List (Int × Int)) : Prop := vs.length ≤ maxLen ∧ b < w.heap.size ∧ ∀ i, i < vs.length → w.cell? ⟨b, i * 2, none⟩ = some (.int .i64 (vs.getD i (0, 0)).1) ∧ w.cell? ⟨b, i * 2 + 1, none⟩ = some (.int .i64 (vs.getD i (0, 0)).2)

theorem Row.later {w w' : World} {b : Nat} {vs : List (Int × Int)} (h : Row w b vs) (hb : Below w.heap.size w w') : Row w' b vs := by
  obtain ⟨h0, hlt, hc⟩ := h
  refine ⟨h0, Nat.lt_of_lt_of_le hlt hb.size, fun i hi => ?_⟩
  rw [hb.cell (p := ⟨b, i * 2, none⟩) hlt, hb.cell (p := ⟨b, i * 2 + 1, none⟩) hlt]
  exact hc i hi

theorem Row.vals {w : World} {b : Nat} {vs : List (Int × Int)} (h : Row w b vs) : Vals w (some ⟨b, 0, none⟩) vs := by
  obtain ⟨h0, hlt, hc⟩ := h
  refine ⟨h0, .inr ⟨b, 0, rfl, hlt, fun i hi => ?_⟩⟩
  have := hc i hi
  simpa using this

end Go.Proofs.YtnmcniibcjjflaaDoor


namespace Go.Proofs.YtnmcniibcjjflaaDoor
open Go.RowKit

abbrev cellsV (k n : Int) : Obj := .cells #[.int .i64 k, .int .i64 n] 24
abbrev cellsV2 (k n k' n' : Int) : Obj := .cells #[.int .i64 k, .int .i64 n, .int .i64 k', .int .i64 n'] 24
abbrev cellsV3 (k n k' n' k2 n2 : Int) : Obj := .cells #[.int .i64 k, .int .i64 n, .int .i64 k', .int .i64 n', .int .i64 k2, .int .i64 n2] 24
abbrev ints2 (a b : Int) : Obj := .cells #[.int .i64 a, .int .i64 b] 3
abbrev ints3 (a b c : Int) : Obj := .cells #[.int .i64 a, .int .i64 b, .int .i64 c] 3
abbrev ints5 (a b c d e : Int) : Obj := .cells #[.int .i64 a, .int .i64 b, .int .i64 c, .int .i64 d, .int .i64 e] 3

theorem row_one (X : World) (k n : Int) : Row (X.alloc (cellsV k n)) X.heap.size [(k, n)] := by
  refine ⟨by simp [maxLen], by simp, fun i hi => ?_⟩
  obtain rfl : i = 0 := by simpa using hi
  constructor <;> (rw [World.cell?_alloc_at _ _ _ _ rfl]; rfl)
theorem row_two (X : World) (k n k' n' : Int) : Row (X.alloc (cellsV2 k n k' n')) X.heap.size [(k, n), (k', n')] := by
  refine ⟨by simp [maxLen], by simp, fun i hi => ?_⟩
  have : i = 0 ∨ i = 1 := by simp at hi; omega
  rcases this with rfl | rfl <;> constructor <;> (rw [World.cell?_alloc_at _ _ _ _ rfl]; rfl)
theorem row_three (X : World) (k n k' n' k2 n2 : Int) : Row (X.alloc (cellsV3 k n k' n' k2 n2)) X.heap.size [(k, n), (k', n'), (k2, n2)] := by
  refine ⟨by simp [maxLen], by simp, fun i hi => ?_⟩
  have : i = 0 ∨ i = 1 ∨ i = 2 := by simp at hi; omega
  rcases this with rfl | rfl | rfl <;> constructor <;> (rw [World.cell?_alloc_at _ _ _ _ rfl]; rfl)
theorem ints_two (X : World) (a b : Int) : Ints (X.alloc (ints2 a b)) X.heap.size [a, b] := by
  refine ⟨by simp [maxLen], by simp, fun i hi => ?_⟩
  have : i = 0 ∨ i = 1 := by simp at hi; omega
  rcases this with rfl | rfl <;> (rw [World.cell?_alloc_at _ _ _ _ rfl]; rfl)
theorem ints_three (X : World) (a b c : Int) : Ints (X.alloc (ints3 a b c)) X.heap.size [a, b, c] := by
  refine ⟨by simp [maxLen], by simp, fun i hi => ?_⟩
  have : i = 0 ∨ i = 1 ∨ i = 2 := by simp at hi; omega
  rcases this with rfl | rfl | rfl <;> (rw [World.cell?_alloc_at _ _ _ _ rfl]; rfl)
theorem ints_five (X : World) (a b c d e : Int) : Ints (X.alloc (ints5 a b c d e)) X.heap.size [a, b, c, d, e] := by
  refine ⟨by simp [maxLen], by simp, fun i hi => ?_⟩
  have : i = 0 ∨ i = 1 ∨ i = 2 ∨ i = 3 ∨ i = 4 := by simp at hi; omega
  rcases this with rfl | rfl | rfl | rfl | rfl <;> (rw [World.cell?_alloc_at _ _ _ _ rfl]; rfl)
theorem Row.of {w : World} {b c : Nat} {vs : List (Int × Int)} (h : Row w b vs) (e : b = c) : Row w c vs := e ▸ h
theorem Ints.of {w : World} {b c : Nat} {vs : List Int} (h : Ints w b vs) (e : b = c) : Ints w c vs := e ▸ h
theorem Row.alloc {w : World} {b : Nat} {vs : List (Int × Int)} (h : Row w b vs) (o : Obj) : Row (w.alloc o) b vs := h.later ((Below.refl _ _).alloc (Nat.le_refl _) _)

/-- One operand and the result; two; three. -/
theorem start1 (w : World) (k0 n0 : Int) {w1 : World} (hb : Below ((w.alloc (cellsV k0 n0)).alloc (cellsV 0 0)).heap.size ((w.alloc (cellsV k0 n0)).alloc (cellsV 0 0)) w1) :
    Box w1 w.heap.size (.int .i64 k0) (.int .i64 n0) ∧ Box w1 (w.heap.size + 1) (.int .i64 0) (.int .i64 0) ∧ Below w.heap.size w w1 :=
  ⟨((Box.new w _ _ _).alloc _).later hb, ((Box.new (w.alloc _) _ _ _).later hb).of (by simp), below_step (((Below.refl _ _).alloc (Nat.le_refl _) _).alloc (by simp) _) hb⟩
theorem start2 (w : World) (k0 n0 k1 n1 : Int) {w1 : World} (hb : Below (((w.alloc (cellsV k0 n0)).alloc (cellsV k1 n1)).alloc (cellsV 0 0)).heap.size (((w.alloc (cellsV k0 n0)).alloc (cellsV k1 n1)).alloc (cellsV 0 0)) w1) :
    Box w1 w.heap.size (.int .i64 k0) (.int .i64 n0) ∧ Box w1 (w.heap.size + 1) (.int .i64 k1) (.int .i64 n1) ∧ Box w1 (w.heap.size + 1 + 1) (.int .i64 0) (.int .i64 0) ∧ Below w.heap.size w w1 :=
  ⟨(((Box.new w _ _ _).alloc _).alloc _).later hb, (((Box.new (w.alloc _) _ _ _).alloc _).later hb).of (by simp), ((Box.new ((w.alloc _).alloc _) _ _ _).later hb).of (by simp),
    below_step ((((Below.refl _ _).alloc (Nat.le_refl _) _).alloc (by simp) _).alloc (by simp; omega) _) hb⟩
theorem start3 (w : World) (k0 n0 k1 n1 k2 n2 : Int) {w1 : World} (hb : Below ((((w.alloc (cellsV k0 n0)).alloc (cellsV k1 n1)).alloc (cellsV k2 n2)).alloc (cellsV 0 0)).heap.size ((((w.alloc (cellsV k0 n0)).alloc (cellsV k1 n1)).alloc (cellsV k2 n2)).alloc (cellsV 0 0)) w1) :
    Box w1 w.heap.size (.int .i64 k0) (.int .i64 n0) ∧ Box w1 (w.heap.size + 1) (.int .i64 k1) (.int .i64 n1) ∧ Box w1 (w.heap.size + 1 + 1) (.int .i64 k2) (.int .i64 n2) ∧ Box w1 (w.heap.size + 1 + 1 + 1) (.int .i64 0) (.int .i64 0) ∧ Below w.heap.size w w1 :=
  ⟨((((Box.new w _ _ _).alloc _).alloc _).alloc _).later hb, ((((Box.new (w.alloc _) _ _ _).alloc _).alloc _).later hb).of (by simp), (((Box.new ((w.alloc _).alloc _) _ _ _).alloc _).later hb).of (by simp), ((Box.new (((w.alloc _).alloc _).alloc _) _ _ _).later hb).of (by simp),
    below_step (((((Below.refl _ _).alloc (Nat.le_refl _) _).alloc (by simp) _).alloc (by simp; omega) _).alloc (by simp; omega) _) hb⟩

/-- A further block, then a call. -/
theorem over_alloc {X w1 : World} (o : Obj) (hb : Below (X.alloc o).heap.size (X.alloc o) w1) : Below X.heap.size X w1 := below_step ((Below.refl _ _).alloc (Nat.le_refl _) _) hb

end Go.Proofs.YtnmcniibcjjflaaDoor

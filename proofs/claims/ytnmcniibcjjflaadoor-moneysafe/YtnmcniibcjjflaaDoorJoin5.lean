import Derived.Test.YtnmcniibcjjflaaDoorJoin4
import Derived.Test.YtnmcniibcjjflaaDoorJoin3
import Derived.Deep.SlicePairs
import Derived.SizedLaws
namespace Go.Proofs.YtnmcniibcjjflaaDoor
open Go.ChangeShapes Go.WideShapes Go.ChangeAt Go.WideMaps Go.WideElems Go.RowKit Go.Joins

theorem laidOutP : laidOutB Tryd.prog = true := by kernel_rfl
theorem cBand : Tryd.prog.cellsOf 54 = 2 := by kernel_rfl
theorem bBand : Tryd.prog.bytesOf 54 = 16 := by kernel_rfl

set_option maxRecDepth 100000 in
/-- A list of bands that came in. -/
theorem open_bands {H : Type} {enc : TypeId × Value → H} {W : World} {base : Nat} {v : Value} {d : DataW H} {ps : List MemPlace} (hval : Value.okWide Tryd.prog W .any base 36 v)
    (h : DataW.Trod enc Tryd.prog W 0 (fun _ => true) true 36 v d ps) (_hsz : ∀ elems spare, d = .slice elems spare → (elems.length + spare.length) * Tryd.prog.bytesOf 54 ≤ reachBytes) :
    ∃ a cap zs, v = .slice a zs.length cap ∧ (a = none → cap = 0) ∧ Vals W a zs := by
  obtain ⟨a0, len, cap, rfl⟩ := okWide_slice Tryd.underlying36 hval
  obtain ⟨fuel, hf⟩ := h
  rcases Go.Deep.open_slice_pairs Tryd.underlying36 Tryd.underlying54 cBand rfl rfl cI64 cI64 hf with ⟨hcs, hx⟩ | ⟨a, len', cap', m, n, V0, V1, D0, D1, P0, P1, hcs, _, hl, hm, hmm, hx, hcell⟩
  · simp [Value.cells] at hcs
    obtain ⟨rfl, rfl, rfl⟩ := hcs
    exact ⟨none, 0, [], rfl, fun _ => rfl, by simp, .inl rfl⟩
  · simp [Value.cells] at hcs
    obtain ⟨rfl, rfl, rfl⟩ := hcs
    simp only [if_true] at hmm
    rw [hmm] at hcell
    have key : ∀ i, i < cap → ∃ q : Int × Int, W.cell? (a.add (i * 2)) = some (.int .i64 q.1) ∧ W.cell? (a.add (i * 2 + 1)) = some (.int .i64 q.2) := fun i hi => by
      obtain ⟨h0, h1, t0, t1⟩ := hcell i hi
      obtain ⟨x, ex, _, _⟩ := DataW.trod_int Tryd.underlying2 t0
      obtain ⟨y, ey, _, _⟩ := DataW.trod_int Tryd.underlying2 t1
      simp at ex ey
      exact ⟨(x, y), by rw [h0, ex], by rw [h1, ey]⟩
    obtain ⟨q, hq⟩ := Go.Deep.choose_lt key
    have hlen : ((List.range len).map q).length = len := by simp
    refine ⟨some a, cap, (List.range len).map q, by rw [hlen], fun h => (nomatch h), by rw [hlen]; unfold maxLen at *; omega, ?_⟩
    by_cases h0 : len = 0
    · left
      rw [h0]
      rfl
    · obtain ⟨b, off, spot⟩ := a
      have hspot : spot = none := by simpa [Addr.add] using World.cell?_spot (hq 0 (by omega)).1
      subst hspot
      have hc : ∀ i, i < len → W.cell? ⟨b, off + i * 2, none⟩ = some (.int .i64 (q i).1) ∧ W.cell? ⟨b, off + i * 2 + 1, none⟩ = some (.int .i64 (q i).2) := fun i hi => by
        have := hq i (by omega)
        rw [add_plain, add_plain] at this
        exact this
      refine .inr ⟨b, off, rfl, World.block_lt_of_cell? _ _ (hc 0 (by omega)).1, fun i hi => ?_⟩
      rw [hlen] at hi
      have := hc i hi
      simpa [List.getD, hi] using this

end Go.Proofs.YtnmcniibcjjflaaDoor


namespace Go.Proofs.YtnmcniibcjjflaaDoor
open Go.ChangeShapes Go.WideShapes Go.ChangeAt Go.WideMaps Go.WideElems Go.RowKit Go.Joins


set_option maxRecDepth 100000 in
/-- A list of values that came in. -/
theorem open_vals {H : Type} {enc : TypeId × Value → H} {W : World} {base : Nat} {v : Value} {d : DataW H} {ps : List MemPlace} (hval : Value.okWide Tryd.prog W .any base 22 v)
    (h : DataW.Trod enc Tryd.prog W 0 (fun _ => true) true 22 v d ps) (_hsz : ∀ elems spare, d = .slice elems spare → (elems.length + spare.length) * Tryd.prog.bytesOf 24 ≤ reachBytes) :
    ∃ a cap zs, v = .slice a zs.length cap ∧ (a = none → cap = 0) ∧ Vals W a zs := by
  obtain ⟨a0, len, cap, rfl⟩ := okWide_slice Tryd.underlying22 hval
  obtain ⟨fuel, hf⟩ := h
  rcases Go.Deep.open_slice_pairs Tryd.underlying22 Tryd.underlying24 cVal rfl rfl cInt cI64 hf with ⟨hcs, hx⟩ | ⟨a, len', cap', m, n, V0, V1, D0, D1, P0, P1, hcs, _, hl, hm, hmm, hx, hcell⟩
  · simp [Value.cells] at hcs
    obtain ⟨rfl, rfl, rfl⟩ := hcs
    exact ⟨none, 0, [], rfl, fun _ => rfl, by simp, .inl rfl⟩
  · simp [Value.cells] at hcs
    obtain ⟨rfl, rfl, rfl⟩ := hcs
    simp only [if_true] at hmm
    rw [hmm] at hcell
    have key : ∀ i, i < cap → ∃ q : Int × Int, W.cell? (a.add (i * 2)) = some (.int .i64 q.1) ∧ W.cell? (a.add (i * 2 + 1)) = some (.int .i64 q.2) := fun i hi => by
      obtain ⟨h0, h1, t0, t1⟩ := hcell i hi
      obtain ⟨x, ex, _, _⟩ := DataW.trod_int Tryd.underlying3 t0
      obtain ⟨y, ey, _, _⟩ := DataW.trod_int Tryd.underlying2 t1
      simp at ex ey
      exact ⟨(x, y), by rw [h0, ex], by rw [h1, ey]⟩
    obtain ⟨q, hq⟩ := Go.Deep.choose_lt key
    have hlen : ((List.range len).map q).length = len := by simp
    refine ⟨some a, cap, (List.range len).map q, by rw [hlen], fun h => (nomatch h), by rw [hlen]; unfold maxLen at *; omega, ?_⟩
    by_cases h0 : len = 0
    · left
      rw [h0]
      rfl
    · obtain ⟨b, off, spot⟩ := a
      have hspot : spot = none := by simpa [Addr.add] using World.cell?_spot (hq 0 (by omega)).1
      subst hspot
      have hc : ∀ i, i < len → W.cell? ⟨b, off + i * 2, none⟩ = some (.int .i64 (q i).1) ∧ W.cell? ⟨b, off + i * 2 + 1, none⟩ = some (.int .i64 (q i).2) := fun i hi => by
        have := hq i (by omega)
        rw [add_plain, add_plain] at this
        exact this
      refine .inr ⟨b, off, rfl, World.block_lt_of_cell? _ _ (hc 0 (by omega)).1, fun i hi => ?_⟩
      rw [hlen] at hi
      have := hc i hi
      simpa [List.getD, hi] using this

end Go.Proofs.YtnmcniibcjjflaaDoor


/- THE PLAIN MATHEMATICS of layer 1, more: numbers in tens. -/
namespace Go.Proofs.YtnmcniibcjjflaaDoor
namespace M

/-- The digits of a number, the lowest first. -/
def digs (n : Nat) : List Nat := if h : n = 0 then [] else n % 10 :: digs (n / 10)
termination_by n
decreasing_by omega

theorem digs_zero : digs 0 = [] := by rw [digs]; simp
theorem digs_pos {n : Nat} (h : n ≠ 0) : digs n = n % 10 :: digs (n / 10) := by rw [digs]; simp [h]

/-- What digits say. -/
def val : List Nat → Nat
  | [] => 0
  | d :: r => d + 10 * val r

theorem val_digs (n : Nat) : val (digs n) = n := by
  induction n using Nat.strongRecOn with
  | ind n ih =>
    by_cases h : n = 0
    · subst h; rw [digs_zero]; rfl
    · rw [digs_pos h]
      simp only [val]
      rw [ih (n / 10) (by omega)]
      omega

theorem digs_lt (n : Nat) : ∀ d ∈ digs n, d < 10 := by
  induction n using Nat.strongRecOn with
  | ind n ih =>
    by_cases h : n = 0
    · subst h; rw [digs_zero]; intro d hd; cases hd
    · rw [digs_pos h]
      intro d hd
      rcases List.mem_cons.1 hd with rfl | hd
      · omega
      · exact ih (n / 10) (by omega) d hd

theorem digs_len (k : Nat) : ∀ n, n < 10 ^ k → (digs n).length ≤ k := by
  induction k with
  | zero => intro n h; obtain rfl : n = 0 := by simpa using h
            rw [digs_zero]; simp
  | succ k ih =>
    intro n h
    by_cases h0 : n = 0
    · subst h0; rw [digs_zero]; simp
    · rw [digs_pos h0]
      have : n / 10 < 10 ^ k := by rw [Nat.pow_succ] at h; omega
      have := ih _ this
      simp; omega

/-- The number that the upper digits say, from place j on. -/
theorem val_append (a b : List Nat) : val (a ++ b) = val a + 10 ^ a.length * val b := by
  induction a with
  | nil => simp [val]
  | cons d r ih =>
    simp only [List.cons_append, val, ih, List.length_cons, Nat.pow_succ]
    rw [Nat.mul_add, Nat.mul_comm (10 ^ r.length) 10, Nat.mul_assoc]
    omega

theorem val_drop (l : List Nat) (j : Nat) (h : j < l.length) : val (l.drop j) = l.getD j 0 + 10 * val (l.drop (j + 1)) := by
  rw [List.drop_eq_getElem_cons h, List.getD_eq_getElem?_getD, List.getElem?_eq_getElem h]
  rfl

/-- One step of the long division. -/
theorem div_step (v d n : Nat) (hn : 0 < n) : (d + 10 * v) / n = 10 * (v / n) + (10 * (v % n) + d) / n ∧ (d + 10 * v) % n = (10 * (v % n) + d) % n := by
  have e : d + 10 * v = n * (10 * (v / n)) + (10 * (v % n) + d) := by
    have := Nat.div_add_mod v n
    have h2 : n * (10 * (v / n)) = 10 * (n * (v / n)) := by rw [Nat.mul_left_comm]
    rw [h2]
    omega
  constructor
  · rw [e, Nat.mul_add_div hn]
  · rw [e, Nat.mul_add_mod]

/-- The quotient, at most 10^14. -/
def cap14 (q : Nat) : Nat := if 100000000000000 < q then 100000000000000 else q

theorem cap14_le (q : Nat) : cap14 q ≤ 100000000000000 := by unfold cap14; split <;> omega
theorem cap14_step (q t : Nat) : cap14 (10 * q + t) = if 100000000000000 < 10 * cap14 q + t then 100000000000000 else 10 * cap14 q + t := by
  unfold cap14
  by_cases h : 100000000000000 < q
  · rw [if_pos h, if_pos (by omega), if_pos (by omega)]
  · rw [if_neg h]
theorem cap14_small {q : Nat} (h : q ≤ 100000000000000) : cap14 q = q := by unfold cap14; rw [if_neg (by omega)]

end M
end Go.Proofs.YtnmcniibcjjflaaDoor


/- THE PLAIN MATHEMATICS of layer 1, more: what a call answers. -/
namespace Go.Proofs.YtnmcniibcjjflaaDoor
namespace M

/-- The fault, or else the answer. -/
def ans (r : Option (Int × Int)) (d : Int × Int) : Int × Int := match r with | none => d | some x => x

theorem mish_split (k n : Int) (os : List (Int × Int)) : mish ((k, n) :: os) = match mish [(k, n)] with | some v => some v | none => mish os := by
  simp only [mish]
  by_cases h : valid k n = false
  · rw [if_pos h, if_pos h]
  · rw [if_neg h, if_neg h]
    by_cases h6 : k = 6
    · rw [if_pos h6, if_pos h6]
    · rw [if_neg h6, if_neg h6]
      by_cases h0 : k = 0
      · rw [if_pos h0, if_pos h0]
      · rw [if_neg h0, if_neg h0]

theorem ans_some (x d : Int × Int) : ans (some x) d = x := rfl
theorem ans_none (d : Int × Int) : ans none d = d := rfl

/-- 'looked', then 'alike', is 'refuse'. -/
theorem refuse_some {k n : Int} {os : List (Int × Int)} {ks : List Int} {x y : Int} (h : mish ((k, n) :: os) = some (x, y)) : refuse (ks.any fun z => k == z) k n os = some (x, y) := by
  rw [mish_split] at h
  unfold refuse
  cases h1 : mish [(k, n)] with
  | some v => simp [h1] at h; simp [h]
  | none => simp [h1] at h; simp [h]

theorem refuse_alike {k n : Int} {os : List (Int × Int)} {ks : List Int} (h : mish ((k, n) :: os) = none) :
    refuse (ks.any fun z => k == z) k n os = if alike k ((k, n) :: os) ks = true then none else some (6, 5) := by
  rw [mish_split] at h
  unfold refuse alike
  cases h1 : mish [(k, n)] with
  | some v => simp [h1] at h
  | none =>
    simp [h1] at h
    simp only [h]
    cases h2 : ks.any fun z => k == z <;> cases h3 : os.all fun x => x.1 == k <;> simp [h3]

end M
end Go.Proofs.YtnmcniibcjjflaaDoor


/- THE PLAIN MATHEMATICS of layer 1, more: comparing. -/
namespace Go.Proofs.YtnmcniibcjjflaaDoor
namespace M

def ord (x y : Int) : Int := if x < y then -1 else if y < x then 1 else 0
def bit (b : Bool) : Int := if b then 1 else 0

/-- What Compare answers of operands that it takes. -/
def cmpo (op o : Int) : Int × Int :=
  if op = 25 then (3, bit (o == 0)) else if op = 26 then (3, bit (o != 0)) else if op = 27 then (3, bit (decide (o < 0))) else if op = 28 then (3, bit (decide (o ≤ 0)))
  else if op = 29 then (3, bit (decide (0 < o))) else if op = 30 then (3, bit (decide (0 ≤ o))) else (6, 5)

def cmpn (op x y : Int) : Int × Int :=
  if op = 25 then (3, bit (x == y)) else if op = 26 then (3, bit (x != y)) else if op = 27 then (3, bit (decide (x < y))) else if op = 28 then (3, bit (decide (x ≤ y)))
  else if op = 29 then (3, bit (decide (y < x))) else if op = 30 then (3, bit (decide (y ≤ x))) else (6, 5)

theorem cmp_same (op x y : Int) : cmpo op (ord x y) = cmpn op x y := by
  have h0 : (ord x y == 0) = (x == y) := by rw [Bool.eq_iff_iff]; simp; unfold ord; split <;> (try split) <;> omega
  have h1 : (ord x y != 0) = (x != y) := by rw [bne, h0]; rfl
  have h2 : decide (ord x y < 0) = decide (x < y) := by rw [decide_eq_decide]; unfold ord; split <;> (try split) <;> omega
  have h3 : decide (ord x y ≤ 0) = decide (x ≤ y) := by rw [decide_eq_decide]; unfold ord; split <;> (try split) <;> omega
  have h4 : decide (0 < ord x y) = decide (y < x) := by rw [decide_eq_decide]; unfold ord; split <;> (try split) <;> omega
  have h5 : decide (0 ≤ ord x y) = decide (y ≤ x) := by rw [decide_eq_decide]; unfold ord; split <;> (try split) <;> omega
  unfold cmpo cmpn
  rw [h0, h1, h2, h3, h4, h5]

theorem ord_lt {x y : Int} (h : x < y) : ord x y = -1 := by simp [ord, h]
theorem ord_gt {x y : Int} (h : y < x) : ord x y = 1 := by simp [ord, h]; omega
theorem ord_eq (x : Int) : ord x x = 0 := by simp [ord]

theorem refuse_some_any {t : Bool} {k n : Int} {os : List (Int × Int)} {x y : Int} (h : mish ((k, n) :: os) = some (x, y)) : refuse t k n os = some (x, y) := by
  rw [mish_split] at h
  unfold refuse
  cases h1 : mish [(k, n)] with
  | some v => simp [h1] at h; simp [h]
  | none => simp [h1] at h; simp [h]

theorem refuse_none_any {t : Bool} {k n : Int} {os : List (Int × Int)} (h : mish ((k, n) :: os) = none) : refuse t k n os = none ∨ refuse t k n os = some (6, 5) := by
  rw [mish_split] at h
  unfold refuse
  cases h1 : mish [(k, n)] with
  | some v => simp [h1] at h
  | none =>
    simp [h1] at h
    simp only [h]
    cases t <;> cases h3 : os.all fun x => x.1 == k <;> simp


theorem mish_none {vs : List (Int × Int)} (h : mish vs = none) : ∀ x ∈ vs, valid x.1 x.2 = true ∧ x.1 ≠ 6 ∧ x.1 ≠ 0 := by
  induction vs with
  | nil => intro x hx; cases hx
  | cons y r ih =>
    obtain ⟨k, n⟩ := y
    simp only [mish] at h
    by_cases hv : valid k n = false
    · rw [if_pos hv] at h; cases h
    · rw [if_neg hv] at h
      by_cases h6 : k = 6
      · rw [if_pos h6] at h; cases h
      · rw [if_neg h6] at h
        by_cases h0 : k = 0
        · rw [if_pos h0] at h; cases h
        · rw [if_neg h0] at h
          intro x hx
          rcases List.mem_cons.1 hx with rfl | hx
          · exact ⟨by simpa using hv, h6, h0⟩
          · exact ih h x hx

theorem refuse_none {t : Bool} {k n : Int} {os : List (Int × Int)} (h : refuse t k n os = none) : t = true ∧ valid k n = true ∧ ∀ x ∈ os, x.1 = k ∧ valid k x.2 = true := by
  unfold refuse at h
  cases h1 : mish [(k, n)] with
  | some v => simp [h1] at h
  | none =>
    cases h2 : mish os with
    | some v => simp [h1, h2] at h
    | none =>
      cases t with
      | false => simp [h1, h2] at h
      | true =>
        simp [h1, h2] at h
        refine ⟨rfl, (mish_none h1 (k, n) (by simp)).1, fun x hx => ?_⟩
        have e := h x.1 x.2 hx
        have := (mish_none h2 x hx).1
        rw [e] at this
        exact ⟨e, this⟩


end M
end Go.Proofs.YtnmcniibcjjflaaDoor

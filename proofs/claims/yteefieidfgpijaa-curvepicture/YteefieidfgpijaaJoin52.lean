import Derived.Test.YteefieidfgpijaaCgF
import Derived.Laws.StructEq
namespace Go.Proofs.Yteefieidfgpijaa.CF
open Go.RowKit
attribute [local go_sem] run_store_float

theorem run_equalIn_f32 (w : World) (d : Nat) (a b : Nat) : (Op.equalIn (d + 1) 33 (.float .f32 a) (.float .f32 b)).run Try.prog w = .ok (Op.floatEq .f32 a b) w := by
  simp [Op.equalIn, Sem.run_bind, run_underlying Try.underlying33]
theorem flds : (Try.prog.fieldsOf 35).toList.map (fun f => (f.name, f.type, f.offset)) = [("X", 2, 0), ("Y", 33, 1)] := by kernel_rfl
theorem part_x (x : Int) (p : Nat) (w : World) : (part 2 #[.int .i64 x, .float .f32 p] 0).run Try.prog w = .ok (.int .i64 x) w := by kernel_rfl
theorem part_y (x : Int) (p : Nat) (w : World) : (part 33 #[.int .i64 x, .float .f32 p] 1).run Try.prog w = .ok (.float .f32 p) w := by kernel_rfl
theorem pt_eq (x : Int) (p q : Nat) (d : Nat) (w : World) : (Op.equalIn (d + 2) 35 (.agg #[.int .i64 x, .float .f32 p]) (.agg #[.int .i64 x, .float .f32 q])).run Try.prog w = .ok (Op.floatEq .f32 p q) w := by
  rw [run_equalIn_struct w (d + 1) 35 _ _ (by kernel_rfl) (by kernel_rfl)]
  have hf := flds
  cases h1 : (Try.prog.fieldsOf 35).toList with
  | nil => rw [h1] at hf; cases hf
  | cons f fs =>
    rw [h1] at hf
    cases fs with
    | nil => exact absurd (congrArg List.length hf) (by simp)
    | cons g gs =>
      cases gs with
      | nil =>
        simp only [List.map_cons, List.map_nil, List.cons.injEq, Prod.mk.injEq, and_true] at hf
        obtain ⟨⟨f1, f2, f3⟩, g1, g2, g3⟩ := hf
        simp only [Op.eqFields, f1, f2, f3, g1, g2, g3, Sem.run_bind, Sem.run_ite, part_x, part_y, Result.andThen_ok, run_equalIn_int w d 2 .i64 .i64 x x Try.underlying2, run_equalIn_f32, beq_self_eq_true, Sem.run_pure]
        cases Op.floatEq .f32 p q <;> simp
      | cons _ _ => exact absurd (congrArg List.length hf) (by simp)
theorem neq_pt (x : Int) {p q : Nat} (h : Op.floatEq .f32 p q = true) (w : World) : (binOp .neq 35 (.agg #[.int .i64 x, .float .f32 p]) (.agg #[.int .i64 x, .float .f32 q])).run Try.prog w = .ok (.bool false) w := by
  rw [run_neq_struct, pt_eq x p q 9998 w, h]
  rfl
theorem feq {p q : Nat} (hp : p < 4294967296) (hq : q < 4294967296) (fp : p % 2147483648 ≤ 2139095040) (fq : q % 2147483648 ≤ 2139095040) (h : ordN p = ordN q) : Op.floatEq .f32 p q = true := by
  unfold Op.floatEq
  have e : FloatKind.f32.format.order p q = some (cmpI (ordN p) (ordN q)) := order_eq hp hq fp fq
  rw [e, h]
  unfold cmpI
  rw [if_neg (by omega), if_pos rfl]
  rfl
theorem flt {p q : Nat} (hp : p < 4294967296) (hq : q < 4294967296) (fp : p % 2147483648 ≤ 2139095040) (fq : q % 2147483648 ≤ 2139095040) : (FloatKind.f32.format.order p q == some .lt) = decide (ordN p < ordN q) ∧ (FloatKind.f32.format.order p q == some .gt) = decide (ordN q < ordN p) := by
  have e : FloatKind.f32.format.order p q = some (cmpI (ordN p) (ordN q)) := order_eq hp hq fp fq
  rw [e]
  unfold cmpI
  by_cases h1 : ordN p < ordN q
  · rw [if_pos h1, decide_eq_true h1, decide_eq_false (by omega)]
    exact ⟨rfl, rfl⟩
  · rw [if_neg h1, decide_eq_false h1]
    by_cases h2 : ordN p = ordN q
    · rw [if_pos h2, decide_eq_false (by omega)]
      exact ⟨rfl, rfl⟩
    · rw [if_neg h2, decide_eq_true (by omega)]
      exact ⟨rfl, rfl⟩
/-- The sum of n + 1 whole numbers from lo on. -/
def sumI (Z : Nat → Int) (lo : Nat) : Nat → Int
  | 0 => Z lo
  | n + 1 => sumI Z lo n + Z (lo + (n + 1))
theorem sumI_b {Z : Nat → Int} {lo : Nat} {a b : Int} : ∀ n, (∀ j, lo ≤ j → j ≤ lo + n → a ≤ Z j ∧ Z j ≤ b) → a * ((n + 1 : Nat) : Int) ≤ sumI Z lo n ∧ sumI Z lo n ≤ b * ((n + 1 : Nat) : Int)
  | 0, h => by
    have := h lo (Nat.le_refl _) (by omega)
    show a * ((1 : Nat) : Int) ≤ Z lo ∧ Z lo ≤ b * ((1 : Nat) : Int)
    omega
  | n + 1, h => by
    have ih := sumI_b n (fun j h1 h2 => h j h1 (by omega))
    have h2 := h (lo + (n + 1)) (by omega) (by omega)
    have e : sumI Z lo (n + 1) = sumI Z lo n + Z (lo + (n + 1)) := rfl
    have e1 : a * ((n + 1 + 1 : Nat) : Int) = a * ((n + 1 : Nat) : Int) + a := by rw [Int.natCast_add (n + 1) 1, Int.mul_add]; simp
    have e2 : b * ((n + 1 + 1 : Nat) : Int) = b * ((n + 1 : Nat) : Int) + b := by rw [Int.natCast_add (n + 1) 1, Int.mul_add]; simp
    rw [e, e1, e2]
    omega
theorem sum_exact {X Z : Nat → Int} {m lo : Nat} (hz : ∀ k, k < m → (Z k).natAbs ≤ 10000) : ∀ n, n ≤ 20 → lo + n < m → sumS (WD X Z m) lo n = wholeN (sumI Z lo n)
  | 0, _, h => by
    unfold sumS sumI
    rw [WD_get X Z (by omega)]
  | n + 1, hn, h => by
    have ih := sum_exact (X := X) hz (lo := lo) n (by omega) (by omega)
    have hb := sumI_b (Z := Z) (lo := lo) (a := -10000) (b := 10000) n (fun j h1 h2 => by have := hz j (by omega); omega)
    have hz2 := hz (lo + (n + 1)) (by omega)
    unfold sumS
    rw [ih, WD_get X Z (by omega), add_whole (by omega)]
    rfl
/-- A mean of whole numbers lies between them; of like ones it is that one. -/
theorem mean_b {X Z : Nat → Int} {m lo hi : Nat} (hz : ∀ k, k < m → (Z k).natAbs ≤ 10000) (h1 : lo < hi) (h2 : hi ≤ m) (h3 : hi - lo ≤ 20) : meanN (WD X Z m) lo hi < 4294967296 ∧ meanN (WD X Z m) lo hi % 2147483648 < 2139095040 ∧ ∀ z : Int, z.natAbs ≤ 10000 → ((∀ j, lo ≤ j → j < hi → Z j ≤ z) → ordN (meanN (WD X Z m) lo hi) ≤ ordN (wholeN z)) ∧ ((∀ j, lo ≤ j → j < hi → z ≤ Z j) → ordN (wholeN z) ≤ ordN (meanN (WD X Z m) lo hi)) := by
  obtain ⟨n, hn⟩ : ∃ n, hi - lo = n + 1 := ⟨hi - lo - 1, by omega⟩
  unfold meanN
  rw [show hi - lo - 1 = n by omega, sum_exact hz n (by omega) (by omega), show (hi : Int) - (lo : Int) = ((n + 1 : Nat) : Int) by omega]
  have hb := sumI_b (Z := Z) (lo := lo) (a := -10000) (b := 10000) n (fun j h1 h2 => by have := hz j (by omega); omega)
  obtain ⟨q1, q2, q3⟩ := quo_whole (S := sumI Z lo n) (n := n + 1) (by omega) (by omega) (by omega)
  refine ⟨q1, q2, fun z hzb => ⟨fun h => (q3 z (by omega)).1 ?_, fun h => (q3 z (by omega)).2 ?_⟩⟩
  · exact (sumI_b (Z := Z) (lo := lo) (a := -10000) (b := z) n (fun j a1 a2 => ⟨by have := hz j (by omega); omega, h j a1 (by omega)⟩)).2
  · exact (sumI_b (Z := Z) (lo := lo) (a := z) (b := 10000) n (fun j a1 a2 => ⟨h j a1 (by omega), by have := hz j (by omega); omega⟩)).1
theorem smoothN_get (D : Dots) (r : Nat) : ∀ m k, k < m → (smoothN D r m).getD k (0, 0) = ((D.getD k (0, 0)).1, meanN D (loN k r) (hiN k r D.length))
  | m + 1, k, h => by
    have e : smoothN D r (m + 1) = smoothN D r m ++ [((D.getD m (0, 0)).1, meanN D (loN m r) (hiN m r D.length))] := rfl
    have hl := smoothN_len D r m
    rw [e, List.getD_eq_getElem?_getD]
    by_cases hk : k < m
    · rw [List.getElem?_append_left (by omega), ← List.getD_eq_getElem?_getD]
      exact smoothN_get D r m k hk
    · obtain rfl : k = m := by omega
      rw [List.getElem?_append_right (by omega), hl, Nat.sub_self]
      rfl
end Go.Proofs.Yteefieidfgpijaa.CF


namespace Go.Proofs.Yteefieidfgpijaa.CF
open Go.RowKit

/-- How many. -/
def cnt (f : Nat → Bool) : Nat → Nat
  | 0 => 0
  | k + 1 => cnt f k + if f k = true then 1 else 0
theorem cnt_le (f : Nat → Bool) : ∀ k, cnt f k ≤ k
  | 0 => Nat.le_refl _
  | k + 1 => by have := cnt_le f k; unfold cnt; split <;> omega
theorem cnt_pos (f : Nat → Bool) : ∀ k, 0 < cnt f k ↔ ∃ i, i < k ∧ f i = true
  | 0 => ⟨fun h => absurd h (by unfold cnt; omega), fun ⟨i, h, _⟩ => absurd h (by omega)⟩
  | k + 1 => by
    have ih := cnt_pos f k
    unfold cnt
    constructor
    · intro h
      by_cases hk : f k = true
      · exact ⟨k, by omega, hk⟩
      · rw [if_neg hk] at h
        obtain ⟨i, h1, h2⟩ := ih.1 (by omega)
        exact ⟨i, by omega, h2⟩
    · rintro ⟨i, h1, h2⟩
      by_cases hik : i = k
      · subst hik; rw [if_pos h2]; omega
      · have := ih.2 ⟨i, by omega, h2⟩
        omega
theorem cnt_or (f g : Nat → Bool) : ∀ k, cnt (fun i => f i || g i) k ≤ cnt f k + cnt g k
  | 0 => by unfold cnt; omega
  | k + 1 => by
    have := cnt_or f g k
    unfold cnt
    cases f k <;> cases g k <;> simp <;> omega
theorem cnt_one (g : Nat → Bool) (h : ∀ i j, g i = true → g j = true → i = j) : ∀ k, cnt g k ≤ 1
  | 0 => by unfold cnt; omega
  | k + 1 => by
    have ih := cnt_one g h k
    unfold cnt
    by_cases hk : g k = true
    · have : ¬ 0 < cnt g k := fun hp => by
        obtain ⟨i, h1, h2⟩ := (cnt_pos g k).1 hp
        have := h i k h2 hk
        omega
      rw [if_pos hk]
      omega
    · rw [if_neg hk]
      omega
theorem cnt_congr {f g : Nat → Bool} : ∀ k, (∀ i, i < k → f i = g i) → cnt f k = cnt g k
  | 0, _ => rfl
  | k + 1, h => by
    have := cnt_congr (f := f) (g := g) k (fun i hi => h i (by omega))
    unfold cnt
    rw [this, h k (by omega)]
/-- The stars of a column, line by line. -/
def colS (D : Dots) (n wide m c : Nat) : Nat := cnt (fun i => star D n wide m (n - i) c && decide (i ≤ n)) (n + 1)
/-- The points of a column. -/
def colP (D : Dots) (wide m c : Nat) : Nat := cnt (fun k => colK D wide k == c) m
theorem colS_le (D : Dots) (n wide c : Nat) : ∀ m, colS D n wide m c ≤ colP D wide m c
  | 0 => by
    have : ¬ 0 < colS D n wide 0 c := fun h => by
      obtain ⟨i, -, h2⟩ := (cnt_pos _ _).1 h
      simp [star] at h2
    omega
  | m + 1 => by
    have ih := colS_le D n wide c m
    have e : colP D wide (m + 1) c = colP D wide m c + if (colK D wide m == c) = true then 1 else 0 := rfl
    have h1 : colS D n wide (m + 1) c = cnt (fun i => (star D n wide m (n - i) c && decide (i ≤ n)) || (rowK D n m == n - i && colK D wide m == c && decide (i ≤ n))) (n + 1) := by
      unfold colS
      apply cnt_congr
      intro i hi
      rw [star_succ]
      cases star D n wide m (n - i) c <;> cases (rowK D n m == n - i && colK D wide m == c) <;> cases decide (i ≤ n) <;> rfl
    have h2 := cnt_or (fun i => star D n wide m (n - i) c && decide (i ≤ n)) (fun i => rowK D n m == n - i && colK D wide m == c && decide (i ≤ n)) (n + 1)
    have h3 : cnt (fun i => rowK D n m == n - i && colK D wide m == c && decide (i ≤ n)) (n + 1) ≤ if (colK D wide m == c) = true then 1 else 0 := by
      by_cases hc : (colK D wide m == c) = true
      · rw [if_pos hc]
        refine cnt_one _ (fun i j hi hj => ?_) _
        simp at hi hj
        omega
      · rw [if_neg hc]
        have : ¬ 0 < cnt (fun i => rowK D n m == n - i && colK D wide m == c && decide (i ≤ n)) (n + 1) := fun h => by
          obtain ⟨i, -, hi⟩ := (cnt_pos _ _).1 h
          simp at hi hc
          exact hc hi.1.2
        omega
    rw [h1, e]
    have e2 : cnt (fun i => star D n wide m (n - i) c && decide (i ≤ n)) (n + 1) = colS D n wide m c := rfl
    rw [e2] at h2
    omega
theorem star_some {D : Dots} {n wide m r c : Nat} : star D n wide m r c = true ↔ ∃ k, k < m ∧ rowK D n k = r ∧ colK D wide k = c := by
  unfold star
  rw [List.any_eq_true]
  constructor
  · rintro ⟨k, hk, h⟩
    simp at h
    exact ⟨k, List.mem_range.1 hk, h.1, h.2⟩
  · rintro ⟨k, hk, h1, h2⟩
    exact ⟨k, List.mem_range.2 hk, by simp [h1, h2]⟩
theorem colS_pos {D : Dots} {n wide m c : Nat} (hr : ∀ k, k < m → rowK D n k ≤ n) : 0 < colS D n wide m c ↔ 0 < colP D wide m c := by
  constructor
  · intro h
    have := colS_le D n wide c m
    omega
  · intro h
    obtain ⟨k, hk, hc⟩ := (cnt_pos _ _).1 h
    have hrk := hr k hk
    refine (cnt_pos _ _).2 ⟨n - rowK D n k, by omega, ?_⟩
    have e : n - (n - rowK D n k) = rowK D n k := by omega
    rw [e, star_some.2 ⟨k, hk, rfl, by simpa using hc⟩]
    simp
/-- The sum over columns. -/
def sumK (f : Nat → Nat) : Nat → Nat
  | 0 => 0
  | k + 1 => sumK f k + f k
theorem sumK_pos (f : Nat → Nat) : ∀ k, 0 < sumK f k ↔ ∃ i, i < k ∧ 0 < f i
  | 0 => ⟨fun h => absurd h (by unfold sumK; omega), fun ⟨i, h, _⟩ => absurd h (by omega)⟩
  | k + 1 => by
    have ih := sumK_pos f k
    unfold sumK
    constructor
    · intro h
      by_cases hk : 0 < f k
      · exact ⟨k, by omega, hk⟩
      · obtain ⟨i, h1, h2⟩ := ih.1 (by omega)
        exact ⟨i, by omega, h2⟩
    · rintro ⟨i, h1, h2⟩
      by_cases hik : i = k
      · subst hik; omega
      · have := ih.2 ⟨i, by omega, h2⟩
        omega
theorem sumK_le {f : Nat → Nat} {b : Nat} (h : ∀ i, f i ≤ b) : ∀ k, sumK f k ≤ k * b
  | 0 => by unfold sumK; omega
  | k + 1 => by
    have := sumK_le h k
    have := h k
    unfold sumK
    rw [Nat.succ_mul]
    omega
/-- One line's star in a column. -/
def oneS1 (D : Dots) (n wide m r c : Nat) : Nat := if star D n wide m r c = true then 1 else 0
end Go.Proofs.Yteefieidfgpijaa.CF

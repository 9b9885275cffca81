import Derived.Test.YteefieidfgpijaaCgF
import Derived.Laws.StructEq
namespace Go.Proofs.Yteefieidfgpijaa.CF
open Go.RowKit
attribute [local go_sem] run_store_float

theorem run_equalIn_f32 (w : World) (d : Nat) (a b : Nat) : (Op.equalIn (d + 1) 33 (.float .f32 a) (.float .f32 b)).run Try.prog w = .ok (Op.floatEq .f32 a b) w := by
  simp [Op.equalIn, Sem.run_bind, run_underlying Try.underlying33]
theorem flds : (Try.prog.fieldsOf 35).toList.map (fun f => (f.name, f.type, f.offset)) = [("X", 2, 0), ("Y", 33, 1)] := by kernel_rfl
theorem part_x (x : Int) (p : Nat) (w : World) : (part 2 #[.int .i64 x, .float .f32 p] 0).run Try.prog w = .ok (.int .i64 x) w := by kernel_rfl
theorem part_y (x : Int) (p : Nat) (w : World) : (part 33 #[.int .i64 x, .float .f32 p] 1).run Try.prog w = .ok (.float .f32 p) w := by kernel_rfl
theorem pt_eq (x : Int) (p q : Nat) (d : Nat) (w : World) : (Op.equalIn (d + 2) 35 (.agg #[.int .i64 x, .float .f32 p]) (.agg #[.int .i64 x, .float .f32 q])).run Try.prog w = .ok (Op.floatEq .f32 p q) w := by
  rw [run_equalIn_struct w (d + 1) 35 _ _ (by kernel_rfl) (by kernel_rfl)]
  have hf := flds
  cases h1 : (Try.prog.fieldsOf 35).toList with
  | nil => rw [h1] at hf; cases hf
  | cons f fs =>
    rw [h1] at hf
    cases fs with
    | nil => exact absurd (congrArg List.length hf) (by simp)
    | cons g gs =>
      cases gs with
      | nil =>
        simp only [List.map_cons, List.map_nil, List.cons.injEq, Prod.mk.injEq, and_true] at hf
        obtain ⟨⟨f1, f2, f3⟩, g1, g2, g3⟩ := hf
        simp only [Op.eqFields, f1, f2, f3, g1, g2, g3, Sem.run_bind, Sem.run_ite, part_x, part_y, Result.andThen_ok, run_equalIn_int w d 2 .i64 .i64 x x Try.underlying2, run_equalIn_f32, beq_self_eq_true, Sem.run_pure]
        cases Op.floatEq .f32 p q <;> simp
      | cons _ _ => exact absurd (congrArg List.length hf) (by simp)
theorem neq_pt (x : Int) {p q : Nat} (h : Op.floatEq .f32 p q = true) (w : World) : (binOp .neq 35 (.agg #[.int .i64 x, .float .f32 p]) (.agg #[.int .i64 x, .float .f32 q])).run Try.prog w = .ok (.bool false) w := by
  rw [run_neq_struct, pt_eq x p q 9998 w, h]
  rfl
theorem feq {p q : Nat} (hp : p < 4294967296) (hq : q < 4294967296) (fp : p % 2147483648 ≤ 2139095040) (fq : q % 2147483648 ≤ 2139095040) (h : ordN p = ordN q) : Op.floatEq .f32 p q = true := by
  unfold Op.floatEq
  have e : FloatKind.f32.format.order p q = some (cmpI (ordN p) (ordN q)) := order_eq hp hq fp fq
  rw [e, h]
  unfold cmpI
  rw [if_neg (by omega), if_pos rfl]
  rfl
theorem flt {p q : Nat} (hp : p < 4294967296) (hq : q < 4294967296) (fp : p % 2147483648 ≤ 2139095040) (fq : q % 2147483648 ≤ 2139095040) : (FloatKind.f32.format.order p q == some .lt) = decide (ordN p < ordN q) ∧ (FloatKind.f32.format.order p q == some .gt) = decide (ordN q < ordN p) := by
  have e : FloatKind.f32.format.order p q = some (cmpI (ordN p) (ordN q)) := order_eq hp hq fp fq
  rw [e]
  unfold cmpI
  by_cases h1 : ordN p < ordN q
  · rw [if_pos h1, decide_eq_true h1, decide_eq_false (by omega)]
    exact ⟨rfl, rfl⟩
  · rw [if_neg h1, decide_eq_false h1]
    by_cases h2 : ordN p = ordN q
    · rw [if_pos h2, decide_eq_false (by omega)]
      exact ⟨rfl, rfl⟩
    · rw [if_neg h2, decide_eq_true (by omega)]
      exact ⟨rfl, rfl⟩
/-- The sum of n + 1 whole numbers from lo on. -/
def sumI (Z : Nat → Int) (lo : Nat) : Nat → Int
  | 0 => Z lo
  | n + 1 => sumI Z lo n + Z (lo + (n + 1))
theorem sumI_b {Z : Nat → Int} {lo : Nat} {a b : Int} : ∀ n, (∀ j, lo ≤ j → j ≤ lo + n → a ≤ Z j ∧ Z j ≤ b) → a * ((n + 1 : Nat) : Int) ≤ sumI Z lo n ∧ sumI Z lo n ≤ b * ((n + 1 : Nat) : Int)
  | 0, h => by
    have := h lo (Nat.le_refl _) (by omega)
    show a * ((1 : Nat) : Int) ≤ Z lo ∧ Z lo ≤ b * ((1 : Nat) : Int)
    omega
  | n + 1, h => by
    have ih := sumI_b n (fun j h1 h2 => h j h1 (by omega))
    have h2 := h (lo + (n + 1)) (by omega) (by omega)
    have e : sumI Z lo (n + 1) = sumI Z lo n + Z (lo + (n + 1)) := rfl
    have e1 : a * ((n + 1 + 1 : Nat) : Int) = a * ((n + 1 : Nat) : Int) + a := by rw [Int.natCast_add (n + 1) 1, Int.mul_add]; simp
    have e2 : b * ((n + 1 + 1 : Nat) : Int) = b * ((n + 1 : Nat) : Int) + b := by rw [Int.natCast_add (n + 1) 1, Int.mul_add]; simp
    rw [e, e1, e2]
    omega
theorem sum_exact {X Z : Nat → Int} {m lo : Nat} (hz : ∀ k, k < m → (Z k).natAbs ≤ 10000) : ∀ n, n ≤ 20 → lo + n < m → sumS (WD X Z m) lo n = wholeN (sumI Z lo n)
  | 0, _, h => by
    unfold sumS sumI
    rw [WD_get X Z (by omega)]
  | n + 1, hn, h => by
    have ih := sum_exact (X := X) hz (lo := lo) n (by omega) (by omega)
    have hb := sumI_b (Z := Z) (lo := lo) (a := -10000) (b := 10000) n (fun j h1 h2 => by have := hz j (by omega); omega)
    have hz2 := hz (lo + (n + 1)) (by omega)
    unfold sumS
    rw [ih, WD_get X Z (by omega), add_whole (by omega)]
    rfl
/-- A mean of whole numbers lies between them; of like ones it is that one. -/
theorem mean_b {X Z : Nat → Int} {m lo hi : Nat} (hz : ∀ k, k < m → (Z k).natAbs ≤ 10000) (h1 : lo < hi) (h2 : hi ≤ m) (h3 : hi - lo ≤ 20) : meanN (WD X Z m) lo hi < 4294967296 ∧ meanN (WD X Z m) lo hi % 2147483648 < 2139095040 ∧ ∀ z : Int, z.natAbs ≤ 10000 → ((∀ j, lo ≤ j → j < hi → Z j ≤ z) → ordN (meanN (WD X Z m) lo hi) ≤ ordN (wholeN z)) ∧ ((∀ j, lo ≤ j → j < hi → z ≤ Z j) → ordN (wholeN z) ≤ ordN (meanN (WD X Z m) lo hi)) := by
  obtain ⟨n, hn⟩ : ∃ n, hi - lo = n + 1 := ⟨hi - lo - 1, by omega⟩
  unfold meanN
  rw [show hi - lo - 1 = n by omega, sum_exact hz n (by omega) (by omega), show (hi : Int) - (lo : Int) = ((n + 1 : Nat) : Int) by omega]
  have hb := sumI_b (Z := Z) (lo := lo) (a := -10000) (b := 10000) n (fun j h1 h2 => by have := hz j (by omega); omega)
  obtain ⟨q1, q2, q3⟩ := quo_whole (S := sumI Z lo n) (n := n + 1) (by omega) (by omega) (by omega)
  refine ⟨q1, q2, fun z hzb => ⟨fun h => (q3 z (by omega)).1 ?_, fun h => (q3 z (by omega)).2 ?_⟩⟩
  · exact (sumI_b (Z := Z) (lo := lo) (a := -10000) (b := z) n (fun j a1 a2 => ⟨by have := hz j (by omega); omega, h j a1 (by omega)⟩)).2
  · exact (sumI_b (Z := Z) (lo := lo) (a := z) (b := 10000) n (fun j a1 a2 => ⟨h j a1 (by omega), by have := hz j (by omega); omega⟩)).1
theorem smoothN_get (D : Dots) (r : Nat) : ∀ m k, k < m → (smoothN D r m).getD k (0, 0) = ((D.getD k (0, 0)).1, meanN D (loN k r) (hiN k r D.length))
  | m + 1, k, h => by
    have e : smoothN D r (m + 1) = smoothN D r m ++ [((D.getD m (0, 0)).1, meanN D (loN m r) (hiN m r D.length))] := rfl
    have hl := smoothN_len D r m
    rw [e, List.getD_eq_getElem?_getD]
    by_cases hk : k < m
    · rw [List.getElem?_append_left (by omega), ← List.getD_eq_getElem?_getD]
      exact smoothN_get D r m k hk
    · obtain rfl : k = m := by omega
      rw [List.getElem?_append_right (by omega), hl, Nat.sub_self]
      rfl
end Go.Proofs.Yteefieidfgpijaa.CF

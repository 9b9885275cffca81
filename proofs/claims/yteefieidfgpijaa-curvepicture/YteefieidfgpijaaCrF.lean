import Derived.Test.YteefieidfgpijaaCrE
namespace Go.Proofs.Yteefieidfgpijaa.CF
open Go.RowKit
attribute [local go_sem] run_store_float

theorem add_cases {a b : Nat} (ha : a < 4294967296) (hb : b < 4294967296) (h1 : a % 2147483648 ≤ 2139095040) (h2 : b % 2147483648 ≤ 2139095040) : (Ieee.single.add a b = none ∧ addN a b = 2143289344) ∨ (Ieee.single.add a b = some (addN a b) ∧ addN a b % 2147483648 ≤ 2139095040 ∧ addN a b < 4294967296) := by
  by_cases f1 : a % 2147483648 < 2139095040
  · exact .inr ⟨add_some ha hb f1 h2, addN_le hb f1 h2⟩
  · by_cases f2 : b % 2147483648 < 2139095040
    · exact .inr ⟨add_some2 ha hb h1 f2, addN_le2 ha hb h1 f2⟩
    · have h := addN_eq ha hb
      unfold Ieee.Format.add at h ⊢
      rw [read_inf ha (by omega), read_inf hb (by omega)] at h ⊢
      unfold Ieee.Datum.sum at h ⊢
      simp only at h ⊢
      by_cases h5 : a = b
      · subst h5
        rw [if_pos rfl] at h ⊢
        refine .inr ⟨by rw [h]; rfl, ?_⟩
        unfold addN
        rw [if_neg (by omega), if_pos f1]
        exact ⟨h1, ha⟩
      · have hn : ¬ pS a = pS b := fun e => by
          unfold pS at e
          have := decide_eq_decide.1 e
          omega
        rw [if_neg hn] at h ⊢
        exact .inl ⟨rfl, h⟩
theorem sub_cases {a b : Nat} (ha : a < 4294967296) (hb : b < 4294967296) : (Ieee.single.sub a b = none ∧ subN a b = 2143289344) ∨ (Ieee.single.sub a b = some (subN a b) ∧ subN a b % 2147483648 ≤ 2139095040 ∧ subN a b < 4294967296) := by
  by_cases h1 : 2139095040 < a % 2147483648
  · have hs : Ieee.single.sub a b = none := by
      unfold Ieee.Format.sub
      obtain ⟨s, t, e⟩ := read_nan h1
      rw [e]
      unfold Ieee.Datum.sum
      rfl
    exact .inl ⟨hs, by rw [subN_eq ha hb, hs]; rfl⟩
  · by_cases h2 : 2139095040 < b % 2147483648
    · have hs : Ieee.single.sub a b = none := by
        unfold Ieee.Format.sub
        obtain ⟨s, t, e⟩ := read_nan h2
        rw [e, sum_comm]
        unfold Ieee.Datum.opposite Ieee.Datum.sum
        rfl
      exact .inl ⟨hs, by rw [subN_eq ha hb, hs]; rfl⟩
    · have e : Ieee.single.sub a b = Ieee.single.add a (negN b) := by
        unfold Ieee.Format.sub Ieee.Format.add
        rw [read_neg hb h2]
      rw [e]
      unfold subN
      exact add_cases ha (negN_lt hb) (by omega) (by rw [negN_mod b hb]; omega)
/-- A difference that is no number: the bits are the machine's. -/
theorem sub_nan {x y : Nat} (h : Ieee.single.sub x y = none) (w : World) : ∃ nb, 2139095040 < nb % 2147483648 ∧ nb < 4294967296 ∧ (binOp .sub 33 (.float .f32 x) (.float .f32 y)).run Try.prog w = .ok (.float .f32 nb) w.drew := by
  have h' : FloatKind.f32.format.sub x y = none := h
  refine ⟨(w.tape w.drawn (.nanBits .f32 x y) % 2) * 2 ^ 31 + 0x7f800000 + 1 + (w.tape w.drawn (.nanBits .f32 x y) / 2) % (2 ^ 23 - 1), ?_, ?_, ?_⟩
  · generalize w.tape w.drawn (.nanBits .f32 x y) = T
    have h1 : T / 2 % (2 ^ 23 - 1) < 8388607 := Nat.mod_lt _ (by decide)
    rcases Nat.mod_two_eq_zero_or_one T with h2 | h2 <;> rw [h2] <;> omega
  · omega
  · simp [binOp, Op.floatArith, h', go_sem]
    rfl
/-- Is the height at this point a jump? -/
def jmp (d z : Nat) : Bool := decide (d % 2147483648 ≤ 2139095040 ∧ z % 2147483648 ≤ 2139095040 ∧ ordN z ≤ ((d % 2147483648 : Nat) : Int))
/-- A difference without its sign. -/
def amtN (d : Nat) : Nat := if d % 2147483648 ≤ 2139095040 ∧ ordN d < 0 then negN d else d
theorem amt_lt {d : Nat} (h : d < 4294967296) : amtN d < 4294967296 := by
  unfold amtN
  split
  · exact negN_lt h
  · exact h
theorem amt_mod {d : Nat} (h : d < 4294967296) : amtN d % 2147483648 = d % 2147483648 := by
  unfold amtN
  split
  · exact negN_mod d h
  · rfl
theorem amt_ord {d : Nat} (h : d < 4294967296) (hn : d % 2147483648 ≤ 2139095040) : ordN (amtN d) = ((d % 2147483648 : Nat) : Int) := by
  unfold amtN
  split
  · rename_i hc
    have h1 := hc.2
    unfold ordN at h1
    split at h1
    · unfold negN
      rw [if_pos (by assumption)]
      unfold ordN
      rw [if_neg (by omega)]
      omega
    · omega
  · rename_i hc
    have h1 : ¬ ordN d < 0 := fun e => hc ⟨hn, e⟩
    unfold ordN at h1 ⊢
    split at h1 <;> split <;> omega
theorem jmp_eq {d z : Nat} (hd : d < 4294967296) (hz : z < 4294967296) : (Ieee.single.order (amtN d) z == some .gt || Ieee.single.order (amtN d) z == some .eq) = jmp d z := by
  unfold jmp
  by_cases h1 : d % 2147483648 ≤ 2139095040
  · by_cases h2 : z % 2147483648 ≤ 2139095040
    · rw [order_eq (amt_lt hd) hz (by rw [amt_mod hd]; exact h1) h2, amt_ord hd h1]
      generalize ((d % 2147483648 : Nat) : Int) = p
      unfold cmpI
      by_cases h3 : p < ordN z
      · rw [if_pos h3, decide_eq_false (by omega)]; rfl
      · rw [if_neg h3, decide_eq_true ⟨h1, h2, by omega⟩]
        by_cases h4 : p = ordN z
        · rw [if_pos h4]; rfl
        · rw [if_neg h4]; rfl
    · rw [order_nan (.inr (by omega)), decide_eq_false (fun h => h2 h.2.1)]; rfl
  · rw [order_nan (.inl (by rw [amt_mod hd]; omega)), decide_eq_false (fun h => h1 h.1)]; rfl
theorem lt0 {d : Nat} (hd : d < 4294967296) : (Ieee.single.order d 0 == some .lt) = decide (d % 2147483648 ≤ 2139095040 ∧ ordN d < 0) := by
  by_cases h1 : d % 2147483648 ≤ 2139095040
  · rw [order_eq hd (by decide) h1 (by decide)]
    have h0 : ordN 0 = 0 := rfl
    rw [h0]
    unfold cmpI
    by_cases h3 : ordN d < 0
    · rw [if_pos h3, decide_eq_true ⟨h1, h3⟩]; rfl
    · rw [if_neg h3, decide_eq_false (fun h => h3 h.2)]
      by_cases h4 : ordN d = 0
      · rw [if_pos h4]; rfl
      · rw [if_neg h4]; rfl
  · rw [order_nan (.inl (by omega)), decide_eq_false (fun h => h1 h.1)]; rfl
theorem xor_hi {r : Nat} (h : r < 2 ^ 31) : r ^^^ 2 ^ 31 = 2 ^ 31 + r := by
  apply Nat.eq_of_testBit_eq
  intro i
  rw [Nat.testBit_xor]
  rcases Nat.lt_trichotomy i 31 with hi | hi | hi
  · rw [Nat.testBit_two_pow_add_gt hi, Nat.testBit_two_pow_of_ne (by omega), Bool.xor_false]
  · subst hi
    rw [Nat.testBit_two_pow_add_eq, Nat.testBit_two_pow_self, Bool.xor_true]
  · have h2 : 2 ^ 32 ≤ 2 ^ i := Nat.pow_le_pow_right (by decide) hi
    rw [Nat.testBit_lt_two_pow (Nat.lt_of_lt_of_le (show 2 ^ 31 + r < 2 ^ 32 by omega) h2), Nat.testBit_lt_two_pow (Nat.lt_of_lt_of_le (show r < 2 ^ 32 by omega) h2), Nat.testBit_two_pow_of_ne (by omega)]
    rfl
theorem neg_f32 {d : Nat} (hd : d < 4294967296) (w : World) : (Op.unary .neg (.float .f32 d)).run Try.prog w = .ok (.float .f32 (negN d)) w := by
  have e : Op.negFloat .f32 d = negN d := by
    show d ^^^ 2 ^ 31 = negN d
    unfold negN
    split
    · obtain ⟨r, rfl⟩ : ∃ r, d = 2 ^ 31 + r := ⟨d - 2 ^ 31, by omega⟩
      rw [← xor_hi (by omega), Nat.xor_assoc, Nat.xor_self, Nat.xor_zero, xor_hi (by omega)]
      omega
    · rw [xor_hi (by omega)]
      omega
  rw [← e]
  rfl
theorem amount_any (d : Nat) (hd : d < 4294967296) (w : World) : Calls Try.prog 29 #[.float .f32 d] w fun e w' => e = .returned (.float .f32 (amtN d)) ∧ w' = w := by
  have hf := lt0 hd
  obtain ⟨o1, h1⟩ : ∃ o, o = (Ieee.single.order d 0 == some .lt) := ⟨_, rfl⟩
  have k1 : (FloatKind.f32.format.order d 0 == some .lt) = o1 := h1.symm
  rw [← h1] at hf
  cases o1 with
  | true =>
    have e : amtN d = negN d := if_pos (of_decide_eq_true hf.symm)
    rw [e]
    clear h1 hf e
    have hng := neg_f32 hd
    go_enter Try.func29, Try.ntmps29
    go_wp2
    go_ret
    exact ⟨rfl, rfl⟩
  | false =>
    have e : amtN d = d := if_neg (of_decide_eq_false hf.symm)
    rw [e]
    clear h1 hf e
    go_enter Try.func29, Try.ntmps29
    go_wp2
    go_ret
    exact ⟨rfl, rfl⟩
end Go.Proofs.Yteefieidfgpijaa.CF

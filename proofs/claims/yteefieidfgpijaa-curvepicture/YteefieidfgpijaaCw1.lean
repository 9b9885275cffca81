import Derived.Test.YteefieidfgpijaaCfN
import Derived.WalkKit
import Derived.WalkSpells
import Derived.WalkLawsBesides
import Derived.Deep.QuietTactic
import Derived.BigQuiet
import Derived.Laws.Shifts
import Derived.Laws.FloatArith
import Derived.Deep.DeepCutAuto
import Derived.Deep.CutBlock
namespace Go.Proofs.Yteefieidfgpijaa.CF
open Go.RowKit

/-- A fact that the walk does not see. -/
structure Hid (p : Prop) : Prop where
  out : p

theorem run_store_float {P : Program} {w : World} {a : Addr} {m : Mode} (k : FloatKind) (b : Nat) : (store a (.float k b) m).run P w = stored P w a (.float k b) m := run_store P w a _ m rfl
theorem nan_any (b : Nat) (w : World) : Calls Try.prog 39 #[.int .u32 (b : Int)] w fun e w' => e = .returned (.bool (decide (2139095040 < b % 2147483648))) ∧ w' = w := by
  go_enter Try.func39, Try.ntmps39
  go_wp2
  go_ret
  refine ⟨?_, rfl⟩
  show Ending.returned (.bool (decide (2139095040 < (b : Int) % 2147483648))) = _
  rw [decide_eq_decide.2 (show (2139095040 < (b : Int) % 2147483648) ↔ 2139095040 < b % 2147483648 by omega)]
theorem finite_any (b : Nat) (w : World) : Calls Try.prog 47 #[.int .u32 (b : Int)] w fun e w' => e = .returned (.bool (decide (b % 2147483648 < 2139095040))) ∧ w' = w := by
  go_enter Try.func47, Try.ntmps47
  go_wp2
  go_ret
  refine ⟨?_, rfl⟩
  show Ending.returned (.bool (decide ((b : Int) % 2147483648 < 2139095040))) = _
  rw [decide_eq_decide.2 (show ((b : Int) % 2147483648 < 2139095040) ↔ b % 2147483648 < 2139095040 by omega)]
theorem bitsN_half {m : Nat} (h : 0 < m) : bitsN m = bitsN (m / 2) + 1 := by
  unfold bitsN
  rw [if_neg (by omega)]
  by_cases h1 : m / 2 = 0
  · rw [if_pos h1, show m = 1 by omega]
    rfl
  · rw [if_neg h1]
    congr 1
    rw [Nat.log2_eq_iff (by omega)]
    have h2 := Nat.log2_self_le h1
    have h3 : m / 2 < 2 ^ ((m / 2).log2 + 1) := Nat.lt_log2_self
    rw [Nat.pow_succ 2 ((m / 2).log2 + 1), Nat.pow_succ 2 (m / 2).log2] at *
    omega
theorem bitsN_le {m : Nat} (h : m < 18446744073709551616) : bitsN m ≤ 64 := by
  unfold bitsN
  split
  · omega
  · rename_i h0
    have := (Nat.log2_lt h0 (k := 64)).2 (by omega)
    omega
set_option maxHeartbeats 1000000 in
theorem bits_any (m : Nat) (hm : m < 18446744073709551616) (w : World) : Calls Try.prog 61 #[.int .u64 (m : Int)] w fun e w' => e = .returned (.int .i64 (bitsN m : Int)) ∧ w' = w := by
  have hb := bitsN_le hm
  go_enter Try.func61, Try.ntmps61
  go_wp2
  go_loopw [0, 3] (fun v x wr => ∃ (a k : Nat), v = .int .u64 (a : Int) ∧ x = .int .i64 (k : Int) ∧ bitsN m = bitsN a + k ∧ a ≤ m ∧ wr = w) (fun v _ _ => (intOf v).toNat)
  case atStart => exact ⟨m, 0, rfl, rfl, rfl, Nat.le_refl _, rfl⟩
  case round =>
    obtain ⟨a, k, rfl, rfl, h1, h2, rfl⟩ := hrel
    by_cases ha : 0 < a
    · have ha2 : (0 : Int) < (a : Int) := by omega
      have h3 := bitsN_half ha
      go_wp2
      go_roundw
      case rel => exact ⟨a / 2, k + 1, by rw [Int.natCast_ediv]; rfl, by rw [Int.natCast_add]; rfl, by omega, by omega, trivial⟩
      case measure => simp [intOf]; omega
    · have ha2 : ¬ (0 : Int) < (a : Int) := by omega
      go_wp2
      go_ret
      refine ⟨?_, rfl⟩
      obtain rfl : a = 0 := by omega
      have e0 : bitsN 0 = 0 := rfl
      rw [e0]
      simp
theorem signed_any (s : Bool) (b : Nat) (h : b < 2147483648) (w : World) : Calls Try.prog 60 #[.bool s, .int .u32 (b : Int)] w fun e w' => e = .returned (.int .u32 (wd s b : Int)) ∧ w' = w := by
  cases s with
  | true =>
    go_enter Try.func60, Try.ntmps60
    go_wp2
    go_ret
    refine ⟨?_, rfl⟩
    have e1 : ((wd true b : Nat) : Int) = (b : Int) + 2147483648 := by unfold wd; rw [if_pos rfl]; omega
    rw [e1]
    rfl
  | false =>
    go_enter Try.func60, Try.ntmps60
    go_wp2
    go_ret
    exact ⟨rfl, rfl⟩
theorem parts_any (b : Nat) (h : b < 4294967296) (w : World) : Calls Try.prog 58 #[.int .u32 (b : Int)] w fun e w' => e = .returned (.tuple #[.bool (pS b), .int .u64 (pM b : Int), .int .i64 (pE b)]) ∧ w' = w := by
  have hS : decide (2147483648 ≤ (b : Int)) = pS b := by unfold pS; exact decide_eq_decide.2 (by omega)
  by_cases h0 : b % 2147483648 / 8388608 = 0
  · have h1 : ((b : Int) % 2147483648 / 8388608 == 0) = true := beq_iff_eq.2 (by omega)
    have hM : (b : Int) % 8388608 = (pM b : Int) := by unfold pM; rw [if_pos h0]; omega
    have hE : (-149 : Int) = pE b := by unfold pE; rw [if_pos h0]
    go_enter Try.func58, Try.ntmps58
    go_wp2
    exact bodyPost_ret (v := .tuple #[.bool (pS b), .int .u64 (pM b : Int), .int .i64 (pE b)]) (by simp [results, Try.results58, go_sem, hM, hE]) rfl ⟨rfl, rfl⟩
  · have h1 : ((b : Int) % 2147483648 / 8388608 == 0) = false := beq_eq_false_iff_ne.2 (by omega)
    have hM : (b : Int) % 8388608 + 8388608 = (pM b : Int) := by unfold pM; rw [if_neg h0]; omega
    have hE : (b : Int) % 2147483648 / 8388608 - 150 = pE b := by unfold pE; rw [if_neg h0]; omega
    go_enter Try.func58, Try.ntmps58
    go_wp2
    exact bodyPost_ret (v := .tuple #[.bool (pS b), .int .u64 (pM b : Int), .int .i64 (pE b)]) (by simp [results, Try.results58, go_sem]) rfl ⟨rfl, rfl⟩
theorem wrap_u64_of {n : Int} (h0 : 0 ≤ n) (h1 : n < 18446744073709551616) : IntKind.u64.wrap n = n := by
  show n % 18446744073709551616 = n
  omega
theorem kept_facts (m : Nat) (s : Int) (more : Bool) (one r q : Int) (hs0 : 0 < s) (hs63 : s ≤ 63) (hb : (bitsN m : Int) - 24 ≤ s) (hone : one = ((2 ^ s.toNat : Nat) : Int)) (hr : (m : Int) % one = r) (hq : (m : Int) / one = q) : IntKind.u64.wrap (2 ^ s.toNat) = one ∧ 2 ≤ one ∧ 0 ≤ q ∧ q < 16777216 ∧ ((keptN m s more : Nat) : Int) = q + if one / 2 < r ∨ (r = one / 2 ∧ (more = true ∨ q % 2 = 1)) then 1 else 0 := by
  have hp : 2 ^ s.toNat ≤ 2 ^ 63 := Nat.pow_le_pow_right (by omega) (by omega)
  have hp1 : 2 ^ 1 ≤ 2 ^ s.toNat := Nat.pow_le_pow_right (by omega) (by omega)
  have hq1 : m / 2 ^ s.toNat < 16777216 := by
    rw [Nat.div_lt_iff_lt_mul (Nat.two_pow_pos _), show (16777216 : Nat) = 2 ^ 24 by decide, ← Nat.pow_add]
    exact Nat.lt_of_lt_of_le (lt_bits m) (Nat.pow_le_pow_right (by omega) (by omega))
  have hqN : q = ((m / 2 ^ s.toNat : Nat) : Int) := by rw [← hq, hone, Int.natCast_ediv]
  have hrN : r = ((m % 2 ^ s.toNat : Nat) : Int) := by rw [← hr, hone, Int.natCast_emod]
  have hoI : (2 : Int) ^ s.toNat = one := by rw [hone, Int.natCast_pow]; rfl
  refine ⟨?_, by omega, by rw [hqN]; exact Int.natCast_nonneg _, by rw [hqN]; exact Int.ofNat_lt.2 hq1, ?_⟩
  · rw [hoI]
    exact wrap_u64_of (by omega) (by omega)
  · unfold keptN
    rw [if_pos hs0, Int.natCast_add, ← hqN]
    congr 1
    have : (2 ^ s.toNat / 2 < m % 2 ^ s.toNat ∨ (m % 2 ^ s.toNat = 2 ^ s.toNat / 2 ∧ (more = true ∨ m / 2 ^ s.toNat % 2 = 1))) ↔ (one / 2 < r ∨ (r = one / 2 ∧ (more = true ∨ q % 2 = 1))) := by
      rw [hqN, hrN, hone]
      generalize 2 ^ s.toNat = O
      generalize m % O = R
      generalize m / O = Q
      constructor
      · rintro (h | ⟨h, h2⟩)
        · left; omega
        · right; exact ⟨by omega, h2.imp id (fun h => by omega)⟩
      · rintro (h | ⟨h, h2⟩)
        · left; omega
        · right; exact ⟨by omega, h2.imp id (fun h => by omega)⟩
    by_cases hc : one / 2 < r ∨ (r = one / 2 ∧ (more = true ∨ q % 2 = 1))
    · rw [if_pos hc, if_pos (this.2 hc)]; rfl
    · rw [if_neg hc, if_neg (fun h => hc (this.1 h))]; rfl
theorem half_lt {s : Int} (h : s ≤ 63) : ((2 ^ s.toNat : Nat) : Int) / 2 < 18446744073709551616 := by
  have hp : 2 ^ s.toNat ≤ 2 ^ 63 := Nat.pow_le_pow_right (by omega) (by omega)
  omega
theorem kept_neg (m : Nat) (s : Int) (more : Bool) (hs : ¬ 0 < s) (hb : (bitsN m : Int) - 24 ≤ s) : IntKind.u64.wrap ((m : Int) * 2 ^ (-s).toNat) = ((keptN m s more : Nat) : Int) := by
  unfold keptN
  rw [if_neg hs]
  have h1 : m * 2 ^ (-s).toNat < 2 ^ bitsN m * 2 ^ (-s).toNat := Nat.mul_lt_mul_of_pos_right (lt_bits m) (Nat.two_pow_pos _)
  rw [← Nat.pow_add] at h1
  have h24 : 2 ^ (bitsN m + (-s).toNat) ≤ 2 ^ 24 := Nat.pow_le_pow_right (by omega) (by omega)
  rw [Int.natCast_mul, Int.natCast_pow]
  refine wrap_u64_of (Int.mul_nonneg (by omega) (Int.pow_nonneg (by decide))) ?_
  have e : ((m : Int) * 2 ^ (-s).toNat) = ((m * 2 ^ (-s).toNat : Nat) : Int) := by rw [Int.natCast_mul, Int.natCast_pow]; rfl
  rw [e]
  omega
theorem kept_le (m : Nat) (s : Int) (more : Bool) (hb : (bitsN m : Int) - 24 ≤ s) : keptN m s more ≤ 16777216 := by
  unfold keptN
  split
  · have hq1 : m / 2 ^ s.toNat < 16777216 := by
      rw [Nat.div_lt_iff_lt_mul (Nat.two_pow_pos _), show (16777216 : Nat) = 2 ^ 24 by decide, ← Nat.pow_add]
      exact Nat.lt_of_lt_of_le (lt_bits m) (Nat.pow_le_pow_right (by omega) (by omega))
    split <;> omega
  · have h1 : m * 2 ^ (-s).toNat < 2 ^ bitsN m * 2 ^ (-s).toNat := Nat.mul_lt_mul_of_pos_right (lt_bits m) (Nat.two_pow_pos _)
    rw [← Nat.pow_add] at h1
    have h24 : 2 ^ (bitsN m + (-s).toNat) ≤ 2 ^ 24 := Nat.pow_le_pow_right (by omega) (by omega)
    omega
theorem packN_lt (K : Nat) (L : Int) (hK : K ≤ 16777216) : packN K L < 2147483648 := by
  unfold packN
  repeat (first | split | omega)
theorem packN_int (K : Nat) (L : Int) (hL : -149 ≤ L) : ((packN K L : Nat) : Int) = if (K : Int) = 16777216 then (if L + 1 + 150 ≥ 255 then 2139095040 else (L + 1 + 150) * 8388608) else if (K : Int) < 8388608 then (K : Int) else if L + 150 ≥ 255 then 2139095040 else (L + 150) * 8388608 + ((K : Int) - 8388608) := by
  unfold packN
  by_cases h1 : K = 16777216
  · rw [if_pos h1, if_pos (show (K : Int) = 16777216 by omega)]
    by_cases h2 : L + 1 + 150 ≥ 255
    · rw [if_pos h2, if_pos h2]; rfl
    · rw [if_neg h2, if_neg h2]; omega
  · rw [if_neg h1, if_neg (show ¬ (K : Int) = 16777216 by omega)]
    by_cases h2 : K < 8388608
    · rw [if_pos h2, if_pos (show (K : Int) < 8388608 by omega)]
    · rw [if_neg h2, if_neg (show ¬ (K : Int) < 8388608 by omega)]
      by_cases h3 : L + 150 ≥ 255
      · rw [if_pos h3, if_pos h3]; rfl
      · rw [if_neg h3, if_neg h3]; omega
set_option maxRecDepth 100000 in
set_option maxHeartbeats 1000000 in
theorem rounded_any (minus : Bool) (m : Nat) (e : Int) (more : Bool) (hm : m < 18446744073709551616) (he : -1000 ≤ e ∧ e ≤ 1000) (h63 : 0 < shiftN m e → shiftN m e ≤ (bitsN m : Int) → shiftN m e ≤ 63) (w : World) : Calls Try.prog 59 #[.bool minus, .int .u64 (m : Int), .int .i64 e, .bool more] w fun en w' => en = .returned (.int .u32 (rnd minus m e more : Int)) ∧ w' = w := by
  have hb := bitsN_le hm
  have hbc := bits_any m hm w
  obtain ⟨Q, hQ⟩ : ∃ Q : Ending → World → Prop, Q = fun en w' => en = .returned (.int .u32 (rnd minus m e more : Int)) ∧ w' = w := ⟨_, rfl⟩
  have hfin : Hid (∀ x : Int, x = (rnd minus m e more : Int) → Q (.returned (.int .u32 x)) w) := ⟨fun x hx => by rw [hQ, hx]; exact ⟨rfl, rfl⟩⟩
  rw [← hQ]
  clear hQ
  obtain ⟨s, hs⟩ : ∃ s, s = shiftN m e := ⟨_, rfl⟩
  obtain ⟨n, hn⟩ : ∃ n : Int, n = (bitsN m : Int) := ⟨_, rfl⟩
  rw [← hn] at hbc
  rw [← hn, ← hs] at h63
  replace h63 := Hid.mk h63
  have hn0 : 0 ≤ n ∧ n ≤ 64 := by omega
  have hs1 : Hid (s = if e + (n - 24) < -149 then -149 - e else n - 24) := ⟨by rw [hs, hn]; rfl⟩
  have hs2 : Hid (rnd minus m e more = if n < s then wd minus 0 else wd minus (packN (keptN m s more) (e + s))) := ⟨by rw [hs, hn]; rfl⟩
  have hnH := Hid.mk hn
  have hmH := Hid.mk hm
  clear hs hn hb hm
  go_enter Try.func59, Try.ntmps59
  go_wp2_with (go_at_call 61; fail)
  refine hbc.mono ?_
  rintro e1 w1 ⟨rfl, hw1⟩
  subst w1
  clear hbc
  go_upto_if 20 with fail
  go_cut [10] (fun sv wx => sv = .int .i64 s ∧ wx = w)
  case first =>
    by_cases h1 : e + (n - 24) < -149
    · have h2 : -149 - e = s := by rw [hs1.out, if_pos h1]
      go_wp2
      go_meet
      exact ⟨rfl, rfl⟩
    · have h2 : n - 24 = s := by rw [hs1.out, if_neg h1]
      go_wp2
      go_meet
      exact ⟨rfl, rfl⟩
  case rest =>
  obtain ⟨rfl, rfl⟩ := hcut
  have hsb : -1200 ≤ s ∧ s ≤ 1200 := by rw [hs1.out]; split <;> omega
  by_cases hsn : n < s
  · have hf := hfin.out (wd minus 0) (by rw [hs2.out, if_pos hsn])
    have hsg := signed_any minus 0 (by omega) wc
    go_wp2_with (go_at_call 60; refine hsg.mono ?_; rintro _ _ ⟨rfl, rfl⟩)
    exact hf
  · obtain ⟨K, hK⟩ : ∃ K : Int, K = (keptN m s more : Int) := ⟨_, rfl⟩
    have hnb : n - 24 ≤ s := by rw [hs1.out]; split <;> omega
    have hKb : 0 ≤ K ∧ K ≤ 16777216 := by have := kept_le m s more (by have := hnH.out; omega); omega
    go_upto_if 29 with fail
    go_cut [1] (fun v wx => v = .int .u64 K ∧ wx = wc)
    case first =>
      by_cases hs0 : 0 < s
      · have hs63 := h63.out hs0 (by omega)
        obtain ⟨one, hone⟩ : ∃ one : Int, one = ((2 ^ s.toNat : Nat) : Int) := ⟨_, rfl⟩
        obtain ⟨r, hr⟩ : ∃ r : Int, (m : Int) % one = r := ⟨_, rfl⟩
        obtain ⟨q, hq⟩ : ∃ q : Int, (m : Int) / one = q := ⟨_, rfl⟩
        obtain ⟨hf1, hf2, hf3, hf4, hf5⟩ := kept_facts m s more one r q hs0 hs63 (by have := hnH.out; omega) hone hr hq
        have hq2 : IntKind.u64.wrap q = q := by rw [wrap_u64_of (by omega) (by omega)]
        have hone' := Hid.mk hone
        clear hone
        obtain ⟨h, hh⟩ : ∃ h : Int, h = one / 2 := ⟨_, rfl⟩
        rw [← hh] at hf5
        have hh2 : IntKind.u64.wrap (one.tdiv 2) = h := by rw [Int.tdiv_eq_ediv_of_nonneg (by omega), hh]; exact wrap_u64_of (by omega) (by rw [hone'.out]; exact half_lt hs63)
        have hone0 : one ≠ 0 := by omega
        rw [← hK] at hf5
        clear hh hone'
        have hup : (h < r ∨ (r = h ∧ (more = true ∨ q % 2 = 1))) → Hid (q + 1 = K) := fun hc => ⟨by rw [hf5, if_pos hc]⟩
        have hno : ¬ (h < r ∨ (r = h ∧ (more = true ∨ q % 2 = 1))) → Hid (q = K) := fun hc => ⟨by rw [hf5, if_neg hc]; omega⟩
        clear hf5 hK
        by_cases c1 : h < r
        · have hk := hup (.inl c1)
          clear hup hno
          go_wp2
          go_meet
          exact ⟨by rw [hk.out], rfl⟩
        · by_cases c2 : r = h
          · have c3 : (r == h) = true := beq_iff_eq.2 c2
            cases more with
            | true =>
              have hk := hup (.inr ⟨c2, .inl rfl⟩)
              clear hup hno c2
              go_wp2
              go_meet
              exact ⟨by rw [hk.out], rfl⟩
            | false =>
              by_cases c4 : q % 2 = 1
              · have hk := hup (.inr ⟨c2, .inr c4⟩)
                have c5 : (q % 2 == 1) = true := beq_iff_eq.2 c4
                clear hup hno c2
                go_wp2
                go_meet
                exact ⟨by rw [hk.out], rfl⟩
              · have hk := hno (by rintro (h1 | ⟨h1, h2 | h2⟩); · exact c1 h1
                                   · cases h2
                                   · exact c4 h2)
                have c5 : (q % 2 == 1) = false := beq_eq_false_iff_ne.2 c4
                clear hup hno c2
                go_wp2
                go_meet
                exact ⟨by rw [hk.out], rfl⟩
          · have c3 : (r == h) = false := beq_eq_false_iff_ne.2 c2
            have hk := hno (by rintro (h1 | ⟨h1, h2⟩); · exact c1 h1
                               · exact c2 h1)
            clear hup hno
            go_wp2
            go_meet
            exact ⟨by rw [hk.out], rfl⟩
      · have hk0 : IntKind.u64.wrap ((m : Int) * 2 ^ (-s).toNat) = K := by
          rw [hK]
          exact kept_neg m s more hs0 (by have := hnH.out; omega)
        go_wp2
        go_meet
        exact ⟨by rw [hK], rfl⟩
    case rest =>
      obtain ⟨rfl, rfl⟩ := hcut
      have hLs : -149 ≤ e + s := by rw [hs1.out]; split <;> omega
      obtain ⟨X, hX⟩ : ∃ X : Int, X = (packN (keptN m s more) (e + s) : Int) := ⟨_, rfl⟩
      have hf := hfin.out (wd minus (packN (keptN m s more) (e + s))) (by rw [hs2.out, if_neg hsn])
      have hsg := signed_any minus (packN (keptN m s more) (e + s)) (packN_lt _ _ (by omega)) wc
      rw [← hX] at hsg
      have hpk : Hid (X = if K = 16777216 then (if e + s + 1 + 150 ≥ 255 then 2139095040 else (e + s + 1 + 150) * 8388608) else if K < 8388608 then K else if e + s + 150 ≥ 255 then 2139095040 else (e + s + 150) * 8388608 + (K - 8388608)) := ⟨by rw [hX, hK]; exact packN_int _ _ (by rw [hs1.out]; split <;> omega)⟩
      clear hX hK
      by_cases k1 : K = 16777216
      · have k2 : (K == 16777216) = true := beq_iff_eq.2 k1
        by_cases k3 : 255 ≤ e + s + 1 + 150
        · have hx : X = 2139095040 := by rw [hpk.out, if_pos k1, if_pos k3]
          rw [hx] at hsg
          go_wp2_with (go_at_call 60; refine hsg.mono ?_; rintro _ _ ⟨rfl, rfl⟩)
          exact hf
        · have hx : X = (e + s + 1 + 150) * 8388608 := by rw [hpk.out, if_pos k1, if_neg (by omega)]
          rw [hx] at hsg
          clear hx
          go_wp2_with (go_at_call 60; refine hsg.mono ?_; rintro _ _ ⟨rfl, rfl⟩)
          exact hf
      · by_cases k4 : K < 8388608
        · have hx : X = K := by rw [hpk.out, if_neg k1, if_pos k4]
          rw [hx] at hsg
          have k2 : (K == 16777216) = false := beq_eq_false_iff_ne.2 k1
          clear k1
          go_wp2_with (go_at_call 60; refine hsg.mono ?_; rintro _ _ ⟨rfl, rfl⟩)
          exact hf
        · by_cases k3 : 255 ≤ e + s + 150
          · have hx : X = 2139095040 := by rw [hpk.out, if_neg k1, if_neg k4, if_pos k3]
            rw [hx] at hsg
            have k2 : (K == 16777216) = false := beq_eq_false_iff_ne.2 k1
            clear k1
            go_wp2_with (go_at_call 60; refine hsg.mono ?_; rintro _ _ ⟨rfl, rfl⟩)
            exact hf
          · have k2 : (K == 16777216) = false := beq_eq_false_iff_ne.2 k1
            have hx : X = (e + s + 150) * 8388608 + (K - 8388608) := by rw [hpk.out, if_neg k1, if_neg k4, if_neg (by omega)]
            rw [hx] at hsg
            clear k1 hx
            go_wp2_with (go_at_call 60; refine hsg.mono ?_; rintro _ _ ⟨rfl, rfl⟩)
            exact hf
end Go.Proofs.Yteefieidfgpijaa.CF

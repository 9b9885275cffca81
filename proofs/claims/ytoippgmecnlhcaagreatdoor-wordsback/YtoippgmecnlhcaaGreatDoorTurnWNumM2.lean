import Derived.Test.YtoippgmecnlhcaaGreatDoorTurnWNumM
namespace Go.Proofs.YtoippgmecnlhcaaGreatDoor.Q
open Go.Lib (decDigits)

/-- The digits behind the point of r parts of D. -/
def Dv (D : Nat) : Nat → List UInt8 → Prop
  | r, [] => r = 0
  | r, c :: l => r ≠ 0 ∧ c = UInt8.ofNat (48 + 10 * r / D) ∧ Dv D (10 * r % D) l
theorem dv_all (D : Nat) (hD : 0 < D) : ∀ (l : List UInt8) (r : Nat), r < D → Dv D r l → dgs l ∧ val l * D = r * 10 ^ l.length ∧ l.getLast? ≠ some 48
  | [], r, hr, h => by
    have h0 : r = 0 := h
    exact ⟨fun c hc => by simp at hc, by simp [val, h0], by simp⟩
  | c :: l, r, hr, h => by
    obtain ⟨h1, h2, h3⟩ := h
    have hq : 10 * r / D < 10 := (Nat.div_lt_iff_lt_mul hD).2 (by omega)
    have hm : 10 * r % D < D := Nat.mod_lt _ hD
    obtain ⟨i1, i2, i3⟩ := dv_all D hD l (10 * r % D) hm h3
    have hdm := Nat.div_add_mod (10 * r) D
    refine ⟨fun d hd => ?_, ?_, ?_⟩
    · rcases List.mem_cons.1 hd with rfl | hd
      · rw [h2, ch_nat hq]; exact ⟨Nat.le_add_right _ _, by have := hq; generalize 10 * r / D = z at *; omega⟩
      · exact i1 d hd
    · have hv : val (c :: l) = (10 * r / D) * 10 ^ l.length + val l := by
        have := vl_app [c] l
        rw [h2, vl_one hq] at this
        rw [h2]
        exact this
      rw [hv, Nat.add_mul, i2, List.length_cons, Nat.pow_succ]
      generalize 10 ^ l.length = P at *
      calc 10 * r / D * P * D + 10 * r % D * P = (D * (10 * r / D) + 10 * r % D) * P := by rw [Nat.add_mul, Nat.mul_right_comm, Nat.mul_comm D (10 * r / D)]
        _ = r * (P * 10) := by rw [hdm, Nat.mul_comm P 10, Nat.mul_comm 10 r, Nat.mul_assoc]
    · cases l with
      | nil =>
        have h0 : 10 * r % D = 0 := h3
        rw [h2]
        intro e
        simp only [List.getLast?_singleton, Option.some.injEq] at e
        have := congrArg UInt8.toNat e
        rw [ch_nat hq] at this
        have h48 : (48 : UInt8).toNat = 48 := rfl
        have hz : 10 * r / D = 0 := by omega
        rw [hz, h0] at hdm
        omega
      | cons d l => rw [List.getLast?_cons_cons]; exact i3

theorem gcd_parts (v q n d : Nat) (hq : 0 < q) (hd : 0 < d) (h : v * d = n * q) : n * (q / v.gcd q) = v / v.gcd q * d ∧ 1 ≤ q / v.gcd q ∧ q / v.gcd q ≤ d ∧ v / v.gcd q ≤ n := by
  have hg : 0 < v.gcd q := Nat.gcd_pos_of_pos_right v hq
  obtain ⟨a, ha⟩ := Nat.gcd_dvd_left v q
  obtain ⟨b, hb⟩ := Nat.gcd_dvd_right v q
  have hcop : Nat.Coprime a b := by
    have h1 := Nat.coprime_div_gcd_div_gcd hg
    rw [show v / v.gcd q = a from Nat.div_eq_of_eq_mul_right hg ha, show q / v.gcd q = b from Nat.div_eq_of_eq_mul_right hg hb] at h1
    exact h1
  rw [show v / v.gcd q = a from Nat.div_eq_of_eq_mul_right hg ha, show q / v.gcd q = b from Nat.div_eq_of_eq_mul_right hg hb]
  have hb0 : 0 < b := by
    rcases Nat.eq_zero_or_pos b with h0 | h0
    · rw [h0, Nat.mul_zero] at hb; omega
    · exact h0
  have key : n * b = a * d := by
    have h2 : v.gcd q * (a * d) = v.gcd q * (n * b) := by
      calc v.gcd q * (a * d) = (v.gcd q * a) * d := by rw [Nat.mul_assoc]
        _ = v * d := by rw [← ha]
        _ = n * q := h
        _ = n * (v.gcd q * b) := by rw [← hb]
        _ = v.gcd q * (n * b) := by rw [Nat.mul_left_comm]
    exact (Nat.eq_of_mul_eq_mul_left hg h2).symm
  refine ⟨key, hb0, ?_, ?_⟩
  · have hdv : b ∣ a * d := ⟨n, by rw [← key, Nat.mul_comm]⟩
    exact Nat.le_of_dvd hd (Nat.Coprime.dvd_of_dvd_mul_left hcop.symm hdv)
  · rcases Nat.eq_zero_or_pos n with h0 | h0
    · subst h0
      rw [Nat.zero_mul] at key
      have : a = 0 := by
        rcases Nat.eq_zero_or_pos a with h | h
        · exact h
        · have := Nat.mul_pos h hd
          omega
      omega
    · have hav : a ∣ n * b := ⟨d, key⟩
      exact Nat.le_of_dvd h0 (Nat.Coprime.dvd_of_dvd_mul_right hcop hav)

/-- The token of a percentage. -/
theorem pct_tok {n d : Nat} (hn : n ≤ 1000000000) (hd0 : 0 < d) (hd : d ≤ 1000000000) {l : List UInt8} (hl : l.length ≤ 6) (h : Dv d (100 * n % d) l) : ∃ a b, numTok (decDigits (100 * n / d)) l true = some (4, [], a, b) ∧ n * b = a * d ∧ 1 ≤ b ∧ b ≤ 1000000000 ∧ a ≤ 1000000000 := by
  obtain ⟨i1, i2, i3⟩ := dv_all d hd0 l _ (Nat.mod_lt _ hd0) h
  obtain ⟨j1, j2, j3, j4, -⟩ := dd_all (100 * n / d)
  have hdm := Nat.div_add_mod (100 * n) d
  have hv : val (decDigits (100 * n / d) ++ l) = 100 * n / d * 10 ^ l.length + val l := by rw [vl_app, j1]
  have hvd : val (decDigits (100 * n / d) ++ l) * d = n * (100 * 10 ^ l.length) := by
    rw [hv, Nat.add_mul, i2]
    generalize 10 ^ l.length = P at *
    calc 100 * n / d * P * d + 100 * n % d * P = (d * (100 * n / d) + 100 * n % d) * P := by rw [Nat.add_mul, Nat.mul_right_comm, Nat.mul_comm d (100 * n / d)]
      _ = n * (100 * P) := by rw [hdm, Nat.mul_comm 100 n, Nat.mul_assoc]
  have hpow : 10 ^ l.length ≤ 1000000 := by
    have := Nat.pow_le_pow_right (n := 10) (by decide) hl
    simpa using this
  have hpow0 : 0 < 10 ^ l.length := Nat.pow_pos (by decide)
  have hvl : val (decDigits (100 * n / d) ++ l) ≤ 100000000000000000 := by
    have h1 : val (decDigits (100 * n / d) ++ l) ≤ val (decDigits (100 * n / d) ++ l) * d := Nat.le_mul_of_pos_right _ hd0
    have h2 : n * (100 * 10 ^ l.length) ≤ 1000000000 * (100 * 1000000) := Nat.mul_le_mul hn (Nat.mul_le_mul_left _ hpow)
    omega
  obtain ⟨k1, k2, k3, k4⟩ := gcd_parts (val (decDigits (100 * n / d) ++ l)) (100 * 10 ^ l.length) n d (by omega) hd0 hvd
  refine ⟨_, _, ?_, k1, k2, by omega, by omega⟩
  unfold numTok
  rw [if_neg (by rintro (h | ⟨h, h'⟩); · omega
                 · exact j4 h h'), if_pos rfl]
  unfold pctTok
  rw [if_neg (by rintro (h | h); · omega
                 · exact i3 h), if_pos ⟨by omega, by omega⟩]
/-- The token of an amount. -/
theorem amt_tok {c : Nat} (hc : c ≤ 9999999999999) {p : List UInt8} (hp2 : p.length = 2) (hpv : val p = c % 100) : numTok (decDigits (c / 100)) p false = some (2, [], c, 0) := by
  obtain ⟨j1, j2, j3, j4, -⟩ := dd_all (c / 100)
  have hv : val (decDigits (c / 100) ++ p) = c := by rw [vl_app, j1, hp2, hpv]; omega
  unfold numTok
  rw [hv, if_neg (by rintro (h | ⟨h, h'⟩); · omega
                     · exact j4 h h'), if_neg (by simp), if_neg (by intro e; rw [e] at hp2; simp at hp2), if_pos ⟨hp2, hc⟩]

end Go.Proofs.YtoippgmecnlhcaaGreatDoor.Q

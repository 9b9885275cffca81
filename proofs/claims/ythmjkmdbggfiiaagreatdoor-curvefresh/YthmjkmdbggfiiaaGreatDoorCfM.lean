import Derived.Test.YthmjkmdbggfiiaaGreatDoorProg
import Ieee.Arith
/- FLOATS IN WHOLE NUMBERS. No program. -/
namespace Go.Proofs.YthmjkmdbggfiiaaGreatDoor.CF

/-- n / g to the nearest whole number, a half to the even one. -/
def rne (n g : Nat) : Nat := n / g + if g < 2 * (n % g) ∨ (2 * (n % g) = g ∧ n / g % 2 = 1) then 1 else 0
theorem ite_iff {p q : Prop} [Decidable p] [Decidable q] (h : p ↔ q) : (if p then 1 else 0 : Nat) = if q then 1 else 0 := by
  by_cases hp : p
  · rw [if_pos hp, if_pos (h.1 hp)]
  · rw [if_neg hp, if_neg (fun hq => hp (h.2 hq))]
theorem rne_one (n : Nat) : rne n 1 = n := by simp [rne, Nat.mod_one]
theorem rne_scale (n g c : Nat) (hc : 0 < c) : rne (n * c) (g * c) = rne n g := by
  unfold rne
  rw [Nat.mul_div_mul_right _ _ hc, Nat.mul_mod_mul_right]
  have e1 : (g * c < 2 * (n % g * c)) = (g < 2 * (n % g)) := by
    rw [← Nat.mul_assoc]
    exact propext (Nat.mul_lt_mul_right hc)
  have e2 : (2 * (n % g * c) = g * c) = (2 * (n % g) = g) := by
    rw [← Nat.mul_assoc]
    exact propext ⟨fun h => Nat.eq_of_mul_eq_mul_right hc h, fun h => by rw [h]⟩
  congr 1
  exact ite_iff (or_congr (iff_of_eq e1) (and_congr (iff_of_eq e2) Iff.rfl))
theorem rne_small {n g : Nat} (h : 2 * n < g) : rne n g = 0 := by
  unfold rne
  rw [Nat.div_eq_of_lt (by omega), Nat.mod_eq_of_lt (by omega), if_neg (by omega)]
theorem cut_rne (neg : Bool) (n drop : Nat) : Ieee.Toward.even.cut neg n drop = rne n (2 ^ drop) := by
  have key : ∀ k, (let gap := 1 <<< k; n / gap + (gap < 2 * (n % gap) || (gap == 2 * (n % gap) && n / gap % 2 == 1) : Bool).toNat) = rne n (2 ^ k) := fun k => by
    simp only [Nat.one_shiftLeft]
    unfold rne
    congr 1
    by_cases h1 : 2 ^ k < 2 * (n % 2 ^ k)
    · simp [h1]
    · by_cases h2 : 2 ^ k = 2 * (n % 2 ^ k)
      · rw [ite_iff (q := n / 2 ^ k % 2 = 1) ⟨fun h => h.elim (fun h => absurd h h1) (fun h => h.2), fun h => .inr ⟨h2.symm, h⟩⟩]
        have e1 : decide (2 ^ k < 2 * (n % 2 ^ k)) = false := decide_eq_false h1
        have e2 : (2 ^ k == 2 * (n % 2 ^ k)) = true := beq_iff_eq.2 h2
        rw [e1, e2, Bool.false_or, Bool.true_and]
        by_cases h3 : n / 2 ^ k % 2 = 1
        · rw [if_pos h3, beq_iff_eq.2 h3]; rfl
        · rw [if_neg h3, show (n / 2 ^ k % 2 == 1) = false from beq_eq_false_iff_ne.2 h3]; rfl
      · have e1 : decide (2 ^ k < 2 * (n % 2 ^ k)) = false := decide_eq_false h1
        have e2 : (2 ^ k == 2 * (n % 2 ^ k)) = false := beq_eq_false_iff_ne.2 h2
        rw [e1, e2, Bool.false_or, Bool.false_and, if_neg (by omega)]; rfl
  show (let gap := 1 <<< min drop (n.log2 + 2); n / gap + (gap < 2 * (n % gap) || (gap == 2 * (n % gap) && n / gap % 2 == 1) : Bool).toNat) = _
  rw [key]
  by_cases h : drop ≤ n.log2 + 2
  · rw [Nat.min_eq_left h]
  · rw [Nat.min_eq_right (by omega)]
    have h1 : n < 2 ^ (n.log2 + 1) := Nat.lt_log2_self
    have h2 : 2 ^ (n.log2 + 2) = 2 * 2 ^ (n.log2 + 1) := by rw [Nat.pow_succ, Nat.mul_comm]
    have h3 : 2 ^ (n.log2 + 2) ≤ 2 ^ drop := Nat.pow_le_pow_right (by omega) (by omega)
    rw [rne_small (by omega), rne_small (by omega)]

/-- The word of a sign and a rung of single precision. -/
def wd (neg : Bool) (r : Nat) : Nat := if neg then 2147483648 + r else r
/-- The place of the last digit that is kept. -/
def lastP (place : Int) (lg : Nat) : Int := max (place + lg - 23) (-149)
/-- The rung of 'N / D * 2 ^ place', whose whole logarithm at that place is lg. -/
def rungQ (N D : Nat) (place : Int) (lg : Nat) : Nat := min ((lastP place lg + 149).toNat * 8388608 + rne (N * 2 ^ (place - lastP place lg).toNat) (D * 2 ^ (lastP place lg - place).toNat)) 2139095040
theorem rungQ_ext {N D N' D' lg lg' : Nat} {p p' : Int} (h : lastP p lg = lastP p' lg') (h2 : rne (N * 2 ^ (p - lastP p' lg').toNat) (D * 2 ^ (lastP p' lg' - p).toNat) = rne (N' * 2 ^ (p' - lastP p' lg').toNat) (D' * 2 ^ (lastP p' lg' - p').toNat)) : rungQ N D p lg = rungQ N' D' p' lg' := by
  unfold rungQ
  rw [h, h2]
theorem nearest_eq (neg : Bool) (mag : Nat) (place : Int) (h : mag ≠ 0) : Ieee.single.nearest neg mag place = wd neg (rungQ mag 1 place mag.log2) := by
  unfold Ieee.Format.nearest
  rw [if_neg h]
  show Ieee.single.word neg _ = _
  unfold Ieee.Format.word wd rungQ lastP
  simp only [cut_rne, Nat.shiftLeft_eq, Nat.one_mul]
  rfl
theorem nearest_zero (neg : Bool) (place : Int) : Ieee.single.nearest neg 0 place = wd neg 0 := by
  unfold Ieee.Format.nearest
  rw [if_pos rfl]
  rfl
theorem log2_scale {m : Nat} (h : m ≠ 0) (k : Nat) : (m * 2 ^ k).log2 = m.log2 + k := by
  have hp : 0 < 2 ^ k := Nat.two_pow_pos k
  rw [Nat.log2_eq_iff (by exact Nat.mul_ne_zero h (by omega))]
  refine ⟨?_, ?_⟩
  · rw [Nat.pow_add]
    exact Nat.mul_le_mul_right _ (Nat.log2_self_le h)
  · rw [show m.log2 + k + 1 = (m.log2 + 1) + k by omega, Nat.pow_add]
    exact Nat.mul_lt_mul_of_pos_right Nat.lt_log2_self hp
/-- Only the worth tells, not how it is written. -/
theorem rungQ_scale (N D : Nat) (place : Int) (lg k : Nat) : rungQ (N * 2 ^ k) D (place - k) (lg + k) = rungQ N D place lg := by
  refine rungQ_ext (by unfold lastP; omega) ?_
  generalize lastP place lg = L
  obtain ⟨c, hc⟩ : ∃ c, (place - ↑k - L).toNat + k = (place - L).toNat + c ∧ (L - (place - ↑k)).toNat = (L - place).toNat + c := by
    refine ⟨(L - (place - ↑k)).toNat - (L - place).toNat, by omega, by omega⟩
  rw [Nat.mul_assoc, ← Nat.pow_add, Nat.add_comm k, hc.1, hc.2, Nat.pow_add, Nat.pow_add, ← Nat.mul_assoc, ← Nat.mul_assoc]
  exact rne_scale _ _ _ (Nat.two_pow_pos c)
theorem nearest_scale (neg : Bool) (m : Nat) (place : Int) (k : Nat) : Ieee.single.nearest neg (m * 2 ^ k) (place - k) = Ieee.single.nearest neg m place := by
  by_cases h : m = 0
  · subst h; rw [Nat.zero_mul, nearest_zero, nearest_zero]
  · rw [nearest_eq _ _ _ h, nearest_eq _ _ _ (Nat.mul_ne_zero h (by have := Nat.two_pow_pos k; omega)), log2_scale h, rungQ_scale]
/-- A quotient with one digit more that tells whether anything is left over rounds as the quotient. -/
theorem rne_sticky (N D H : Nat) (hD : 0 < D) (hH : 0 < H) : rne (2 * (N / D) + if N % D = 0 then 0 else 1) (2 * (2 * H)) = rne N (D * (2 * H)) := by
  have hG : 0 < 2 * H := by omega
  obtain ⟨q, hq⟩ : ∃ q, q = N / D := ⟨_, rfl⟩
  obtain ⟨r, hr⟩ : ∃ r, r = N % D := ⟨_, rfl⟩
  have hN : N = D * q + r := by rw [hq, hr]; exact (Nat.div_add_mod N D).symm
  have hrD : r < D := by rw [hr]; exact Nat.mod_lt _ hD
  rw [← hq, ← hr]
  obtain ⟨u, hu⟩ : ∃ u, u = q / (2 * H) := ⟨_, rfl⟩
  obtain ⟨t, ht⟩ : ∃ t, t = q % (2 * H) := ⟨_, rfl⟩
  have hqt : q = 2 * H * u + t := by rw [hu, ht]; exact (Nat.div_add_mod q (2 * H)).symm
  have htH : t < 2 * H := by rw [ht]; exact Nat.mod_lt _ hG
  obtain ⟨s, hs⟩ : ∃ s, s = if r = 0 then 0 else 1 := ⟨_, rfl⟩
  have hs1 : s ≤ 1 := by rw [hs]; split <;> omega
  rw [← hs]
  have a1 : (2 * q + s) / (2 * (2 * H)) = u := by
    rw [← Nat.div_div_eq_div_mul, show (2 * q + s) / 2 = q by omega, ← hu]
  have a2 : (2 * q + s) % (2 * (2 * H)) = 2 * t + s := by
    have h1 := Nat.div_add_mod (2 * q + s) (2 * (2 * H))
    rw [a1] at h1
    rw [hqt] at h1 ⊢
    have : 2 * (2 * H) * u = 2 * (2 * H * u) := by rw [Nat.mul_assoc]
    omega
  have b1 : N / (D * (2 * H)) = u := by rw [← Nat.div_div_eq_div_mul, ← hq, ← hu]
  have b2 : N % (D * (2 * H)) = D * t + r := by
    have h1 := Nat.div_add_mod N (D * (2 * H))
    rw [b1] at h1
    have h2 : D * q = D * (2 * H) * u + D * t := by rw [hqt, Nat.mul_add, Nat.mul_assoc D]
    omega
  unfold rne
  rw [a1, a2, b1, b2]
  congr 1
  have c1 : (2 * (2 * H) < 2 * (2 * t + s)) ↔ H < t ∨ (t = H ∧ s = 1) := by omega
  have c2 : (2 * (2 * t + s) = 2 * (2 * H)) ↔ (t = H ∧ s = 0) := by omega
  have hsr : s = 0 ↔ r = 0 := by rw [hs]; split <;> omega
  have d1 : (D * (2 * H) < 2 * (D * t + r)) ↔ H < t ∨ (t = H ∧ s = 1) := by
    have e : D * (2 * H) = 2 * (D * H) := by rw [← Nat.mul_assoc, Nat.mul_comm D 2, Nat.mul_assoc]
    rw [e]
    rcases Nat.lt_trichotomy t H with h | h | h
    · have : D * t + D ≤ D * H := by rw [← Nat.mul_succ]; exact Nat.mul_le_mul_left D h
      constructor <;> intro h' <;> omega
    · subst h
      constructor <;> intro h' <;> omega
    · have : D * H + D ≤ D * t := by rw [← Nat.mul_succ]; exact Nat.mul_le_mul_left D h
      constructor <;> intro h' <;> omega
  have d2 : (2 * (D * t + r) = D * (2 * H)) ↔ (t = H ∧ s = 0) := by
    have e : D * (2 * H) = 2 * (D * H) := by rw [← Nat.mul_assoc, Nat.mul_comm D 2, Nat.mul_assoc]
    rw [e]
    rcases Nat.lt_trichotomy t H with h | h | h
    · have : D * t + D ≤ D * H := by rw [← Nat.mul_succ]; exact Nat.mul_le_mul_left D h
      constructor <;> intro h' <;> omega
    · subst h
      constructor <;> intro h' <;> omega
    · have : D * H + D ≤ D * t := by rw [← Nat.mul_succ]; exact Nat.mul_le_mul_left D h
      constructor <;> intro h' <;> omega
  rw [ite_iff (or_congr c1 (and_congr c2 Iff.rfl)), ite_iff (or_congr d1 (and_congr d2 Iff.rfl))]
/-- The quotient, its last digit telling what is left over: nearest as the quotient itself. -/
theorem nearest_sticky (neg : Bool) (N D : Nat) (p : Int) (hD : 0 < D) (hq : 16777216 ≤ N / D) : Ieee.single.nearest neg (2 * (N / D) + if N % D = 0 then 0 else 1) (p - 1) = wd neg (rungQ N D p (N / D).log2) := by
  have h0 : 2 * (N / D) + (if N % D = 0 then 0 else 1) ≠ 0 := by omega
  have hq0 : N / D ≠ 0 := by omega
  have hl24 : 24 ≤ (N / D).log2 := (Nat.le_log2 hq0).2 (by omega)
  have hlog : (2 * (N / D) + if N % D = 0 then 0 else 1).log2 = (N / D).log2 + 1 := by
    rw [Nat.log2_eq_iff h0]
    have h1 := Nat.log2_self_le hq0
    have h2 : N / D < 2 ^ ((N / D).log2 + 1) := Nat.lt_log2_self
    have e1 : 2 ^ ((N / D).log2 + 1) = 2 * 2 ^ (N / D).log2 := by rw [Nat.pow_succ, Nat.mul_comm]
    have e2 : 2 ^ ((N / D).log2 + 1 + 1) = 2 * 2 ^ ((N / D).log2 + 1) := by rw [Nat.pow_succ _ ((N / D).log2 + 1), Nat.mul_comm]
    split <;> omega
  rw [nearest_eq _ _ _ h0, hlog]
  refine congrArg (wd neg) (rungQ_ext ?_ ?_)
  · unfold lastP; omega
  have hL : p + 1 ≤ lastP p (N / D).log2 := by unfold lastP; omega
  generalize lastP p (N / D).log2 = L at hL
  rw [show (p - 1 - L).toNat = 0 by omega, show (p - L).toNat = 0 by omega, Nat.pow_zero, Nat.mul_one, Nat.mul_one, Nat.one_mul]
  obtain ⟨b, hb⟩ : ∃ b, (L - p).toNat = b + 1 := ⟨(L - p).toNat - 1, by omega⟩
  rw [hb, show (L - (p - 1)).toNat = b + 1 + 1 by omega, Nat.pow_succ 2 (b + 1), Nat.pow_succ 2 b, Nat.mul_comm _ 2, Nat.mul_comm _ 2]
  exact rne_sticky N D (2 ^ b) hD (Nat.two_pow_pos b)
/-- More digits of a quotient tell no more. -/
theorem sticky_more (neg : Bool) (N D : Nat) (p : Int) (k : Nat) (hD : 0 < D) (hq : 16777216 ≤ N / D) : Ieee.single.nearest neg (2 * (N * 2 ^ k / D) + if N * 2 ^ k % D = 0 then 0 else 1) (p - k - 1) = Ieee.single.nearest neg (2 * (N / D) + if N % D = 0 then 0 else 1) (p - 1) := by
  have hp : 0 < 2 ^ k := Nat.two_pow_pos k
  have h1 : N / D * 2 ^ k ≤ N * 2 ^ k / D := by
    rw [Nat.le_div_iff_mul_le hD, Nat.mul_right_comm]
    exact Nat.mul_le_mul_right _ (Nat.div_mul_le_self N D)
  have h2 : N * 2 ^ k / D < (N / D + 1) * 2 ^ k := by
    rw [Nat.div_lt_iff_lt_mul hD, Nat.mul_right_comm]
    exact Nat.mul_lt_mul_of_pos_right (by have := Nat.lt_mul_div_succ N hD; rw [Nat.mul_comm] at this; exact this) hp
  have hq0 : N / D ≠ 0 := by omega
  have hle : N / D ≤ N / D * 2 ^ k := Nat.le_mul_of_pos_right _ hp
  have hlog : (N * 2 ^ k / D).log2 = (N / D).log2 + k := by
    rw [Nat.log2_eq_iff (by omega)]
    refine ⟨?_, ?_⟩
    · rw [Nat.pow_add]
      exact Nat.le_trans (Nat.mul_le_mul_right _ (Nat.log2_self_le hq0)) h1
    · rw [show (N / D).log2 + k + 1 = ((N / D).log2 + 1) + k by omega, Nat.pow_add]
      exact Nat.lt_of_lt_of_le h2 (Nat.mul_le_mul_right _ Nat.lt_log2_self)
  rw [nearest_sticky _ _ _ _ hD (by omega), nearest_sticky _ _ _ _ hD hq, hlog, rungQ_scale]
/-- What was cut off by a power of two. -/
theorem sticky_pow (neg : Bool) (N : Nat) (p : Int) (k : Nat) (hq : 16777216 ≤ N / 2 ^ k) : Ieee.single.nearest neg (2 * (N / 2 ^ k) + if N % 2 ^ k = 0 then 0 else 1) (p + k - 1) = Ieee.single.nearest neg N p := by
  have hp : 0 < 2 ^ k := Nat.two_pow_pos k
  have hN : N ≠ 0 := fun e => by subst e; simp at hq
  have hq0 : N / 2 ^ k ≠ 0 := by omega
  have hlog : N.log2 = (N / 2 ^ k).log2 + k := by
    rw [Nat.log2_eq_iff hN]
    refine ⟨?_, ?_⟩
    · rw [Nat.pow_add]
      exact Nat.le_trans (Nat.mul_le_mul_right _ (Nat.log2_self_le hq0)) (Nat.div_mul_le_self N _)
    · rw [show (N / 2 ^ k).log2 + k + 1 = ((N / 2 ^ k).log2 + 1) + k by omega, Nat.pow_add]
      have h1 : N < (N / 2 ^ k + 1) * 2 ^ k := by have := Nat.lt_mul_div_succ N hp; rw [Nat.mul_comm] at this; exact this
      exact Nat.lt_of_lt_of_le h1 (Nat.mul_le_mul_right _ Nat.lt_log2_self)
  rw [nearest_sticky _ _ _ _ hp hq, nearest_eq _ _ _ hN, hlog]
  refine congrArg (wd neg) (rungQ_ext ?_ ?_)
  · unfold lastP; omega
  have hl24 : 24 ≤ (N / 2 ^ k).log2 := (Nat.le_log2 hq0).2 (by omega)
  have hL : p + k + 1 ≤ lastP p ((N / 2 ^ k).log2 + k) := by unfold lastP; omega
  generalize lastP p ((N / 2 ^ k).log2 + k) = L at hL ⊢
  rw [show (p + ↑k - L).toNat = 0 by omega, show (p - L).toNat = 0 by omega, Nat.one_mul, ← Nat.pow_add, show k + (L - (p + ↑k)).toNat = (L - p).toNat by omega]

/-- How many bits a number has. -/
def bitsN (m : Nat) : Nat := if m = 0 then 0 else m.log2 + 1
/-- By how much it is shifted. -/
def shiftN (m : Nat) (e : Int) : Int := if e + ((bitsN m : Int) - 24) < -149 then -149 - e else (bitsN m : Int) - 24
/-- What is kept. -/
def keptN (m : Nat) (s : Int) (more : Bool) : Nat := if 0 < s then m / 2 ^ s.toNat + (if 2 ^ s.toNat / 2 < m % 2 ^ s.toNat ∨ (m % 2 ^ s.toNat = 2 ^ s.toNat / 2 ∧ (more = true ∨ m / 2 ^ s.toNat % 2 = 1)) then 1 else 0) else m * 2 ^ (-s).toNat
/-- The bits of what is kept at a place. -/
def packN (K : Nat) (L : Int) : Nat := if K = 16777216 then (if L + 1 + 150 ≥ 255 then 2139095040 else (L + 1 + 150).toNat * 8388608) else if K < 8388608 then K else if L + 150 ≥ 255 then 2139095040 else (L + 150).toNat * 8388608 + (K - 8388608)
def rnd (minus : Bool) (m : Nat) (e : Int) (more : Bool) : Nat := if (bitsN m : Int) < shiftN m e then wd minus 0 else wd minus (packN (keptN m (shiftN m e) more) (e + shiftN m e))
theorem packN_eq {K : Nat} {L : Int} (hL : -149 ≤ L) (h1 : K ≤ 16777216) (h2 : K < 8388608 → L = -149) : packN K L = min ((L + 149).toNat * 8388608 + K) 2139095040 := by
  unfold packN
  obtain ⟨x, hx⟩ : ∃ x : Nat, L = (x : Int) - 149 := ⟨(L + 149).toNat, by omega⟩
  subst hx
  rw [show ((x : Int) - 149 + 149).toNat = x by omega, show ((x : Int) - 149 + 1 + 150).toNat = x + 2 by omega, show ((x : Int) - 149 + 150).toNat = x + 1 by omega]
  split
  · split <;> omega
  · split
    · have := h2 (by omega)
      omega
    · split <;> omega
theorem lt_bits (m : Nat) : m < 2 ^ bitsN m := by
  unfold bitsN
  split
  · omega
  · exact Nat.lt_log2_self
theorem keptN_rne {m : Nat} {s : Int} {more : Bool} (h : more = true → 0 < s) : keptN m s more = rne ((2 * m + more.toNat) * 2 ^ (-1 - s).toNat) (2 ^ (s + 1).toNat) := by
  unfold keptN
  by_cases hs : 0 < s
  · rw [if_pos hs]
    obtain ⟨b, rfl⟩ : ∃ b : Nat, s = (b : Int) + 1 := ⟨(s - 1).toNat, by omega⟩
    rw [show ((b : Int) + 1).toNat = b + 1 by omega, show (-1 - ((b : Int) + 1)).toNat = 0 by omega, show ((b : Int) + 1 + 1).toNat = b + 1 + 1 by omega, Nat.pow_zero, Nat.mul_one]
    have hp : 0 < 2 ^ b := Nat.two_pow_pos b
    have e1 : 2 ^ (b + 1) = 2 * 2 ^ b := by rw [Nat.pow_succ, Nat.mul_comm]
    have e2 : 2 ^ (b + 1 + 1) = 2 * (2 * 2 ^ b) := by rw [Nat.pow_succ, Nat.mul_comm, e1]
    rw [e1, e2]
    generalize 2 ^ b = H at *
    unfold rne
    have hσ : more.toNat ≤ 1 := by cases more <;> decide
    have hσ1 : more = true ↔ more.toNat = 1 := by cases more <;> decide
    obtain ⟨σ, hσe⟩ : ∃ σ, σ = more.toNat := ⟨_, rfl⟩
    rw [← hσe] at hσ hσ1 ⊢
    have a1 : (2 * m + σ) / (2 * (2 * H)) = m / (2 * H) := by rw [← Nat.div_div_eq_div_mul, show (2 * m + σ) / 2 = m by omega]
    have a2 : (2 * m + σ) % (2 * (2 * H)) = 2 * (m % (2 * H)) + σ := by
      have h1 := Nat.div_add_mod (2 * m + σ) (2 * (2 * H))
      have h2 := Nat.div_add_mod m (2 * H)
      rw [a1] at h1
      have : 2 * (2 * H) * (m / (2 * H)) = 2 * (2 * H * (m / (2 * H))) := by rw [Nat.mul_assoc]
      omega
    rw [a1, a2]
    congr 1
    have ht : m % (2 * H) < 2 * H := Nat.mod_lt _ (by omega)
    generalize m % (2 * H) = t at *
    generalize m / (2 * H) = q at *
    refine ite_iff ?_
    rw [hσ1, show 2 * H / 2 = H by omega]
    omega
  · rw [if_neg hs]
    have hm : more = false := by cases more with
      | false => rfl
      | true => exact absurd (h rfl) hs
    subst hm
    show _ = rne ((2 * m + 0) * _) _
    obtain ⟨b, rfl⟩ : ∃ b : Nat, s = -(b : Int) := ⟨(-s).toNat, by omega⟩
    rw [show (-(-(b : Int))).toNat = b by omega, Nat.add_zero]
    cases b with
    | zero =>
      rw [show (-1 - -((0 : Nat) : Int)).toNat = 0 by omega, show (-((0 : Nat) : Int) + 1).toNat = 1 by omega, Nat.pow_zero, Nat.mul_one, Nat.mul_one, Nat.mul_comm 2 m]
      have := rne_scale m 1 2 (by omega)
      rw [Nat.one_mul] at this
      rw [Nat.pow_one, this, rne_one]
    | succ b =>
      rw [show (-1 - -((b + 1 : Nat) : Int)).toNat = b by omega, show (-((b + 1 : Nat) : Int) + 1).toNat = 0 by omega, Nat.pow_zero, rne_one, Nat.pow_succ, Nat.mul_comm 2 m, Nat.mul_assoc, Nat.mul_comm 2]
/-- Rounding in steps is the nearest. -/
theorem rnd_eq (minus : Bool) (m : Nat) (e : Int) (more : Bool) (hm : more = true → 16777216 ≤ m) : rnd minus m e more = Ieee.single.nearest minus (2 * m + more.toNat) (e - 1) := by
  unfold rnd
  by_cases h0 : m = 0
  · subst h0
    have hmo : more = false := by cases more with
      | false => rfl
      | true => exact absurd (hm rfl) (by omega)
    subst hmo
    show _ = Ieee.single.nearest minus 0 (e - 1)
    rw [nearest_zero]
    split
    · rfl
    · rename_i hs
      have hk : keptN 0 (shiftN 0 e) false = 0 := by
        unfold keptN
        have hb : bitsN 0 = 0 := rfl
        rw [if_neg (by rw [hb] at hs; omega), Nat.zero_mul]
      rw [hk]
      rfl
  have hne : 2 * m + more.toNat ≠ 0 := by omega
  have hσ : more.toNat ≤ 1 := by cases more <;> decide
  have hl1 : 2 ^ m.log2 ≤ m := Nat.log2_self_le h0
  have hl2 : m < 2 ^ (m.log2 + 1) := Nat.lt_log2_self
  have hlog : (2 * m + more.toNat).log2 = m.log2 + 1 := by
    rw [Nat.log2_eq_iff hne]
    have e1 : 2 ^ (m.log2 + 1) = 2 * 2 ^ m.log2 := by rw [Nat.pow_succ, Nat.mul_comm]
    have e2 : 2 ^ (m.log2 + 1 + 1) = 2 * 2 ^ (m.log2 + 1) := by rw [Nat.pow_succ _ (m.log2 + 1), Nat.mul_comm]
    omega
  rw [nearest_eq _ _ _ hne, hlog]
  have hb : bitsN m = m.log2 + 1 := by unfold bitsN; rw [if_neg h0]
  have hL : lastP (e - 1) (m.log2 + 1) = e + shiftN m e := by
    unfold lastP shiftN
    rw [hb]
    split <;> omega
  have hmo : more = true → 0 < shiftN m e := fun h => by
    have h1 := hm h
    have h2 : 24 ≤ m.log2 := (Nat.le_log2 h0).2 (by omega)
    unfold shiftN
    rw [hb]
    split <;> omega
  have hs1 : (m.log2 : Int) - 23 ≤ shiftN m e := by unfold shiftN; rw [hb]; split <;> omega
  have hs2 : -149 ≤ e + shiftN m e := by unfold shiftN; rw [hb]; split <;> omega
  have hs3 : e + shiftN m e ≠ -149 → shiftN m e = (m.log2 : Int) - 23 := by unfold shiftN; rw [hb]; split <;> omega
  have hK := keptN_rne (m := m) hmo
  have hR : rungQ (2 * m + more.toNat) 1 (e - 1) (m.log2 + 1) = min ((e + shiftN m e + 149).toNat * 8388608 + keptN m (shiftN m e) more) 2139095040 := by
    unfold rungQ
    rw [hL, hK, show e - 1 - (e + shiftN m e) = -1 - shiftN m e by omega, show e + shiftN m e - (e - 1) = shiftN m e + 1 by omega, Nat.one_mul]
  rw [hR]
  clear hR hL hlog
  generalize shiftN m e = s at *
  split
  · rename_i hs
    refine congrArg (wd minus) ?_
    have hk0 : keptN m s more = 0 := by
      rw [hK, show (-1 - s).toNat = 0 by omega, Nat.pow_zero, Nat.mul_one]
      refine rne_small ?_
      have h1 : 2 ^ (m.log2 + 1 + 2) ≤ 2 ^ (s + 1).toNat := Nat.pow_le_pow_right (by omega) (by omega)
      have e1 : 2 ^ (m.log2 + 1 + 2) = 4 * 2 ^ (m.log2 + 1) := by rw [Nat.pow_add, Nat.mul_comm]
      omega
    have : e + s = -149 := Classical.byContradiction fun hne => by have := hs3 hne; omega
    rw [hk0, this]
    rfl
  · rename_i hs
    refine congrArg (wd minus) (packN_eq hs2 ?_ ?_)
    · unfold keptN
      split
      · have hq : m / 2 ^ s.toNat < 16777216 := by
          rw [Nat.div_lt_iff_lt_mul (Nat.two_pow_pos _), show (16777216 : Nat) = 2 ^ 24 by decide, ← Nat.pow_add]
          exact Nat.lt_of_lt_of_le hl2 (Nat.pow_le_pow_right (by omega) (by omega))
        split <;> omega
      · have : m * 2 ^ (-s).toNat < 2 ^ (m.log2 + 1) * 2 ^ (-s).toNat := Nat.mul_lt_mul_of_pos_right hl2 (Nat.two_pow_pos _)
        rw [← Nat.pow_add] at this
        have h24 : 2 ^ (m.log2 + 1 + (-s).toNat) ≤ 2 ^ 24 := Nat.pow_le_pow_right (by omega) (by omega)
        have : (2 : Nat) ^ 24 = 16777216 := by decide
        omega
    · intro hk
      refine Classical.byContradiction fun hne => ?_
      have hse := hs3 hne
      unfold keptN at hk
      split at hk
      · have hq : 8388608 ≤ m / 2 ^ s.toNat := by
          rw [Nat.le_div_iff_mul_le (Nat.two_pow_pos _), show (8388608 : Nat) = 2 ^ 23 by decide, ← Nat.pow_add, show 23 + s.toNat = m.log2 by omega]
          exact hl1
        omega
      · have h3 : 2 ^ m.log2 * 2 ^ (-s).toNat ≤ m * 2 ^ (-s).toNat := Nat.mul_le_mul_right _ hl1
        rw [← Nat.pow_add, show m.log2 + (-s).toNat = 23 by omega] at h3
        have : (2 : Nat) ^ 23 = 8388608 := by decide
        omega
theorem rnd_exact (minus : Bool) (m : Nat) (e : Int) : rnd minus m e false = Ieee.single.nearest minus m e := by
  rw [rnd_eq minus m e false (fun h => by cases h)]
  have := nearest_scale minus m e 1
  rw [Nat.pow_one] at this
  show Ieee.single.nearest minus (2 * m + 0) (e - 1) = _
  rw [Nat.add_zero, Nat.mul_comm]
  exact this

end Go.Proofs.YthmjkmdbggfiiaaGreatDoor.CF

import Derived.Test.YtoippgmecnlhcaaGreatDoorJoin4
import Derived.Lib.MinMax
import Derived.Lib.ItoaLen
import Derived.Laws.Concat
import Derived.Lib.TrimByte
namespace Go.Proofs.YtoippgmecnlhcaaGreatDoor.X
open Go.RowKit Go.Sort Go.Lib

theorem below_step {w X w1 : World} (h : Below w.heap.size w X) (hb : Below X.heap.size X w1) : Below w.heap.size w w1 := h.trans (hb.mono h.size)
/-- A number in at least k digits. -/
def pad (u k : Nat) : List UInt8 := List.replicate (k - nDigits u) 48 ++ decDigits u
theorem repeat_one (c : UInt8) : ∀ k, repeatL [c] k = List.replicate k c
  | 0 => rfl
  | k + 1 => by
    show [c] ++ repeatL [c] k = _
    rw [repeat_one c k]
    rfl

set_option maxHeartbeats 1000000 in
theorem padded_any (u k : Nat) (hu64 : u < 18446744073709551616) (hk : k ≤ 100) (w : World) (htab : Tab w) :
    Calls Tryz.prog 64 #[.int .u64 u, .int .i64 k] w fun e w' => e = .returned (.string ⟨(pad u k).toArray⟩) ∧ Below w.heap.size w w' := by
  have hnd := nDigits_le20 u hu64
  have hlen : (decDigits u).length = nDigits u := decDigits_length u
  have hmax : max ((k : Int) - (nDigits u : Int)) 0 = ((k - nDigits u : Nat) : Int) := by omega
  have hrep := fun W => Tryz.strings_Repeat ⟨#[48]⟩ (k - nDigits u) W (by omega) (by show 1 * _ ≤ _; omega)
  have hsum : ¬ 9223372036854775807 < (repeatL [48] (k - nDigits u)).length + nDigits u := by
    rw [repeatL_length]
    simp only [List.length_cons, List.length_nil]
    omega
  go_enter Tryz.func64, Tryz.ntmps64
  go_wp2_with (first | (go_at_call 63; refine (formatU u hu64 _ htab).mono ?_; rintro e w1 ⟨rfl, hb1⟩) | (go_at_call 81; refine (hrep _).mono ?_; rintro e w2 ⟨rfl, hb2⟩))
  go_ret
  refine ⟨?_, below_step hb1 hb2⟩
  show Ending.returned (.string _) = _
  rw [ByteArray.mk_append_mk, repeat_one]
  rfl

/-- The text of an amount. -/
def amtL (n : Int) : List UInt8 := (if n < 0 then [45] else []) ++ decDigits (n.natAbs / 100) ++ [46] ++ pad (n.natAbs % 100) 2

theorem nDigits_le2 {u : Nat} (h : u < 100) : nDigits u ≤ 2 := by
  by_cases h1 : u < 10
  · rw [nDigits_small h1]; omega
  · rw [nDigits_big h1, nDigits_small (by omega)]; omega
theorem pad_length (u k : Nat) : (pad u k).length = max (nDigits u) k := by
  unfold pad
  rw [List.length_append, List.length_replicate, decDigits_length]
  omega
theorem formatU_at (z : Int) (u : Nat) (hz : z = (u : Int)) (hu64 : u < 18446744073709551616) (S : List UInt8) (hS : decDigits u = S) (w : World) (htab : Tab w) :
    Calls Tryz.prog 63 #[.int .u64 z, .int .i64 10] w fun e w' => e = .returned (.string ⟨S.toArray⟩) ∧ Below w.heap.size w w' := by
  rw [hz, ← hS]
  exact formatU u hu64 w htab
theorem padded_at (z : Int) (u k : Nat) (hz : z = (u : Int)) (hu64 : u < 18446744073709551616) (hk : k ≤ 100) (kk : Int) (hkk : kk = (k : Int)) (S : List UInt8) (hS : pad u k = S) (w : World) (htab : Tab w) :
    Calls Tryz.prog 64 #[.int .u64 z, .int .i64 kk] w fun e w' => e = .returned (.string ⟨S.toArray⟩) ∧ Below w.heap.size w w' := by
  rw [hz, hkk, ← hS]
  exact padded_any u k hu64 hk w htab

set_option maxHeartbeats 1000000 in
theorem amount_any (n : Int) (h0 : -9223372036854775808 ≤ n) (h1 : n ≤ 9223372036854775807) (w : World) (htab : Tab w) :
    Calls Tryz.prog 49 #[.int .i64 n] w fun e w' => e = .returned (.string ⟨(amtL n).toArray⟩) ∧ Below w.heap.size w w' := by
  obtain ⟨S, hS⟩ : ∃ S, decDigits (n.natAbs / 100) = S := ⟨_, rfl⟩
  obtain ⟨T, hT⟩ : ∃ T, pad (n.natAbs % 100) 2 = T := ⟨_, rfl⟩
  have hSl : S.length ≤ 20 := by rw [← hS, decDigits_length]; exact nDigits_le20 _ (by omega)
  have hTl : T.length ≤ 2 := by
    rw [← hT, pad_length]
    have := nDigits_le2 (Nat.mod_lt n.natAbs (show 0 < 100 by omega))
    omega
  have e1 : ¬ 9223372036854775807 < 1 + S.length := by omega
  have e2 : ¬ 9223372036854775807 < 1 + S.length + 1 := by omega
  have e3 : ¬ 9223372036854775807 < 1 + S.length + 1 + T.length := by omega
  have e4 : ¬ 9223372036854775807 < 0 + S.length := by omega
  have e5 : ¬ 9223372036854775807 < S.length := by omega
  have e6 : ¬ 9223372036854775807 < S.length + 1 := by omega
  have e7 : ¬ 9223372036854775807 < S.length + 1 + T.length := by omega
  by_cases hneg : n < 0
  · have hL : Hid (amtL n = [45] ++ S ++ [46] ++ T) := by
      unfold Hid amtL
      rw [if_pos hneg, hS, hT]
    obtain ⟨u, rfl⟩ : ∃ u : Nat, n = -(u : Int) := ⟨n.natAbs, by omega⟩
    have hwr : IntKind.u64.wrap (-IntKind.u64.wrap (-(u : Int))) = (u : Int) := by rw [IntKind.wrap_u64, IntKind.wrap_u64]; omega
    have hf : ∀ W, Tab W → _ := fun W h => formatU_at ((u : Int) / 100) (u / 100) (by omega) (by omega) S (by rw [← hS]; congr 1; omega) W h
    have hp : ∀ W, Tab W → _ := fun W h => padded_at ((u : Int) % 100) (u % 100) 2 (by omega) (by omega) (by omega) 2 rfl T (by rw [← hT]; congr 1; omega) W h
    clear hS hT
    go_enter Tryz.func49, Tryz.ntmps49
    go_wp2_with (first | (go_at_call 63; refine (hf _ htab).mono ?_; rintro e w1 ⟨rfl, hb1⟩; have htab1 := htab.later hb1) | (go_at_call 64; refine (hp _ htab1).mono ?_; rintro e w2 ⟨rfl, hb2⟩))
    go_ret
    refine ⟨?_, below_step hb1 hb2⟩
    show Ending.returned (.string (⟨[45].toArray⟩ ++ ⟨S.toArray⟩ ++ ⟨[46].toArray⟩ ++ ⟨T.toArray⟩)) = _
    rw [ByteArray.mk_append_mk, ByteArray.mk_append_mk, ByteArray.mk_append_mk, hL.out]
  · have hL : Hid (amtL n = S ++ [46] ++ T) := by
      unfold Hid amtL
      rw [if_neg hneg, hS, hT]
      rfl
    obtain ⟨u, rfl⟩ : ∃ u : Nat, n = (u : Int) := ⟨n.natAbs, by omega⟩
    have hwr : IntKind.u64.wrap (u : Int) = (u : Int) := by rw [IntKind.wrap_u64]; omega
    have hf : ∀ W, Tab W → _ := fun W h => formatU_at ((u : Int) / 100) (u / 100) (by omega) (by omega) S (by rw [← hS]; congr 1) W h
    have hp : ∀ W, Tab W → _ := fun W h => padded_at ((u : Int) % 100) (u % 100) 2 (by omega) (by omega) (by omega) 2 rfl T (by rw [← hT]; congr 1) W h
    clear hS hT
    go_enter Tryz.func49, Tryz.ntmps49
    go_wp2_with (first | (go_at_call 63; refine (hf _ htab).mono ?_; rintro e w1 ⟨rfl, hb1⟩; have htab1 := htab.later hb1) | (go_at_call 64; refine (hp _ htab1).mono ?_; rintro e w2 ⟨rfl, hb2⟩))
    go_ret
    refine ⟨?_, below_step hb1 hb2⟩
    show Ending.returned (.string (⟨[].toArray⟩ ++ ⟨S.toArray⟩ ++ ⟨[46].toArray⟩ ++ ⟨T.toArray⟩)) = _
    rw [ByteArray.mk_append_mk, ByteArray.mk_append_mk, ByteArray.mk_append_mk, hL.out]
    rfl

end Go.Proofs.YtoippgmecnlhcaaGreatDoor.X


namespace Go.Proofs.YtoippgmecnlhcaaGreatDoor.X
open Go.RowKit Go.Sort Go.Lib

def ch (c : Nat) : UInt8 := UInt8.ofNat (48 + c)
/-- k digits, the highest first. -/
def fx (k m : Nat) : List UInt8 := (List.range k).map fun t => dg m (k - 1 - t)
theorem fx_len (k m : Nat) : (fx k m).length = k := by simp [fx]
theorem dg_zero {m j : Nat} (h : m < 10 ^ j) : dg m j = 48 := by
  unfold dg
  rw [Nat.div_eq_of_lt h]
  rfl
theorem nDigits_lt {m : Nat} : ∀ {k : Nat}, 1 ≤ k → m < 10 ^ k → nDigits m ≤ k := by
  intro k
  induction k generalizing m with
  | zero => intro h; omega
  | succ k ih =>
    intro _ h
    by_cases h1 : m < 10
    · rw [nDigits_small h1]; omega
    · rw [nDigits_big h1]
      cases k with
      | zero => simp at h; omega
      | succ k =>
        have := ih (m := m / 10) (by omega) (Nat.div_lt_of_lt_mul (by rw [Nat.pow_succ] at h; omega))
        omega
theorem pad_fx {k m : Nat} (hk : 1 ≤ k) (h : m < 10 ^ k) : pad m k = fx k m := by
  have hn := nDigits_lt hk h
  have h10 : m < 10 ^ nDigits m := lt_pow_nDigits m
  unfold pad fx
  rw [decDigits_eq]
  generalize nDigits m = n at *
  refine List.ext_getElem (by simp; omega) fun i h1 h2 => ?_
  rw [List.getElem_append]
  simp only [List.length_replicate, List.getElem_replicate, List.getElem_map, List.getElem_range]
  split
  · rename_i hi
    refine (dg_zero (Nat.lt_of_lt_of_le h10 (Nat.pow_le_pow_right (by decide) ?_))).symm
    omega
  · rename_i hi
    congr 1
    simp at h2
    omega
theorem fx_cons (f c m : Nat) (hm : m < 10 ^ f) (hc : c < 10) : fx (f + 1) (c * 10 ^ f + m) = ch c :: fx f m := by
  have hp : 0 < 10 ^ f := Nat.pow_pos (by decide)
  unfold fx
  rw [List.range_succ_eq_map, List.map_cons, List.map_map]
  congr 1
  · show dg _ (f + 1 - 1 - 0) = ch c
    rw [Nat.add_sub_cancel, Nat.sub_zero]
    unfold dg ch
    rw [Nat.mul_comm, Nat.mul_add_div hp, Nat.div_eq_of_lt hm, Nat.add_zero, Nat.mod_eq_of_lt hc]
  · refine List.map_congr_left fun t ht => ?_
    have ht' : t < f := by simpa using ht
    show dg _ (f + 1 - 1 - (t + 1)) = dg _ (f - 1 - t)
    rw [show f + 1 - 1 - (t + 1) = f - 1 - t from by omega]
    unfold dg
    obtain ⟨d, hd⟩ : ∃ d, f = (f - 1 - t) + (d + 1) := ⟨t, by omega⟩
    generalize f - 1 - t = j at *
    have e : c * 10 ^ f + m = 10 ^ j * (c * 10 ^ d * 10) + m := by
      rw [hd, Nat.pow_add, Nat.pow_succ]
      have : c * (10 ^ j * (10 ^ d * 10)) = 10 ^ j * (c * 10 ^ d * 10) := by
        rw [← Nat.mul_assoc, Nat.mul_comm c, Nat.mul_assoc, Nat.mul_assoc]
      rw [this]
    rw [e, Nat.mul_add_div (Nat.pow_pos (by decide)), Nat.mul_add_mod_self_right] <;> skip

theorem trim_cons (x : UInt8) (L : List UInt8) (h : trimRightB L 48 ≠ [] ∨ x ≠ 48) : trimRightB (x :: L) 48 = x :: trimRightB L 48 := by
  unfold trimRightB at *
  rw [List.reverse_cons]
  by_cases h0 : L.reverse.dropWhile (· == 48) = []
  · rw [h0] at h ⊢
    have hx : x ≠ 48 := by
      rcases h with h | h
      · exact absurd rfl h
      · exact h
    rw [List.dropWhile_append, h0]
    simp [hx]
  · rw [List.dropWhile_append]
    have : (L.reverse.dropWhile (· == 48)).isEmpty = false := by
      cases hh : L.reverse.dropWhile (· == 48) with
      | nil => exact absurd hh h0
      | cons => rfl
    rw [this]
    simp
theorem trim_zeros : ∀ k, trimRightB (fx k 0) 48 = []
  | k => by
    have : fx k 0 = List.replicate k 48 := by
      refine List.ext_getElem (by simp [fx]) fun i h1 h2 => ?_
      simp [fx]
      exact dg_zero (Nat.pow_pos (by decide))
    rw [this]
    unfold trimRightB
    simp

/-- What stands behind the point, a digit at a time. -/
def tl (D : Nat) : Nat → Nat → Option (List UInt8)
  | 0, r => if r = 0 then some [] else none
  | f + 1, r => if r = 0 then some [] else (tl D f (10 * r % D)).map (ch (10 * r / D) :: ·)

theorem tl_eq (D : Nat) (hD : 0 < D) : ∀ (f r : Nat), r < D → tl D f r = if r * 10 ^ f % D = 0 then some (trimRightB (fx f (r * 10 ^ f / D)) 48) else none
  | 0, r, hr => by
    unfold tl
    rw [Nat.pow_zero, Nat.mul_one, Nat.mod_eq_of_lt hr]
    rfl
  | f + 1, r, hr => by
    unfold tl
    by_cases h0 : r = 0
    · subst h0
      rw [if_pos rfl, Nat.zero_mul, Nat.zero_mod, if_pos rfl, Nat.zero_div, trim_zeros]
    · rw [if_neg h0, tl_eq D hD f _ (Nat.mod_lt _ hD)]
      have hc : 10 * r / D < 10 := Nat.div_lt_of_lt_mul (by rw [Nat.mul_comm]; exact (Nat.mul_lt_mul_right (by decide)).2 hr)
      have hdm := Nat.div_add_mod (10 * r) D
      have hr' := Nat.mod_lt (10 * r) hD
      have hp : 0 < 10 ^ f := Nat.pow_pos (by decide)
      generalize hcc : 10 * r / D = c at *
      generalize 10 * r % D = r' at *
      have e : r * 10 ^ (f + 1) = D * (c * 10 ^ f) + r' * 10 ^ f := by
        rw [Nat.pow_succ, Nat.mul_comm (10 ^ f) 10, ← Nat.mul_assoc, Nat.mul_comm r 10, ← hdm, Nat.add_mul, Nat.mul_assoc]
      have hm : r' * 10 ^ f / D < 10 ^ f := Nat.div_lt_of_lt_mul ((Nat.mul_lt_mul_right hp).2 hr')
      rw [e, Nat.mul_add_mod, Nat.mul_add_div hD]
      by_cases hz : r' * 10 ^ f % D = 0
      · rw [if_pos hz, if_pos hz, Option.map_some, fx_cons f c _ hm hc, trim_cons]
        by_cases hc0 : c = 0
        · left
          intro ht
          have hr0 : r' ≠ 0 := by
            rintro rfl
            rw [hc0] at hdm
            omega
          have hq : r' * 10 ^ f / D ≠ 0 := fun hq => by
            have := Nat.div_add_mod (r' * 10 ^ f) D
            rw [hq, hz] at this
            have := Nat.mul_pos (Nat.pos_of_ne_zero hr0) hp
            omega
          have ih := tl_eq D hD f r' hr'
          rw [if_pos hz, ht] at ih
          cases f with
          | zero =>
            have hm' : r' * 10 ^ 0 / D < 1 := hm
            exact hq (Nat.lt_one_iff.1 hm')
          | succ f =>
            unfold tl at ih
            rw [if_neg hr0] at ih
            cases h2 : tl D f (10 * r' % D) with
            | none => rw [h2] at ih; cases ih
            | some l => rw [h2] at ih; simp at ih
        · right
          intro he
          have : (ch c).toNat = 48 := by rw [he]; rfl
          unfold ch at this
          rw [UInt8.toNat_ofNat'] at this
          omega
      · rw [if_neg hz, if_neg hz]
        rfl

/-- P4.12: the text of a ratio. -/
def pctL (A D : Nat) : Option (List UInt8) := (tl D 6 (A % D)).map fun l => decDigits (A / D) ++ (if l = [] then [] else 46 :: l) ++ [37]

theorem million (q m : Nat) (hm : m < 1000000) : (q * 1000000 + m) / 1000000 = q ∧ (q * 1000000 + m) % 1000000 = m := by omega
theorem pct_parts {A D : Nat} (hD : 0 < D) : A * 1000000 % D = A % D * 10 ^ 6 % D ∧ A * 1000000 / D / 1000000 = A / D ∧ A * 1000000 / D % 1000000 = A % D * 10 ^ 6 / D := by
  have hdm := Nat.div_add_mod A D
  have hr := Nat.mod_lt A hD
  have e : A * 1000000 = D * (A / D * 1000000) + A % D * 10 ^ 6 := by
    have : D * (A / D * 1000000) + A % D * 10 ^ 6 = (D * (A / D) + A % D) * 1000000 := by
      rw [Nat.add_mul, Nat.mul_assoc]
    rw [this, hdm]
  have hm : A % D * 10 ^ 6 / D < 1000000 := Nat.div_lt_of_lt_mul ((Nat.mul_lt_mul_right (by decide)).2 hr)
  rw [e, Nat.mul_add_mod, Nat.mul_add_div hD]
  exact ⟨rfl, (million _ _ hm).1, (million _ _ hm).2⟩
/-- As the program reckons it. -/
theorem pct_prog {A D : Nat} (hD : 0 < D) : pctL A D = if A * 1000000 % D = 0 then some (decDigits (A * 1000000 / D / 1000000) ++ (if A * 1000000 / D % 1000000 = 0 then [] else 46 :: trimRightB (pad (A * 1000000 / D % 1000000) 6) 48) ++ [37]) else none := by
  obtain ⟨e1, e2, e3⟩ := pct_parts (A := A) hD
  have hr := Nat.mod_lt A hD
  have hm : A % D * 10 ^ 6 / D < 10 ^ 6 := Nat.div_lt_of_lt_mul ((Nat.mul_lt_mul_right (by decide)).2 hr)
  unfold pctL
  rw [tl_eq D hD 6 _ hr, e1, e2, e3]
  by_cases hz : A % D * 10 ^ 6 % D = 0
  · rw [if_pos hz, if_pos hz, Option.map_some, pad_fx (by decide) hm]
    by_cases h0 : A % D * 10 ^ 6 / D = 0
    · rw [if_pos h0, h0, trim_zeros, if_pos rfl]
    · rw [if_neg h0, if_neg]
      intro ht
      have ih := tl_eq D hD 6 _ hr
      rw [if_pos hz, ht] at ih
      have hr0 : A % D ≠ 0 := fun h => h0 (by rw [h]; simp)
      unfold tl at ih
      rw [if_neg hr0] at ih
      cases h2 : tl D 5 (10 * (A % D) % D) with
      | none => rw [h2] at ih; cases ih
      | some l => rw [h2] at ih; simp at ih
  · rw [if_neg hz, if_neg hz]
    rfl

end Go.Proofs.YtoippgmecnlhcaaGreatDoor.X


namespace Go.Proofs.YtoippgmecnlhcaaGreatDoor.X
open Go.RowKit Go.Sort Go.Lib

/-- P4.12: Percent, of any two numbers. -/
def pct (n d : Int) : Option (List UInt8) := if n < 0 ∨ 1000000000 < n ∨ d < 1 ∨ 1000000000 < d then none else pctL (100 * n.toNat) d.toNat
/-- What is answered. -/
def pctV (o : Option (List UInt8)) : Value := .tuple #[.string ⟨(o.getD []).toArray⟩, .bool o.isSome]

set_option maxHeartbeats 1000000 in
theorem percent_any (n d : Int) (hn : -9223372036854775808 ≤ n ∧ n ≤ 9223372036854775807) (hd : -9223372036854775808 ≤ d ∧ d ≤ 9223372036854775807) (w : World) (htab : Tab w) :
    Calls Tryz.prog 51 #[.int .i64 n, .int .i64 d] w fun e w' => e = .returned (pctV (pct n d)) ∧ Below w.heap.size w w' := by
  by_cases hbad : n < 0 ∨ 1000000000 < n ∨ d < 1 ∨ 1000000000 < d
  · have hp : pct n d = none := if_pos hbad
    rw [hp]
    have hcs : n < 0 ∨ (¬ n < 0 ∧ 1000000000 < n) ∨ (¬ n < 0 ∧ ¬ 1000000000 < n ∧ d < 1) ∨ (¬ n < 0 ∧ ¬ 1000000000 < n ∧ ¬ d < 1 ∧ 1000000000 < d) := by omega
    clear hp hbad
    rcases hcs with h1 | ⟨h1, h2⟩ | ⟨h1, h2, h3⟩ | ⟨h1, h2, h3, h4⟩
    all_goals
      go_enter Tryz.func51, Tryz.ntmps51
      go_wp2_with fail
      exact bodyPost_ret (v := pctV none) (by simp [results, Tryz.results51, go_sem, pctV]) rfl ⟨rfl, Below.refl _ _⟩
  · obtain ⟨N, rfl⟩ : ∃ N : Nat, n = (N : Int) := ⟨n.toNat, by omega⟩
    obtain ⟨D, rfl⟩ : ∃ D : Nat, d = (D : Int) := ⟨d.toNat, by omega⟩
    have hD : 0 < D := by omega
    have hN9 : N ≤ 1000000000 := by omega
    have hD9 : D ≤ 1000000000 := by omega
    have h1 : ¬ (N : Int) < 0 := by omega
    have h2 : ¬ (1000000000 : Int) < N := by omega
    have h3 : ¬ (D : Int) < 1 := by omega
    have h4 : ¬ (1000000000 : Int) < D := by omega
    have hp : pct (N : Int) (D : Int) = pctL (100 * N) D := by
      unfold pct
      rw [if_neg hbad, Int.toNat_natCast, Int.toNat_natCast]
    rw [hp]
    clear hp hbad
    obtain ⟨R, hR0⟩ : ∃ R, pctL (100 * N) D = R := ⟨_, rfl⟩
    have hR : Hid (R = _) := hR0.symm.trans (pct_prog hD)
    rw [hR0]
    clear hR0
    have e1 : ((N : Int) * 100 * 1000000 % (D : Int)) = ((100 * N * 1000000 % D : Nat) : Int) := by
      rw [show (N : Int) * 100 * 1000000 = ((100 * N * 1000000 : Nat) : Int) from by omega, Int.natCast_emod]
    have e2 : ((N : Int) * 100 * 1000000 / (D : Int)) = ((100 * N * 1000000 / D : Nat) : Int) := by
      rw [show (N : Int) * 100 * 1000000 = ((100 * N * 1000000 : Nat) : Int) from by omega, Int.natCast_ediv]
    have hq : 100 * N * 1000000 / D ≤ 100 * N * 1000000 := Nat.div_le_self _ _
    by_cases hz : 100 * N * 1000000 % D = 0
    · have hzb : (((N : Int) * 100 * 1000000 % (D : Int)) != 0) = false := by rw [e1, hz]; rfl
      rw [if_pos hz] at hR
      have hq17 : 100 * N * 1000000 / D ≤ 100000000000000000 := by omega
      generalize 100 * N * 1000000 / D = q at *
      obtain ⟨S, hS⟩ : ∃ S, decDigits (q / 1000000) = S := ⟨_, rfl⟩
      have hSl : S.length ≤ 20 := by rw [← hS, decDigits_length]; exact nDigits_le20 _ (by omega)
      have hf : ∀ W, Tab W → _ := fun W h => formatU_at ((q : Int) / 1000000) (q / 1000000) (by omega) (by omega) S hS W h
      rw [hS] at hR
      clear e1 hz hq hS
      by_cases hm : q % 1000000 = 0
      · have hmb : ((q : Int) % 1000000 != 0) = false := by rw [show (q : Int) % 1000000 = 0 from by omega]; rfl
        rw [if_pos hm] at hR
        have hsum : ¬ 9223372036854775807 < S.length + 1 := by omega
        have hR' : Hid (R = some (S ++ [37])) := by
          unfold Hid
          rw [hR.out]
          simp
        clear hm hR
        go_enter Tryz.func51, Tryz.ntmps51
        go_wp2_with (first | (go_at_call 63; refine (hf _ htab).mono ?_; rintro e w1 ⟨rfl, hb1⟩))
        refine bodyPost_ret (v := .tuple #[.string (⟨S.toArray⟩ ++ ⟨[37].toArray⟩), .bool true]) (by simp [results, Tryz.results51, go_sem]) rfl ⟨?_, hb1⟩
        rw [hR'.out, ByteArray.mk_append_mk]
        rfl
      · have hmb : ((q : Int) % 1000000 != 0) = true := by simp; omega
        rw [if_neg hm] at hR
        obtain ⟨T, hT⟩ : ∃ T, pad (q % 1000000) 6 = T := ⟨_, rfl⟩
        have hTl : T.length = 6 := by
          rw [← hT, pad_fx (k := 6) (m := q % 1000000) (by decide) (by show q % 1000000 < 1000000; omega), fx_len]
        rw [hT] at hR
        obtain ⟨U, hU⟩ : ∃ U, trimRightB T 48 = U := ⟨_, rfl⟩
        have hUl : U.length ≤ 6 := by
          rw [← hU, ← hTl]
          unfold trimRightB
          rw [List.length_reverse]
          have h1 := (List.dropWhile_suffix (· == 48) (l := T.reverse)).length_le
          rw [List.length_reverse] at h1
          exact h1
        rw [hU] at hR
        have hp : ∀ W, Tab W → _ := fun W h => padded_at ((q : Int) % 1000000) (q % 1000000) 6 (by omega) (by omega) (by omega) 6 rfl T hT W h
        have ht : ∀ W, Calls Tryz.prog 66 #[.string ⟨T.toArray⟩, .string ⟨#[48]⟩] W fun e w' => e = .returned (.string ⟨U.toArray⟩) ∧ w' = W := fun W => by
          have h := Tryz.strings_TrimRight_one ⟨T.toArray⟩ 48 (by decide) W (by show T.toArray.size ≤ _; simp [hTl])
          rw [show (⟨T.toArray⟩ : ByteArray).data.toList = T from rfl, hU] at h
          exact h
        have s1 : ¬ 9223372036854775807 < 1 + U.length := by omega
        have s2 : ¬ 9223372036854775807 < S.length + (1 + U.length) := by omega
        have s3 : ¬ 9223372036854775807 < S.length + (1 + U.length) + 1 := by omega
        have hR' : Hid (R = some (S ++ ([46] ++ U) ++ [37])) := hR.out
        clear hm hR hU hT
        go_enter Tryz.func51, Tryz.ntmps51
        go_wp2_with (first | (go_at_call 63; refine (hf _ htab).mono ?_; rintro e w1 ⟨rfl, hb1⟩; have htab1 := htab.later hb1) | (go_at_call 64; refine (hp _ htab1).mono ?_; rintro e w2 ⟨rfl, hb2⟩) | (go_at_call 66; refine (ht _).mono ?_; rintro e w3 ⟨rfl, rfl⟩))
        refine bodyPost_ret (v := .tuple #[.string (⟨S.toArray⟩ ++ (⟨[46].toArray⟩ ++ ⟨U.toArray⟩) ++ ⟨[37].toArray⟩), .bool true]) (by simp [results, Tryz.results51, go_sem]) rfl ⟨?_, below_step hb1 hb2⟩
        rw [hR'.out, ByteArray.mk_append_mk, ByteArray.mk_append_mk, ByteArray.mk_append_mk]
        rfl
    · have hzb : (((N : Int) * 100 * 1000000 % (D : Int)) != 0) = true := by
        rw [e1]
        generalize 100 * N * 1000000 % D = m at *
        simp
        omega
      rw [if_neg hz] at hR
      clear e1 e2 hz hq
      have hR' : Hid (pctV R = pctV none) := by unfold Hid; rw [hR.out]
      clear hR
      go_enter Tryz.func51, Tryz.ntmps51
      go_wp2_with fail
      exact bodyPost_ret (v := pctV none) (by simp [results, Tryz.results51, go_sem, pctV]) rfl ⟨by rw [hR'.out], Below.refl _ _⟩

end Go.Proofs.YtoippgmecnlhcaaGreatDoor.X

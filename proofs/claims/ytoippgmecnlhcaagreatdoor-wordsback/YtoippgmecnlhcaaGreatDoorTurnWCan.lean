import Derived.Test.YtoippgmecnlhcaaGreatDoorTurnWNumM2
/- THE BYTES OF A WORD ARE THE ONE TEXT OF ITS TOKEN: numbers, texts. No program. -/
namespace Go.Proofs.YtoippgmecnlhcaaGreatDoor.Q
open Go.Lib (decDigits)

theorem snoc_cases {α : Type} (x : List α) : x = [] ∨ ∃ y c, x = y ++ [c] := by
  rcases List.eq_nil_or_concat x with h | ⟨y, c, h⟩
  · exact .inl h
  · exact .inr ⟨y, c, by simpa using h⟩
theorem of_nat8 (c : UInt8) (h : 48 ≤ c.toNat ∧ c.toNat ≤ 57) : UInt8.ofNat (48 + (c.toNat - 48)) = c := by
  rw [show 48 + (c.toNat - 48) = c.toNat from by omega]
  simp
theorem vl_snoc (y : List UInt8) (c : UInt8) : val (y ++ [c]) = 10 * val y + (c.toNat - 48) := by
  have e : val [c] = c.toNat - 48 := by show 10 * 0 + (c.toNat - 48) = _; omega
  rw [vl_app, e]
  simp
  omega
theorem vl_pos : ∀ (x : List UInt8), dgs x → x ≠ [] → x.head? ≠ some 48 → 0 < val x := by
  intro x
  induction hn : x.length generalizing x with
  | zero => intro _ h; exact absurd (List.eq_nil_of_length_eq_zero hn) h
  | succ n ih =>
    intro hd hne hh
    rcases snoc_cases x with rfl | ⟨y, c, rfl⟩
    · exact absurd rfl hne
    · rw [vl_snoc]
      by_cases hy : y = []
      · subst hy
        have := hd c (by simp)
        have hc : c ≠ 48 := fun e => hh (by simp [e])
        have : c.toNat ≠ 48 := fun e => hc (UInt8.toNat_inj.1 e)
        omega
      · have hyh : y.head? ≠ some 48 := by
          cases y with
          | nil => exact absurd rfl hy
          | cons d y => exact hh
        have := ih y (by simp at hn; omega) (fun d hd' => hd d (by simp [hd'])) hy hyh
        omega
/-- Digits without zeros ahead are the digits of what they say. -/
theorem dd_back : ∀ (x : List UInt8), dgs x → x ≠ [] → ¬ (1 < x.length ∧ x.head? = some 48) → decDigits (val x) = x := by
  intro x
  induction hn : x.length generalizing x with
  | zero => intro _ h; exact absurd (List.eq_nil_of_length_eq_zero hn) h
  | succ n ih =>
    intro hd hne hh
    rcases snoc_cases x with rfl | ⟨y, c, rfl⟩
    · exact absurd rfl hne
    · have hc := hd c (by simp)
      rw [vl_snoc]
      by_cases hy : y = []
      · subst hy
        show decDigits (10 * 0 + (c.toNat - 48)) = [c]
        rw [decDigits, dif_pos (by omega), Nat.mul_zero, Nat.zero_add, of_nat8 c hc]
      · have hy1 : 1 ≤ y.length := by cases y with | nil => exact absurd rfl hy | cons d y => simp
        have hyh : y.head? ≠ some 48 := by
          intro e
          refine hh ⟨by simp at hn; omega, ?_⟩
          cases y with
          | nil => exact absurd rfl hy
          | cons d y => exact e
        have hdy : dgs y := fun d hd' => hd d (by simp [hd'])
        have hp := vl_pos y hdy hy hyh
        have hi := ih y (by simp at hn; omega) hdy hy (fun h => hyh h.2)
        rw [decDigits, dif_neg (by omega), show (10 * val y + (c.toNat - 48)) / 10 = val y from by omega, hi, show (10 * val y + (c.toNat - 48)) % 10 = c.toNat - 48 from by omega, of_nat8 c hc]
/-- Two digits. -/
theorem two_dgs {x : List UInt8} (hd : dgs x) (h2 : x.length = 2) : ∃ a b : UInt8, x = [a, b] ∧ (48 ≤ a.toNat ∧ a.toNat ≤ 57) ∧ (48 ≤ b.toNat ∧ b.toNat ≤ 57) ∧ val x = 10 * (a.toNat - 48) + (b.toNat - 48) := by
  match x, h2 with
  | [a, b], _ =>
    refine ⟨a, b, rfl, hd a (by simp), hd b (by simp), ?_⟩
    show 10 * (10 * 0 + (a.toNat - 48)) + (b.toNat - 48) = _
    omega
theorem vl_lt : ∀ (x : List UInt8), dgs x → val x < 10 ^ x.length := by
  intro x
  induction hn : x.length generalizing x with
  | zero => intro _; rw [List.eq_nil_of_length_eq_zero hn]; decide
  | succ n ih =>
    intro hd
    rcases snoc_cases x with rfl | ⟨y, c, rfl⟩
    · simp at hn
    · have hc := hd c (by simp)
      have := ih y (by simp at hn; omega) (fun d hd' => hd d (by simp [hd']))
      rw [vl_snoc, Nat.pow_succ]
      omega
/-- The digits behind the point, from what they say. -/
theorem dv_back (D : Nat) (hD : 0 < D) : ∀ (l : List UInt8) (r : Nat), r < D → dgs l → l.getLast? ≠ some 48 → val l * D = r * 10 ^ l.length → Dv D r l
  | [], r, hr, _, _, h => by
    show r = 0
    simpa [val] using h.symm
  | c :: l, r, hr, hd, hl, h => by
    have hc := hd c (by simp)
    have hdl : dgs l := fun d hd' => hd d (List.mem_cons_of_mem _ hd')
    have hv : val (c :: l) = (c.toNat - 48) * 10 ^ l.length + val l := by
      have := vl_app [c] l
      have e : val [c] = c.toNat - 48 := by show 10 * 0 + (c.toNat - 48) = _; omega
      rw [e] at this
      exact this
    have hlt := vl_lt l hdl
    rw [hv, List.length_cons, Nat.pow_succ, Nat.add_mul] at h
    have hP : 0 < 10 ^ l.length := Nat.pow_pos (by decide)
    obtain ⟨P, hPe⟩ : ∃ P, 10 ^ l.length = P := ⟨_, rfl⟩
    rw [hPe] at h hlt hP
    obtain ⟨q, hq⟩ : ∃ q, c.toNat - 48 = q := ⟨_, rfl⟩
    rw [hq] at h
    -- 10 r = q D + r', r' < D
    have hlD : val l * D < P * D := Nat.mul_lt_mul_of_pos_right hlt hD
    have h1 : P * (q * D) + val l * D = P * (10 * r) := by
      calc P * (q * D) + val l * D = q * P * D + val l * D := by rw [← Nat.mul_assoc, Nat.mul_comm P q]
        _ = r * (P * 10) := h
        _ = P * (10 * r) := by rw [Nat.mul_comm r, Nat.mul_assoc]
    have hqd : q * D ≤ 10 * r := Nat.le_of_mul_le_mul_left (by omega) hP
    obtain ⟨r', hr'⟩ : ∃ r', 10 * r = q * D + r' := ⟨10 * r - q * D, by omega⟩
    have h2 : val l * D = P * r' := by
      rw [hr', Nat.mul_add] at h1
      omega
    have hr'D : r' < D := by
      rw [h2] at hlD
      exact Nat.lt_of_mul_lt_mul_left hlD
    have hdiv : 10 * r / D = q := by
      rw [hr', Nat.mul_comm, Nat.mul_add_div hD, Nat.div_eq_of_lt hr'D, Nat.add_zero]
    have hmod : 10 * r % D = r' := by
      rw [hr', Nat.mul_comm, Nat.mul_add_mod, Nat.mod_eq_of_lt hr'D]
    refine ⟨?_, ?_, ?_⟩
    · intro h0
      subst h0
      have hq0 : q * D = 0 := by omega
      have hq00 : q = 0 := by
        rcases Nat.eq_zero_or_pos q with h | h
        · exact h
        · have := Nat.mul_pos h hD; omega
      have hr0 : r' = 0 := by omega
      subst hr0
      rw [Nat.mul_zero] at h2
      have hv0 : val l = 0 := by
        rcases Nat.eq_zero_or_pos (val l) with h | h
        · exact h
        · have := Nat.mul_pos h hD; omega
      have hi := dv_back D hD l 0 hD hdl (by
        cases l with
        | nil => simp
        | cons d l => rw [List.getLast?_cons_cons] at hl; exact hl) (by rw [hv0]; simp)
      cases l with
      | nil =>
        refine hl ?_
        simp only [List.getLast?_singleton, Option.some.injEq]
        apply UInt8.toNat_inj.1
        show c.toNat = 48
        omega
      | cons d l => exact absurd rfl hi.1
    · rw [hdiv, ← hq, of_nat8 c hc]
    · rw [hmod]
      refine dv_back D hD l r' hr'D hdl ?_ (by rw [h2, hPe, Nat.mul_comm])
      cases l with
      | nil => simp
      | cons d l => rw [List.getLast?_cons_cons] at hl; exact hl

/-- What a percentage's token says is its text again. -/
theorem pct_back {w l : List UInt8} {a b : Nat} (hw : dgs w) (hw0 : w ≠ []) (hl : dgs l) (h : numTok w l true = some (4, [], a, b)) : 0 < b ∧ a ≤ 1000000000 ∧ b ≤ 1000000000 ∧ decDigits (100 * a / b) = w ∧ Dv b (100 * a % b) l ∧ l.length ≤ 6 := by
  unfold numTok at h
  split at h
  · cases h
  · rename_i hz
    rw [if_pos rfl] at h
    unfold pctTok at h
    split at h
    · cases h
    · rename_i hl6
      split at h
      · rename_i hb
        injection h with h
        injection h with _ h
        injection h with _ h
        injection h with ha hbb
        have hP : 0 < 10 ^ l.length := Nat.pow_pos (by decide)
        have hv : val (w ++ l) = val w * 10 ^ l.length + val l := vl_app w l
        have hvl := vl_lt l hl
        have hlen : l.length ≤ 6 := by omega
        have hlast : l.getLast? ≠ some 48 := fun e => hl6 (.inr e)
        have hlead : ¬ (1 < w.length ∧ w.head? = some 48) := fun e => hz (.inr e)
        have hdd := dd_back w hw hw0 hlead
        rw [ha, hbb] at hb
        obtain ⟨P, hPe⟩ : ∃ P, 10 ^ l.length = P := ⟨_, rfl⟩
        obtain ⟨V, hVe⟩ : ∃ V, val (w ++ l) = V := ⟨_, rfl⟩
        rw [hPe, hVe] at hv ha hbb
        rw [hPe] at hvl hP
        have hg : 0 < V.gcd (100 * P) := Nat.gcd_pos_of_pos_right V (by omega)
        obtain ⟨x, hx⟩ := Nat.gcd_dvd_left V (100 * P)
        obtain ⟨y, hy⟩ := Nat.gcd_dvd_right V (100 * P)
        have hxa : a = x := ha.symm.trans (Nat.div_eq_of_eq_mul_right hg hx)
        have hyb : b = y := hbb.symm.trans (Nat.div_eq_of_eq_mul_right hg hy)
        subst hxa hyb
        have hb0 : 0 < b := by
          rcases Nat.eq_zero_or_pos b with h0 | h0
          · rw [h0, Nat.mul_zero] at hy; omega
          · exact h0
        -- a * 100 P = V * b
        have key : 100 * a * P = V * b := by
          have h2 : V.gcd (100 * P) * (100 * a * P) = V.gcd (100 * P) * (V * b) := by
            calc V.gcd (100 * P) * (100 * a * P) = (V.gcd (100 * P) * a) * (100 * P) := by rw [Nat.mul_comm 100 a, Nat.mul_assoc a, ← Nat.mul_assoc]
              _ = V * (V.gcd (100 * P) * b) := by rw [← hx, ← hy]
              _ = V.gcd (100 * P) * (V * b) := by rw [Nat.mul_left_comm]
          exact Nat.eq_of_mul_eq_mul_left hg h2
        have hq : val w * b ≤ 100 * a := by
          refine Nat.le_of_mul_le_mul_right (c := P) ?_ hP
          rw [key, hv, Nat.add_mul, Nat.mul_right_comm]
          omega
        obtain ⟨r, hr⟩ : ∃ r, 100 * a = val w * b + r := ⟨100 * a - val w * b, by omega⟩
        have hrl : r * P = val l * b := by
          rw [hr, hv, Nat.add_mul, Nat.add_mul, Nat.mul_right_comm] at key
          omega
        have hrb : r < b := by
          have h3 : r * P < b * P := by
            rw [hrl, Nat.mul_comm b P]
            exact Nat.mul_lt_mul_of_pos_right hvl hb0
          exact Nat.lt_of_mul_lt_mul_right h3
        have hdiv : 100 * a / b = val w := by
          rw [hr, Nat.mul_comm, Nat.mul_add_div hb0, Nat.div_eq_of_lt hrb, Nat.add_zero]
        have hmod : 100 * a % b = r := by
          rw [hr, Nat.mul_comm, Nat.mul_add_mod, Nat.mod_eq_of_lt hrb]
        refine ⟨hb0, hb.1, hb.2, by rw [hdiv]; exact hdd, ?_, hlen⟩
        rw [hmod]
        exact dv_back b hb0 l r hrb hl hlast (by rw [hPe]; exact hrl.symm)
      · cases h
/-- What stands between quotes is the text of what is meant. -/
def esq (c : UInt8) : List UInt8 := if c = 34 ∨ c = 92 then [92, c] else [c]
theorem qgo_back (a : Nat) : ∀ (x : List UInt8) (p : Nat) (acc : List UInt8) (w : Wd) (e : Nat), qgo a x p none acc = .ok (w, e) → ∃ acc1, w = (6, acc ++ acc1, 0, 0) ∧ (acc ++ acc1).length ≤ 40 ∧ x.take (e - p) = acc1.flatMap esq ++ [34] ∧ (∀ c ∈ acc1, 32 ≤ c.toNat ∧ c.toNat ≤ 126) := by
  intro x
  induction hn : x.length using Nat.strongRecOn generalizing x with
  | _ n ih =>
    intro p acc w e h
    have hpe := qgo_ok a x p none acc w e h
    cases x with
    | nil => simp [qgo] at h
    | cons c x =>
      have h' := h
      simp only [qgo] at h
      by_cases h1 : c = 92
      · rw [if_pos h1] at h
        cases x with
        | nil => simp [qgo] at h
        | cons d x =>
          simp only [qgo] at h
          by_cases h2 : d = 34 ∨ d = 92
          · rw [if_pos h2] at h
            have hpe2 := qgo_ok a x (p + 1 + 1) none _ w e h
            obtain ⟨acc1, i1, i2, i3, i4⟩ := ih x.length (by rw [← hn]; simp; omega) x rfl _ _ w e h
            refine ⟨d :: acc1, by rw [i1]; simp, by rw [List.append_assoc] at i2; exact i2, ?_, fun z hz => ?_⟩
            · rw [show e - p = (e - (p + 1 + 1)) + 1 + 1 from by omega, List.take_succ_cons, List.take_succ_cons, i3, List.flatMap_cons, show esq d = [92, d] from if_pos h2, h1]
              rfl
            · rcases List.mem_cons.1 hz with rfl | hz
              · rcases h2 with rfl | rfl <;> decide
              · exact i4 z hz
          · rw [if_neg h2] at h; cases h
      · rw [if_neg h1] at h
        by_cases h2 : c = 34
        · rw [if_pos h2] at h
          split at h
          · cases h
          · rename_i hlen
            injection h with h
            injection h with h3 h4
            subst h3 h4
            refine ⟨[], by simp, by simp; omega, ?_, fun z hz => by simp at hz⟩
            rw [show p + 1 - p = 1 from by omega, h2]
            rfl
        · rw [if_neg h2] at h
          by_cases h3 : c = 10
          · rw [if_pos h3] at h; cases h
          · rw [if_neg h3] at h
            by_cases h4 : fineB c = false
            · rw [if_pos h4] at h; cases h
            · rw [if_neg h4] at h
              have hpe2 := qgo_ok a x (p + 1) none _ w e h
              obtain ⟨acc1, i1, i2, i3, i4⟩ := ih x.length (by rw [← hn]; simp) x rfl _ _ w e h
              have hne : ¬ (c = 34 ∨ c = 92) := by rintro (h | h) <;> contradiction
              refine ⟨c :: acc1, by rw [i1]; simp, by rw [List.append_assoc] at i2; exact i2, ?_, fun z hz => ?_⟩
              · rw [show e - p = (e - (p + 1)) + 1 from by omega, List.take_succ_cons, i3, List.flatMap_cons, show esq c = [c] from if_neg hne]
                rfl
              · rcases List.mem_cons.1 hz with rfl | hz
                · unfold fineB at h4
                  simpa using h4
                · exact i4 z hz

end Go.Proofs.YtoippgmecnlhcaaGreatDoor.Q

import Derived.Test.YtoippgmecnlhcaaGreatDoorJoin33
import Derived.Test.YtoippgmecnlhcaaGreatDoorJoin31
/- THE BYTES OF A WORD ARE THE ONE TEXT OF ITS TOKEN: numbers, texts. No program. -/
namespace Go.Proofs.YtoippgmecnlhcaaGreatDoor.Q
open Go.Lib (decDigits)

theorem snoc_cases {α : Type} (x : List α) : x = [] ∨ ∃ y c, x = y ++ [c] := by
  rcases List.eq_nil_or_concat x with h | ⟨y, c, h⟩
  · exact .inl h
  · exact .inr ⟨y, c, by simpa using h⟩
theorem of_nat8 (c : UInt8) (h : 48 ≤ c.toNat ∧ c.toNat ≤ 57) : UInt8.ofNat (48 + (c.toNat - 48)) = c := by
  rw [show 48 + (c.toNat - 48) = c.toNat from by omega]
  simp
theorem vl_snoc (y : List UInt8) (c : UInt8) : val (y ++ [c]) = 10 * val y + (c.toNat - 48) := by
  have e : val [c] = c.toNat - 48 := by show 10 * 0 + (c.toNat - 48) = _; omega
  rw [vl_app, e]
  simp
  omega
theorem vl_pos : ∀ (x : List UInt8), dgs x → x ≠ [] → x.head? ≠ some 48 → 0 < val x := by
  intro x
  induction hn : x.length generalizing x with
  | zero => intro _ h; exact absurd (List.eq_nil_of_length_eq_zero hn) h
  | succ n ih =>
    intro hd hne hh
    rcases snoc_cases x with rfl | ⟨y, c, rfl⟩
    · exact absurd rfl hne
    · rw [vl_snoc]
      by_cases hy : y = []
      · subst hy
        have := hd c (by simp)
        have hc : c ≠ 48 := fun e => hh (by simp [e])
        have : c.toNat ≠ 48 := fun e => hc (UInt8.toNat_inj.1 e)
        omega
      · have hyh : y.head? ≠ some 48 := by
          cases y with
          | nil => exact absurd rfl hy
          | cons d y => exact hh
        have := ih y (by simp at hn; omega) (fun d hd' => hd d (by simp [hd'])) hy hyh
        omega
/-- Digits without zeros ahead are the digits of what they say. -/
theorem dd_back : ∀ (x : List UInt8), dgs x → x ≠ [] → ¬ (1 < x.length ∧ x.head? = some 48) → decDigits (val x) = x := by
  intro x
  induction hn : x.length generalizing x with
  | zero => intro _ h; exact absurd (List.eq_nil_of_length_eq_zero hn) h
  | succ n ih =>
    intro hd hne hh
    rcases snoc_cases x with rfl | ⟨y, c, rfl⟩
    · exact absurd rfl hne
    · have hc := hd c (by simp)
      rw [vl_snoc]
      by_cases hy : y = []
      · subst hy
        show decDigits (10 * 0 + (c.toNat - 48)) = [c]
        rw [decDigits, dif_pos (by omega), Nat.mul_zero, Nat.zero_add, of_nat8 c hc]
      · have hy1 : 1 ≤ y.length := by cases y with | nil => exact absurd rfl hy | cons d y => simp
        have hyh : y.head? ≠ some 48 := by
          intro e
          refine hh ⟨by simp at hn; omega, ?_⟩
          cases y with
          | nil => exact absurd rfl hy
          | cons d y => exact e
        have hdy : dgs y := fun d hd' => hd d (by simp [hd'])
        have hp := vl_pos y hdy hy hyh
        have hi := ih y (by simp at hn; omega) hdy hy (fun h => hyh h.2)
        rw [decDigits, dif_neg (by omega), show (10 * val y + (c.toNat - 48)) / 10 = val y from by omega, hi, show (10 * val y + (c.toNat - 48)) % 10 = c.toNat - 48 from by omega, of_nat8 c hc]
/-- Two digits. -/
theorem two_dgs {x : List UInt8} (hd : dgs x) (h2 : x.length = 2) : ∃ a b : UInt8, x = [a, b] ∧ (48 ≤ a.toNat ∧ a.toNat ≤ 57) ∧ (48 ≤ b.toNat ∧ b.toNat ≤ 57) ∧ val x = 10 * (a.toNat - 48) + (b.toNat - 48) := by
  match x, h2 with
  | [a, b], _ =>
    refine ⟨a, b, rfl, hd a (by simp), hd b (by simp), ?_⟩
    show 10 * (10 * 0 + (a.toNat - 48)) + (b.toNat - 48) = _
    omega
theorem vl_lt : ∀ (x : List UInt8), dgs x → val x < 10 ^ x.length := by
  intro x
  induction hn : x.length generalizing x with
  | zero => intro _; rw [List.eq_nil_of_length_eq_zero hn]; decide
  | succ n ih =>
    intro hd
    rcases snoc_cases x with rfl | ⟨y, c, rfl⟩
    · simp at hn
    · have hc := hd c (by simp)
      have := ih y (by simp at hn; omega) (fun d hd' => hd d (by simp [hd']))
      rw [vl_snoc, Nat.pow_succ]
      omega
/-- The digits behind the point, from what they say. -/
theorem dv_back (D : Nat) (hD : 0 < D) : ∀ (l : List UInt8) (r : Nat), r < D → dgs l → l.getLast? ≠ some 48 → val l * D = r * 10 ^ l.length → Dv D r l
  | [], r, hr, _, _, h => by
    show r = 0
    simpa [val] using h.symm
  | c :: l, r, hr, hd, hl, h => by
    have hc := hd c (by simp)
    have hdl : dgs l := fun d hd' => hd d (List.mem_cons_of_mem _ hd')
    have hv : val (c :: l) = (c.toNat - 48) * 10 ^ l.length + val l := by
      have := vl_app [c] l
      have e : val [c] = c.toNat - 48 := by show 10 * 0 + (c.toNat - 48) = _; omega
      rw [e] at this
      exact this
    have hlt := vl_lt l hdl
    rw [hv, List.length_cons, Nat.pow_succ, Nat.add_mul] at h
    have hP : 0 < 10 ^ l.length := Nat.pow_pos (by decide)
    obtain ⟨P, hPe⟩ : ∃ P, 10 ^ l.length = P := ⟨_, rfl⟩
    rw [hPe] at h hlt hP
    obtain ⟨q, hq⟩ : ∃ q, c.toNat - 48 = q := ⟨_, rfl⟩
    rw [hq] at h
    -- 10 r = q D + r', r' < D
    have hlD : val l * D < P * D := Nat.mul_lt_mul_of_pos_right hlt hD
    have h1 : P * (q * D) + val l * D = P * (10 * r) := by
      calc P * (q * D) + val l * D = q * P * D + val l * D := by rw [← Nat.mul_assoc, Nat.mul_comm P q]
        _ = r * (P * 10) := h
        _ = P * (10 * r) := by rw [Nat.mul_comm r, Nat.mul_assoc]
    have hqd : q * D ≤ 10 * r := Nat.le_of_mul_le_mul_left (by omega) hP
    obtain ⟨r', hr'⟩ : ∃ r', 10 * r = q * D + r' := ⟨10 * r - q * D, by omega⟩
    have h2 : val l * D = P * r' := by
      rw [hr', Nat.mul_add] at h1
      omega
    have hr'D : r' < D := by
      rw [h2] at hlD
      exact Nat.lt_of_mul_lt_mul_left hlD
    have hdiv : 10 * r / D = q := by
      rw [hr', Nat.mul_comm, Nat.mul_add_div hD, Nat.div_eq_of_lt hr'D, Nat.add_zero]
    have hmod : 10 * r % D = r' := by
      rw [hr', Nat.mul_comm, Nat.mul_add_mod, Nat.mod_eq_of_lt hr'D]
    refine ⟨?_, ?_, ?_⟩
    · intro h0
      subst h0
      have hq0 : q * D = 0 := by omega
      have hq00 : q = 0 := by
        rcases Nat.eq_zero_or_pos q with h | h
        · exact h
        · have := Nat.mul_pos h hD; omega
      have hr0 : r' = 0 := by omega
      subst hr0
      rw [Nat.mul_zero] at h2
      have hv0 : val l = 0 := by
        rcases Nat.eq_zero_or_pos (val l) with h | h
        · exact h
        · have := Nat.mul_pos h hD; omega
      have hi := dv_back D hD l 0 hD hdl (by
        cases l with
        | nil => simp
        | cons d l => rw [List.getLast?_cons_cons] at hl; exact hl) (by rw [hv0]; simp)
      cases l with
      | nil =>
        refine hl ?_
        simp only [List.getLast?_singleton, Option.some.injEq]
        apply UInt8.toNat_inj.1
        show c.toNat = 48
        omega
      | cons d l => exact absurd rfl hi.1
    · rw [hdiv, ← hq, of_nat8 c hc]
    · rw [hmod]
      refine dv_back D hD l r' hr'D hdl ?_ (by rw [h2, hPe, Nat.mul_comm])
      cases l with
      | nil => simp
      | cons d l => rw [List.getLast?_cons_cons] at hl; exact hl

/-- What a percentage's token says is its text again. -/
theorem pct_back {w l : List UInt8} {a b : Nat} (hw : dgs w) (hw0 : w ≠ []) (hl : dgs l) (h : numTok w l true = some (4, [], a, b)) : 0 < b ∧ a ≤ 1000000000 ∧ b ≤ 1000000000 ∧ decDigits (100 * a / b) = w ∧ Dv b (100 * a % b) l ∧ l.length ≤ 6 := by
  unfold numTok at h
  split at h
  · cases h
  · rename_i hz
    rw [if_pos rfl] at h
    unfold pctTok at h
    split at h
    · cases h
    · rename_i hl6
      split at h
      · rename_i hb
        injection h with h
        injection h with _ h
        injection h with _ h
        injection h with ha hbb
        have hP : 0 < 10 ^ l.length := Nat.pow_pos (by decide)
        have hv : val (w ++ l) = val w * 10 ^ l.length + val l := vl_app w l
        have hvl := vl_lt l hl
        have hlen : l.length ≤ 6 := by omega
        have hlast : l.getLast? ≠ some 48 := fun e => hl6 (.inr e)
        have hlead : ¬ (1 < w.length ∧ w.head? = some 48) := fun e => hz (.inr e)
        have hdd := dd_back w hw hw0 hlead
        rw [ha, hbb] at hb
        obtain ⟨P, hPe⟩ : ∃ P, 10 ^ l.length = P := ⟨_, rfl⟩
        obtain ⟨V, hVe⟩ : ∃ V, val (w ++ l) = V := ⟨_, rfl⟩
        rw [hPe, hVe] at hv ha hbb
        rw [hPe] at hvl hP
        have hg : 0 < V.gcd (100 * P) := Nat.gcd_pos_of_pos_right V (by omega)
        obtain ⟨x, hx⟩ := Nat.gcd_dvd_left V (100 * P)
        obtain ⟨y, hy⟩ := Nat.gcd_dvd_right V (100 * P)
        have hxa : a = x := ha.symm.trans (Nat.div_eq_of_eq_mul_right hg hx)
        have hyb : b = y := hbb.symm.trans (Nat.div_eq_of_eq_mul_right hg hy)
        subst hxa hyb
        have hb0 : 0 < b := by
          rcases Nat.eq_zero_or_pos b with h0 | h0
          · rw [h0, Nat.mul_zero] at hy; omega
          · exact h0
        -- a * 100 P = V * b
        have key : 100 * a * P = V * b := by
          have h2 : V.gcd (100 * P) * (100 * a * P) = V.gcd (100 * P) * (V * b) := by
            calc V.gcd (100 * P) * (100 * a * P) = (V.gcd (100 * P) * a) * (100 * P) := by rw [Nat.mul_comm 100 a, Nat.mul_assoc a, ← Nat.mul_assoc]
              _ = V * (V.gcd (100 * P) * b) := by rw [← hx, ← hy]
              _ = V.gcd (100 * P) * (V * b) := by rw [Nat.mul_left_comm]
          exact Nat.eq_of_mul_eq_mul_left hg h2
        have hq : val w * b ≤ 100 * a := by
          refine Nat.le_of_mul_le_mul_right (c := P) ?_ hP
          rw [key, hv, Nat.add_mul, Nat.mul_right_comm]
          omega
        obtain ⟨r, hr⟩ : ∃ r, 100 * a = val w * b + r := ⟨100 * a - val w * b, by omega⟩
        have hrl : r * P = val l * b := by
          rw [hr, hv, Nat.add_mul, Nat.add_mul, Nat.mul_right_comm] at key
          omega
        have hrb : r < b := by
          have h3 : r * P < b * P := by
            rw [hrl, Nat.mul_comm b P]
            exact Nat.mul_lt_mul_of_pos_right hvl hb0
          exact Nat.lt_of_mul_lt_mul_right h3
        have hdiv : 100 * a / b = val w := by
          rw [hr, Nat.mul_comm, Nat.mul_add_div hb0, Nat.div_eq_of_lt hrb, Nat.add_zero]
        have hmod : 100 * a % b = r := by
          rw [hr, Nat.mul_comm, Nat.mul_add_mod, Nat.mod_eq_of_lt hrb]
        refine ⟨hb0, hb.1, hb.2, by rw [hdiv]; exact hdd, ?_, hlen⟩
        rw [hmod]
        exact dv_back b hb0 l r hrb hl hlast (by rw [hPe]; exact hrl.symm)
      · cases h
/-- What stands between quotes is the text of what is meant. -/
def esq (c : UInt8) : List UInt8 := if c = 34 ∨ c = 92 then [92, c] else [c]
theorem qgo_back (a : Nat) : ∀ (x : List UInt8) (p : Nat) (acc : List UInt8) (w : Wd) (e : Nat), qgo a x p none acc = .ok (w, e) → ∃ acc1, w = (6, acc ++ acc1, 0, 0) ∧ (acc ++ acc1).length ≤ 40 ∧ x.take (e - p) = acc1.flatMap esq ++ [34] ∧ (∀ c ∈ acc1, 32 ≤ c.toNat ∧ c.toNat ≤ 126) := by
  intro x
  induction hn : x.length using Nat.strongRecOn generalizing x with
  | _ n ih =>
    intro p acc w e h
    have hpe := qgo_ok a x p none acc w e h
    cases x with
    | nil => simp [qgo] at h
    | cons c x =>
      have h' := h
      simp only [qgo] at h
      by_cases h1 : c = 92
      · rw [if_pos h1] at h
        cases x with
        | nil => simp [qgo] at h
        | cons d x =>
          simp only [qgo] at h
          by_cases h2 : d = 34 ∨ d = 92
          · rw [if_pos h2] at h
            have hpe2 := qgo_ok a x (p + 1 + 1) none _ w e h
            obtain ⟨acc1, i1, i2, i3, i4⟩ := ih x.length (by rw [← hn]; simp; omega) x rfl _ _ w e h
            refine ⟨d :: acc1, by rw [i1]; simp, by rw [List.append_assoc] at i2; exact i2, ?_, fun z hz => ?_⟩
            · rw [show e - p = (e - (p + 1 + 1)) + 1 + 1 from by omega, List.take_succ_cons, List.take_succ_cons, i3, List.flatMap_cons, show esq d = [92, d] from if_pos h2, h1]
              rfl
            · rcases List.mem_cons.1 hz with rfl | hz
              · rcases h2 with rfl | rfl <;> decide
              · exact i4 z hz
          · rw [if_neg h2] at h; cases h
      · rw [if_neg h1] at h
        by_cases h2 : c = 34
        · rw [if_pos h2] at h
          split at h
          · cases h
          · rename_i hlen
            injection h with h
            injection h with h3 h4
            subst h3 h4
            refine ⟨[], by simp, by simp; omega, ?_, fun z hz => by simp at hz⟩
            rw [show p + 1 - p = 1 from by omega, h2]
            rfl
        · rw [if_neg h2] at h
          by_cases h3 : c = 10
          · rw [if_pos h3] at h; cases h
          · rw [if_neg h3] at h
            by_cases h4 : fineB c = false
            · rw [if_pos h4] at h; cases h
            · rw [if_neg h4] at h
              have hpe2 := qgo_ok a x (p + 1) none _ w e h
              obtain ⟨acc1, i1, i2, i3, i4⟩ := ih x.length (by rw [← hn]; simp) x rfl _ _ w e h
              have hne : ¬ (c = 34 ∨ c = 92) := by rintro (h | h) <;> contradiction
              refine ⟨c :: acc1, by rw [i1]; simp, by rw [List.append_assoc] at i2; exact i2, ?_, fun z hz => ?_⟩
              · rw [show e - p = (e - (p + 1)) + 1 from by omega, List.take_succ_cons, i3, List.flatMap_cons, show esq c = [c] from if_neg hne]
                rfl
              · rcases List.mem_cons.1 hz with rfl | hz
                · unfold fineB at h4
                  simpa using h4
                · exact i4 z hz

end Go.Proofs.YtoippgmecnlhcaaGreatDoor.Q


/- THE TEXT OF EACH TOKEN. No program. -/
namespace Go.Proofs.YtoippgmecnlhcaaGreatDoor.Q
open Go.Lib (decDigits)

/-- What a token is written as; dt: the text of a day. -/
def spl (dt : Nat → List UInt8) (w : Wd) : List UInt8 := if w.1 = 2 then decDigits (w.2.2.1 / 100) ++ 46 :: X.pad (w.2.2.1 % 100) 2 else if w.1 = 3 then decDigits w.2.2.1 else if w.1 = 4 then (X.pctL (100 * w.2.2.1) w.2.2.2).getD [] else if w.1 = 5 then dt w.2.2.1 else if w.1 = 6 then 34 :: (w.2.1.flatMap esq ++ [34]) else w.2.1

theorem rn_take_dgs : ∀ (x : List UInt8), dgs (x.take (rn 32 x))
  | [] => fun c hc => by simp at hc
  | c :: x => by
    rw [rn_cons]
    by_cases h : cls c.toNat &&& 32 ≠ 0
    · rw [if_pos h, Nat.add_comm, List.take_succ_cons]
      intro d hd
      rcases List.mem_cons.1 hd with rfl | hd
      · have : cls d.toNat = 32 := by
          have h2 : ∀ n : Fin 128, n.val &&& 32 ≠ 0 → (n.val = 1 ∨ n.val = 2 ∨ n.val = 4 ∨ n.val = 8 ∨ n.val = 16 ∨ n.val = 32 ∨ n.val = 64 ∨ n.val = 0) → n.val = 32 := by decide
          refine h2 ⟨cls d.toNat, cls_lt d.toNat⟩ h ?_
          unfold cls
          repeat' split
          all_goals simp
        exact (cls_digit32 d.toNat).1 this
      · exact rn_take_dgs x d hd
    · rw [if_neg h]
      intro d hd
      simp at hd
/-- The bytes of a number are its parts. -/
theorem num_text {x : List UInt8} {t : Wd} {e : Nat} (h : numberS x 0 = .ok (t, e)) : dgs (slc x 0 (nE1 x 0)) ∧ dgs (nPart x 0) ∧ x.take e = ntx (slc x 0 (nE1 x 0)) (nPart x 0) (nPc x 0) := by
  obtain ⟨ht, he, hc⟩ := num_parts h
  have h1 : slc x 0 (nE1 x 0) = x.take (rn 32 x) := by unfold slc nE1; simp
  have hE1 : nE1 x 0 = rn 32 x := by unfold nE1; simp
  have hd1 : dgs (slc x 0 (nE1 x 0)) := by rw [h1]; exact rn_take_dgs x
  have hl1 := rn_le 32 x
  cases hpt : nPt x 0 with
  | false =>
    have hp : nPart x 0 = [] := by unfold nPart; rw [if_neg (by rw [hpt]; simp)]
    have hE2 : nE2 x 0 = rn 32 x := by unfold nE2; rw [if_neg (by rw [hpt]; simp), hE1]
    refine ⟨hd1, by rw [hp]; intro c hc; simp at hc, ?_⟩
    rw [hp, h1, ← he]
    unfold ntx nE3
    rw [if_pos rfl, hE2]
    cases hpc : nPc x 0 with
    | false => simp
    | true =>
      rw [if_pos rfl, if_pos rfl, List.nil_append]
      unfold nPc at hpc
      rw [hE2] at hpc
      have h37 : x[rn 32 x]? = some 37 := by simpa using hpc
      rw [List.take_add_one, h37]
      rfl
  | true =>
    have hE2 : nE2 x 0 = rn 32 x + 1 + rn 32 (x.drop (rn 32 x + 1)) := by unfold nE2; rw [if_pos hpt, hE1]
    have hp : nPart x 0 = (x.drop (rn 32 x + 1)).take (rn 32 (x.drop (rn 32 x + 1))) := by
      unfold nPart
      rw [if_pos hpt, hE1, hE2]
      unfold slc
      rw [List.drop_take, show rn 32 x + 1 + rn 32 (x.drop (rn 32 x + 1)) - (rn 32 x + 1) = rn 32 (x.drop (rn 32 x + 1)) from by omega]
    have hpt' := hpt
    unfold nPt at hpt'
    rw [hE1, Bool.and_eq_true] at hpt'
    have h46 : x[rn 32 x]? = some 46 := by simpa using hpt'.1
    have hcl : clsAt x (rn 32 x + 1) = 32 := by simpa using hpt'.2
    have hin : rn 32 x + 1 < x.length := by
      apply Classical.byContradiction
      intro hn
      rw [clsAt_out (by omega)] at hcl
      exact absurd hcl (by decide)
    rw [clsAt_in hin] at hcl
    have hr1 := rn_pos (of := 32) hin (by rw [hcl]; decide)
    have hne : nPart x 0 ≠ [] := by
      intro e0
      have h9 := congrArg List.length e0
      rw [hp, List.length_take, List.length_nil] at h9
      have h10 := rn_le 32 (x.drop (rn 32 x + 1))
      omega
    refine ⟨hd1, by rw [hp]; exact rn_take_dgs _, ?_⟩
    have hE2t : x.take (nE2 x 0) = x.take (rn 32 x) ++ 46 :: nPart x 0 := by
      rw [hE2, List.take_add, List.take_add_one, h46, hp]
      simp
    rw [← he, h1]
    unfold ntx nE3
    rw [if_neg hne]
    cases hpc : nPc x 0 with
    | false =>
      rw [if_neg (by simp), if_neg (by simp), hE2t]
      simp
    | true =>
      rw [if_pos rfl, if_pos rfl]
      unfold nPc at hpc
      have h37 : x[nE2 x 0]? = some 37 := by simpa using hpc
      rw [List.take_add_one, h37, hE2t]
      simp
theorem dv_tl (D : Nat) : ∀ (l : List UInt8) (f r : Nat), Dv D r l → l.length ≤ f → X.tl D f r = some l
  | [], f, r, h, _ => by
    have h0 : r = 0 := h
    subst h0
    cases f <;> rfl
  | c :: l, f, r, h, hf => by
    obtain ⟨h1, h2, h3⟩ := h
    obtain ⟨f, rfl⟩ : ∃ f', f = f' + 1 := ⟨f - 1, by rw [List.length_cons] at hf; omega⟩
    unfold X.tl
    rw [if_neg h1, dv_tl D l f _ h3 (by rw [List.length_cons] at hf; omega), h2]
    rfl
theorem pad_back {x : List UInt8} (hd : dgs x) (h2 : x.length = 2) : X.pad (val x) 2 = x := by
  obtain ⟨a, b, rfl, ha, hb, hv⟩ := two_dgs hd h2
  rw [hv]
  unfold X.pad
  by_cases h0 : a.toNat - 48 = 0
  · rw [h0]
    have ha48 : a = 48 := UInt8.toNat_inj.1 (by show a.toNat = 48; omega)
    rw [Go.Lib.nDigits_small (by omega), Go.Lib.decDigits_one (by omega), show 48 + (10 * 0 + (b.toNat - 48)) = 48 + (b.toNat - 48) from by omega, of_nat8 b hb, ha48]
    rfl
  · have hb1 : ¬ 10 * (a.toNat - 48) + (b.toNat - 48) < 10 := by omega
    rw [Go.Lib.nDigits_big hb1, Go.Lib.nDigits_small (by omega), Go.Lib.decDigits_two hb1 (by omega), show (10 * (a.toNat - 48) + (b.toNat - 48)) / 10 = a.toNat - 48 from by omega, show (10 * (a.toNat - 48) + (b.toNat - 48)) % 10 = b.toNat - 48 from by omega, of_nat8 a ha, of_nat8 b hb]
    rfl
/-- A number's token is written as it stood. -/
theorem num_spl (dt : Nat → List UInt8) {x : List UInt8} {t : Wd} {e : Nat} (hx : clsAt x 0 = 32) (h : numberS x 0 = .ok (t, e)) : spl dt t = x.take e := by
  obtain ⟨d1, d2, htx⟩ := num_text h
  obtain ⟨ht, he, hc⟩ := num_parts h
  have hw0 : slc x 0 (nE1 x 0) ≠ [] := by
    intro e0
    have := congrArg List.length e0
    unfold slc nE1 at this
    rw [List.length_drop, List.length_take] at this
    have hin : 0 < x.length := by
      apply Classical.byContradiction
      intro hn
      rw [clsAt_out (by omega)] at hx
      exact absurd hx (by decide)
    have hr := rn_pos (l := x) (a := 0) (of := 32) hin (by rw [clsAt_in hin] at hx; rw [hx]; decide)
    have hr2 := rn_le 32 (x.drop 0)
    rw [List.length_drop] at hr2
    rw [List.length_nil, Nat.zero_add] at this
    omega
  rw [htx]
  generalize slc x 0 (nE1 x 0) = w at *
  generalize nPart x 0 = l at *
  generalize nPc x 0 = pc at *
  have hlead : ∀ a : Prop, ¬ (a ∨ (1 < w.length ∧ w.head? = some 48)) → ¬ (1 < w.length ∧ w.head? = some 48) := fun a h e => h (.inr e)
  cases pc with
  | true =>
    have ht' := ht
    unfold numTok at ht'
    split at ht'
    · cases ht'
    · rw [if_pos rfl] at ht'
      unfold pctTok at ht'
      split at ht'
      · cases ht'
      · split at ht'
        · injection ht' with ht'
          subst ht'
          obtain ⟨b0, b1, b2, b3, b4, b5⟩ := pct_back d1 hw0 d2 ht
          show (X.pctL _ _).getD [] = _
          unfold X.pctL
          rw [dv_tl _ l 6 _ b4 b5, b3]
          unfold ntx
          rw [if_pos rfl]
          show (w ++ (if l = [] then [] else 46 :: l)) ++ [37] = _
          rw [List.append_assoc]
        · cases ht'
  | false =>
    unfold numTok at ht
    split at ht
    · cases ht
    · rename_i hz
      have hdd := dd_back w d1 hw0 (hlead _ hz)
      rw [if_neg (by simp)] at ht
      by_cases hl : l = []
      · rw [if_pos hl] at ht
        split at ht
        · injection ht with ht
          subst ht hl
          show decDigits (val (w ++ [])) = _
          unfold ntx
          simp
          exact hdd
        · cases ht
      · rw [if_neg hl] at ht
        split at ht
        · rename_i h2
          injection ht with ht
          subst ht
          have hv : val (w ++ l) = val w * 100 + val l := by rw [vl_app, h2.1]
          have hlt := vl_lt l d2
          rw [h2.1] at hlt
          show decDigits (val (w ++ l) / 100) ++ 46 :: X.pad (val (w ++ l) % 100) 2 = _
          rw [hv, show (val w * 100 + val l) / 100 = val w from by omega, show (val w * 100 + val l) % 100 = val l from by omega, hdd, pad_back d2 h2.1]
          unfold ntx
          rw [if_neg hl, if_neg (by simp), List.append_nil]
        · cases ht

theorem cls_34 (k : Nat) (h : cls k = 64) : k = 34 := by
  unfold cls at h
  repeat' split at h
  all_goals omega
theorem word_spl0 (dt : Nat → List UInt8) (hdt : ∀ x, dForm (dX x 0) → (dNum (dX x 0)).2 = 0 → dt (dNum (dX x 0)).1.toNat = x.take 10) {x : List UInt8} {w : Wd} {e : Nat} (h : wordS x 0 = .ok (w, e)) : spl dt w = x.take e := by
  unfold wordS at h
  by_cases h8 : clsAt x 0 = 8
  · rw [if_pos h8] at h
    unfold nameS at h
    split at h
    · cases h
    · injection h with h
      injection h with h1 h2
      subst h1 h2
      show slc x 0 (0 + rn 56 (x.drop 0)) = _
      unfold slc
      simp
  · rw [if_neg h8] at h
    by_cases h32 : clsAt x 0 = 32
    · rw [if_pos h32] at h
      unfold dateS at h
      by_cases hf : dForm (dX x 0)
      · rw [if_pos hf] at h
        split at h
        · rename_i hd
          injection h with h
          injection h with h1 h2
          subst h1 h2
          exact hdt x hf hd.1
        · cases h
      · rw [if_neg hf] at h
        exact num_spl dt h32 h
    · rw [if_neg h32] at h
      by_cases h64 : clsAt x 0 = 64
      · rw [if_pos h64] at h
        unfold quotedS at h
        cases x with
        | nil => exact absurd h64 (by decide)
        | cons c x =>
          have hc : c = 34 := UInt8.toNat_inj.1 (cls_34 c.toNat h64)
          have hpe := qgo_ok _ _ _ _ _ _ _ h
          obtain ⟨acc1, i1, i2, i3, i4⟩ := qgo_back _ _ _ _ _ _ h
          subst i1
          show 34 :: (([] ++ acc1).flatMap esq ++ [34]) = _
          have i3' : x.take (e - 1) = acc1.flatMap esq ++ [34] := i3
          rw [List.nil_append, ← i3', hc, show e = (e - 1) + 1 from by omega, List.take_succ_cons]
          simp
      · rw [if_neg h64] at h
        unfold signS at h
        rw [List.drop_zero] at h
        cases hf : signsL.find? (fun s => s.isPrefixOf x) with
        | none => rw [hf] at h; cases h
        | some s =>
          rw [hf] at h
          injection h with h
          injection h with h1 h2
          subst h1
          have hp : s.isPrefixOf x = true := List.find?_some (p := fun s : List UInt8 => s.isPrefixOf x) hf
          obtain ⟨t, rfl⟩ := List.isPrefixOf_iff_prefix.1 hp
          rw [← h2, Nat.zero_add, List.take_left]
          rfl
theorem word_spl (dt : Nat → List UInt8) (hdt : ∀ x, dForm (dX x 0) → (dNum (dX x 0)).2 = 0 → dt (dNum (dX x 0)).1.toNat = x.take 10) {l : List UInt8} {p : Nat} {w : Wd} {e : Nat} (hp : p ≤ l.length) (h : wordS l p = .ok (w, e)) : spl dt w = slc l p e := by
  rw [word_shift l p hp] at h
  cases hx : wordS (l.drop p) 0 with
  | error q => rw [hx] at h; cases h
  | ok we =>
    obtain ⟨w2, k⟩ := we
    rw [hx] at h
    injection h with h
    injection h with h1 h2
    subst h1 h2
    rw [word_spl0 dt hdt hx]
    unfold slc
    rw [List.drop_take, show p + k - p = k from by omega]

end Go.Proofs.YtoippgmecnlhcaaGreatDoor.Q

import Derived.Test.YtoippgmecnlhcaaGreatDoorTurnWCan
import Derived.Test.YtoippgmecnlhcaaGreatDoorXPer
/- THE TEXT OF EACH TOKEN. No program. -/
namespace Go.Proofs.YtoippgmecnlhcaaGreatDoor.Q
open Go.Lib (decDigits)

/-- What a token is written as; dt: the text of a day. -/
def spl (dt : Nat → List UInt8) (w : Wd) : List UInt8 := if w.1 = 2 then decDigits (w.2.2.1 / 100) ++ 46 :: X.pad (w.2.2.1 % 100) 2 else if w.1 = 3 then decDigits w.2.2.1 else if w.1 = 4 then (X.pctL (100 * w.2.2.1) w.2.2.2).getD [] else if w.1 = 5 then dt w.2.2.1 else if w.1 = 6 then 34 :: (w.2.1.flatMap esq ++ [34]) else w.2.1

theorem rn_take_dgs : ∀ (x : List UInt8), dgs (x.take (rn 32 x))
  | [] => fun c hc => by simp at hc
  | c :: x => by
    rw [rn_cons]
    by_cases h : cls c.toNat &&& 32 ≠ 0
    · rw [if_pos h, Nat.add_comm, List.take_succ_cons]
      intro d hd
      rcases List.mem_cons.1 hd with rfl | hd
      · have : cls d.toNat = 32 := by
          have h2 : ∀ n : Fin 128, n.val &&& 32 ≠ 0 → (n.val = 1 ∨ n.val = 2 ∨ n.val = 4 ∨ n.val = 8 ∨ n.val = 16 ∨ n.val = 32 ∨ n.val = 64 ∨ n.val = 0) → n.val = 32 := by decide
          refine h2 ⟨cls d.toNat, cls_lt d.toNat⟩ h ?_
          unfold cls
          repeat' split
          all_goals simp
        exact (cls_digit32 d.toNat).1 this
      · exact rn_take_dgs x d hd
    · rw [if_neg h]
      intro d hd
      simp at hd
/-- The bytes of a number are its parts. -/
theorem num_text {x : List UInt8} {t : Wd} {e : Nat} (h : numberS x 0 = .ok (t, e)) : dgs (slc x 0 (nE1 x 0)) ∧ dgs (nPart x 0) ∧ x.take e = ntx (slc x 0 (nE1 x 0)) (nPart x 0) (nPc x 0) := by
  obtain ⟨ht, he, hc⟩ := num_parts h
  have h1 : slc x 0 (nE1 x 0) = x.take (rn 32 x) := by unfold slc nE1; simp
  have hE1 : nE1 x 0 = rn 32 x := by unfold nE1; simp
  have hd1 : dgs (slc x 0 (nE1 x 0)) := by rw [h1]; exact rn_take_dgs x
  have hl1 := rn_le 32 x
  cases hpt : nPt x 0 with
  | false =>
    have hp : nPart x 0 = [] := by unfold nPart; rw [if_neg (by rw [hpt]; simp)]
    have hE2 : nE2 x 0 = rn 32 x := by unfold nE2; rw [if_neg (by rw [hpt]; simp), hE1]
    refine ⟨hd1, by rw [hp]; intro c hc; simp at hc, ?_⟩
    rw [hp, h1, ← he]
    unfold ntx nE3
    rw [if_pos rfl, hE2]
    cases hpc : nPc x 0 with
    | false => simp
    | true =>
      rw [if_pos rfl, if_pos rfl, List.nil_append]
      unfold nPc at hpc
      rw [hE2] at hpc
      have h37 : x[rn 32 x]? = some 37 := by simpa using hpc
      rw [List.take_add_one, h37]
      rfl
  | true =>
    have hE2 : nE2 x 0 = rn 32 x + 1 + rn 32 (x.drop (rn 32 x + 1)) := by unfold nE2; rw [if_pos hpt, hE1]
    have hp : nPart x 0 = (x.drop (rn 32 x + 1)).take (rn 32 (x.drop (rn 32 x + 1))) := by
      unfold nPart
      rw [if_pos hpt, hE1, hE2]
      unfold slc
      rw [List.drop_take, show rn 32 x + 1 + rn 32 (x.drop (rn 32 x + 1)) - (rn 32 x + 1) = rn 32 (x.drop (rn 32 x + 1)) from by omega]
    have hpt' := hpt
    unfold nPt at hpt'
    rw [hE1, Bool.and_eq_true] at hpt'
    have h46 : x[rn 32 x]? = some 46 := by simpa using hpt'.1
    have hcl : clsAt x (rn 32 x + 1) = 32 := by simpa using hpt'.2
    have hin : rn 32 x + 1 < x.length := by
      apply Classical.byContradiction
      intro hn
      rw [clsAt_out (by omega)] at hcl
      exact absurd hcl (by decide)
    rw [clsAt_in hin] at hcl
    have hr1 := rn_pos (of := 32) hin (by rw [hcl]; decide)
    have hne : nPart x 0 ≠ [] := by
      intro e0
      have h9 := congrArg List.length e0
      rw [hp, List.length_take, List.length_nil] at h9
      have h10 := rn_le 32 (x.drop (rn 32 x + 1))
      omega
    refine ⟨hd1, by rw [hp]; exact rn_take_dgs _, ?_⟩
    have hE2t : x.take (nE2 x 0) = x.take (rn 32 x) ++ 46 :: nPart x 0 := by
      rw [hE2, List.take_add, List.take_add_one, h46, hp]
      simp
    rw [← he, h1]
    unfold ntx nE3
    rw [if_neg hne]
    cases hpc : nPc x 0 with
    | false =>
      rw [if_neg (by simp), if_neg (by simp), hE2t]
      simp
    | true =>
      rw [if_pos rfl, if_pos rfl]
      unfold nPc at hpc
      have h37 : x[nE2 x 0]? = some 37 := by simpa using hpc
      rw [List.take_add_one, h37, hE2t]
      simp
theorem dv_tl (D : Nat) : ∀ (l : List UInt8) (f r : Nat), Dv D r l → l.length ≤ f → X.tl D f r = some l
  | [], f, r, h, _ => by
    have h0 : r = 0 := h
    subst h0
    cases f <;> rfl
  | c :: l, f, r, h, hf => by
    obtain ⟨h1, h2, h3⟩ := h
    obtain ⟨f, rfl⟩ : ∃ f', f = f' + 1 := ⟨f - 1, by rw [List.length_cons] at hf; omega⟩
    unfold X.tl
    rw [if_neg h1, dv_tl D l f _ h3 (by rw [List.length_cons] at hf; omega), h2]
    rfl
theorem pad_back {x : List UInt8} (hd : dgs x) (h2 : x.length = 2) : X.pad (val x) 2 = x := by
  obtain ⟨a, b, rfl, ha, hb, hv⟩ := two_dgs hd h2
  rw [hv]
  unfold X.pad
  by_cases h0 : a.toNat - 48 = 0
  · rw [h0]
    have ha48 : a = 48 := UInt8.toNat_inj.1 (by show a.toNat = 48; omega)
    rw [Go.Lib.nDigits_small (by omega), Go.Lib.decDigits_one (by omega), show 48 + (10 * 0 + (b.toNat - 48)) = 48 + (b.toNat - 48) from by omega, of_nat8 b hb, ha48]
    rfl
  · have hb1 : ¬ 10 * (a.toNat - 48) + (b.toNat - 48) < 10 := by omega
    rw [Go.Lib.nDigits_big hb1, Go.Lib.nDigits_small (by omega), Go.Lib.decDigits_two hb1 (by omega), show (10 * (a.toNat - 48) + (b.toNat - 48)) / 10 = a.toNat - 48 from by omega, show (10 * (a.toNat - 48) + (b.toNat - 48)) % 10 = b.toNat - 48 from by omega, of_nat8 a ha, of_nat8 b hb]
    rfl
/-- A number's token is written as it stood. -/
theorem num_spl (dt : Nat → List UInt8) {x : List UInt8} {t : Wd} {e : Nat} (hx : clsAt x 0 = 32) (h : numberS x 0 = .ok (t, e)) : spl dt t = x.take e := by
  obtain ⟨d1, d2, htx⟩ := num_text h
  obtain ⟨ht, he, hc⟩ := num_parts h
  have hw0 : slc x 0 (nE1 x 0) ≠ [] := by
    intro e0
    have := congrArg List.length e0
    unfold slc nE1 at this
    rw [List.length_drop, List.length_take] at this
    have hin : 0 < x.length := by
      apply Classical.byContradiction
      intro hn
      rw [clsAt_out (by omega)] at hx
      exact absurd hx (by decide)
    have hr := rn_pos (l := x) (a := 0) (of := 32) hin (by rw [clsAt_in hin] at hx; rw [hx]; decide)
    have hr2 := rn_le 32 (x.drop 0)
    rw [List.length_drop] at hr2
    rw [List.length_nil, Nat.zero_add] at this
    omega
  rw [htx]
  generalize slc x 0 (nE1 x 0) = w at *
  generalize nPart x 0 = l at *
  generalize nPc x 0 = pc at *
  have hlead : ∀ a : Prop, ¬ (a ∨ (1 < w.length ∧ w.head? = some 48)) → ¬ (1 < w.length ∧ w.head? = some 48) := fun a h e => h (.inr e)
  cases pc with
  | true =>
    have ht' := ht
    unfold numTok at ht'
    split at ht'
    · cases ht'
    · rw [if_pos rfl] at ht'
      unfold pctTok at ht'
      split at ht'
      · cases ht'
      · split at ht'
        · injection ht' with ht'
          subst ht'
          obtain ⟨b0, b1, b2, b3, b4, b5⟩ := pct_back d1 hw0 d2 ht
          show (X.pctL _ _).getD [] = _
          unfold X.pctL
          rw [dv_tl _ l 6 _ b4 b5, b3]
          unfold ntx
          rw [if_pos rfl]
          show (w ++ (if l = [] then [] else 46 :: l)) ++ [37] = _
          rw [List.append_assoc]
        · cases ht'
  | false =>
    unfold numTok at ht
    split at ht
    · cases ht
    · rename_i hz
      have hdd := dd_back w d1 hw0 (hlead _ hz)
      rw [if_neg (by simp)] at ht
      by_cases hl : l = []
      · rw [if_pos hl] at ht
        split at ht
        · injection ht with ht
          subst ht hl
          show decDigits (val (w ++ [])) = _
          unfold ntx
          simp
          exact hdd
        · cases ht
      · rw [if_neg hl] at ht
        split at ht
        · rename_i h2
          injection ht with ht
          subst ht
          have hv : val (w ++ l) = val w * 100 + val l := by rw [vl_app, h2.1]
          have hlt := vl_lt l d2
          rw [h2.1] at hlt
          show decDigits (val (w ++ l) / 100) ++ 46 :: X.pad (val (w ++ l) % 100) 2 = _
          rw [hv, show (val w * 100 + val l) / 100 = val w from by omega, show (val w * 100 + val l) % 100 = val l from by omega, hdd, pad_back d2 h2.1]
          unfold ntx
          rw [if_neg hl, if_neg (by simp), List.append_nil]
        · cases ht

theorem cls_34 (k : Nat) (h : cls k = 64) : k = 34 := by
  unfold cls at h
  repeat' split at h
  all_goals omega
theorem word_spl0 (dt : Nat → List UInt8) (hdt : ∀ x, dForm (dX x 0) → (dNum (dX x 0)).2 = 0 → dt (dNum (dX x 0)).1.toNat = x.take 10) {x : List UInt8} {w : Wd} {e : Nat} (h : wordS x 0 = .ok (w, e)) : spl dt w = x.take e := by
  unfold wordS at h
  by_cases h8 : clsAt x 0 = 8
  · rw [if_pos h8] at h
    unfold nameS at h
    split at h
    · cases h
    · injection h with h
      injection h with h1 h2
      subst h1 h2
      show slc x 0 (0 + rn 56 (x.drop 0)) = _
      unfold slc
      simp
  · rw [if_neg h8] at h
    by_cases h32 : clsAt x 0 = 32
    · rw [if_pos h32] at h
      unfold dateS at h
      by_cases hf : dForm (dX x 0)
      · rw [if_pos hf] at h
        split at h
        · rename_i hd
          injection h with h
          injection h with h1 h2
          subst h1 h2
          exact hdt x hf hd.1
        · cases h
      · rw [if_neg hf] at h
        exact num_spl dt h32 h
    · rw [if_neg h32] at h
      by_cases h64 : clsAt x 0 = 64
      · rw [if_pos h64] at h
        unfold quotedS at h
        cases x with
        | nil => exact absurd h64 (by decide)
        | cons c x =>
          have hc : c = 34 := UInt8.toNat_inj.1 (cls_34 c.toNat h64)
          have hpe := qgo_ok _ _ _ _ _ _ _ h
          obtain ⟨acc1, i1, i2, i3, i4⟩ := qgo_back _ _ _ _ _ _ h
          subst i1
          show 34 :: (([] ++ acc1).flatMap esq ++ [34]) = _
          have i3' : x.take (e - 1) = acc1.flatMap esq ++ [34] := i3
          rw [List.nil_append, ← i3', hc, show e = (e - 1) + 1 from by omega, List.take_succ_cons]
          simp
      · rw [if_neg h64] at h
        unfold signS at h
        rw [List.drop_zero] at h
        cases hf : signsL.find? (fun s => s.isPrefixOf x) with
        | none => rw [hf] at h; cases h
        | some s =>
          rw [hf] at h
          injection h with h
          injection h with h1 h2
          subst h1
          have hp : s.isPrefixOf x = true := List.find?_some (p := fun s : List UInt8 => s.isPrefixOf x) hf
          obtain ⟨t, rfl⟩ := List.isPrefixOf_iff_prefix.1 hp
          rw [← h2, Nat.zero_add, List.take_left]
          rfl
theorem word_spl (dt : Nat → List UInt8) (hdt : ∀ x, dForm (dX x 0) → (dNum (dX x 0)).2 = 0 → dt (dNum (dX x 0)).1.toNat = x.take 10) {l : List UInt8} {p : Nat} {w : Wd} {e : Nat} (hp : p ≤ l.length) (h : wordS l p = .ok (w, e)) : spl dt w = slc l p e := by
  rw [word_shift l p hp] at h
  cases hx : wordS (l.drop p) 0 with
  | error q => rw [hx] at h; cases h
  | ok we =>
    obtain ⟨w2, k⟩ := we
    rw [hx] at h
    injection h with h
    injection h with h1 h2
    subst h1 h2
    rw [word_spl0 dt hdt hx]
    unfold slc
    rw [List.drop_take, show p + k - p = k from by omega]

end Go.Proofs.YtoippgmecnlhcaaGreatDoor.Q

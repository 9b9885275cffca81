import Derived.Test.YtoippgmecnlhcaaGreatDoorJoin26
import Derived.Test.YtoippgmecnlhcaaGreatDoorJoin17
import Derived.Test.YtoippgmecnlhcaaGreatDoorJoin4
namespace Go.Proofs.YtoippgmecnlhcaaGreatDoor.Q
open Go.RowKit Go.Shelf

def kn1 : List UInt8 := [116, 97, 120, 32, 61, 32, 55, 46, 50, 53, 37, 32, 42, 32, 112, 97, 121, 32, 45, 32, 49, 50, 46, 48, 48, 32, 35, 32, 110, 101, 116]
def kn2 : List UInt8 := [97, 32, 33]
def knL : List Itm := [((1, [116, 97, 120], 0, 0), 0, 0), ((7, [61], 0, 0), 4, 0), ((4, [], 29, 400), 6, 0), ((7, [42], 0, 0), 12, 0), ((1, [112, 97, 121], 0, 0), 14, 0), ((7, [45], 0, 0), 18, 0), ((2, [], 1200, 0), 20, 0), ((8, [], 0, 0), 31, 0)]
theorem fnd_eq (l : List UInt8) (f p : Nat) (bg : Bool) : foundP l (f + 1) p bg = if clsAt l p &&& 130 = 0 then (match wordS l p with
      | .error (q, n) => [((0, [], 0, 0), q, n)]
      | .ok (w, e) => (w, p, 0) :: foundP l f (nx l e) true)
    else (if bg = true then [((8, [], 0, 0), p, 0)] else []) ++ (if p = l.length then [] else foundP l f (nx l (p + 1)) false) := rfl
theorem fnd_word {l : List UInt8} {f p q : Nat} {bg : Bool} {w : Wd} {e : Nat} (hc : clsAt l p &&& 130 = 0) (hw : wordS l p = .ok (w, e)) (hq : nx l e = q) : foundP l (f + 1) p bg = (w, p, 0) :: foundP l f q true := by
  rw [fnd_eq, if_pos hc, hw, ← hq]
theorem name_is {l : List UInt8} {p k : Nat} (hc : clsAt l p = 8) (hr : rn 56 (l.drop p) = k) (hk : k ≤ 12) : wordS l p = .ok ((1, slc l p (p + k), 0, 0), p + k) := by
  unfold wordS
  rw [if_pos hc]
  unfold nameS
  rw [hr, if_neg (by omega)]
theorem sign_is {l : List UInt8} {p : Nat} {s : List UInt8} (h8 : clsAt l p ≠ 8) (h32 : clsAt l p ≠ 32) (h64 : clsAt l p ≠ 64) (hs : signsL.find? (fun s => s.isPrefixOf (l.drop p)) = some s) : wordS l p = .ok ((7, s, 0, 0), p + s.length) := by
  unfold wordS
  rw [if_neg h8, if_neg h32, if_neg h64]
  unfold signS
  rw [hs]
theorem numb_is {l : List UInt8} {p i : Nat} {t : Wd} {e : Nat} (h32 : clsAt l p = 32) (hi : ∀ h : i < (dX l p).size, ck i (dX l p)[i].toNat = false) (hi10 : i < 10) (hn : numberS l p = .ok (t, e)) : wordS l p = .ok (t, e) := by
  unfold wordS
  rw [if_neg (by rw [h32]; decide), if_pos h32]
  unfold dateS
  rw [if_neg, hn]
  intro h
  have hs := h.1
  have h1 := h.2 i (by omega)
  rw [hi (by omega)] at h1
  cases h1
theorem w6 : wordS kn1 6 = .ok ((4, [], 29, 400), 11) := numb_is (i := 1) (by decide) (by decide) (by decide) (by rfl)
theorem w20 : wordS kn1 20 = .ok ((2, [], 1200, 0), 25) := numb_is (i := 2) (by decide) (by decide) (by decide) (by rfl)
theorem found_kn1 : foundL kn1 = knL := by
  unfold foundL
  rw [if_neg (by decide)]
  show foundP _ 32 (nx kn1 0) false = _
  rw [show nx kn1 0 = 0 from by decide]
  rw [fnd_word (q := 4) (by decide) (name_is (k := 3) (by decide) (by decide) (by decide)) (by decide)]
  rw [fnd_word (q := 6) (by decide) (sign_is (s := [61]) (by decide) (by decide) (by decide) (by decide)) (by decide)]
  rw [fnd_word (q := 12) (by decide) w6 (by decide)]
  rw [fnd_word (q := 14) (by decide) (sign_is (s := [42]) (by decide) (by decide) (by decide) (by decide)) (by decide)]
  rw [fnd_word (q := 18) (by decide) (name_is (k := 3) (by decide) (by decide) (by decide)) (by decide)]
  rw [fnd_word (q := 20) (by decide) (sign_is (s := [45]) (by decide) (by decide) (by decide) (by decide)) (by decide)]
  rw [fnd_word (q := 31) (by decide) w20 (by decide)]
  rw [fnd_eq, if_neg (by decide), if_pos rfl, if_pos (by decide)]
  rfl
theorem found_kn2 : foundL kn2 = [((1, [97], 0, 0), 0, 0), ((0, [], 0, 0), 2, 41)] := by
  unfold foundL
  rw [if_neg (by decide)]
  show foundP _ 4 (nx kn2 0) false = _
  rw [show nx kn2 0 = 0 from by decide]
  rw [fnd_word (q := 2) (by decide) (name_is (k := 1) (by decide) (by decide) (by decide)) (by decide)]
  rw [fnd_eq, if_pos (by decide)]
  have : wordS kn2 2 = .error (2, 41) := by
    unfold wordS
    rw [if_neg (by decide), if_neg (by decide), if_neg (by decide)]
    rfl
  rw [this]
  rfl

theorem lit8 (W : World) : TokRow (W.alloc (.cells #[.int .i64 1, .int .i64 0, .string ⟨#[116, 97, 120]⟩, .int .i64 0, .int .i64 0, .int .i64 7, .int .i64 4, .string ⟨#[61]⟩, .int .i64 0, .int .i64 0, .int .i64 4, .int .i64 6, .string ⟨#[]⟩, .int .i64 29, .int .i64 400, .int .i64 7, .int .i64 12, .string ⟨#[42]⟩, .int .i64 0, .int .i64 0, .int .i64 1, .int .i64 14, .string ⟨#[112, 97, 121]⟩, .int .i64 0, .int .i64 0, .int .i64 7, .int .i64 18, .string ⟨#[45]⟩, .int .i64 0, .int .i64 0, .int .i64 2, .int .i64 20, .string ⟨#[]⟩, .int .i64 1200, .int .i64 0, .int .i64 8, .int .i64 31, .string ⟨#[]⟩, .int .i64 0, .int .i64 0] 60)) (.slice (some ⟨W.heap.size, 0, none⟩) 8 8) knL := by
  refine ⟨_, 8, rfl, .inr ⟨W.heap.size, 0, rfl, by simp, fun j hj => ?_⟩⟩
  have hj8 : j < 8 := hj
  rcases (show j = 0 ∨ j = 1 ∨ j = 2 ∨ j = 3 ∨ j = 4 ∨ j = 5 ∨ j = 6 ∨ j = 7 by omega) with rfl | rfl | rfl | rfl | rfl | rfl | rfl | rfl
  all_goals
    simp only [World.cell?_alloc_new]
    exact ⟨rfl, rfl, rfl, rfl, rfl⟩

theorem scan_kn1 (w : World) (hC : Cls w) (hE : ErrR w) (hM : Mon w) (hS : Sgn w) : Calls Tryz.prog 8 #[.string ⟨#[116, 97, 120, 32, 61, 32, 55, 46, 50, 53, 37, 32, 42, 32, 112, 97, 121, 32, 45, 32, 49, 50, 46, 48, 48, 32, 35, 32, 110, 101, 116]⟩] w fun e w' => Below w.heap.size w w' ∧ ∃ p c, e = .returned (.tuple #[.slice p 8 c, .int .i64 0, .int .i64 0]) ∧ TokRow w' (.slice p 8 c) knL := by
  refine (scan_any _ w hC hE hM hS).mono ?_
  rintro e w' ⟨hb, ⟨pre, x, hL, hx, -⟩ | ⟨-, v, rfl, ho⟩⟩
  · have h1 : knL = pre ++ [x] := found_kn1.symm.trans hL
    have h2 : x ∈ knL := by rw [h1]; simp
    have h3 : ∀ x ∈ knL, x.2.2 = 0 := by decide
    exact absurd (h3 x h2) hx
  · have ho' : w'.ownsRow w.heap.size 60 5 v knL.length (tokLs knL) := by
      have e : foundL (ByteArray.mk #[116, 97, 120, 32, 61, 32, 55, 46, 50, 53, 37, 32, 42, 32, 112, 97, 121, 32, 45, 32, 49, 50, 46, 48, 48, 32, 35, 32, 110, 101, 116]).data.toList = knL := found_kn1
      rw [e] at ho
      exact ho
    obtain ⟨g, c, rfl⟩ := own_lit ho' (by decide)
    exact ⟨hb, _, c, rfl, tokrow_of_own ho'⟩
theorem scan_kn2 (w : World) (hC : Cls w) (hE : ErrR w) (hM : Mon w) (hS : Sgn w) : Calls Tryz.prog 8 #[.string ⟨#[97, 32, 33]⟩] w fun e w' => Below w.heap.size w w' ∧ e = .returned (.tuple #[.slice none 0 0, .int .i64 2, .int .i64 41]) := by
  refine (scan_any _ w hC hE hM hS).mono ?_
  have e : foundL (ByteArray.mk #[97, 32, 33]).data.toList = [((1, [97], 0, 0), 0, 0), ((0, [], 0, 0), 2, 41)] := found_kn2
  rintro e' w' ⟨hb, ⟨pre, x, hL, hx, rfl⟩ | ⟨hall, v, -, ho⟩⟩
  · rw [e] at hL
    obtain ⟨-, h2⟩ := List.append_inj' (s₁ := [((1, [97], 0, 0), 0, 0)]) (t₁ := [((0, [], 0, 0), 2, 41)]) hL rfl
    obtain rfl : ((0, [], 0, 0), 2, 41) = x := by simpa using h2
    exact ⟨hb, rfl⟩
  · have := hall ((0, [], 0, 0), 2, 41) (by rw [e]; simp)
    exact absurd this (by decide)

set_option maxRecDepth 8000 in
set_option maxHeartbeats 2000000 in
theorem known_any (w : World) (hC : Cls w) (hE : ErrR w) (hM : Mon w) (hS : Sgn w) : Calls Tryz.prog 5 #[] w fun e w' => e = .returned (.bool true) ∧ Below w.heap.size w w' := by
  have h1 := scan_kn1 w hC hE hM hS
  have h2 := fun W (hb : Below w.heap.size w W) => scan_kn2 W (hC.later hb) (hE.later hb) (hM.later hb) (hS.later hb)
  have tok1 : True := trivial
  go_enter Tryz.func5, Tryz.ntmps5
  go_wp2_with (first | (go_at_call 8; have _u := tok1; clear tok1; refine h1.mono ?_; rintro e w1 ⟨hb1, p, c, rfl, hr1⟩; have hba := (Below.refl w1.heap.size w1).alloc (Nat.le_refl _) (.cells #[.int .i64 1, .int .i64 0, .string ⟨#[116, 97, 120]⟩, .int .i64 0, .int .i64 0, .int .i64 7, .int .i64 4, .string ⟨#[61]⟩, .int .i64 0, .int .i64 0, .int .i64 4, .int .i64 6, .string ⟨#[]⟩, .int .i64 29, .int .i64 400, .int .i64 7, .int .i64 12, .string ⟨#[42]⟩, .int .i64 0, .int .i64 0, .int .i64 1, .int .i64 14, .string ⟨#[112, 97, 121]⟩, .int .i64 0, .int .i64 0, .int .i64 7, .int .i64 18, .string ⟨#[45]⟩, .int .i64 0, .int .i64 0, .int .i64 2, .int .i64 20, .string ⟨#[]⟩, .int .i64 1200, .int .i64 0, .int .i64 8, .int .i64 31, .string ⟨#[]⟩, .int .i64 0, .int .i64 0] 60); have hB1 := below_step hb1 hba; have hr2 := lit8 w1; have hr1' := hr1.later hba; have h2' := h2 _ hB1) | (go_at_call 8; refine h2'.mono ?_; rintro e w2 ⟨hb2, rfl⟩; have hB2 := below_step hB1 hb2; have hsm := same_toks _ _ knL (by decide) w2 (hr1'.later hb2) (hr2.later hb2)) | (go_at_call 7; refine (num_any _ _).mono ?_; rintro e w9 ⟨rfl, hw9⟩; subst w9) | (go_at_call 9; refine hsm.mono ?_; rintro e w3 ⟨rfl, hb3⟩; have hB3 := below_step hB2 hb3))
  go_ret
  exact ⟨rfl, hB3⟩

end Go.Proofs.YtoippgmecnlhcaaGreatDoor.Q


/- A WORD HANGS ON ITS OWN BYTES, and a little on what follows. No program. -/
namespace Go.Proofs.YtoippgmecnlhcaaGreatDoor.Q

def shR (n : Nat) : Res → Res
  | .ok (w, e) => .ok (w, n + e)
  | .error (q, c) => .error (n + q, c)
theorem cls_drop (l : List UInt8) (p i : Nat) : clsAt l (p + i) = clsAt (l.drop p) i := by
  unfold clsAt
  rw [List.getElem?_drop]
theorem slc_drop (l : List UInt8) (p i j : Nat) : slc l (p + i) (p + j) = slc (l.drop p) i j := by
  unfold slc
  rw [List.drop_take, List.drop_take, List.drop_drop, show p + j - (p + i) = j - i from by omega]
theorem drop_at (l : List UInt8) (p i : Nat) : l.drop (p + i) = (l.drop p).drop i := by rw [List.drop_drop]
theorem qgo_shift (n a : Nat) : ∀ (x : List UInt8) (p : Nat) (eo : Option Nat) (acc : List UInt8), qgo (n + a) x (n + p) (eo.map (n + ·)) acc = shR n (qgo a x p eo acc)
  | [], p, some e, acc => rfl
  | [], p, none, acc => rfl
  | c :: x, p, some e, acc => by
    have ih := qgo_shift n a x (p + 1) none (acc ++ [c])
    simp only [Option.map_some, Option.map_none, qgo] at ih ⊢
    split
    · exact ih
    · rfl
  | c :: x, p, none, acc => by
    have i1 := qgo_shift n a x (p + 1) (some p) acc
    have i2 := qgo_shift n a x (p + 1) none (acc ++ [c])
    simp only [Option.map_some, Option.map_none, qgo] at i1 i2 ⊢
    split
    · exact i1
    · split
      · split
        · rfl
        · rfl
      · split
        · rfl
        · split
          · rfl
          · exact i2
theorem number_shift (l : List UInt8) (p : Nat) : numberS l p = shR p (numberS (l.drop p) 0) := by
  have e1 : nE1 l p = p + nE1 (l.drop p) 0 := by unfold nE1; simp
  have ept : nPt l p = nPt (l.drop p) 0 := by unfold nPt; rw [e1, ← List.getElem?_drop, Nat.add_assoc, cls_drop]
  have e2 : nE2 l p = p + nE2 (l.drop p) 0 := by
    unfold nE2
    rw [ept, e1]
    split
    · rw [show p + nE1 (l.drop p) 0 + 1 = p + (nE1 (l.drop p) 0 + 1) from by omega, drop_at]
      omega
    · rfl
  have epc : nPc l p = nPc (l.drop p) 0 := by unfold nPc; rw [e2, ← List.getElem?_drop]
  have e3 : nE3 l p = p + nE3 (l.drop p) 0 := by
    unfold nE3
    rw [epc, e2]
    split <;> omega
  have epart : nPart l p = nPart (l.drop p) 0 := by
    unfold nPart
    rw [ept, e1, e2, show p + nE1 (l.drop p) 0 + 1 = p + (nE1 (l.drop p) 0 + 1) from by omega, slc_drop]
  have ew : slc l p (nE1 l p) = slc (l.drop p) 0 (nE1 (l.drop p) 0) := by rw [e1]; exact slc_drop l p 0 _
  rw [numberS_eq, numberS_eq, ew, epart, epc, e3]
  cases numTok (slc (l.drop p) 0 (nE1 (l.drop p) 0)) (nPart (l.drop p) 0) (nPc (l.drop p) 0) with
  | none => rfl
  | some t =>
    show (if clsAt l (p + _) &&& 24 ≠ 0 then Except.error (p, 42) else .ok (t, p + _)) = shR p (if _ then _ else _)
    rw [cls_drop]
    split <;> rfl
theorem word_shift (l : List UInt8) (p : Nat) (hp : p ≤ l.length) : wordS l p = shR p (wordS (l.drop p) 0) := by
  unfold wordS
  rw [show clsAt l p = clsAt (l.drop p) 0 from cls_drop l p 0]
  by_cases h8 : clsAt (l.drop p) 0 = 8
  · rw [if_pos h8, if_pos h8]
    unfold nameS
    rw [List.drop_zero, show slc l p (p + rn 56 (l.drop p)) = slc (l.drop p) 0 (0 + rn 56 (l.drop p)) from by rw [Nat.zero_add]; exact slc_drop l p 0 _]
    split
    · rfl
    · simp [shR]
  · rw [if_neg h8, if_neg h8]
    by_cases h32 : clsAt (l.drop p) 0 = 32
    · rw [if_pos h32, if_pos h32]
      have hd : dX l p = dX (l.drop p) 0 := by
        unfold dX
        rw [show min (p + 10) l.length = p + min (0 + 10) (l.drop p).length from by rw [List.length_drop]; omega]
        rw [show slc l p (p + min (0 + 10) (l.drop p).length) = slc (l.drop p) 0 (min (0 + 10) (l.drop p).length) from slc_drop l p 0 _]
      unfold dateS
      rw [hd, cls_drop l p 10, Nat.zero_add]
      by_cases hf : dForm (dX (l.drop p) 0)
      · rw [if_pos hf, if_pos hf]
        split
        · rfl
        · rfl
      · rw [if_neg hf, if_neg hf]
        exact number_shift l p
    · rw [if_neg h32, if_neg h32]
      by_cases h64 : clsAt (l.drop p) 0 = 64
      · rw [if_pos h64, if_pos h64]
        unfold quotedS
        have := qgo_shift p 0 ((l.drop p).drop 1) 1 none []
        rw [drop_at]
        exact this
      · rw [if_neg h64, if_neg h64]
        unfold signS
        rw [List.drop_zero]
        cases signsL.find? (fun s => s.isPrefixOf (l.drop p)) with
        | none => rfl
        | some s => simp [shR]

end Go.Proofs.YtoippgmecnlhcaaGreatDoor.Q

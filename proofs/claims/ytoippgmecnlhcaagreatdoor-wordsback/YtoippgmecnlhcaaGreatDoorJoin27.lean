import Derived.Test.YtoippgmecnlhcaaGreatDoorJoin12
import Derived.Test.YtoippgmecnlhcaaGreatDoorTurnWScan
/- The signs in another order: the first that fits is the same. No program. -/
namespace Go.Proofs.YtoippgmecnlhcaaGreatDoor.Q

def refSigns : List (List UInt8) := [[33, 61], [60, 61], [62, 61], [40], [41], [44], [58], [46], [61], [60], [62], [43], [45], [42], [47]]
theorem pre_one (k c : UInt8) (y : List UInt8) : [k].isPrefixOf (c :: y) = (k == c) := by simp [List.isPrefixOf]
theorem pre_two (k d c : UInt8) (y : List UInt8) : [k, d].isPrefixOf (c :: y) = (k == c && (y.head? == some d)) := by
  cases y with
  | nil => simp [List.isPrefixOf]
  | cons e y =>
    simp [List.isPrefixOf]
    rw [Bool.beq_comm (a := d)]
def sgF (L : List (List UInt8)) (c : UInt8) (b : Bool) : Option (List UInt8) := L.find? (fun s => match s with | [k] => k == c | [k, _] => k == c && b | _ => false)
theorem sg_same : ∀ (n : Fin 256) (b : Bool), sgF signsL (UInt8.ofNat n.val) b = sgF refSigns (UInt8.ofNat n.val) b := by decide +kernel
theorem sg_find (L : List (List UInt8)) (hL : ∀ s ∈ L, (∃ k, s = [k]) ∨ ∃ k, s = [k, 61]) (c : UInt8) (y : List UInt8) : L.find? (fun s => s.isPrefixOf (c :: y)) = sgF L c (y.head? == some 61) := by
  unfold sgF
  induction L with
  | nil => rfl
  | cons s L ih =>
    have ih' := ih (fun t ht => hL t (List.mem_cons_of_mem _ ht))
    rw [List.find?_cons, List.find?_cons]
    rcases hL s (by simp) with ⟨k, rfl⟩ | ⟨k, rfl⟩
    · rw [pre_one, ih']
    · rw [pre_two, ih']
theorem signs_same (x : List UInt8) : refSigns.find? (fun s => s.isPrefixOf x) = signsL.find? (fun s => s.isPrefixOf x) := by
  cases x with
  | nil => rfl
  | cons c y =>
    rw [sg_find refSigns (by intro s hs; simp only [refSigns, List.mem_cons, List.not_mem_nil, or_false] at hs; rcases hs with h | h | h | h | h | h | h | h | h | h | h | h | h | h | h <;> subst h <;> first | exact .inr ⟨_, rfl⟩ | exact .inl ⟨_, rfl⟩), sg_find signsL (by intro s hs; simp only [signsL, List.mem_cons, List.not_mem_nil, or_false] at hs; rcases hs with h | h | h | h | h | h | h | h | h | h | h | h | h | h | h <;> subst h <;> first | exact .inr ⟨_, rfl⟩ | exact .inl ⟨_, rfl⟩)]
    have := sg_same ⟨c.toNat, c.toNat_lt⟩ (y.head? == some 61)
    simp only [UInt8.ofNat_toNat] at this
    exact this.symm

end Go.Proofs.YtoippgmecnlhcaaGreatDoor.Q


/- A WORD HANGS ON ITS OWN BYTES, and a little on what follows. No program. -/
namespace Go.Proofs.YtoippgmecnlhcaaGreatDoor.Q

def shR (n : Nat) : Res → Res
  | .ok (w, e) => .ok (w, n + e)
  | .error (q, c) => .error (n + q, c)
theorem cls_drop (l : List UInt8) (p i : Nat) : clsAt l (p + i) = clsAt (l.drop p) i := by
  unfold clsAt
  rw [List.getElem?_drop]
theorem slc_drop (l : List UInt8) (p i j : Nat) : slc l (p + i) (p + j) = slc (l.drop p) i j := by
  unfold slc
  rw [List.drop_take, List.drop_take, List.drop_drop, show p + j - (p + i) = j - i from by omega]
theorem drop_at (l : List UInt8) (p i : Nat) : l.drop (p + i) = (l.drop p).drop i := by rw [List.drop_drop]
theorem qgo_shift (n a : Nat) : ∀ (x : List UInt8) (p : Nat) (eo : Option Nat) (acc : List UInt8), qgo (n + a) x (n + p) (eo.map (n + ·)) acc = shR n (qgo a x p eo acc)
  | [], p, some e, acc => rfl
  | [], p, none, acc => rfl
  | c :: x, p, some e, acc => by
    have ih := qgo_shift n a x (p + 1) none (acc ++ [c])
    simp only [Option.map_some, Option.map_none, qgo] at ih ⊢
    split
    · exact ih
    · rfl
  | c :: x, p, none, acc => by
    have i1 := qgo_shift n a x (p + 1) (some p) acc
    have i2 := qgo_shift n a x (p + 1) none (acc ++ [c])
    simp only [Option.map_some, Option.map_none, qgo] at i1 i2 ⊢
    split
    · exact i1
    · split
      · split
        · rfl
        · rfl
      · split
        · rfl
        · split
          · rfl
          · exact i2
theorem number_shift (l : List UInt8) (p : Nat) : numberS l p = shR p (numberS (l.drop p) 0) := by
  have e1 : nE1 l p = p + nE1 (l.drop p) 0 := by unfold nE1; simp
  have ept : nPt l p = nPt (l.drop p) 0 := by unfold nPt; rw [e1, ← List.getElem?_drop, Nat.add_assoc, cls_drop]
  have e2 : nE2 l p = p + nE2 (l.drop p) 0 := by
    unfold nE2
    rw [ept, e1]
    split
    · rw [show p + nE1 (l.drop p) 0 + 1 = p + (nE1 (l.drop p) 0 + 1) from by omega, drop_at]
      omega
    · rfl
  have epc : nPc l p = nPc (l.drop p) 0 := by unfold nPc; rw [e2, ← List.getElem?_drop]
  have e3 : nE3 l p = p + nE3 (l.drop p) 0 := by
    unfold nE3
    rw [epc, e2]
    split <;> omega
  have epart : nPart l p = nPart (l.drop p) 0 := by
    unfold nPart
    rw [ept, e1, e2, show p + nE1 (l.drop p) 0 + 1 = p + (nE1 (l.drop p) 0 + 1) from by omega, slc_drop]
  have ew : slc l p (nE1 l p) = slc (l.drop p) 0 (nE1 (l.drop p) 0) := by rw [e1]; exact slc_drop l p 0 _
  rw [numberS_eq, numberS_eq, ew, epart, epc, e3]
  cases numTok (slc (l.drop p) 0 (nE1 (l.drop p) 0)) (nPart (l.drop p) 0) (nPc (l.drop p) 0) with
  | none => rfl
  | some t =>
    show (if clsAt l (p + _) &&& 24 ≠ 0 then Except.error (p, 42) else .ok (t, p + _)) = shR p (if _ then _ else _)
    rw [cls_drop]
    split <;> rfl
theorem word_shift (l : List UInt8) (p : Nat) (hp : p ≤ l.length) : wordS l p = shR p (wordS (l.drop p) 0) := by
  unfold wordS
  rw [show clsAt l p = clsAt (l.drop p) 0 from cls_drop l p 0]
  by_cases h8 : clsAt (l.drop p) 0 = 8
  · rw [if_pos h8, if_pos h8]
    unfold nameS
    rw [List.drop_zero, show slc l p (p + rn 56 (l.drop p)) = slc (l.drop p) 0 (0 + rn 56 (l.drop p)) from by rw [Nat.zero_add]; exact slc_drop l p 0 _]
    split
    · rfl
    · simp [shR]
  · rw [if_neg h8, if_neg h8]
    by_cases h32 : clsAt (l.drop p) 0 = 32
    · rw [if_pos h32, if_pos h32]
      have hd : dX l p = dX (l.drop p) 0 := by
        unfold dX
        rw [show min (p + 10) l.length = p + min (0 + 10) (l.drop p).length from by rw [List.length_drop]; omega]
        rw [show slc l p (p + min (0 + 10) (l.drop p).length) = slc (l.drop p) 0 (min (0 + 10) (l.drop p).length) from slc_drop l p 0 _]
      unfold dateS
      rw [hd, cls_drop l p 10, Nat.zero_add]
      by_cases hf : dForm (dX (l.drop p) 0)
      · rw [if_pos hf, if_pos hf]
        split
        · rfl
        · rfl
      · rw [if_neg hf, if_neg hf]
        exact number_shift l p
    · rw [if_neg h32, if_neg h32]
      by_cases h64 : clsAt (l.drop p) 0 = 64
      · rw [if_pos h64, if_pos h64]
        unfold quotedS
        have := qgo_shift p 0 ((l.drop p).drop 1) 1 none []
        rw [drop_at]
        exact this
      · rw [if_neg h64, if_neg h64]
        unfold signS
        rw [List.drop_zero]
        cases signsL.find? (fun s => s.isPrefixOf (l.drop p)) with
        | none => rfl
        | some s => simp [shR]

end Go.Proofs.YtoippgmecnlhcaaGreatDoor.Q

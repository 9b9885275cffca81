import Derived.Test.YtekapipfaahhcaaGreatDoorWWord
/- WHAT found GIVES, one after the other. No program. -/
namespace Go.Proofs.YtekapipfaahhcaaGreatDoor

/-- A word, its place, its error. -/
abbrev Itm := Wd × (Nat × Nat)
def nx (l : List UInt8) (a : Nat) : Nat := a + skp (l.drop a) false
noncomputable def foundP (l : List UInt8) : Nat → Nat → Bool → List Itm
  | 0, _, _ => []
  | f + 1, p, bg => if clsAt l p &&& 130 = 0 then (match wordS l p with
      | .error (q, n) => [((0, [], 0, 0), q, n)]
      | .ok (w, e) => (w, p, 0) :: foundP l f (nx l e) true)
    else (if bg = true then [((8, [], 0, 0), p, 0)] else []) ++ (if p = l.length then [] else foundP l f (nx l (p + 1)) false)
noncomputable def foundL (l : List UInt8) : List Itm := if 8000 < l.length then [((0, [], 0, 0), 0, 40)] else foundP l (l.length + 1) (nx l 0) false

theorem nx_ge (l : List UInt8) (a : Nat) : a ≤ nx l a := Nat.le_add_right _ _
theorem nx_le {l : List UInt8} {a : Nat} (h : a ≤ l.length) : nx l a ≤ l.length := by
  have := skp_le (l.drop a) false
  rw [List.length_drop] at this
  unfold nx
  omega

theorem qgo_ok (a : Nat) : ∀ (x : List UInt8) (p : Nat) (eo : Option Nat) (acc : List UInt8) (w : Wd) (e : Nat), qgo a x p eo acc = .ok (w, e) → p < e ∧ e ≤ p + x.length
  | [], p, some _, acc, w, e, h => by simp [qgo] at h
  | [], p, none, acc, w, e, h => by simp [qgo] at h
  | c :: x, p, some e0, acc, w, e, h => by
    simp only [qgo] at h
    split at h
    · have := qgo_ok a x (p + 1) none _ w e h
      rw [List.length_cons]
      omega
    · cases h
  | c :: x, p, none, acc, w, e, h => by
    simp only [qgo] at h
    rw [List.length_cons]
    split at h
    · have := qgo_ok a x (p + 1) _ _ w e h
      omega
    · split at h
      · split at h
        · cases h
        · cases h
          omega
      · split at h
        · cases h
        · split at h
          · cases h
          · have := qgo_ok a x (p + 1) _ _ w e h
            omega
theorem qgo_err (a : Nat) : ∀ (x : List UInt8) (p : Nat) (eo : Option Nat) (acc : List UInt8) (q n : Nat), qgo a x p eo acc = .error (q, n) → n = 43 ∨ n = 40
  | [], p, some _, acc, q, n, h => by simp [qgo] at h; omega
  | [], p, none, acc, q, n, h => by simp [qgo] at h; omega
  | c :: x, p, some e0, acc, q, n, h => by
    simp only [qgo] at h
    split at h
    · exact qgo_err a x (p + 1) none _ q n h
    · cases h; exact .inl rfl
  | c :: x, p, none, acc, q, n, h => by
    simp only [qgo] at h
    split at h
    · exact qgo_err a x (p + 1) _ _ q n h
    · split at h
      · split at h
        · cases h; exact .inr rfl
        · cases h
      · split at h
        · cases h; exact .inl rfl
        · split at h
          · cases h; exact .inl rfl
          · exact qgo_err a x (p + 1) _ _ q n h
theorem nE_le {l : List UInt8} {a : Nat} (h : a ≤ l.length) : nE1 l a ≤ nE3 l a ∧ nE3 l a ≤ l.length := by
  have h1 : nE1 l a ≤ l.length := by
    unfold nE1
    have := rn_le 32 (l.drop a)
    rw [List.length_drop] at this
    omega
  have h2 : nE1 l a ≤ nE2 l a ∧ nE2 l a ≤ l.length := by
    unfold nE2
    split
    · rename_i hp
      unfold nPt at hp
      rw [Bool.and_eq_true] at hp
      have h46 : l[nE1 l a]? = some 46 := by simpa using hp.1
      have := (List.getElem?_eq_some_iff.1 h46).1
      have := rn_le 32 (l.drop (nE1 l a + 1))
      rw [List.length_drop] at this
      omega
    · omega
  unfold nE3
  split
  · rename_i hp
    unfold nPc at hp
    have h37 : l[nE2 l a]? = some 37 := by simpa using hp
    have := (List.getElem?_eq_some_iff.1 h37).1
    omega
  · omega
theorem numberS_ok {l : List UInt8} {a : Nat} (h : a < l.length) (hc : clsAt l a = 32) {w : Wd} {e : Nat} (ho : numberS l a = .ok (w, e)) : a < e ∧ e ≤ l.length := by
  rw [clsAt_in h] at hc
  have hp := rn_pos (of := 32) h (by rw [hc]; decide)
  have hn := nE_le (l := l) (a := a) (by omega)
  have he : e = nE3 l a := by
    rw [numberS_eq] at ho
    unfold numEnd at ho
    split at ho
    · cases ho
    · split at ho
      · cases ho
      · cases ho; rfl
  unfold nE1 at hn
  omega
theorem numberS_err {l : List UInt8} {a q n : Nat} (ho : numberS l a = .error (q, n)) : n = 42 := by
  rw [numberS_eq] at ho
  unfold numEnd at ho
  split at ho
  · cases ho; rfl
  · split at ho
    · cases ho; rfl
    · cases ho
theorem wordS_ok {l : List UInt8} {a : Nat} (h : a ≤ l.length) (hc : clsAt l a &&& 130 = 0) {w : Wd} {e : Nat} (ho : wordS l a = .ok (w, e)) : a < e ∧ e ≤ l.length := by
  have hlt : a < l.length := by
    apply Classical.byContradiction
    intro hn
    rw [clsAt_out (by omega)] at hc
    exact absurd hc (by decide)
  unfold wordS at ho
  split at ho
  · rename_i h8
    rw [clsAt_in hlt] at h8
    have hp := rn_pos (of := 56) hlt (by rw [h8]; decide)
    have hle := rn_le 56 (l.drop a)
    rw [List.length_drop] at hle
    unfold nameS at ho
    split at ho
    · cases ho
    · cases ho
      omega
  · split at ho
    · rename_i h32
      unfold dateS at ho
      split at ho
      · rename_i hf
        have hs := hf.1
        have : (dX l a).size = min (a + 10) l.length - a := by
          unfold dX slc
          show (List.toArray _).size = _
          rw [List.size_toArray, List.length_drop, List.length_take]
          omega
        split at ho
        · cases ho
          omega
        · cases ho
      · exact numberS_ok hlt h32 ho
    · split at ho
      · unfold quotedS at ho
        have := qgo_ok _ _ _ _ _ _ _ ho
        rw [List.length_drop] at this
        omega
      · unfold signS at ho
        split at ho
        · rename_i s hs
          cases ho
          have hm := List.mem_of_find?_eq_some hs
          have hp : s.isPrefixOf (l.drop a) = true := List.find?_some (p := fun s : List UInt8 => s.isPrefixOf (l.drop a)) hs
          have hl : 1 ≤ s.length := by
            revert hm
            have : ∀ s ∈ signsL, 1 ≤ s.length := by decide
            exact this s
          have := (List.isPrefixOf_iff_prefix.1 hp).length_le
          rw [List.length_drop] at this
          omega
        · cases ho
theorem wordS_err {l : List UInt8} {a q n : Nat} (ho : wordS l a = .error (q, n)) : n ≠ 0 ∧ n < 100 := by
  unfold wordS at ho
  split at ho
  · unfold nameS at ho
    split at ho
    · cases ho; omega
    · cases ho
  · split at ho
    · unfold dateS at ho
      split at ho
      · split at ho
        · cases ho
        · cases ho; omega
      · have := numberS_err ho; omega
    · split at ho
      · have := qgo_err _ _ _ _ _ _ _ ho; omega
      · unfold signS at ho
        split at ho
        · cases ho
        · cases ho; omega

/-- An error comes last. -/
theorem foundP_last (l : List UInt8) : ∀ (f p : Nat) (bg : Bool) (pre : List Itm) (x : Itm), x.2.2 ≠ 0 → pre ++ [x] <+: foundP l f p bg → pre ++ [x] = foundP l f p bg
  | 0, p, bg, pre, x, _, h => by
    simp [foundP] at h
  | f + 1, p, bg, pre, x, hx, h => by
    unfold foundP at h ⊢
    by_cases hc : clsAt l p &&& 130 = 0
    · rw [if_pos hc] at h ⊢
      cases hw : wordS l p with
      | error qn =>
        obtain ⟨q, n⟩ := qn
        rw [hw] at h
        have := h.length_le
        exact List.IsPrefix.eq_of_length h (by simp at this ⊢; omega)
      | ok we =>
        obtain ⟨w, e⟩ := we
        rw [hw] at h
        cases pre with
        | nil =>
          simp only [List.nil_append] at h
          have := (List.cons_prefix_cons.1 h).1
          rw [this] at hx
          exact absurd rfl hx
        | cons y pre =>
          simp only [List.cons_append] at h ⊢
          obtain ⟨h1, h2⟩ := List.cons_prefix_cons.1 h
          rw [h1, foundP_last l f _ _ pre x hx h2]
    · rw [if_neg hc] at h ⊢
      have rest : ∀ pre, pre ++ [x] <+: (if p = l.length then [] else foundP l f (nx l (p + 1)) false) → pre ++ [x] = (if p = l.length then [] else foundP l f (nx l (p + 1)) false) := fun pre h => by
        split at h
        · simp at h
        · rename_i hp
          rw [if_neg hp]
          exact foundP_last l f _ _ pre x hx h
      cases bg with
      | false =>
        simp only [Bool.false_eq_true, if_false, List.nil_append] at h ⊢
        exact rest pre h
      | true =>
        simp only [if_true, List.cons_append, List.nil_append] at h ⊢
        cases pre with
        | nil =>
          simp only [List.nil_append] at h
          have := (List.cons_prefix_cons.1 h).1
          rw [this] at hx
          exact absurd rfl hx
        | cons y pre =>
          simp only [List.cons_append] at h ⊢
          obtain ⟨h1, h2⟩ := List.cons_prefix_cons.1 h
          rw [h1, rest pre h2]
theorem foundL_last (l : List UInt8) (pre : List Itm) (x : Itm) (hx : x.2.2 ≠ 0) (h : pre ++ [x] <+: foundL l) : pre ++ [x] = foundL l := by
  unfold foundL at h ⊢
  split at h
  · rename_i hl
    rw [if_pos hl]
    have := h.length_le
    exact List.IsPrefix.eq_of_length h (by simp at this ⊢; omega)
  · rename_i hl
    rw [if_neg hl]
    exact foundP_last l _ _ _ pre x hx h

end Go.Proofs.YtekapipfaahhcaaGreatDoor

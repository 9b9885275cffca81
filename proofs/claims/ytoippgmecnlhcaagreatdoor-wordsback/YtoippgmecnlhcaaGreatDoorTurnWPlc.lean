import Derived.Test.YtoippgmecnlhcaaGreatDoorTurnWLoc3
import Derived.Test.YtoippgmecnlhcaaGreatDoorTurnWKnown
/- THE PLACES OF WORDS, and each word alone. No program. -/
namespace Go.Proofs.YtoippgmecnlhcaaGreatDoor.Q

theorem skp_stop : ∀ (x : List UInt8) (rm : Bool), clsAt x (skp x rm) ≠ 1 ∧ clsAt x (skp x rm) ≠ 4
  | [], rm => by
    show clsAt [] 0 ≠ 1 ∧ clsAt [] 0 ≠ 4
    decide
  | c :: x, rm => by
    have hs : ∀ k, clsAt (c :: x) (1 + k) = clsAt x k := fun k => by unfold clsAt; rw [Nat.add_comm, List.getElem?_cons_succ]
    have h0 : clsAt (c :: x) 0 = cls c.toNat := rfl
    rw [skp_cons]
    by_cases h4 : cls c.toNat = 4
    · rw [if_pos h4, hs]; exact skp_stop x true
    · rw [if_neg h4]
      by_cases h2 : cls c.toNat = 2
      · rw [if_pos h2, h0, h2]; decide
      · rw [if_neg h2]
        by_cases h1 : cls c.toNat ≠ 1 ∧ rm = false
        · rw [if_pos h1, h0]; exact ⟨h1.1, h4⟩
        · rw [if_neg h1, hs]; exact skp_stop x rm
theorem nx_stops (l : List UInt8) (a : Nat) : clsAt l (nx l a) ≠ 1 ∧ clsAt l (nx l a) ≠ 4 := by
  unfold nx
  rw [cls_drop]
  exact skp_stop _ _
theorem skp_take : ∀ (x : List UInt8) (rm : Bool), skp (x.take (skp x rm)) rm = skp x rm
  | [], rm => rfl
  | c :: x, rm => by
    rw [skp_cons]
    by_cases h4 : cls c.toNat = 4
    · rw [if_pos h4, Nat.add_comm, List.take_succ_cons, skp_cons, if_pos h4, skp_take x true, Nat.add_comm]
    · rw [if_neg h4]
      by_cases h2 : cls c.toNat = 2
      · rw [if_pos h2]; rfl
      · rw [if_neg h2]
        by_cases h1 : cls c.toNat ≠ 1 ∧ rm = false
        · rw [if_pos h1]; rfl
        · rw [if_neg h1, Nat.add_comm, List.take_succ_cons, skp_cons, if_neg h4, if_neg h2, if_neg h1, skp_take x rm, Nat.add_comm]
theorem skp_head {c : UInt8} {x : List UInt8} (h : skp (c :: x) false ≠ 0) : cls c.toNat = 1 ∨ cls c.toNat = 4 := by
  rw [skp_cons] at h
  by_cases h4 : cls c.toNat = 4
  · exact .inr h4
  · rw [if_neg h4] at h
    by_cases h2 : cls c.toNat = 2
    · rw [if_pos h2] at h; exact absurd rfl h
    · rw [if_neg h2] at h
      by_cases h1 : cls c.toNat = 1
      · exact .inl h1
      · rw [if_pos ⟨h1, rfl⟩] at h; exact absurd rfl h
theorem num_kind {a b : List UInt8} {pc : Bool} {t : Wd} (h : numTok a b pc = some t) : t.1 ≠ 8 := by
  unfold numTok at h
  split at h
  · cases h
  · split at h
    · unfold pctTok at h
      split at h
      · cases h
      · split at h
        · cases h; simp
        · cases h
    · split at h
      · split at h
        · cases h; simp
        · cases h
      · split at h
        · cases h; simp
        · cases h
theorem numS_kind {l : List UInt8} {a : Nat} {w : Wd} {e : Nat} (h : numberS l a = .ok (w, e)) : w.1 ≠ 8 := by
  rw [numberS_eq] at h
  cases hn : numTok (slc l a (nE1 l a)) (nPart l a) (nPc l a) with
  | none => rw [hn] at h; cases h
  | some t' =>
    rw [hn] at h
    change (if clsAt l (nE3 l a) &&& 24 ≠ 0 then Except.error (a, 42) else Except.ok (t', nE3 l a)) = _ at h
    split at h
    · cases h
    · injection h with h
      injection h with h1 h2
      subst h1
      exact num_kind hn
theorem qgo_kind (a : Nat) : ∀ (x : List UInt8) (p : Nat) (eo : Option Nat) (acc : List UInt8) (w : Wd) (e : Nat), qgo a x p eo acc = .ok (w, e) → w.1 ≠ 8
  | [], p, some _, acc, w, e, h => by simp [qgo] at h
  | [], p, none, acc, w, e, h => by simp [qgo] at h
  | c :: x, p, some e0, acc, w, e, h => by
    simp only [qgo] at h
    split at h
    · exact qgo_kind a x _ _ _ w e h
    · cases h
  | c :: x, p, none, acc, w, e, h => by
    simp only [qgo] at h
    split at h
    · exact qgo_kind a x _ _ _ w e h
    · split at h
      · split at h
        · cases h
        · cases h; simp
      · split at h
        · cases h
        · split at h
          · cases h
          · exact qgo_kind a x _ _ _ w e h
theorem word_kind {l : List UInt8} {a : Nat} {w : Wd} {e : Nat} (h : wordS l a = .ok (w, e)) : w.1 ≠ 8 := by
  unfold wordS at h
  split at h
  · unfold nameS at h
    split at h
    · cases h
    · cases h; simp
  · split at h
    · unfold dateS at h
      split at h
      · split at h
        · cases h; simp
        · cases h
      · exact numS_kind h
    · split at h
      · unfold quotedS at h
        exact qgo_kind _ _ _ _ _ _ _ h
      · unfold signS at h
        split at h
        · cases h; simp
        · cases h

/-- A word alone, from its place to where the next one begins. -/
theorem piece_one {l : List UInt8} {p : Nat} {w : Wd} {e : Nat} (hl : l.length ≤ 4000) (hp : p ≤ l.length) (hc : clsAt l p &&& 130 = 0) (hs : clsAt l p ≠ 1 ∧ clsAt l p ≠ 4) (h : wordS l p = .ok (w, e)) : foundL (slc l p (nx l e)) = [(w, 0, 0), ((8, [], 0, 0), nx l e - p, 0)] := by
  obtain ⟨h1, h2⟩ := wordS_ok hp hc h
  have g1 := nx_ge l e
  have g2 := nx_le (l := l) (a := e) h2
  obtain ⟨q, hq⟩ : ∃ q, nx l e = q := ⟨_, rfl⟩
  rw [hq] at g1 g2 ⊢
  have hk : q = e + skp (l.drop e) false := hq.symm
  obtain ⟨P, hP⟩ : ∃ P, slc l p q = P := ⟨_, rfl⟩
  have hPe : P = (l.drop p).take (e - p) ++ (l.drop e).take (skp (l.drop e) false) := by
    rw [← hP]
    unfold slc
    rw [List.drop_take, show q - p = (e - p) + skp (l.drop e) false from by omega, List.take_add, List.drop_drop, show p + (e - p) = e from by omega]
  have hPl : P.length = q - p := by
    rw [← hP]
    unfold slc
    rw [List.length_drop, List.length_take]
    omega
  rw [hP]
  have hu : ((l.drop p).take (e - p)).length = e - p := by rw [List.length_take, List.length_drop]; omega
  have hF : Fol (l.drop e) ((l.drop e).take (skp (l.drop e) false)) := by
    refine fol_stop ?_
    cases hx : l.drop e with
    | nil => exact .inl (by simp)
    | cons c x =>
      by_cases h0 : skp (c :: x) false = 0
      · exact .inl (by rw [h0]; rfl)
      · obtain ⟨k, hk'⟩ : ∃ k, skp (c :: x) false = k + 1 := ⟨skp (c :: x) false - 1, by omega⟩
        refine .inr ⟨c, x.take k, by rw [hk', List.take_succ_cons], ?_⟩
        rcases skp_head h0 with h | h
        · exact .inl h
        · exact .inr (.inr h)
  have hw : wordS P 0 = .ok (w, e - p) := by
    have := word_at (l' := P) (p' := 0) hp hc h (by rw [List.drop_zero]; exact hPe) (Nat.zero_le _) hF
    rw [this]
    congr 2
    omega
  have hc0 : clsAt P 0 = clsAt l p := by
    have hl0 : clsAt P 0 = clsAt ((l.drop p).take (e - p) ++ (l.drop e)) 0 := by rw [hPe]; exact cls_u _ _ (by omega)
    rw [hl0, show l.drop e = (l.drop p).drop (e - p) from by rw [List.drop_drop]; congr 1; omega, List.take_append_drop, ← cls_drop]
    rfl
  have hnx0 : nx P 0 = 0 := by
    have hP0 : 0 < P.length := by omega
    have hcl := clsAt_in hP0
    rw [hc0] at hcl
    unfold nx
    rw [List.drop_zero]
    cases hx : P with
    | nil => rfl
    | cons c x =>
      have hcc : cls c.toNat = clsAt l p := by
        rw [← hc0, hx]
        rfl
      rw [skp_cons, if_neg (by rw [hcc]; exact hs.2)]
      split
      · rfl
      · rw [if_pos ⟨by rw [hcc]; exact hs.1, rfl⟩]
  have hnxe : nx P (e - p) = P.length := by
    unfold nx
    rw [hPe, List.drop_left' hu, skp_take, List.length_append, hu, List.length_take, List.length_drop]
    have := skp_le (l.drop e) false
    rw [List.length_drop] at this
    omega
  unfold foundL
  rw [if_neg (by omega), hnx0, fnd_word (by rw [hc0]; exact hc) hw hnxe]
  obtain ⟨n, hn⟩ : ∃ n, P.length = n + 1 := ⟨P.length - 1, by omega⟩
  rw [show P.length = n + 1 from hn, fnd_eq, clsAt_out (by omega), if_neg (by decide), if_pos rfl, if_pos hn.symm, ← hn, hPl]
  rfl

def Pc (l : List UInt8) (x y : Itm) : Prop := x.2.1 < y.2.1 ∧ foundL (slc l x.2.1 y.2.1) = [(x.1, 0, 0), ((8, [], 0, 0), y.2.1 - x.2.1, 0)]
/-- What follows the place lo; bg: a line is open. -/
def Ch (l : List UInt8) : Nat → Bool → List Itm → Prop
  | _, bg, [] => bg = false
  | lo, bg, x :: L => x.2.1 ≤ l.length ∧ lo ≤ x.2.1 ∧ ((x.1.1 = 8 ∧ bg = true ∧ Ch l (x.2.1 + 1) false L) ∨ (x.1.1 ≠ 8 ∧ (∃ y L', L = y :: L' ∧ Pc l x y) ∧ Ch l (x.2.1 + 1) true L))
theorem Ch.low {l : List UInt8} {lo lo' : Nat} {bg : Bool} {L : List Itm} (h : Ch l lo bg L) (hl : lo' ≤ lo) : Ch l lo' bg L := by
  cases L with
  | nil => exact h
  | cons x L => exact ⟨h.1, Nat.le_trans hl h.2.1, h.2.2⟩
theorem found_ch (l : List UInt8) (hl : l.length ≤ 4000) : ∀ (f p : Nat) (bg : Bool), l.length + 1 ≤ f + p → p ≤ l.length → (clsAt l p ≠ 1 ∧ clsAt l p ≠ 4) → (∀ x ∈ foundP l f p bg, x.2.2 = 0) → Ch l p bg (foundP l f p bg)
  | 0, p, bg, h1, h2, _, _ => by omega
  | f + 1, p, bg, h1, h2, hs, hall => by
    rw [fnd_eq] at hall ⊢
    by_cases hc : clsAt l p &&& 130 = 0
    · rw [if_pos hc] at hall ⊢
      cases hw : wordS l p with
      | error qe =>
        obtain ⟨q, c⟩ := qe
        rw [hw] at hall
        exact absurd (hall ((0, [], 0, 0), q, c) (by simp)) (wordS_err hw).1
      | ok we =>
        obtain ⟨w, e⟩ := we
        rw [hw] at hall
        obtain ⟨k1, k2⟩ := wordS_ok h2 hc hw
        have g1 := nx_ge l e
        have g2 := nx_le (l := l) (a := e) k2
        have hall2 : ∀ x ∈ foundP l f (nx l e) true, x.2.2 = 0 := fun x hx => hall x (List.mem_cons_of_mem _ hx)
        have ih := found_ch l hl f (nx l e) true (by omega) g2 (nx_stops l e) hall2
        refine ⟨h2, Nat.le_refl _, .inr ⟨word_kind hw, ?_, ih.low (by show p + 1 ≤ _; omega)⟩⟩
        have hpc := piece_one hl h2 hc hs hw
        obtain ⟨f, rfl⟩ : ∃ f', f = f' + 1 := ⟨f - 1, by omega⟩
        rw [fnd_eq] at hall2 ⊢
        by_cases hc2 : clsAt l (nx l e) &&& 130 = 0
        · rw [if_pos hc2] at hall2 ⊢
          cases hw2 : wordS l (nx l e) with
          | error qe =>
            obtain ⟨q, c⟩ := qe
            rw [hw2] at hall2
            exact absurd (hall2 ((0, [], 0, 0), q, c) (by simp)) (wordS_err hw2).1
          | ok we2 =>
            obtain ⟨w2, e2⟩ := we2
            exact ⟨_, _, rfl, show p < nx l e from by omega, hpc⟩
        · rw [if_neg hc2, if_pos rfl]
          exact ⟨_, _, rfl, show p < nx l e from by omega, hpc⟩
    · rw [if_neg hc] at hall ⊢
      have hrest : Ch l (p + 1) false (if p = l.length then [] else foundP l f (nx l (p + 1)) false) := by
        by_cases he : p = l.length
        · rw [if_pos he]
          rfl
        · rw [if_neg he] at hall ⊢
          have g1 := nx_ge l (p + 1)
          have g2 := nx_le (l := l) (a := p + 1) (by omega)
          exact (found_ch l hl f (nx l (p + 1)) false (by omega) g2 (nx_stops l _) (fun x hx => hall x (List.mem_append_right _ hx))).low g1
      cases bg with
      | false =>
        rw [if_neg (by simp), List.nil_append]
        exact hrest.low (Nat.le_succ _)
      | true =>
        rw [if_pos rfl]
        exact ⟨h2, Nat.le_refl _, .inl ⟨rfl, rfl, hrest⟩⟩
/-- All that is asked of the places. -/
structure Plc (l : List UInt8) (L : List Itm) : Prop where
  le : ∀ i (h : i < L.length), L[i].2.1 ≤ l.length
  up : ∀ i (h : i + 1 < L.length), L[i].2.1 < L[i + 1].2.1
  fst : ∀ h : 0 < L.length, L[0].1.1 ≠ 8
  two : ∀ i (h : i + 1 < L.length), L[i + 1].1.1 = 8 → L[i].1.1 ≠ 8
  pc : ∀ i (h : i < L.length), L[i].1.1 ≠ 8 → ∃ h2 : i + 1 < L.length, Pc l L[i] L[i + 1]
theorem ch_plc (l : List UInt8) : ∀ (L : List Itm) (lo : Nat) (bg : Bool), Ch l lo bg L → (∀ i (h : i < L.length), L[i].2.1 ≤ l.length) ∧ (∀ h : 0 < L.length, lo ≤ L[0].2.1) ∧ (∀ i (h : i + 1 < L.length), L[i].2.1 < L[i + 1].2.1) ∧ (∀ h : 0 < L.length, L[0].1.1 = 8 → bg = true) ∧ (∀ i (h : i + 1 < L.length), L[i + 1].1.1 = 8 → L[i].1.1 ≠ 8) ∧ (∀ i (h : i < L.length), L[i].1.1 ≠ 8 → ∃ h2 : i + 1 < L.length, Pc l L[i] L[i + 1])
  | [], lo, bg, h => ⟨fun i h => by simp at h, fun h => by simp at h, fun i h => by simp at h, fun h => by simp at h, fun i h => by simp at h, fun i h => by simp at h⟩
  | x :: L, lo, bg, h => by
    obtain ⟨h1, h2, h3⟩ := h
    obtain ⟨bg', hch, hk, hx8, hpc⟩ : ∃ bg', Ch l (x.2.1 + 1) bg' L ∧ (x.1.1 = 8 → bg = true) ∧ (bg' = true → x.1.1 ≠ 8) ∧ (x.1.1 ≠ 8 → ∃ y L', L = y :: L' ∧ Pc l x y) := by
      rcases h3 with ⟨a, b, c⟩ | ⟨a, b, c⟩
      · exact ⟨false, c, fun _ => b, fun e => (by cases e), fun e => absurd a e⟩
      · exact ⟨true, c, fun e => absurd e a, fun _ => a, fun _ => b⟩
    obtain ⟨i1, i2, i3, i4, i5, i6⟩ := ch_plc l L (x.2.1 + 1) bg' hch
    refine ⟨fun i hi => ?_, fun _ => h2, fun i hi => ?_, fun _ e => hk e, fun i hi e => ?_, fun i hi e => ?_⟩
    · cases i with
      | zero => exact h1
      | succ i => exact i1 i (by simpa using hi)
    · cases i with
      | zero =>
        have h0 : 0 < L.length := by simpa using hi
        have := i2 h0
        show x.2.1 < (L[0]'h0).2.1
        omega
      | succ i => exact i3 i (by simpa using hi)
    · cases i with
      | zero => exact hx8 (i4 (by simpa using hi) e)
      | succ i => exact i5 i (by simpa using hi) e
    · cases i with
      | zero =>
        obtain ⟨y, L', rfl, hy⟩ := hpc e
        exact ⟨by simp, hy⟩
      | succ i =>
        obtain ⟨a, b⟩ := i6 i (by simpa using hi) e
        exact ⟨by simpa using a, b⟩
theorem found_plc (l : List UInt8) (hl : l.length ≤ 4000) (hall : ∀ x ∈ foundL l, x.2.2 = 0) : Plc l (foundL l) := by
  unfold foundL at hall ⊢
  rw [if_neg (by omega)] at hall ⊢
  have g1 := nx_ge l 0
  have g2 := nx_le (l := l) (a := 0) (by omega)
  obtain ⟨i1, i2, i3, i4, i5, i6⟩ := ch_plc l _ _ _ (found_ch l hl _ _ _ (by omega) g2 (nx_stops l 0) hall)
  exact ⟨i1, i3, fun h e => (by have := i4 h e; cases this), i5, i6⟩

end Go.Proofs.YtoippgmecnlhcaaGreatDoor.Q

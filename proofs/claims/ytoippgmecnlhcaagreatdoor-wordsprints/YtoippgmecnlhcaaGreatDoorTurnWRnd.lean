import Derived.Test.YtoippgmecnlhcaaGreatDoorJoin29
/- WORDS WRITTEN WITH BLANKS BETWEEN THEM ARE THESE WORDS AGAIN. No program. -/
namespace Go.Proofs.YtoippgmecnlhcaaGreatDoor.Q

/-- The text of words; fresh: a line begins. -/
def prt (sp : Wd → List UInt8) : Bool → List Wd → List UInt8
  | _, [] => []
  | fr, w :: L => if w.1 = 8 then 10 :: prt sp true L else (if fr = true then [] else [32]) ++ (sp w ++ prt sp false L)
/-- The text of the word is the word. -/
def Gw (sp : Wd → List UInt8) (w : Wd) : Prop := w.1 ≠ 8 ∧ 0 < (sp w).length ∧ ∃ v, wordS (sp w ++ v) 0 = .ok (w, (sp w).length)
def Vl (sp : Wd → List UInt8) : Bool → List Wd → Prop
  | bg, [] => bg = false
  | bg, w :: L => (w = (8, [], 0, 0) ∧ bg = true ∧ Vl sp false L) ∨ (Gw sp w ∧ Vl sp true L)
theorem sg_cls : ∀ s ∈ signsL, ∃ c y, s = c :: y ∧ cls c.toNat = 0 := by
  intro s hs
  simp only [signsL, List.mem_cons, List.not_mem_nil, or_false] at hs
  rcases hs with h | h | h | h | h | h | h | h | h | h | h | h | h | h | h <;> subst h <;> exact ⟨_, _, rfl, by decide⟩
theorem word_cls {x : List UInt8} {w : Wd} {e : Nat} (h : wordS x 0 = .ok (w, e)) : clsAt x 0 = 8 ∨ clsAt x 0 = 32 ∨ clsAt x 0 = 64 ∨ clsAt x 0 = 0 := by
  unfold wordS at h
  split at h
  · exact .inl ‹_›
  · split at h
    · exact .inr (.inl ‹_›)
    · split at h
      · exact .inr (.inr (.inl ‹_›))
      · unfold signS at h
        rw [List.drop_zero] at h
        cases hf : signsL.find? (fun s => s.isPrefixOf x) with
        | none => rw [hf] at h; cases h
        | some s =>
          have hp : s.isPrefixOf x = true := List.find?_some (p := fun s : List UInt8 => s.isPrefixOf x) hf
          obtain ⟨c, y, rfl, hc⟩ := sg_cls s (List.mem_of_find?_eq_some hf)
          obtain ⟨t, rfl⟩ := List.isPrefixOf_iff_prefix.1 hp
          exact .inr (.inr (.inr hc))
theorem prt_stop (sp : Wd → List UInt8) (L : List Wd) : prt sp false L = [] ∨ ∃ c y, prt sp false L = c :: y ∧ (cls c.toNat = 1 ∨ cls c.toNat = 2 ∨ cls c.toNat = 4) := by
  cases L with
  | nil => exact .inl rfl
  | cons w L =>
    right
    by_cases h8 : w.1 = 8
    · exact ⟨10, prt sp true L, by show (if w.1 = 8 then _ else _) = _; rw [if_pos h8], .inr (.inl (by decide))⟩
    · exact ⟨32, sp w ++ prt sp false L, by show (if w.1 = 8 then _ else _) = _; rw [if_neg h8]; rfl, .inl (by decide)⟩
/-- What is scanned of such a text. -/
theorem prt_found (sp : Wd → List UInt8) (T : List UInt8) : ∀ (L : List Wd) (f p : Nat) (bg : Bool), Vl sp bg L → T.length + 1 ≤ f + nx T p → p ≤ T.length → T.drop p = prt sp (!bg) L → (foundP T f (nx T p) bg).map (·.1) = L ∧ ∀ x ∈ foundP T f (nx T p) bg, x.2.2 = 0
  | [], f, p, bg, hv, hf, hp, hd => by
    have hb : bg = false := hv
    subst hb
    have hpl : p = T.length := by
      have := congrArg List.length hd
      rw [List.length_drop] at this
      simp [prt] at this
      omega
    subst hpl
    have hnx : nx T T.length = T.length := by unfold nx; rw [List.drop_length]; rfl
    rw [hnx] at hf ⊢
    obtain ⟨f, rfl⟩ : ∃ f', f = f' + 1 := ⟨f - 1, by omega⟩
    rw [fnd_eq, clsAt_out (Nat.le_refl _), if_neg (by decide), if_neg (by simp), if_pos rfl]
    simp
  | w :: L, f, p, bg, hv, hf, hp, hd => by
    have g2 := nx_le (l := T) (a := p) hp
    rcases hv with ⟨rfl, rfl, hv⟩ | ⟨⟨h8, hsl, v, hw⟩, hv⟩
    · have hd' : T.drop p = 10 :: prt sp true L := hd
      have hpl : p < T.length := by
        have := congrArg List.length hd'
        rw [List.length_drop, List.length_cons] at this
        omega
      have hcl : clsAt T p = 2 := by
        have := cls_drop T p 0
        rw [Nat.add_zero, hd'] at this
        rw [this]
        show cls (10 : UInt8).toNat = 2
        decide
      have hnx : nx T p = p := by
        unfold nx
        rw [hd', skp_cons, if_neg (by decide), if_pos (by decide)]
        rfl
      rw [hnx] at hf ⊢
      obtain ⟨f, rfl⟩ : ∃ f', f = f' + 1 := ⟨f - 1, by omega⟩
      have hd2 : T.drop (p + 1) = prt sp true L := by rw [← List.drop_drop, hd']; rfl
      have g3 := nx_ge T (p + 1)
      obtain ⟨i1, i2⟩ := prt_found sp T L f (p + 1) false hv (by omega) (by omega) hd2
      rw [fnd_eq, hcl, if_neg (by decide), if_pos rfl, if_neg (by omega)]
      refine ⟨by rw [List.map_append, i1]; rfl, fun x hx => ?_⟩
      rcases List.mem_append.1 hx with hx | hx
      · obtain rfl := List.mem_singleton.1 hx; rfl
      · exact i2 x hx
    · have hd' : T.drop p = (if (!bg) = true then [] else [32]) ++ (sp w ++ prt sp false L) := by rw [hd]; show (if w.1 = 8 then _ else _) = _; rw [if_neg h8]
      obtain ⟨q, hq⟩ : ∃ q, p + (if (!bg) = true then 0 else 1) = q := ⟨_, rfl⟩
      have hdq : T.drop q = sp w ++ prt sp false L := by
        rw [← hq, ← List.drop_drop, hd']
        cases bg <;> rfl
      have hwx := word_cut (fol_stop (prt_stop sp L)) hsl hw
      have hcw := word_cls hwx
      have hql : q + (sp w).length ≤ T.length := by
        have h1 := congrArg List.length hdq
        rw [List.length_drop, List.length_append] at h1
        omega
      have hclq : clsAt T q = clsAt (sp w ++ prt sp false L) 0 := by
        have := cls_drop T q 0
        rw [Nat.add_zero, hdq] at this
        exact this
      have hskip : ∀ x y : List UInt8, x = sp w ++ y → skp x false = 0 := fun x y hx => by
        cases x with
        | nil => rfl
        | cons c x =>
          have hcc : cls c.toNat = clsAt (sp w ++ prt sp false L) 0 := by
            rw [cls_u (prt sp false L) y hsl, ← hx]
            rfl
          rw [← hcc] at hcw
          rw [skp_cons, if_neg (by omega), if_neg (by omega), if_pos ⟨by omega, rfl⟩]
      have hnx : nx T p = q := by
        unfold nx
        rw [hd', ← hq]
        cases bg with
        | false =>
          show p + skp (sp w ++ prt sp false L) false = p + 0
          rw [hskip _ _ rfl]
        | true =>
          show p + skp (32 :: (sp w ++ prt sp false L)) false = p + 1
          rw [skp_cons, if_neg (by decide), if_neg (by decide), if_neg (by decide), hskip _ _ rfl]
      rw [hnx] at hf ⊢
      obtain ⟨f, rfl⟩ : ∃ f', f = f' + 1 := ⟨f - 1, by omega⟩
      have hwT : wordS T q = .ok (w, q + (sp w).length) := by
        rw [word_shift T q (by omega), hdq, hwx]
        rfl
      have hd2 : T.drop (q + (sp w).length) = prt sp false L := by rw [← List.drop_drop, hdq, List.drop_left]
      have g3 := nx_ge T (q + (sp w).length)
      obtain ⟨i1, i2⟩ := prt_found sp T L f (q + (sp w).length) true hv (by omega) hql hd2
      rw [fnd_eq, hclq, if_pos (by rcases hcw with h | h | h | h <;> rw [h] <;> decide), hwT]
      refine ⟨by show w :: _ = _; rw [i1], fun x hx => ?_⟩
      rcases List.mem_cons.1 hx with rfl | hx
      · rfl
      · exact i2 x hx
/-- The words of a scanned text, and how long they are when written. -/
theorem scan_vl (sp : Wd → List UInt8) (l : List UInt8) (hsp : ∀ p w e, p ≤ l.length → clsAt l p &&& 130 = 0 → wordS l p = .ok (w, e) → sp w = slc l p e) : ∀ (f p : Nat) (bg : Bool), l.length + 1 ≤ f + p → p ≤ l.length → (∀ x ∈ foundP l f p bg, x.2.2 = 0) → Vl sp bg ((foundP l f p bg).map (·.1)) ∧ (prt sp (!bg) ((foundP l f p bg).map (·.1))).length ≤ 2 * (l.length - p) + (if bg = true then 1 else 0)
  | 0, p, bg, h1, h2, _ => by omega
  | f + 1, p, bg, h1, h2, hall => by
    rw [fnd_eq] at hall ⊢
    by_cases hc : clsAt l p &&& 130 = 0
    · rw [if_pos hc] at hall ⊢
      cases hw : wordS l p with
      | error qe =>
        obtain ⟨q, c⟩ := qe
        rw [hw] at hall
        exact absurd (hall ((0, [], 0, 0), q, c) (by simp)) (wordS_err hw).1
      | ok we =>
        obtain ⟨w, e⟩ := we
        rw [hw] at hall
        obtain ⟨k1, k2⟩ := wordS_ok h2 hc hw
        have g1 := nx_ge l e
        have g2 := nx_le (l := l) (a := e) k2
        obtain ⟨i1, i2⟩ := scan_vl sp l hsp f (nx l e) true (by omega) g2 (fun x hx => hall x (List.mem_cons_of_mem _ hx))
        have hs := hsp p w e h2 hc hw
        have hsl : (sp w).length = e - p := by
          rw [hs]
          unfold slc
          rw [List.length_drop, List.length_take]
          omega
        have h8 := word_kind hw
        refine ⟨.inr ⟨⟨h8, (by show 0 < (sp w).length; omega), l.drop e, ?_⟩, i1⟩, ?_⟩
        · have hdr : sp w ++ l.drop e = l.drop p := by
            rw [hs]
            unfold slc
            rw [List.drop_take, show l.drop e = (l.drop p).drop (e - p) from by rw [List.drop_drop]; congr 1; omega, List.take_append_drop]
          rw [hdr, hsl]
          have := word_shift l p h2
          rw [hw] at this
          cases hx : wordS (l.drop p) 0 with
          | error q => rw [hx] at this; cases this
          | ok we2 =>
            obtain ⟨w2, e2⟩ := we2
            rw [hx] at this
            injection this with this
            injection this with h3 h4
            subst h3
            congr 2
            omega
        · show (if w.1 = 8 then _ else _ : List UInt8).length ≤ _
          rw [if_neg h8, List.length_append, List.length_append, hsl]
          have i2' : (prt sp false ((foundP l f (nx l e) true).map (·.1))).length ≤ 2 * (l.length - nx l e) + 1 := i2
          cases bg with
          | true =>
            simp only [Bool.not_true, Bool.false_eq_true, if_false, if_true, List.length_singleton]
            omega
          | false =>
            simp only [Bool.not_false, if_true, List.length_nil, Bool.false_eq_true, if_false]
            omega
    · rw [if_neg hc] at hall ⊢
      have hrest : Vl sp false ((if p = l.length then [] else foundP l f (nx l (p + 1)) false).map (·.1)) ∧ (prt sp true ((if p = l.length then [] else foundP l f (nx l (p + 1)) false).map (·.1))).length ≤ 2 * (l.length - (p + 1)) := by
        by_cases he : p = l.length
        · rw [if_pos he]
          exact ⟨rfl, Nat.zero_le _⟩
        · rw [if_neg he] at hall ⊢
          have g1 := nx_ge l (p + 1)
          have g2 := nx_le (l := l) (a := p + 1) (by omega)
          obtain ⟨i1, i2⟩ := scan_vl sp l hsp f (nx l (p + 1)) false (by omega) g2 (fun x hx => hall x (List.mem_append_right _ hx))
          refine ⟨i1, ?_⟩
          have i2' : (prt sp true ((foundP l f (nx l (p + 1)) false).map (·.1))).length ≤ 2 * (l.length - nx l (p + 1)) + 0 := i2
          omega
      cases bg with
      | false =>
        rw [if_neg (by simp), List.nil_append]
        exact ⟨hrest.1, by have := hrest.2; show (prt sp true _).length ≤ _; simp only [Bool.false_eq_true, if_false]; omega⟩
      | true =>
        rw [if_pos rfl]
        obtain ⟨R, hR⟩ : ∃ R : List Itm, (if p = l.length then [] else foundP l f (nx l (p + 1)) false) = R := ⟨_, rfl⟩
        rw [hR] at hrest ⊢
        refine ⟨.inl ⟨rfl, rfl, hrest.1⟩, ?_⟩
        show (10 :: prt sp true (R.map (·.1))).length ≤ 2 * (l.length - p) + 1
        rw [List.length_cons]
        have := hrest.2
        omega

end Go.Proofs.YtoippgmecnlhcaaGreatDoor.Q

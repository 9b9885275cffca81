import Derived.Test.YtoippgmecnlhcaaGreatDoorTurnWLoc2
import Derived.Test.YtoippgmecnlhcaaGreatDoorJoin27
namespace Go.Proofs.YtoippgmecnlhcaaGreatDoor.Q

theorem fol_stop {v v' : List UInt8} (h : v' = [] ∨ ∃ c y, v' = c :: y ∧ (cls c.toNat = 1 ∨ cls c.toNat = 2 ∨ cls c.toNat = 4)) : Fol v v' := by
  have hcl : clsAt v' 0 = 128 ∨ clsAt v' 0 = 1 ∨ clsAt v' 0 = 2 ∨ clsAt v' 0 = 4 := by
    rcases h with rfl | ⟨c, y, rfl, h⟩
    · exact .inl rfl
    · exact .inr h
  have hno : ∀ d : UInt8, cls d.toNat = 0 → v'[0]? ≠ some d := fun d hd e => by
    have : clsAt v' 0 = cls d.toNat := by unfold clsAt; rw [e]
    rw [hd] at this
    omega
  have hm : ∀ m, 128 &&& m = 0 → 1 &&& m = 0 → 2 &&& m = 0 → 4 &&& m = 0 → clsAt v' 0 &&& m = 0 := fun m a b c d => by
    rcases hcl with h | h | h | h <;> rw [h] <;> assumption
  exact ⟨fun _ => hm 56 (by decide) (by decide) (by decide) (by decide), fun _ => hm 24 (by decide) (by decide) (by decide) (by decide), fun _ => hm 32 (by decide) (by decide) (by decide) (by decide), fun _ => hno 37 (by decide), fun _ h => hno 46 (by decide) h.1, fun _ => hno 61 (by decide), fun u _ _ h => absurd h (hno 45 (by decide))⟩
theorem fol_nl (v y : List UInt8) : Fol v (v ++ 10 :: y) := by
  cases v with
  | nil => exact fol_stop (.inr ⟨10, y, rfl, .inr (.inl (by decide))⟩)
  | cons c x =>
    have hc : clsAt (c :: x ++ 10 :: y) 0 = clsAt (c :: x) 0 := rfl
    have hg : (c :: x ++ 10 :: y)[0]? = (c :: x)[0]? := rfl
    refine ⟨fun h => hc ▸ h, fun h => hc ▸ h, fun h => hc ▸ h, fun h => hg ▸ h, fun h h2 => ?_, fun h => hg ▸ h, fun u hu hf _ => ?_⟩
    · cases x with
      | nil =>
        have : clsAt ([c] ++ 10 :: y) 1 = 2 := by show cls (10 : UInt8).toNat = 2; decide
        rw [this] at h2
        exact absurd h2.2 (by decide)
      | cons d x => exact h h2
    · by_cases hl : 10 ≤ (u ++ (c :: x)).length
      · rw [← List.append_assoc] at hf
        have := dX_u (u := u ++ (c :: x)) (10 :: y) [] hl
        rw [List.append_nil] at this
        rw [← this]
        exact hf
      · rw [← List.append_assoc] at hf
        obtain ⟨d, hd, hk⟩ := dForm_at hf (i := (u ++ (c :: x)).length) (by omega)
        have : ((u ++ (c :: x)) ++ 10 :: y)[(u ++ (c :: x)).length]? = (10 :: y)[0]? := get_v _ _ 0
        rw [this] at hd
        simp only [List.getElem?_cons_zero, Option.some.injEq] at hd
        subst hd
        unfold ck at hk
        split at hk <;> simp at hk

theorem word_at {a l' : List UInt8} {p p' : Nat} {w : Wd} {e : Nat} (hp : p ≤ a.length) (hc : clsAt a p &&& 130 = 0) (h : wordS a p = .ok (w, e)) {v' : List UInt8} (hl : l'.drop p' = (a.drop p).take (e - p) ++ v') (hp' : p' ≤ l'.length) (hF : Fol (a.drop e) v') : wordS l' p' = .ok (w, p' + (e - p)) := by
  obtain ⟨h1, h2⟩ := wordS_ok hp hc h
  rw [word_shift a p hp] at h
  cases hx : wordS (a.drop p) 0 with
  | error q => rw [hx] at h; cases h
  | ok we =>
    obtain ⟨w2, k⟩ := we
    rw [hx] at h
    injection h with h
    injection h with h3 h4
    subst h3
    have hk : e - p = k := by omega
    rw [hk] at hl ⊢
    have hu : ((a.drop p).take k).length = k := by rw [List.length_take, List.length_drop]; omega
    have hsplit : a.drop p = (a.drop p).take k ++ a.drop e := by
      rw [← h4, ← List.drop_drop]
      exact (List.take_append_drop k (a.drop p)).symm
    rw [hsplit] at hx
    have hcut := word_cut (u := (a.drop p).take k) (v := a.drop e) hF (by omega) (by rw [hx, hu])
    rw [word_shift l' p' hp', hl, hcut, hu]
    rfl

theorem skp_nl : ∀ (x y : List UInt8) (rm : Bool), skp (x ++ 10 :: y) rm = skp x rm
  | [], y, rm => by
    show skp (10 :: y) rm = 0
    rw [skp_cons, if_neg (by decide), if_pos (by decide)]
  | c :: x, y, rm => by
    rw [List.cons_append, skp_cons, skp_cons, skp_nl x y true, skp_nl x y rm]
theorem nx_join {a b : List UInt8} {p : Nat} (h : p ≤ a.length) : nx (a ++ 10 :: b) p = nx a p := by
  unfold nx
  rw [List.drop_append_of_le_length h, skp_nl]
theorem nx_shift (l : List UInt8) (n q : Nat) : nx l (n + q) = n + nx (l.drop n) q := by
  unfold nx
  rw [List.drop_drop]
  omega
def shI (n : Nat) (x : Itm) : Itm := (x.1, n + x.2.1, x.2.2)
theorem shR_shR (n q : Nat) (R : Res) : shR (n + q) R = shR n (shR q R) := by
  rcases R with ⟨p, c⟩ | ⟨w, e⟩
  · simp [shR, Nat.add_assoc]
  · simp [shR, Nat.add_assoc]
theorem found_eq (l : List UInt8) (f p : Nat) (bg : Bool) : foundP l (f + 1) p bg = if clsAt l p &&& 130 = 0 then (match wordS l p with
      | .error (q, n) => [((0, [], 0, 0), q, n)]
      | .ok (w, e) => (w, p, 0) :: foundP l f (nx l e) true)
    else (if bg = true then [((8, [], 0, 0), p, 0)] else []) ++ (if p = l.length then [] else foundP l f (nx l (p + 1)) false) := rfl
theorem found_shift (l b : List UInt8) (n : Nat) (hn : n ≤ l.length) (hb : l.drop n = b) : ∀ (f F q : Nat) (bg : Bool), b.length + 1 ≤ f + q → l.length + 1 ≤ F + (n + q) → q ≤ b.length → foundP l F (n + q) bg = (foundP b f q bg).map (shI n)
  | 0, F, q, bg, h1, _, h3 => by omega
  | f + 1, F, q, bg, h1, h2, h3 => by
    have hll : l.length = n + b.length := by rw [← hb, List.length_drop]; omega
    obtain ⟨F, rfl⟩ : ∃ F', F = F' + 1 := ⟨F - 1, by omega⟩
    have hcl : clsAt l (n + q) = clsAt b q := by rw [cls_drop, hb]
    have hw : wordS l (n + q) = shR n (wordS b q) := by
      rw [word_shift l (n + q) (by omega), word_shift b q h3, shR_shR, ← List.drop_drop, hb]
    have hnx : ∀ e, nx l (n + e) = n + nx b e := fun e => by rw [nx_shift, hb]
    rw [found_eq l F, found_eq b f, hcl, hw]
    by_cases hc : clsAt b q &&& 130 = 0
    · rw [if_pos hc, if_pos hc]
      cases hx : wordS b q with
      | error qe =>
        obtain ⟨q', c⟩ := qe
        rfl
      | ok we =>
        obtain ⟨w, e⟩ := we
        obtain ⟨k1, k2⟩ := wordS_ok h3 hc hx
        have g1 := nx_ge b e
        have g2 := nx_le (l := b) (a := e) k2
        show (w, n + q, 0) :: foundP l F (nx l (n + e)) true = _
        rw [hnx, found_shift l b n hn hb f F (nx b e) true (by omega) (by omega) g2]
        rfl
    · rw [if_neg hc, if_neg hc, List.map_append]
      congr 1
      · split <;> rfl
      · by_cases he : q = b.length
        · rw [if_pos (by omega), if_pos he]
          rfl
        · have g1 := nx_ge b (q + 1)
          have g2 := nx_le (l := b) (a := q + 1) (by omega)
          rw [if_neg (by omega), if_neg he, Nat.add_assoc, hnx, found_shift l b n hn hb f F (nx b (q + 1)) false (by omega) (by omega) g2]
theorem found_pre (a b : List UInt8) : ∀ (f F p : Nat) (bg : Bool), a.length + 1 ≤ f + p → (a ++ 10 :: b).length + 1 ≤ F + p → p ≤ a.length → (∀ x ∈ foundP a f p bg, x.2.2 = 0) → ∃ F', (a ++ 10 :: b).length + 1 ≤ F' + (a.length + 1) ∧ foundP (a ++ 10 :: b) F p bg = foundP a f p bg ++ foundP (a ++ 10 :: b) F' (nx (a ++ 10 :: b) (a.length + 1)) false
  | 0, F, p, bg, h1, _, h3, _ => by omega
  | f + 1, F, p, bg, h1, h2, h3, hall => by
    have hll : (a ++ 10 :: b).length = a.length + 1 + b.length := by rw [List.length_append, List.length_cons]; omega
    obtain ⟨F, rfl⟩ : ∃ F', F = F' + 1 := ⟨F - 1, by omega⟩
    rw [found_eq] at hall
    by_cases hpa : p < a.length
    · have hcl : clsAt (a ++ 10 :: b) p = clsAt a p := by
        have := cls_u (u := a) (10 :: b) [] hpa
        rwa [List.append_nil] at this
      by_cases hc : clsAt a p &&& 130 = 0
      · rw [if_pos hc] at hall
        cases hx : wordS a p with
        | error qe =>
          obtain ⟨q', c⟩ := qe
          rw [hx] at hall
          have := hall ((0, [], 0, 0), q', c) (by simp)
          exact absurd this (wordS_err hx).1
        | ok we =>
          obtain ⟨w, e⟩ := we
          rw [hx] at hall
          obtain ⟨k1, k2⟩ := wordS_ok h3 hc hx
          have g1 := nx_ge a e
          have g2 := nx_le (l := a) (a := e) k2
          have hw : wordS (a ++ 10 :: b) p = .ok (w, e) := by
            have := word_at (l' := a ++ 10 :: b) (p' := p) (v' := a.drop e ++ 10 :: b) h3 hc hx (by
              rw [List.drop_append_of_le_length h3, ← List.append_assoc]
              congr 1
              rw [show a.drop e = (a.drop p).drop (e - p) from by rw [List.drop_drop]; congr 1; omega, List.take_append_drop]) (by omega) (fol_nl _ _)
            rw [this]
            congr 2
            omega
          obtain ⟨F', i1, i2⟩ := found_pre a b f F (nx a e) true (by omega) (by omega) g2 (fun x hx => hall x (by simp [hx]))
          refine ⟨F', i1, ?_⟩
          rw [found_eq _ F p, found_eq a f p, hcl, hw, hx, if_pos hc, if_pos hc]
          show (w, p, 0) :: foundP (a ++ 10 :: b) F (nx (a ++ 10 :: b) e) true = ((w, p, 0) :: foundP a f (nx a e) true) ++ _
          rw [nx_join k2, i2]
          rfl
      · rw [if_neg hc, if_neg (show ¬ p = a.length by omega)] at hall
        have g1 := nx_ge a (p + 1)
        have g2 := nx_le (l := a) (a := p + 1) (by omega)
        obtain ⟨F', i1, i2⟩ := found_pre a b f F (nx a (p + 1)) false (by omega) (by omega) g2 (fun x hx => hall x (by simp [hx]))
        refine ⟨F', i1, ?_⟩
        rw [found_eq _ F p, found_eq a f p, hcl, if_neg hc, if_neg hc, if_neg (show ¬ p = (a ++ 10 :: b).length by omega), if_neg (show ¬ p = a.length by omega), nx_join (show p + 1 ≤ a.length by omega), i2, List.append_assoc]
    · obtain rfl : p = a.length := by omega
      have hcl : clsAt (a ++ 10 :: b) a.length = 2 := by
        have := cls_v a (10 :: b) 0
        rw [Nat.add_zero] at this
        rw [this]
        show cls (10 : UInt8).toNat = 2
        decide
      refine ⟨F, by omega, ?_⟩
      rw [found_eq _ F a.length, found_eq a f a.length, hcl, clsAt_out (Nat.le_refl _), if_neg (show ¬ 2 &&& 130 = 0 by decide), if_neg (show ¬ 128 &&& 130 = 0 by decide), if_neg (show ¬ a.length = (a ++ 10 :: b).length by omega), if_pos rfl, List.append_nil]
theorem found_join (a b : List UInt8) (hl : a.length + b.length ≤ 7999) (hall : ∀ x ∈ foundL a, x.2.2 = 0) : foundL (a ++ 10 :: b) = foundL a ++ (foundL b).map (shI (a.length + 1)) := by
  have hll : (a ++ 10 :: b).length = a.length + 1 + b.length := by rw [List.length_append, List.length_cons]; omega
  unfold foundL at hall ⊢
  rw [if_neg (by omega)] at hall
  rw [if_neg (by omega), if_neg (by omega), if_neg (by omega)]
  have g1 := nx_ge a 0
  have g2 := nx_le (l := a) (a := 0) (by omega)
  have g3 := nx_ge b 0
  have g4 := nx_le (l := b) (a := 0) (by omega)
  have hd : (a ++ 10 :: b).drop (a.length + 1) = b := by
    rw [List.drop_append]
    simp
  obtain ⟨F', i1, i2⟩ := found_pre a b (a.length + 1) ((a ++ 10 :: b).length + 1) (nx a 0) false (by omega) (by omega) g2 hall
  rw [nx_join (Nat.zero_le _), i2]
  congr 1
  have hn := nx_shift (a ++ 10 :: b) (a.length + 1) 0
  rw [Nat.add_zero, hd] at hn
  rw [hn]
  exact found_shift (a ++ 10 :: b) b (a.length + 1) (by omega) hd (b.length + 1) F' (nx b 0) false (by omega) (by omega) g4

end Go.Proofs.YtoippgmecnlhcaaGreatDoor.Q


/- THE PLACES OF WORDS, and each word alone. No program. -/
namespace Go.Proofs.YtoippgmecnlhcaaGreatDoor.Q

theorem skp_stop : ∀ (x : List UInt8) (rm : Bool), clsAt x (skp x rm) ≠ 1 ∧ clsAt x (skp x rm) ≠ 4
  | [], rm => by
    show clsAt [] 0 ≠ 1 ∧ clsAt [] 0 ≠ 4
    decide
  | c :: x, rm => by
    have hs : ∀ k, clsAt (c :: x) (1 + k) = clsAt x k := fun k => by unfold clsAt; rw [Nat.add_comm, List.getElem?_cons_succ]
    have h0 : clsAt (c :: x) 0 = cls c.toNat := rfl
    rw [skp_cons]
    by_cases h4 : cls c.toNat = 4
    · rw [if_pos h4, hs]; exact skp_stop x true
    · rw [if_neg h4]
      by_cases h2 : cls c.toNat = 2
      · rw [if_pos h2, h0, h2]; decide
      · rw [if_neg h2]
        by_cases h1 : cls c.toNat ≠ 1 ∧ rm = false
        · rw [if_pos h1, h0]; exact ⟨h1.1, h4⟩
        · rw [if_neg h1, hs]; exact skp_stop x rm
theorem nx_stops (l : List UInt8) (a : Nat) : clsAt l (nx l a) ≠ 1 ∧ clsAt l (nx l a) ≠ 4 := by
  unfold nx
  rw [cls_drop]
  exact skp_stop _ _
theorem skp_take : ∀ (x : List UInt8) (rm : Bool), skp (x.take (skp x rm)) rm = skp x rm
  | [], rm => rfl
  | c :: x, rm => by
    rw [skp_cons]
    by_cases h4 : cls c.toNat = 4
    · rw [if_pos h4, Nat.add_comm, List.take_succ_cons, skp_cons, if_pos h4, skp_take x true, Nat.add_comm]
    · rw [if_neg h4]
      by_cases h2 : cls c.toNat = 2
      · rw [if_pos h2]; rfl
      · rw [if_neg h2]
        by_cases h1 : cls c.toNat ≠ 1 ∧ rm = false
        · rw [if_pos h1]; rfl
        · rw [if_neg h1, Nat.add_comm, List.take_succ_cons, skp_cons, if_neg h4, if_neg h2, if_neg h1, skp_take x rm, Nat.add_comm]
theorem skp_head {c : UInt8} {x : List UInt8} (h : skp (c :: x) false ≠ 0) : cls c.toNat = 1 ∨ cls c.toNat = 4 := by
  rw [skp_cons] at h
  by_cases h4 : cls c.toNat = 4
  · exact .inr h4
  · rw [if_neg h4] at h
    by_cases h2 : cls c.toNat = 2
    · rw [if_pos h2] at h; exact absurd rfl h
    · rw [if_neg h2] at h
      by_cases h1 : cls c.toNat = 1
      · exact .inl h1
      · rw [if_pos ⟨h1, rfl⟩] at h; exact absurd rfl h
theorem num_kind {a b : List UInt8} {pc : Bool} {t : Wd} (h : numTok a b pc = some t) : t.1 ≠ 8 := by
  unfold numTok at h
  split at h
  · cases h
  · split at h
    · unfold pctTok at h
      split at h
      · cases h
      · split at h
        · cases h; simp
        · cases h
    · split at h
      · split at h
        · cases h; simp
        · cases h
      · split at h
        · cases h; simp
        · cases h
theorem numS_kind {l : List UInt8} {a : Nat} {w : Wd} {e : Nat} (h : numberS l a = .ok (w, e)) : w.1 ≠ 8 := by
  rw [numberS_eq] at h
  cases hn : numTok (slc l a (nE1 l a)) (nPart l a) (nPc l a) with
  | none => rw [hn] at h; cases h
  | some t' =>
    rw [hn] at h
    change (if clsAt l (nE3 l a) &&& 24 ≠ 0 then Except.error (a, 42) else Except.ok (t', nE3 l a)) = _ at h
    split at h
    · cases h
    · injection h with h
      injection h with h1 h2
      subst h1
      exact num_kind hn
theorem qgo_kind (a : Nat) : ∀ (x : List UInt8) (p : Nat) (eo : Option Nat) (acc : List UInt8) (w : Wd) (e : Nat), qgo a x p eo acc = .ok (w, e) → w.1 ≠ 8
  | [], p, some _, acc, w, e, h => by simp [qgo] at h
  | [], p, none, acc, w, e, h => by simp [qgo] at h
  | c :: x, p, some e0, acc, w, e, h => by
    simp only [qgo] at h
    split at h
    · exact qgo_kind a x _ _ _ w e h
    · cases h
  | c :: x, p, none, acc, w, e, h => by
    simp only [qgo] at h
    split at h
    · exact qgo_kind a x _ _ _ w e h
    · split at h
      · split at h
        · cases h
        · cases h; simp
      · split at h
        · cases h
        · split at h
          · cases h
          · exact qgo_kind a x _ _ _ w e h
theorem word_kind {l : List UInt8} {a : Nat} {w : Wd} {e : Nat} (h : wordS l a = .ok (w, e)) : w.1 ≠ 8 := by
  unfold wordS at h
  split at h
  · unfold nameS at h
    split at h
    · cases h
    · cases h; simp
  · split at h
    · unfold dateS at h
      split at h
      · split at h
        · cases h; simp
        · cases h
      · exact numS_kind h
    · split at h
      · unfold quotedS at h
        exact qgo_kind _ _ _ _ _ _ _ h
      · unfold signS at h
        split at h
        · cases h; simp
        · cases h

/-- A word alone, from its place to where the next one begins. -/
theorem piece_one {l : List UInt8} {p : Nat} {w : Wd} {e : Nat} (hl : l.length ≤ 4000) (hp : p ≤ l.length) (hc : clsAt l p &&& 130 = 0) (hs : clsAt l p ≠ 1 ∧ clsAt l p ≠ 4) (h : wordS l p = .ok (w, e)) : foundL (slc l p (nx l e)) = [(w, 0, 0), ((8, [], 0, 0), nx l e - p, 0)] := by
  obtain ⟨h1, h2⟩ := wordS_ok hp hc h
  have g1 := nx_ge l e
  have g2 := nx_le (l := l) (a := e) h2
  obtain ⟨q, hq⟩ : ∃ q, nx l e = q := ⟨_, rfl⟩
  rw [hq] at g1 g2 ⊢
  have hk : q = e + skp (l.drop e) false := hq.symm
  obtain ⟨P, hP⟩ : ∃ P, slc l p q = P := ⟨_, rfl⟩
  have hPe : P = (l.drop p).take (e - p) ++ (l.drop e).take (skp (l.drop e) false) := by
    rw [← hP]
    unfold slc
    rw [List.drop_take, show q - p = (e - p) + skp (l.drop e) false from by omega, List.take_add, List.drop_drop, show p + (e - p) = e from by omega]
  have hPl : P.length = q - p := by
    rw [← hP]
    unfold slc
    rw [List.length_drop, List.length_take]
    omega
  rw [hP]
  have hu : ((l.drop p).take (e - p)).length = e - p := by rw [List.length_take, List.length_drop]; omega
  have hF : Fol (l.drop e) ((l.drop e).take (skp (l.drop e) false)) := by
    refine fol_stop ?_
    cases hx : l.drop e with
    | nil => exact .inl (by simp)
    | cons c x =>
      by_cases h0 : skp (c :: x) false = 0
      · exact .inl (by rw [h0]; rfl)
      · obtain ⟨k, hk'⟩ : ∃ k, skp (c :: x) false = k + 1 := ⟨skp (c :: x) false - 1, by omega⟩
        refine .inr ⟨c, x.take k, by rw [hk', List.take_succ_cons], ?_⟩
        rcases skp_head h0 with h | h
        · exact .inl h
        · exact .inr (.inr h)
  have hw : wordS P 0 = .ok (w, e - p) := by
    have := word_at (l' := P) (p' := 0) hp hc h (by rw [List.drop_zero]; exact hPe) (Nat.zero_le _) hF
    rw [this]
    congr 2
    omega
  have hc0 : clsAt P 0 = clsAt l p := by
    have hl0 : clsAt P 0 = clsAt ((l.drop p).take (e - p) ++ (l.drop e)) 0 := by rw [hPe]; exact cls_u _ _ (by omega)
    rw [hl0, show l.drop e = (l.drop p).drop (e - p) from by rw [List.drop_drop]; congr 1; omega, List.take_append_drop, ← cls_drop]
    rfl
  have hnx0 : nx P 0 = 0 := by
    have hP0 : 0 < P.length := by omega
    have hcl := clsAt_in hP0
    rw [hc0] at hcl
    unfold nx
    rw [List.drop_zero]
    cases hx : P with
    | nil => rfl
    | cons c x =>
      have hcc : cls c.toNat = clsAt l p := by
        rw [← hc0, hx]
        rfl
      rw [skp_cons, if_neg (by rw [hcc]; exact hs.2)]
      split
      · rfl
      · rw [if_pos ⟨by rw [hcc]; exact hs.1, rfl⟩]
  have hnxe : nx P (e - p) = P.length := by
    unfold nx
    rw [hPe, List.drop_left' hu, skp_take, List.length_append, hu, List.length_take, List.length_drop]
    have := skp_le (l.drop e) false
    rw [List.length_drop] at this
    omega
  unfold foundL
  rw [if_neg (by omega), hnx0, fnd_word (by rw [hc0]; exact hc) hw hnxe]
  obtain ⟨n, hn⟩ : ∃ n, P.length = n + 1 := ⟨P.length - 1, by omega⟩
  rw [show P.length = n + 1 from hn, fnd_eq, clsAt_out (by omega), if_neg (by decide), if_pos rfl, if_pos hn.symm, ← hn, hPl]
  rfl

def Pc (l : List UInt8) (x y : Itm) : Prop := x.2.1 < y.2.1 ∧ foundL (slc l x.2.1 y.2.1) = [(x.1, 0, 0), ((8, [], 0, 0), y.2.1 - x.2.1, 0)]
/-- What follows the place lo; bg: a line is open. -/
def Ch (l : List UInt8) : Nat → Bool → List Itm → Prop
  | _, bg, [] => bg = false
  | lo, bg, x :: L => x.2.1 ≤ l.length ∧ lo ≤ x.2.1 ∧ ((x.1.1 = 8 ∧ bg = true ∧ Ch l (x.2.1 + 1) false L) ∨ (x.1.1 ≠ 8 ∧ (∃ y L', L = y :: L' ∧ Pc l x y) ∧ Ch l (x.2.1 + 1) true L))
theorem Ch.low {l : List UInt8} {lo lo' : Nat} {bg : Bool} {L : List Itm} (h : Ch l lo bg L) (hl : lo' ≤ lo) : Ch l lo' bg L := by
  cases L with
  | nil => exact h
  | cons x L => exact ⟨h.1, Nat.le_trans hl h.2.1, h.2.2⟩
theorem found_ch (l : List UInt8) (hl : l.length ≤ 4000) : ∀ (f p : Nat) (bg : Bool), l.length + 1 ≤ f + p → p ≤ l.length → (clsAt l p ≠ 1 ∧ clsAt l p ≠ 4) → (∀ x ∈ foundP l f p bg, x.2.2 = 0) → Ch l p bg (foundP l f p bg)
  | 0, p, bg, h1, h2, _, _ => by omega
  | f + 1, p, bg, h1, h2, hs, hall => by
    rw [fnd_eq] at hall ⊢
    by_cases hc : clsAt l p &&& 130 = 0
    · rw [if_pos hc] at hall ⊢
      cases hw : wordS l p with
      | error qe =>
        obtain ⟨q, c⟩ := qe
        rw [hw] at hall
        exact absurd (hall ((0, [], 0, 0), q, c) (by simp)) (wordS_err hw).1
      | ok we =>
        obtain ⟨w, e⟩ := we
        rw [hw] at hall
        obtain ⟨k1, k2⟩ := wordS_ok h2 hc hw
        have g1 := nx_ge l e
        have g2 := nx_le (l := l) (a := e) k2
        have hall2 : ∀ x ∈ foundP l f (nx l e) true, x.2.2 = 0 := fun x hx => hall x (List.mem_cons_of_mem _ hx)
        have ih := found_ch l hl f (nx l e) true (by omega) g2 (nx_stops l e) hall2
        refine ⟨h2, Nat.le_refl _, .inr ⟨word_kind hw, ?_, ih.low (by show p + 1 ≤ _; omega)⟩⟩
        have hpc := piece_one hl h2 hc hs hw
        obtain ⟨f, rfl⟩ : ∃ f', f = f' + 1 := ⟨f - 1, by omega⟩
        rw [fnd_eq] at hall2 ⊢
        by_cases hc2 : clsAt l (nx l e) &&& 130 = 0
        · rw [if_pos hc2] at hall2 ⊢
          cases hw2 : wordS l (nx l e) with
          | error qe =>
            obtain ⟨q, c⟩ := qe
            rw [hw2] at hall2
            exact absurd (hall2 ((0, [], 0, 0), q, c) (by simp)) (wordS_err hw2).1
          | ok we2 =>
            obtain ⟨w2, e2⟩ := we2
            exact ⟨_, _, rfl, show p < nx l e from by omega, hpc⟩
        · rw [if_neg hc2, if_pos rfl]
          exact ⟨_, _, rfl, show p < nx l e from by omega, hpc⟩
    · rw [if_neg hc] at hall ⊢
      have hrest : Ch l (p + 1) false (if p = l.length then [] else foundP l f (nx l (p + 1)) false) := by
        by_cases he : p = l.length
        · rw [if_pos he]
          rfl
        · rw [if_neg he] at hall ⊢
          have g1 := nx_ge l (p + 1)
          have g2 := nx_le (l := l) (a := p + 1) (by omega)
          exact (found_ch l hl f (nx l (p + 1)) false (by omega) g2 (nx_stops l _) (fun x hx => hall x (List.mem_append_right _ hx))).low g1
      cases bg with
      | false =>
        rw [if_neg (by simp), List.nil_append]
        exact hrest.low (Nat.le_succ _)
      | true =>
        rw [if_pos rfl]
        exact ⟨h2, Nat.le_refl _, .inl ⟨rfl, rfl, hrest⟩⟩
/-- All that is asked of the places. -/
structure Plc (l : List UInt8) (L : List Itm) : Prop where
  le : ∀ i (h : i < L.length), L[i].2.1 ≤ l.length
  up : ∀ i (h : i + 1 < L.length), L[i].2.1 < L[i + 1].2.1
  fst : ∀ h : 0 < L.length, L[0].1.1 ≠ 8
  two : ∀ i (h : i + 1 < L.length), L[i + 1].1.1 = 8 → L[i].1.1 ≠ 8
  pc : ∀ i (h : i < L.length), L[i].1.1 ≠ 8 → ∃ h2 : i + 1 < L.length, Pc l L[i] L[i + 1]
theorem ch_plc (l : List UInt8) : ∀ (L : List Itm) (lo : Nat) (bg : Bool), Ch l lo bg L → (∀ i (h : i < L.length), L[i].2.1 ≤ l.length) ∧ (∀ h : 0 < L.length, lo ≤ L[0].2.1) ∧ (∀ i (h : i + 1 < L.length), L[i].2.1 < L[i + 1].2.1) ∧ (∀ h : 0 < L.length, L[0].1.1 = 8 → bg = true) ∧ (∀ i (h : i + 1 < L.length), L[i + 1].1.1 = 8 → L[i].1.1 ≠ 8) ∧ (∀ i (h : i < L.length), L[i].1.1 ≠ 8 → ∃ h2 : i + 1 < L.length, Pc l L[i] L[i + 1])
  | [], lo, bg, h => ⟨fun i h => by simp at h, fun h => by simp at h, fun i h => by simp at h, fun h => by simp at h, fun i h => by simp at h, fun i h => by simp at h⟩
  | x :: L, lo, bg, h => by
    obtain ⟨h1, h2, h3⟩ := h
    obtain ⟨bg', hch, hk, hx8, hpc⟩ : ∃ bg', Ch l (x.2.1 + 1) bg' L ∧ (x.1.1 = 8 → bg = true) ∧ (bg' = true → x.1.1 ≠ 8) ∧ (x.1.1 ≠ 8 → ∃ y L', L = y :: L' ∧ Pc l x y) := by
      rcases h3 with ⟨a, b, c⟩ | ⟨a, b, c⟩
      · exact ⟨false, c, fun _ => b, fun e => (by cases e), fun e => absurd a e⟩
      · exact ⟨true, c, fun e => absurd e a, fun _ => a, fun _ => b⟩
    obtain ⟨i1, i2, i3, i4, i5, i6⟩ := ch_plc l L (x.2.1 + 1) bg' hch
    refine ⟨fun i hi => ?_, fun _ => h2, fun i hi => ?_, fun _ e => hk e, fun i hi e => ?_, fun i hi e => ?_⟩
    · cases i with
      | zero => exact h1
      | succ i => exact i1 i (by simpa using hi)
    · cases i with
      | zero =>
        have h0 : 0 < L.length := by simpa using hi
        have := i2 h0
        show x.2.1 < (L[0]'h0).2.1
        omega
      | succ i => exact i3 i (by simpa using hi)
    · cases i with
      | zero => exact hx8 (i4 (by simpa using hi) e)
      | succ i => exact i5 i (by simpa using hi) e
    · cases i with
      | zero =>
        obtain ⟨y, L', rfl, hy⟩ := hpc e
        exact ⟨by simp, hy⟩
      | succ i =>
        obtain ⟨a, b⟩ := i6 i (by simpa using hi) e
        exact ⟨by simpa using a, b⟩
theorem found_plc (l : List UInt8) (hl : l.length ≤ 4000) (hall : ∀ x ∈ foundL l, x.2.2 = 0) : Plc l (foundL l) := by
  unfold foundL at hall ⊢
  rw [if_neg (by omega)] at hall ⊢
  have g1 := nx_ge l 0
  have g2 := nx_le (l := l) (a := 0) (by omega)
  obtain ⟨i1, i2, i3, i4, i5, i6⟩ := ch_plc l _ _ _ (found_ch l hl _ _ _ (by omega) g2 (nx_stops l 0) hall)
  exact ⟨i1, i3, fun h e => (by have := i4 h e; cases this), i5, i6⟩

end Go.Proofs.YtoippgmecnlhcaaGreatDoor.Q

import Derived.Test.YtoippgmecnlhcaaGreatDoorTurnWLoc2
namespace Go.Proofs.YtoippgmecnlhcaaGreatDoor.Q

theorem fol_stop {v v' : List UInt8} (h : v' = [] ∨ ∃ c y, v' = c :: y ∧ (cls c.toNat = 1 ∨ cls c.toNat = 2 ∨ cls c.toNat = 4)) : Fol v v' := by
  have hcl : clsAt v' 0 = 128 ∨ clsAt v' 0 = 1 ∨ clsAt v' 0 = 2 ∨ clsAt v' 0 = 4 := by
    rcases h with rfl | ⟨c, y, rfl, h⟩
    · exact .inl rfl
    · exact .inr h
  have hno : ∀ d : UInt8, cls d.toNat = 0 → v'[0]? ≠ some d := fun d hd e => by
    have : clsAt v' 0 = cls d.toNat := by unfold clsAt; rw [e]
    rw [hd] at this
    omega
  have hm : ∀ m, 128 &&& m = 0 → 1 &&& m = 0 → 2 &&& m = 0 → 4 &&& m = 0 → clsAt v' 0 &&& m = 0 := fun m a b c d => by
    rcases hcl with h | h | h | h <;> rw [h] <;> assumption
  exact ⟨fun _ => hm 56 (by decide) (by decide) (by decide) (by decide), fun _ => hm 24 (by decide) (by decide) (by decide) (by decide), fun _ => hm 32 (by decide) (by decide) (by decide) (by decide), fun _ => hno 37 (by decide), fun _ h => hno 46 (by decide) h.1, fun _ => hno 61 (by decide), fun u _ _ h => absurd h (hno 45 (by decide))⟩
theorem fol_nl (v y : List UInt8) : Fol v (v ++ 10 :: y) := by
  cases v with
  | nil => exact fol_stop (.inr ⟨10, y, rfl, .inr (.inl (by decide))⟩)
  | cons c x =>
    have hc : clsAt (c :: x ++ 10 :: y) 0 = clsAt (c :: x) 0 := rfl
    have hg : (c :: x ++ 10 :: y)[0]? = (c :: x)[0]? := rfl
    refine ⟨fun h => hc ▸ h, fun h => hc ▸ h, fun h => hc ▸ h, fun h => hg ▸ h, fun h h2 => ?_, fun h => hg ▸ h, fun u hu hf _ => ?_⟩
    · cases x with
      | nil =>
        have : clsAt ([c] ++ 10 :: y) 1 = 2 := by show cls (10 : UInt8).toNat = 2; decide
        rw [this] at h2
        exact absurd h2.2 (by decide)
      | cons d x => exact h h2
    · by_cases hl : 10 ≤ (u ++ (c :: x)).length
      · rw [← List.append_assoc] at hf
        have := dX_u (u := u ++ (c :: x)) (10 :: y) [] hl
        rw [List.append_nil] at this
        rw [← this]
        exact hf
      · rw [← List.append_assoc] at hf
        obtain ⟨d, hd, hk⟩ := dForm_at hf (i := (u ++ (c :: x)).length) (by omega)
        have : ((u ++ (c :: x)) ++ 10 :: y)[(u ++ (c :: x)).length]? = (10 :: y)[0]? := get_v _ _ 0
        rw [this] at hd
        simp only [List.getElem?_cons_zero, Option.some.injEq] at hd
        subst hd
        unfold ck at hk
        split at hk <;> simp at hk

theorem word_at {a l' : List UInt8} {p p' : Nat} {w : Wd} {e : Nat} (hp : p ≤ a.length) (hc : clsAt a p &&& 130 = 0) (h : wordS a p = .ok (w, e)) {v' : List UInt8} (hl : l'.drop p' = (a.drop p).take (e - p) ++ v') (hp' : p' ≤ l'.length) (hF : Fol (a.drop e) v') : wordS l' p' = .ok (w, p' + (e - p)) := by
  obtain ⟨h1, h2⟩ := wordS_ok hp hc h
  rw [word_shift a p hp] at h
  cases hx : wordS (a.drop p) 0 with
  | error q => rw [hx] at h; cases h
  | ok we =>
    obtain ⟨w2, k⟩ := we
    rw [hx] at h
    injection h with h
    injection h with h3 h4
    subst h3
    have hk : e - p = k := by omega
    rw [hk] at hl ⊢
    have hu : ((a.drop p).take k).length = k := by rw [List.length_take, List.length_drop]; omega
    have hsplit : a.drop p = (a.drop p).take k ++ a.drop e := by
      rw [← h4, ← List.drop_drop]
      exact (List.take_append_drop k (a.drop p)).symm
    rw [hsplit] at hx
    have hcut := word_cut (u := (a.drop p).take k) (v := a.drop e) hF (by omega) (by rw [hx, hu])
    rw [word_shift l' p' hp', hl, hcut, hu]
    rfl

theorem skp_nl : ∀ (x y : List UInt8) (rm : Bool), skp (x ++ 10 :: y) rm = skp x rm
  | [], y, rm => by
    show skp (10 :: y) rm = 0
    rw [skp_cons, if_neg (by decide), if_pos (by decide)]
  | c :: x, y, rm => by
    rw [List.cons_append, skp_cons, skp_cons, skp_nl x y true, skp_nl x y rm]
theorem nx_join {a b : List UInt8} {p : Nat} (h : p ≤ a.length) : nx (a ++ 10 :: b) p = nx a p := by
  unfold nx
  rw [List.drop_append_of_le_length h, skp_nl]
theorem nx_shift (l : List UInt8) (n q : Nat) : nx l (n + q) = n + nx (l.drop n) q := by
  unfold nx
  rw [List.drop_drop]
  omega
def shI (n : Nat) (x : Itm) : Itm := (x.1, n + x.2.1, x.2.2)
theorem shR_shR (n q : Nat) (R : Res) : shR (n + q) R = shR n (shR q R) := by
  rcases R with ⟨p, c⟩ | ⟨w, e⟩
  · simp [shR, Nat.add_assoc]
  · simp [shR, Nat.add_assoc]
theorem found_eq (l : List UInt8) (f p : Nat) (bg : Bool) : foundP l (f + 1) p bg = if clsAt l p &&& 130 = 0 then (match wordS l p with
      | .error (q, n) => [((0, [], 0, 0), q, n)]
      | .ok (w, e) => (w, p, 0) :: foundP l f (nx l e) true)
    else (if bg = true then [((8, [], 0, 0), p, 0)] else []) ++ (if p = l.length then [] else foundP l f (nx l (p + 1)) false) := rfl
theorem found_shift (l b : List UInt8) (n : Nat) (hn : n ≤ l.length) (hb : l.drop n = b) : ∀ (f F q : Nat) (bg : Bool), b.length + 1 ≤ f + q → l.length + 1 ≤ F + (n + q) → q ≤ b.length → foundP l F (n + q) bg = (foundP b f q bg).map (shI n)
  | 0, F, q, bg, h1, _, h3 => by omega
  | f + 1, F, q, bg, h1, h2, h3 => by
    have hll : l.length = n + b.length := by rw [← hb, List.length_drop]; omega
    obtain ⟨F, rfl⟩ : ∃ F', F = F' + 1 := ⟨F - 1, by omega⟩
    have hcl : clsAt l (n + q) = clsAt b q := by rw [cls_drop, hb]
    have hw : wordS l (n + q) = shR n (wordS b q) := by
      rw [word_shift l (n + q) (by omega), word_shift b q h3, shR_shR, ← List.drop_drop, hb]
    have hnx : ∀ e, nx l (n + e) = n + nx b e := fun e => by rw [nx_shift, hb]
    rw [found_eq l F, found_eq b f, hcl, hw]
    by_cases hc : clsAt b q &&& 130 = 0
    · rw [if_pos hc, if_pos hc]
      cases hx : wordS b q with
      | error qe =>
        obtain ⟨q', c⟩ := qe
        rfl
      | ok we =>
        obtain ⟨w, e⟩ := we
        obtain ⟨k1, k2⟩ := wordS_ok h3 hc hx
        have g1 := nx_ge b e
        have g2 := nx_le (l := b) (a := e) k2
        show (w, n + q, 0) :: foundP l F (nx l (n + e)) true = _
        rw [hnx, found_shift l b n hn hb f F (nx b e) true (by omega) (by omega) g2]
        rfl
    · rw [if_neg hc, if_neg hc, List.map_append]
      congr 1
      · split <;> rfl
      · by_cases he : q = b.length
        · rw [if_pos (by omega), if_pos he]
          rfl
        · have g1 := nx_ge b (q + 1)
          have g2 := nx_le (l := b) (a := q + 1) (by omega)
          rw [if_neg (by omega), if_neg he, Nat.add_assoc, hnx, found_shift l b n hn hb f F (nx b (q + 1)) false (by omega) (by omega) g2]
theorem found_pre (a b : List UInt8) : ∀ (f F p : Nat) (bg : Bool), a.length + 1 ≤ f + p → (a ++ 10 :: b).length + 1 ≤ F + p → p ≤ a.length → (∀ x ∈ foundP a f p bg, x.2.2 = 0) → ∃ F', (a ++ 10 :: b).length + 1 ≤ F' + (a.length + 1) ∧ foundP (a ++ 10 :: b) F p bg = foundP a f p bg ++ foundP (a ++ 10 :: b) F' (nx (a ++ 10 :: b) (a.length + 1)) false
  | 0, F, p, bg, h1, _, h3, _ => by omega
  | f + 1, F, p, bg, h1, h2, h3, hall => by
    have hll : (a ++ 10 :: b).length = a.length + 1 + b.length := by rw [List.length_append, List.length_cons]; omega
    obtain ⟨F, rfl⟩ : ∃ F', F = F' + 1 := ⟨F - 1, by omega⟩
    rw [found_eq] at hall
    by_cases hpa : p < a.length
    · have hcl : clsAt (a ++ 10 :: b) p = clsAt a p := by
        have := cls_u (u := a) (10 :: b) [] hpa
        rwa [List.append_nil] at this
      by_cases hc : clsAt a p &&& 130 = 0
      · rw [if_pos hc] at hall
        cases hx : wordS a p with
        | error qe =>
          obtain ⟨q', c⟩ := qe
          rw [hx] at hall
          have := hall ((0, [], 0, 0), q', c) (by simp)
          exact absurd this (wordS_err hx).1
        | ok we =>
          obtain ⟨w, e⟩ := we
          rw [hx] at hall
          obtain ⟨k1, k2⟩ := wordS_ok h3 hc hx
          have g1 := nx_ge a e
          have g2 := nx_le (l := a) (a := e) k2
          have hw : wordS (a ++ 10 :: b) p = .ok (w, e) := by
            have := word_at (l' := a ++ 10 :: b) (p' := p) (v' := a.drop e ++ 10 :: b) h3 hc hx (by
              rw [List.drop_append_of_le_length h3, ← List.append_assoc]
              congr 1
              rw [show a.drop e = (a.drop p).drop (e - p) from by rw [List.drop_drop]; congr 1; omega, List.take_append_drop]) (by omega) (fol_nl _ _)
            rw [this]
            congr 2
            omega
          obtain ⟨F', i1, i2⟩ := found_pre a b f F (nx a e) true (by omega) (by omega) g2 (fun x hx => hall x (by simp [hx]))
          refine ⟨F', i1, ?_⟩
          rw [found_eq _ F p, found_eq a f p, hcl, hw, hx, if_pos hc, if_pos hc]
          show (w, p, 0) :: foundP (a ++ 10 :: b) F (nx (a ++ 10 :: b) e) true = ((w, p, 0) :: foundP a f (nx a e) true) ++ _
          rw [nx_join k2, i2]
          rfl
      · rw [if_neg hc, if_neg (show ¬ p = a.length by omega)] at hall
        have g1 := nx_ge a (p + 1)
        have g2 := nx_le (l := a) (a := p + 1) (by omega)
        obtain ⟨F', i1, i2⟩ := found_pre a b f F (nx a (p + 1)) false (by omega) (by omega) g2 (fun x hx => hall x (by simp [hx]))
        refine ⟨F', i1, ?_⟩
        rw [found_eq _ F p, found_eq a f p, hcl, if_neg hc, if_neg hc, if_neg (show ¬ p = (a ++ 10 :: b).length by omega), if_neg (show ¬ p = a.length by omega), nx_join (show p + 1 ≤ a.length by omega), i2, List.append_assoc]
    · obtain rfl : p = a.length := by omega
      have hcl : clsAt (a ++ 10 :: b) a.length = 2 := by
        have := cls_v a (10 :: b) 0
        rw [Nat.add_zero] at this
        rw [this]
        show cls (10 : UInt8).toNat = 2
        decide
      refine ⟨F, by omega, ?_⟩
      rw [found_eq _ F a.length, found_eq a f a.length, hcl, clsAt_out (Nat.le_refl _), if_neg (show ¬ 2 &&& 130 = 0 by decide), if_neg (show ¬ 128 &&& 130 = 0 by decide), if_neg (show ¬ a.length = (a ++ 10 :: b).length by omega), if_pos rfl, List.append_nil]
theorem found_join (a b : List UInt8) (hl : a.length + b.length ≤ 7999) (hall : ∀ x ∈ foundL a, x.2.2 = 0) : foundL (a ++ 10 :: b) = foundL a ++ (foundL b).map (shI (a.length + 1)) := by
  have hll : (a ++ 10 :: b).length = a.length + 1 + b.length := by rw [List.length_append, List.length_cons]; omega
  unfold foundL at hall ⊢
  rw [if_neg (by omega)] at hall
  rw [if_neg (by omega), if_neg (by omega), if_neg (by omega)]
  have g1 := nx_ge a 0
  have g2 := nx_le (l := a) (a := 0) (by omega)
  have g3 := nx_ge b 0
  have g4 := nx_le (l := b) (a := 0) (by omega)
  have hd : (a ++ 10 :: b).drop (a.length + 1) = b := by
    rw [List.drop_append]
    simp
  obtain ⟨F', i1, i2⟩ := found_pre a b (a.length + 1) ((a ++ 10 :: b).length + 1) (nx a 0) false (by omega) (by omega) g2 hall
  rw [nx_join (Nat.zero_le _), i2]
  congr 1
  have hn := nx_shift (a ++ 10 :: b) (a.length + 1) 0
  rw [Nat.add_zero, hd] at hn
  rw [hn]
  exact found_shift (a ++ 10 :: b) b (a.length + 1) (by omega) hd (b.length + 1) F' (nx b 0) false (by omega) (by omega) g4

end Go.Proofs.YtoippgmecnlhcaaGreatDoor.Q

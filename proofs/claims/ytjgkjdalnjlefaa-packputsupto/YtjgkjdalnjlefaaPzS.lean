import Derived.Test.YtjgkjdalnjlefaaPkQj
/- WHAT IS READ IS WHAT STANDS THERE. No program. -/
namespace Go.Proofs.Ytjgkjdalnjlefaa

theorem bd_ok {β γ : Type} {m : Rd β} {k : β → Nat → Rd γ} {y : γ} {a2 : Nat} (h : bd m k = .ok (y, a2)) : ∃ x a, m = .ok (x, a) ∧ k x a = .ok (y, a2) := by
  cases m with
  | ok p => exact ⟨p.1, p.2, rfl, h⟩
  | error e => cases h
/-- What is read is the bytes that stand there. -/
def Sr (l : List UInt8) (E : List UInt8) (a a2 : Nat) : Prop := l.drop a = E ++ l.drop a2 ∧ a2 = a + E.length ∧ a2 ≤ l.length
theorem Sr.trans {l : List UInt8} {x y : List UInt8} {a b c : Nat} (h : Sr l x a b) (k : Sr l y b c) : Sr l (x ++ y) a c := by
  obtain ⟨h1, h2, h3⟩ := h
  obtain ⟨k1, k2, k3⟩ := k
  exact ⟨by rw [h1, k1, List.append_assoc], by rw [k2, h2, List.length_append]; omega, k3⟩
theorem Sr.nil {l : List UInt8} {a : Nat} (h : a ≤ l.length) : Sr l [] a a := ⟨rfl, rfl, h⟩
theorem sr_of {l q t : List UInt8} {a : Nat} (h : l.drop a = q ++ t) (ha : a ≤ l.length) : Sr l q a (a + q.length) := by
  have hl := congrArg List.length h
  rw [List.length_drop, List.length_append] at hl
  refine ⟨?_, rfl, by omega⟩
  rw [← List.drop_drop, h, List.drop_left]
theorem nGo_sound {len at_ m a2 : Nat} : ∀ (r p : List UInt8), (∀ c ∈ p, 128 ≤ c.toNat) → nGo len at_ r p.length (valN p) = .ok (m, a2) → ∃ q t, r = q ++ t ∧ encN m = p ++ q ∧ a2 = at_ + (p.length + q.length)
  | [], p, _, h => by cases h
  | b :: r, p, hp, h => by
    rw [nGo_cons] at h
    by_cases hbad : (p.length = 9 ∧ 1 < b.toNat) ∨ (0 < p.length ∧ b.toNat = 0)
    · rw [if_pos hbad] at h; cases h
    · rw [if_neg hbad] at h
      by_cases hk : b.toNat < 128
      · rw [if_pos hk] at h
        injection h with h
        injection h with h1 h2
        refine ⟨[b], r, rfl, ?_, by rw [← h2]; rfl⟩
        rw [← h1, ← valN_snoc]
        exact encN_val p b hp hk (by
          rcases Nat.eq_zero_or_pos p.length with h0 | h0
          · exact .inl (List.eq_nil_of_length_eq_zero h0)
          · exact .inr (fun e => hbad (.inr ⟨h0, e⟩)))
      · rw [if_neg hk] at h
        have h' : nGo len at_ r (p ++ [b]).length (valN (p ++ [b])) = .ok (m, a2) := by
          rw [valN_snoc, List.length_append]
          exact h
        obtain ⟨q, t, h1, h2, h3⟩ := nGo_sound r (p ++ [b]) (fun c hc => by
          rcases List.mem_append.1 hc with h | h
          · exact hp c h
          · rw [List.mem_singleton.1 h]; omega) h'
        refine ⟨b :: q, t, by rw [h1]; rfl, by rw [h2, List.append_assoc]; rfl, ?_⟩
        have e1 : (p ++ [b]).length = p.length + 1 := by rw [List.length_append]; rfl
        have e2 : (b :: q).length = q.length + 1 := rfl
        omega
theorem rN_sound {l : List UInt8} {a n a2 : Nat} (ha : a ≤ l.length) (h : rN l a = .ok (n, a2)) : Sr l (encN n) a a2 := by
  obtain ⟨q, t, h1, h2, h3⟩ := nGo_sound (l.drop a) [] (fun c hc => by simp at hc) h
  rw [List.nil_append] at h2
  rw [h2, h3]
  have := sr_of h1 ha
  simpa using this
theorem rLen_sound {l : List UInt8} {a n a2 : Nat} (ha : a ≤ l.length) (h : rLen l a = .ok (n, a2)) : Sr l (encN n) a a2 ∧ n ≤ l.length - a2 := by
  obtain ⟨x, b, h1, h2⟩ := bd_ok h
  split at h2
  · cases h2
  · injection h2 with h2
    injection h2 with h3 h4
    subst h3 h4
    exact ⟨rN_sound ha h1, by omega⟩
theorem rInt_sound {l : List UInt8} {a a2 : Nat} {z : Int} (ha : a ≤ l.length) (h : rInt l a = .ok (z, a2)) : Sr l (encI z) a a2 := by
  obtain ⟨x, b, h1, h2⟩ := bd_ok h
  injection h2 with h2
  injection h2 with h3 h4
  subst h3 h4
  have h5 := rN_sound ha h1
  unfold unz
  split
  · rw [zig_odd (by assumption)]; exact h5
  · rw [zig_even (by omega)]; exact h5
theorem rNz_sound {l : List UInt8} {a a2 : Nat} {z : Int} (ha : a ≤ l.length) (h : rNz l a = .ok (z, a2)) : Sr l (encI z) a a2 ∧ z ≠ 0 := by
  obtain ⟨x, b, h1, h2⟩ := bd_ok h
  split at h2
  · cases h2
  · injection h2 with h2
    injection h2 with h3 h4
    subst h3 h4
    exact ⟨rInt_sound ha h1, by assumption⟩
theorem rByte_sound {l : List UInt8} {most a b a2 : Nat} (h : rByte most l a = .ok (b, a2)) : Sr l [UInt8.ofNat b] a a2 ∧ b ≤ most := by
  unfold rByte at h
  split at h
  · cases h
  · rename_i x hx
    obtain ⟨hlt, hx⟩ := List.getElem?_eq_some_iff.1 hx
    split at h
    · cases h
    · injection h with h
      injection h with h3 h4
      subst h3 h4
      refine ⟨⟨?_, rfl, hlt⟩, by omega⟩
      rw [List.drop_eq_getElem_cons hlt, hx, ofNat_eq rfl]
      rfl
theorem rFlag_sound {l : List UInt8} {a a2 : Nat} {x : Bool} (h : rFlag l a = .ok (x, a2)) : Sr l (encB x) a a2 := by
  obtain ⟨b, c, h1, h2⟩ := bd_ok h
  injection h2 with h2
  injection h2 with h3 h4
  subst h3 h4
  obtain ⟨h5, h6⟩ := rByte_sound h1
  rcases (by omega : b = 0 ∨ b = 1) with rfl | rfl
  · exact h5
  · exact h5
theorem rRaw_sound {l : List UInt8} {n a a2 : Nat} {s : List UInt8} (ha : a ≤ l.length) (h : rRaw n l a = .ok (s, a2)) : Sr l s a a2 ∧ s.length = n := by
  unfold rRaw at h
  split at h
  · cases h
  · injection h with h
    injection h with h3 h4
    subst h3 h4
    have hl : ((l.drop a).take n).length = n := by rw [List.length_take, List.length_drop]; omega
    refine ⟨⟨?_, by rw [hl], by omega⟩, hl⟩
    rw [← List.drop_drop, List.take_append_drop]
theorem rTxt_sound {l : List UInt8} {a a2 : Nat} {s : List UInt8} (ha : a ≤ l.length) (h : rTxt l a = .ok (s, a2)) : Sr l (encS s) a a2 := by
  obtain ⟨n, b, h1, h2⟩ := bd_ok h
  have h3 := (rLen_sound ha h1).1
  obtain ⟨h4, h5⟩ := rRaw_sound h3.2.2 h2
  unfold encS
  rw [h5]
  exact h3.trans h4
/-- A piece whose bytes are E. -/
def Snd {β : Type} (r : List UInt8 → Nat → Rd β) (E : β → List UInt8) (ok : β → Prop) : Prop := ∀ l a x a2, a ≤ l.length → r l a = .ok (x, a2) → Sr l (E x) a a2 ∧ ok x
theorem rRep_sound {β : Type} {r : List UInt8 → Nat → Rd β} {E : β → List UInt8} {ok : β → Prop} (hr : Snd r E ok) (l : List UInt8) : ∀ (n a : Nat) (xs : List β) (a2 : Nat), a ≤ l.length → rRep (r l) n a = .ok (xs, a2) → Sr l (xs.flatMap E) a a2 ∧ xs.length = n ∧ ∀ x ∈ xs, ok x
  | 0, a, xs, a2, ha, h => by
    injection h with h
    injection h with h3 h4
    subst h3 h4
    exact ⟨Sr.nil ha, rfl, fun x hx => by simp at hx⟩
  | n + 1, a, xs, a2, ha, h => by
    obtain ⟨x, b, h1, h2⟩ := bd_ok h
    obtain ⟨ys, c, h3, h4⟩ := bd_ok h2
    injection h4 with h4
    injection h4 with h5 h6
    subst h5 h6
    obtain ⟨k1, k2⟩ := hr l a x b ha h1
    obtain ⟨k3, k4, k5⟩ := rRep_sound hr l n b ys c k1.2.2 h3
    refine ⟨?_, by rw [List.length_cons, k4], fun y hy => ?_⟩
    · rw [List.flatMap_cons]; exact k1.trans k3
    · rcases List.mem_cons.1 hy with rfl | hy
      · exact k2
      · exact k5 y hy
theorem rLst_sound {β : Type} {r : List UInt8 → Nat → Rd β} {E : β → List UInt8} {ok : β → Prop} (hr : Snd r E ok) : Snd (rLst r) (encL E) (fun xs => ∀ x ∈ xs, ok x) := fun l a xs a2 ha h => by
  obtain ⟨n, b, h1, h2⟩ := bd_ok h
  have h3 := (rLen_sound ha h1).1
  obtain ⟨h4, h5, h6⟩ := rRep_sound hr l n b xs a2 h3.2.2 h2
  unfold encL
  rw [h5]
  exact ⟨h3.trans h4, h6⟩
theorem sInt : Snd rInt encI (fun _ => True) := fun _ _ _ _ ha h => ⟨rInt_sound ha h, trivial⟩
theorem sTxt : Snd rTxt encS (fun _ => True) := fun _ _ _ _ ha h => ⟨rTxt_sound ha h, trivial⟩
theorem sFlag : Snd rFlag encB (fun _ => True) := fun _ _ _ _ _ h => ⟨rFlag_sound h, trivial⟩
theorem pure_ok {β : Type} {x y : β} {a b : Nat} (h : (Except.ok (x, a) : Rd β) = .ok (y, b)) : x = y ∧ a = b := by
  injection h with h
  injection h with h1 h2
  exact ⟨h1, h2⟩
theorem sBand : Snd rBand encBd (fun _ => True) := fun l a x a2 ha h => by
  obtain ⟨x1, b1, h1, h⟩ := bd_ok h
  obtain ⟨x2, b2, h2, h⟩ := bd_ok h
  obtain ⟨rfl, rfl⟩ := pure_ok h
  have k1 := (sInt _ _ _ _ ha h1).1
  have k2 := (sInt _ _ _ _ k1.2.2 h2).1
  exact ⟨k1.trans k2, trivial⟩
theorem sGroup : Snd rGroup encG (fun _ => True) := fun l a x a2 ha h => by
  obtain ⟨x1, b1, h1, h⟩ := bd_ok h
  obtain ⟨x2, b2, h2, h⟩ := bd_ok h
  obtain ⟨rfl, rfl⟩ := pure_ok h
  have k1 := (sTxt _ _ _ _ ha h1).1
  have k2 := (sInt _ _ _ _ k1.2.2 h2).1
  exact ⟨k1.trans k2, trivial⟩
theorem sOptions : Snd rOptions encO (fun _ => True) := fun l a x a2 ha h => by
  obtain ⟨x1, b1, h1, h⟩ := bd_ok h
  obtain ⟨x2, b2, h2, h⟩ := bd_ok h
  obtain ⟨rfl, rfl⟩ := pure_ok h
  have k1 := (sTxt _ _ _ _ ha h1).1
  have k2 := (rLst_sound sTxt _ _ _ _ k1.2.2 h2).1
  exact ⟨k1.trans k2, trivial⟩
theorem sTable : Snd rTable encT (fun _ => True) := fun l a x a2 ha h => by
  obtain ⟨x1, b1, h1, h⟩ := bd_ok h
  obtain ⟨x2, b2, h2, h⟩ := bd_ok h
  obtain ⟨rfl, rfl⟩ := pure_ok h
  have k1 := (sTxt _ _ _ _ ha h1).1
  have k2 := (rLst_sound sBand _ _ _ _ k1.2.2 h2).1
  exact ⟨k1.trans k2, trivial⟩
theorem rOpt_sound {l : List UInt8} {is : Bool} {a a2 : Nat} {z : Int} (ha : a ≤ l.length) (h : rOpt is l a = .ok (z, a2)) : Sr l (encZ z) a a2 ∧ (z = 0 ↔ is = false) := by
  cases is with
  | true =>
    obtain ⟨h1, h2⟩ := rNz_sound ha h
    rw [encZ_pos h2]
    exact ⟨h1, by simp [h2]⟩
  | false =>
    obtain ⟨rfl, rfl⟩ := pure_ok h
    exact ⟨Sr.nil ha, by simp⟩
theorem bits_back {b : Nat} {num den mode : Int} {n : Nat} (hb : b ≤ 15) (h0 : num = 0 ↔ Nat.testBit b 0 = false) (h1 : den = 0 ↔ Nat.testBit b 1 = false) (h2 : mode = 0 ↔ Nat.testBit b 2 = false) (h3 : n = 0 ↔ Nat.testBit b 3 = false) : hasB num den mode n = b := by
  unfold hasB
  have e : (if Nat.testBit b 0 = false then 0 else 1) + (if Nat.testBit b 1 = false then 0 else 2) + (if Nat.testBit b 2 = false then 0 else 4) + (if Nat.testBit b 3 = false then 0 else 8) = b := by
    have : ∀ b : Fin 16, (if Nat.testBit b.1 0 = false then 0 else 1) + (if Nat.testBit b.1 1 = false then 0 else 2) + (if Nat.testBit b.1 2 = false then 0 else 4) + (if Nat.testBit b.1 3 = false then 0 else 8) = b.1 := by decide
    exact this ⟨b, by omega⟩
  simp only [h0, h1, h2, h3]
  exact e
theorem deepF_le {n : Nat} : ∀ l : List Ex, (∀ e ∈ l, deepE e ≤ n) → deepF (ofL l) ≤ n := fun l h => deepF_ofL l h
theorem sExpr : ∀ k, Snd (rExpr k) encE (fun e => deepE e ≤ k)
  | 0 => fun l a x a2 ha h => by cases h
  | k + 1 => fun l a x a2 ha h => by
    obtain ⟨op, b1, h1, h⟩ := bd_ok h
    obtain ⟨b, b2, h2, h⟩ := bd_ok h
    obtain ⟨num, b3, h3, h⟩ := bd_ok h
    obtain ⟨den, b4, h4, h⟩ := bd_ok h
    obtain ⟨mode, b5, h5, h⟩ := bd_ok h
    obtain ⟨es, b6, h6, h⟩ := bd_ok h
    obtain ⟨rfl, rfl⟩ := pure_ok h
    have k1 := rInt_sound ha h1
    obtain ⟨k2, hb⟩ := rByte_sound h2
    obtain ⟨k3, z3⟩ := rOpt_sound k2.2.2 h3
    obtain ⟨k4, z4⟩ := rOpt_sound k3.2.2 h4
    obtain ⟨k5, z5⟩ := rOpt_sound k4.2.2 h5
    have k6 : Sr l (if es.length = 0 then [] else encN es.length ++ es.flatMap encE) b5 b6 ∧ (es.length = 0 ↔ Nat.testBit b 3 = false) ∧ ∀ e ∈ es, deepE e ≤ k := by
      cases hb3 : Nat.testBit b 3 with
      | true =>
        rw [hb3] at h6
        obtain ⟨es2, c, g1, g2⟩ := bd_ok h6
        split at g2
        · cases g2
        · rename_i hne
          obtain ⟨rfl, rfl⟩ := pure_ok g2
          obtain ⟨g3, g4⟩ := rLst_sound (sExpr k) l b5 es2 c k5.2.2 g1
          rw [if_neg hne]
          exact ⟨g3, by simp [hne], g4⟩
      | false =>
        rw [hb3] at h6
        obtain ⟨rfl, rfl⟩ := pure_ok h6
        exact ⟨Sr.nil k5.2.2, by simp, fun e he => by simp at he⟩
    have hB := bits_back hb z3 z4 z5 k6.2.1
    refine ⟨?_, ?_⟩
    · unfold encE
      simp only [ofL_len, hB, encF_ofL]
      exact k1.trans (k2.trans (k3.trans (k4.trans (k5.trans k6.1))))
    · show 1 + deepF (ofL es) ≤ k + 1
      have := deepF_le es k6.2.2
      omega
theorem sClause : Snd rClause encC okC := fun l a x a2 ha h => by
  obtain ⟨x1, b1, h1, h⟩ := bd_ok h
  obtain ⟨x2, b2, h2, h⟩ := bd_ok h
  obtain ⟨x3, b3, h3, h⟩ := bd_ok h
  obtain ⟨x4, b4, h4, h⟩ := bd_ok h
  obtain ⟨rfl, rfl⟩ := pure_ok h
  have k1 := (sInt _ _ _ _ ha h1).1
  have k2 := (sFlag _ _ _ _ k1.2.2 h2).1
  obtain ⟨k3, d3⟩ := sExpr 64 _ _ _ _ k2.2.2 h3
  obtain ⟨k4, d4⟩ := sExpr 64 _ _ _ _ k3.2.2 h4
  exact ⟨((k1.trans k2).trans k3).trans k4, by show deepE x3 + 1 ≤ 65; omega, by show deepE x4 + 1 ≤ 65; omega⟩
theorem sLine : Snd rLine encLn okL := fun l a x a2 ha h => by
  obtain ⟨x1, b1, h1, h⟩ := bd_ok h
  obtain ⟨x2, b2, h2, h⟩ := bd_ok h
  obtain ⟨x3, b3, h3, h⟩ := bd_ok h
  obtain ⟨x4, b4, h4, h⟩ := bd_ok h
  obtain ⟨x5, b5, h5, h⟩ := bd_ok h
  obtain ⟨x6, b6, h6, h⟩ := bd_ok h
  obtain ⟨x7, b7, h7, h⟩ := bd_ok h
  obtain ⟨rfl, rfl⟩ := pure_ok h
  have k1 := (sTxt _ _ _ _ ha h1).1
  have k2 := (sFlag _ _ _ _ k1.2.2 h2).1
  have k3 := (sFlag _ _ _ _ k2.2.2 h3).1
  have k4 := (sInt _ _ _ _ k3.2.2 h4).1
  have k5 := (sInt _ _ _ _ k4.2.2 h5).1
  have k6 := (sInt _ _ _ _ k5.2.2 h6).1
  obtain ⟨k7, d7⟩ := rLst_sound sClause _ _ _ _ k6.2.2 h7
  exact ⟨(((((k1.trans k2).trans k3).trans k4).trans k5).trans k6).trans k7, d7⟩
theorem sCheck : Snd rCheck encK okK := fun l a x a2 ha h => by
  obtain ⟨x1, b1, h1, h⟩ := bd_ok h
  obtain ⟨x2, b2, h2, h⟩ := bd_ok h
  obtain ⟨x3, b3, h3, h⟩ := bd_ok h
  obtain ⟨x4, b4, h4, h⟩ := bd_ok h
  obtain ⟨x5, b5, h5, h⟩ := bd_ok h
  obtain ⟨rfl, rfl⟩ := pure_ok h
  have k1 := (sTxt _ _ _ _ ha h1).1
  have k2 := (sFlag _ _ _ _ k1.2.2 h2).1
  have k3 := (sInt _ _ _ _ k2.2.2 h3).1
  obtain ⟨k4, d4⟩ := sExpr 64 _ _ _ _ k3.2.2 h4
  have k5 := (sTxt _ _ _ _ k4.2.2 h5).1
  exact ⟨(((k1.trans k2).trans k3).trans k4).trans k5, by show deepE x4 + 1 ≤ 65; omega⟩
theorem rPack_sound {l : List UInt8} {p : Pk} {a2 : Nat} (h : rPack l 0 = .ok (p, a2)) : l = encP p ++ sum4 (fnvB (encP p)) ∧ okP p := by
  obtain ⟨x0, b0, h0, h⟩ := bd_ok h
  obtain ⟨x1, b1, h1, h⟩ := bd_ok h
  obtain ⟨x2, b2, h2, h⟩ := bd_ok h
  obtain ⟨x3, b3, h3, h⟩ := bd_ok h
  obtain ⟨x4, b4, h4, h⟩ := bd_ok h
  obtain ⟨x5, b5, h5, h⟩ := bd_ok h
  obtain ⟨x6, b6, h6, h⟩ := bd_ok h
  obtain ⟨x7, b7, h7, h⟩ := bd_ok h
  obtain ⟨x8, b8, h8, h⟩ := bd_ok h
  obtain ⟨rfl, rfl⟩ := pure_ok h
  obtain ⟨s, c0, g0, g1⟩ := bd_ok h0
  have k0 := (rRaw_sound (Nat.zero_le _) g0).1
  split at g1
  · rename_i hs
    obtain ⟨-, rfl⟩ := pure_ok g1
    rw [hs] at k0
    have k1 := (sTxt _ _ _ _ k0.2.2 h1).1
    have k2 := (sInt _ _ _ _ k1.2.2 h2).1
    have k3 := (rLst_sound sOptions _ _ _ _ k2.2.2 h3).1
    have k4 := (rLst_sound sTable _ _ _ _ k3.2.2 h4).1
    have k5 := (rLst_sound sGroup _ _ _ _ k4.2.2 h5).1
    obtain ⟨k6, d6⟩ := rLst_sound sLine _ _ _ _ k5.2.2 h6
    obtain ⟨k7, d7⟩ := rLst_sound sCheck _ _ _ _ k6.2.2 h7
    have kk : Sr l (encP ⟨x1, x2, x3, x4, x5, x6, x7⟩) 0 b7 := ((((((k0.trans k1).trans k2).trans k3).trans k4).trans k5).trans k6).trans k7
    obtain ⟨s8, c8, g8, g9⟩ := bd_ok h8
    obtain ⟨q8, q9⟩ := rRaw_sound k7.2.2 g8
    split at g9
    · rename_i hs8
      split at g9
      · cases g9
      · rename_i hlast
        refine ⟨?_, d6, d7⟩
        have e1 := kk.1
        rw [List.drop_zero] at e1
        have hb7 : l.take b7 = encP ⟨x1, x2, x3, x4, x5, x6, x7⟩ := by
          have := congrArg (List.take b7) e1
          rw [this, kk.2.1, Nat.zero_add, List.take_left]
        rw [hb7] at hs8
        have e2 := q8.1
        rw [List.drop_eq_nil_of_le (by omega : l.length ≤ c8), List.append_nil, hs8] at e2
        rw [← e2]
        exact e1
    · cases g9
  · cases g1

end Go.Proofs.Ytjgkjdalnjlefaa

import Derived.Test.YtjgngmmepheioaaJoin47
/- WHAT IS READ IS WHAT STANDS THERE. No program. -/
namespace Go.Proofs.Ytjgngmmepheioaa

theorem bd_ok {β γ : Type} {m : Rd β} {k : β → Nat → Rd γ} {y : γ} {a2 : Nat} (h : bd m k = .ok (y, a2)) : ∃ x a, m = .ok (x, a) ∧ k x a = .ok (y, a2) := by
  cases m with
  | ok p => exact ⟨p.1, p.2, rfl, h⟩
  | error e => cases h
/-- What is read is the bytes that stand there. -/
def Sr (l : List UInt8) (E : List UInt8) (a a2 : Nat) : Prop := l.drop a = E ++ l.drop a2 ∧ a2 = a + E.length ∧ a2 ≤ l.length
theorem Sr.trans {l : List UInt8} {x y : List UInt8} {a b c : Nat} (h : Sr l x a b) (k : Sr l y b c) : Sr l (x ++ y) a c := by
  obtain ⟨h1, h2, h3⟩ := h
  obtain ⟨k1, k2, k3⟩ := k
  exact ⟨by rw [h1, k1, List.append_assoc], by rw [k2, h2, List.length_append]; omega, k3⟩
theorem Sr.nil {l : List UInt8} {a : Nat} (h : a ≤ l.length) : Sr l [] a a := ⟨rfl, rfl, h⟩
theorem sr_of {l q t : List UInt8} {a : Nat} (h : l.drop a = q ++ t) (ha : a ≤ l.length) : Sr l q a (a + q.length) := by
  have hl := congrArg List.length h
  rw [List.length_drop, List.length_append] at hl
  refine ⟨?_, rfl, by omega⟩
  rw [← List.drop_drop, h, List.drop_left]
theorem nGo_sound {len at_ m a2 : Nat} : ∀ (r p : List UInt8), (∀ c ∈ p, 128 ≤ c.toNat) → nGo len at_ r p.length (valN p) = .ok (m, a2) → ∃ q t, r = q ++ t ∧ encN m = p ++ q ∧ a2 = at_ + (p.length + q.length)
  | [], p, _, h => by cases h
  | b :: r, p, hp, h => by
    rw [nGo_cons] at h
    by_cases hbad : (p.length = 9 ∧ 1 < b.toNat) ∨ (0 < p.length ∧ b.toNat = 0)
    · rw [if_pos hbad] at h; cases h
    · rw [if_neg hbad] at h
      by_cases hk : b.toNat < 128
      · rw [if_pos hk] at h
        injection h with h
        injection h with h1 h2
        refine ⟨[b], r, rfl, ?_, by rw [← h2]; rfl⟩
        rw [← h1, ← valN_snoc]
        exact encN_val p b hp hk (by
          rcases Nat.eq_zero_or_pos p.length with h0 | h0
          · exact .inl (List.eq_nil_of_length_eq_zero h0)
          · exact .inr (fun e => hbad (.inr ⟨h0, e⟩)))
      · rw [if_neg hk] at h
        have h' : nGo len at_ r (p ++ [b]).length (valN (p ++ [b])) = .ok (m, a2) := by
          rw [valN_snoc, List.length_append]
          exact h
        obtain ⟨q, t, h1, h2, h3⟩ := nGo_sound r (p ++ [b]) (fun c hc => by
          rcases List.mem_append.1 hc with h | h
          · exact hp c h
          · rw [List.mem_singleton.1 h]; omega) h'
        refine ⟨b :: q, t, by rw [h1]; rfl, by rw [h2, List.append_assoc]; rfl, ?_⟩
        have e1 : (p ++ [b]).length = p.length + 1 := by rw [List.length_append]; rfl
        have e2 : (b :: q).length = q.length + 1 := rfl
        omega
theorem rN_sound {l : List UInt8} {a n a2 : Nat} (ha : a ≤ l.length) (h : rN l a = .ok (n, a2)) : Sr l (encN n) a a2 := by
  obtain ⟨q, t, h1, h2, h3⟩ := nGo_sound (l.drop a) [] (fun c hc => by simp at hc) h
  rw [List.nil_append] at h2
  rw [h2, h3]
  have := sr_of h1 ha
  simpa using this
theorem rLen_sound {l : List UInt8} {a n a2 : Nat} (ha : a ≤ l.length) (h : rLen l a = .ok (n, a2)) : Sr l (encN n) a a2 ∧ n ≤ l.length - a2 := by
  obtain ⟨x, b, h1, h2⟩ := bd_ok h
  split at h2
  · cases h2
  · injection h2 with h2
    injection h2 with h3 h4
    subst h3 h4
    exact ⟨rN_sound ha h1, by omega⟩
theorem rInt_sound {l : List UInt8} {a a2 : Nat} {z : Int} (ha : a ≤ l.length) (h : rInt l a = .ok (z, a2)) : Sr l (encI z) a a2 := by
  obtain ⟨x, b, h1, h2⟩ := bd_ok h
  injection h2 with h2
  injection h2 with h3 h4
  subst h3 h4
  have h5 := rN_sound ha h1
  unfold unz
  split
  · rw [zig_odd (by assumption)]; exact h5
  · rw [zig_even (by omega)]; exact h5
theorem rNz_sound {l : List UInt8} {a a2 : Nat} {z : Int} (ha : a ≤ l.length) (h : rNz l a = .ok (z, a2)) : Sr l (encI z) a a2 ∧ z ≠ 0 := by
  obtain ⟨x, b, h1, h2⟩ := bd_ok h
  split at h2
  · cases h2
  · injection h2 with h2
    injection h2 with h3 h4
    subst h3 h4
    exact ⟨rInt_sound ha h1, by assumption⟩
theorem rByte_sound {l : List UInt8} {most a b a2 : Nat} (h : rByte most l a = .ok (b, a2)) : Sr l [UInt8.ofNat b] a a2 ∧ b ≤ most := by
  unfold rByte at h
  split at h
  · cases h
  · rename_i x hx
    obtain ⟨hlt, hx⟩ := List.getElem?_eq_some_iff.1 hx
    split at h
    · cases h
    · injection h with h
      injection h with h3 h4
      subst h3 h4
      refine ⟨⟨?_, rfl, hlt⟩, by omega⟩
      rw [List.drop_eq_getElem_cons hlt, hx, ofNat_eq rfl]
      rfl
theorem rFlag_sound {l : List UInt8} {a a2 : Nat} {x : Bool} (h : rFlag l a = .ok (x, a2)) : Sr l (encB x) a a2 := by
  obtain ⟨b, c, h1, h2⟩ := bd_ok h
  injection h2 with h2
  injection h2 with h3 h4
  subst h3 h4
  obtain ⟨h5, h6⟩ := rByte_sound h1
  rcases (by omega : b = 0 ∨ b = 1) with rfl | rfl
  · exact h5
  · exact h5
theorem rRaw_sound {l : List UInt8} {n a a2 : Nat} {s : List UInt8} (ha : a ≤ l.length) (h : rRaw n l a = .ok (s, a2)) : Sr l s a a2 ∧ s.length = n := by
  unfold rRaw at h
  split at h
  · cases h
  · injection h with h
    injection h with h3 h4
    subst h3 h4
    have hl : ((l.drop a).take n).length = n := by rw [List.length_take, List.length_drop]; omega
    refine ⟨⟨?_, by rw [hl], by omega⟩, hl⟩
    rw [← List.drop_drop, List.take_append_drop]
theorem rTxt_sound {l : List UInt8} {a a2 : Nat} {s : List UInt8} (ha : a ≤ l.length) (h : rTxt l a = .ok (s, a2)) : Sr l (encS s) a a2 := by
  obtain ⟨n, b, h1, h2⟩ := bd_ok h
  have h3 := (rLen_sound ha h1).1
  obtain ⟨h4, h5⟩ := rRaw_sound h3.2.2 h2
  unfold encS
  rw [h5]
  exact h3.trans h4
/-- A piece whose bytes are E. -/
def Snd {β : Type} (r : List UInt8 → Nat → Rd β) (E : β → List UInt8) (ok : β → Prop) : Prop := ∀ l a x a2, a ≤ l.length → r l a = .ok (x, a2) → Sr l (E x) a a2 ∧ ok x
theorem rRep_sound {β : Type} {r : List UInt8 → Nat → Rd β} {E : β → List UInt8} {ok : β → Prop} (hr : Snd r E ok) (l : List UInt8) : ∀ (n a : Nat) (xs : List β) (a2 : Nat), a ≤ l.length → rRep (r l) n a = .ok (xs, a2) → Sr l (xs.flatMap E) a a2 ∧ xs.length = n ∧ ∀ x ∈ xs, ok x
  | 0, a, xs, a2, ha, h => by
    injection h with h
    injection h with h3 h4
    subst h3 h4
    exact ⟨Sr.nil ha, rfl, fun x hx => by simp at hx⟩
  | n + 1, a, xs, a2, ha, h => by
    obtain ⟨x, b, h1, h2⟩ := bd_ok h
    obtain ⟨ys, c, h3, h4⟩ := bd_ok h2
    injection h4 with h4
    injection h4 with h5 h6
    subst h5 h6
    obtain ⟨k1, k2⟩ := hr l a x b ha h1
    obtain ⟨k3, k4, k5⟩ := rRep_sound hr l n b ys c k1.2.2 h3
    refine ⟨?_, by rw [List.length_cons, k4], fun y hy => ?_⟩
    · rw [List.flatMap_cons]; exact k1.trans k3
    · rcases List.mem_cons.1 hy with rfl | hy
      · exact k2
      · exact k5 y hy
theorem rLst_sound {β : Type} {r : List UInt8 → Nat → Rd β} {E : β → List UInt8} {ok : β → Prop} (hr : Snd r E ok) : Snd (rLst r) (encL E) (fun xs => ∀ x ∈ xs, ok x) := fun l a xs a2 ha h => by
  obtain ⟨n, b, h1, h2⟩ := bd_ok h
  have h3 := (rLen_sound ha h1).1
  obtain ⟨h4, h5, h6⟩ := rRep_sound hr l n b xs a2 h3.2.2 h2
  unfold encL
  rw [h5]
  exact ⟨h3.trans h4, h6⟩
theorem sInt : Snd rInt encI (fun _ => True) := fun _ _ _ _ ha h => ⟨rInt_sound ha h, trivial⟩
theorem sTxt : Snd rTxt encS (fun _ => True) := fun _ _ _ _ ha h => ⟨rTxt_sound ha h, trivial⟩
theorem sFlag : Snd rFlag encB (fun _ => True) := fun _ _ _ _ _ h => ⟨rFlag_sound h, trivial⟩
theorem pure_ok {β : Type} {x y : β} {a b : Nat} (h : (Except.ok (x, a) : Rd β) = .ok (y, b)) : x = y ∧ a = b := by
  injection h with h
  injection h with h1 h2
  exact ⟨h1, h2⟩
theorem sBand : Snd rBand encBd (fun _ => True) := fun l a x a2 ha h => by
  obtain ⟨x1, b1, h1, h⟩ := bd_ok h
  obtain ⟨x2, b2, h2, h⟩ := bd_ok h
  obtain ⟨rfl, rfl⟩ := pure_ok h
  have k1 := (sInt _ _ _ _ ha h1).1
  have k2 := (sInt _ _ _ _ k1.2.2 h2).1
  exact ⟨k1.trans k2, trivial⟩
theorem sGroup : Snd rGroup encG (fun _ => True) := fun l a x a2 ha h => by
  obtain ⟨x1, b1, h1, h⟩ := bd_ok h
  obtain ⟨x2, b2, h2, h⟩ := bd_ok h
  obtain ⟨rfl, rfl⟩ := pure_ok h
  have k1 := (sTxt _ _ _ _ ha h1).1
  have k2 := (sInt _ _ _ _ k1.2.2 h2).1
  exact ⟨k1.trans k2, trivial⟩
theorem sOptions : Snd rOptions encO (fun _ => True) := fun l a x a2 ha h => by
  obtain ⟨x1, b1, h1, h⟩ := bd_ok h
  obtain ⟨x2, b2, h2, h⟩ := bd_ok h
  obtain ⟨rfl, rfl⟩ := pure_ok h
  have k1 := (sTxt _ _ _ _ ha h1).1
  have k2 := (rLst_sound sTxt _ _ _ _ k1.2.2 h2).1
  exact ⟨k1.trans k2, trivial⟩
theorem sTable : Snd rTable encT (fun _ => True) := fun l a x a2 ha h => by
  obtain ⟨x1, b1, h1, h⟩ := bd_ok h
  obtain ⟨x2, b2, h2, h⟩ := bd_ok h
  obtain ⟨rfl, rfl⟩ := pure_ok h
  have k1 := (sTxt _ _ _ _ ha h1).1
  have k2 := (rLst_sound sBand _ _ _ _ k1.2.2 h2).1
  exact ⟨k1.trans k2, trivial⟩
theorem rOpt_sound {l : List UInt8} {is : Bool} {a a2 : Nat} {z : Int} (ha : a ≤ l.length) (h : rOpt is l a = .ok (z, a2)) : Sr l (encZ z) a a2 ∧ (z = 0 ↔ is = false) := by
  cases is with
  | true =>
    obtain ⟨h1, h2⟩ := rNz_sound ha h
    rw [encZ_pos h2]
    exact ⟨h1, by simp [h2]⟩
  | false =>
    obtain ⟨rfl, rfl⟩ := pure_ok h
    exact ⟨Sr.nil ha, by simp⟩
theorem bits_back {b : Nat} {num den mode : Int} {n : Nat} (hb : b ≤ 15) (h0 : num = 0 ↔ Nat.testBit b 0 = false) (h1 : den = 0 ↔ Nat.testBit b 1 = false) (h2 : mode = 0 ↔ Nat.testBit b 2 = false) (h3 : n = 0 ↔ Nat.testBit b 3 = false) : hasB num den mode n = b := by
  unfold hasB
  have e : (if Nat.testBit b 0 = false then 0 else 1) + (if Nat.testBit b 1 = false then 0 else 2) + (if Nat.testBit b 2 = false then 0 else 4) + (if Nat.testBit b 3 = false then 0 else 8) = b := by
    have : ∀ b : Fin 16, (if Nat.testBit b.1 0 = false then 0 else 1) + (if Nat.testBit b.1 1 = false then 0 else 2) + (if Nat.testBit b.1 2 = false then 0 else 4) + (if Nat.testBit b.1 3 = false then 0 else 8) = b.1 := by decide
    exact this ⟨b, by omega⟩
  simp only [h0, h1, h2, h3]
  exact e
theorem deepF_le {n : Nat} : ∀ l : List Ex, (∀ e ∈ l, deepE e ≤ n) → deepF (ofL l) ≤ n := fun l h => deepF_ofL l h
theorem sExpr : ∀ k, Snd (rExpr k) encE (fun e => deepE e ≤ k)
  | 0 => fun l a x a2 ha h => by cases h
  | k + 1 => fun l a x a2 ha h => by
    obtain ⟨op, b1, h1, h⟩ := bd_ok h
    obtain ⟨b, b2, h2, h⟩ := bd_ok h
    obtain ⟨num, b3, h3, h⟩ := bd_ok h
    obtain ⟨den, b4, h4, h⟩ := bd_ok h
    obtain ⟨mode, b5, h5, h⟩ := bd_ok h
    obtain ⟨es, b6, h6, h⟩ := bd_ok h
    obtain ⟨rfl, rfl⟩ := pure_ok h
    have k1 := rInt_sound ha h1
    obtain ⟨k2, hb⟩ := rByte_sound h2
    obtain ⟨k3, z3⟩ := rOpt_sound k2.2.2 h3
    obtain ⟨k4, z4⟩ := rOpt_sound k3.2.2 h4
    obtain ⟨k5, z5⟩ := rOpt_sound k4.2.2 h5
    have k6 : Sr l (if es.length = 0 then [] else encN es.length ++ es.flatMap encE) b5 b6 ∧ (es.length = 0 ↔ Nat.testBit b 3 = false) ∧ ∀ e ∈ es, deepE e ≤ k := by
      cases hb3 : Nat.testBit b 3 with
      | true =>
        rw [hb3] at h6
        obtain ⟨es2, c, g1, g2⟩ := bd_ok h6
        split at g2
        · cases g2
        · rename_i hne
          obtain ⟨rfl, rfl⟩ := pure_ok g2
          obtain ⟨g3, g4⟩ := rLst_sound (sExpr k) l b5 es2 c k5.2.2 g1
          rw [if_neg hne]
          exact ⟨g3, by simp [hne], g4⟩
      | false =>
        rw [hb3] at h6
        obtain ⟨rfl, rfl⟩ := pure_ok h6
        exact ⟨Sr.nil k5.2.2, by simp, fun e he => by simp at he⟩
    have hB := bits_back hb z3 z4 z5 k6.2.1
    refine ⟨?_, ?_⟩
    · unfold encE
      simp only [ofL_len, hB, encF_ofL]
      exact k1.trans (k2.trans (k3.trans (k4.trans (k5.trans k6.1))))
    · show 1 + deepF (ofL es) ≤ k + 1
      have := deepF_le es k6.2.2
      omega
theorem sClause : Snd rClause encC okC := fun l a x a2 ha h => by
  obtain ⟨x1, b1, h1, h⟩ := bd_ok h
  obtain ⟨x2, b2, h2, h⟩ := bd_ok h
  obtain ⟨x3, b3, h3, h⟩ := bd_ok h
  obtain ⟨x4, b4, h4, h⟩ := bd_ok h
  obtain ⟨rfl, rfl⟩ := pure_ok h
  have k1 := (sInt _ _ _ _ ha h1).1
  have k2 := (sFlag _ _ _ _ k1.2.2 h2).1
  obtain ⟨k3, d3⟩ := sExpr 64 _ _ _ _ k2.2.2 h3
  obtain ⟨k4, d4⟩ := sExpr 64 _ _ _ _ k3.2.2 h4
  exact ⟨((k1.trans k2).trans k3).trans k4, by show deepE x3 + 1 ≤ 65; omega, by show deepE x4 + 1 ≤ 65; omega⟩
theorem sLine : Snd rLine encLn okL := fun l a x a2 ha h => by
  obtain ⟨x1, b1, h1, h⟩ := bd_ok h
  obtain ⟨x2, b2, h2, h⟩ := bd_ok h
  obtain ⟨x3, b3, h3, h⟩ := bd_ok h
  obtain ⟨x4, b4, h4, h⟩ := bd_ok h
  obtain ⟨x5, b5, h5, h⟩ := bd_ok h
  obtain ⟨x6, b6, h6, h⟩ := bd_ok h
  obtain ⟨x7, b7, h7, h⟩ := bd_ok h
  obtain ⟨rfl, rfl⟩ := pure_ok h
  have k1 := (sTxt _ _ _ _ ha h1).1
  have k2 := (sFlag _ _ _ _ k1.2.2 h2).1
  have k3 := (sFlag _ _ _ _ k2.2.2 h3).1
  have k4 := (sInt _ _ _ _ k3.2.2 h4).1
  have k5 := (sInt _ _ _ _ k4.2.2 h5).1
  have k6 := (sInt _ _ _ _ k5.2.2 h6).1
  obtain ⟨k7, d7⟩ := rLst_sound sClause _ _ _ _ k6.2.2 h7
  exact ⟨(((((k1.trans k2).trans k3).trans k4).trans k5).trans k6).trans k7, d7⟩
theorem sCheck : Snd rCheck encK okK := fun l a x a2 ha h => by
  obtain ⟨x1, b1, h1, h⟩ := bd_ok h
  obtain ⟨x2, b2, h2, h⟩ := bd_ok h
  obtain ⟨x3, b3, h3, h⟩ := bd_ok h
  obtain ⟨x4, b4, h4, h⟩ := bd_ok h
  obtain ⟨x5, b5, h5, h⟩ := bd_ok h
  obtain ⟨rfl, rfl⟩ := pure_ok h
  have k1 := (sTxt _ _ _ _ ha h1).1
  have k2 := (sFlag _ _ _ _ k1.2.2 h2).1
  have k3 := (sInt _ _ _ _ k2.2.2 h3).1
  obtain ⟨k4, d4⟩ := sExpr 64 _ _ _ _ k3.2.2 h4
  have k5 := (sTxt _ _ _ _ k4.2.2 h5).1
  exact ⟨(((k1.trans k2).trans k3).trans k4).trans k5, by show deepE x4 + 1 ≤ 65; omega⟩
theorem rPack_sound {l : List UInt8} {p : Pk} {a2 : Nat} (h : rPack l 0 = .ok (p, a2)) : l = encP p ++ sum4 (fnvB (encP p)) ∧ okP p := by
  obtain ⟨x0, b0, h0, h⟩ := bd_ok h
  obtain ⟨x1, b1, h1, h⟩ := bd_ok h
  obtain ⟨x2, b2, h2, h⟩ := bd_ok h
  obtain ⟨x3, b3, h3, h⟩ := bd_ok h
  obtain ⟨x4, b4, h4, h⟩ := bd_ok h
  obtain ⟨x5, b5, h5, h⟩ := bd_ok h
  obtain ⟨x6, b6, h6, h⟩ := bd_ok h
  obtain ⟨x7, b7, h7, h⟩ := bd_ok h
  obtain ⟨x8, b8, h8, h⟩ := bd_ok h
  obtain ⟨rfl, rfl⟩ := pure_ok h
  obtain ⟨s, c0, g0, g1⟩ := bd_ok h0
  have k0 := (rRaw_sound (Nat.zero_le _) g0).1
  split at g1
  · rename_i hs
    obtain ⟨-, rfl⟩ := pure_ok g1
    rw [hs] at k0
    have k1 := (sTxt _ _ _ _ k0.2.2 h1).1
    have k2 := (sInt _ _ _ _ k1.2.2 h2).1
    have k3 := (rLst_sound sOptions _ _ _ _ k2.2.2 h3).1
    have k4 := (rLst_sound sTable _ _ _ _ k3.2.2 h4).1
    have k5 := (rLst_sound sGroup _ _ _ _ k4.2.2 h5).1
    obtain ⟨k6, d6⟩ := rLst_sound sLine _ _ _ _ k5.2.2 h6
    obtain ⟨k7, d7⟩ := rLst_sound sCheck _ _ _ _ k6.2.2 h7
    have kk : Sr l (encP ⟨x1, x2, x3, x4, x5, x6, x7⟩) 0 b7 := ((((((k0.trans k1).trans k2).trans k3).trans k4).trans k5).trans k6).trans k7
    obtain ⟨s8, c8, g8, g9⟩ := bd_ok h8
    obtain ⟨q8, q9⟩ := rRaw_sound k7.2.2 g8
    split at g9
    · rename_i hs8
      split at g9
      · cases g9
      · rename_i hlast
        refine ⟨?_, d6, d7⟩
        have e1 := kk.1
        rw [List.drop_zero] at e1
        have hb7 : l.take b7 = encP ⟨x1, x2, x3, x4, x5, x6, x7⟩ := by
          have := congrArg (List.take b7) e1
          rw [this, kk.2.1, Nat.zero_add, List.take_left]
        rw [hb7] at hs8
        have e2 := q8.1
        rw [List.drop_eq_nil_of_le (by omega : l.length ≤ c8), List.append_nil, hs8] at e2
        rw [← e2]
        exact e1
    · cases g9
  · cases g1

end Go.Proofs.Ytjgngmmepheioaa


/- WHAT IS WRITTEN IS READ. No program. -/
namespace Go.Proofs.Ytjgngmmepheioaa

theorem nGo_enc {len at_ : Nat} (t : List UInt8) : ∀ (k n i acc : Nat), n < 2 ^ k → n * 128 ^ i < 18446744073709551616 → (0 < i → n ≠ 0) → nGo len at_ (encN n ++ t) i acc = .ok (acc + n * 128 ^ i, at_ + (i + (encN n).length))
  | k, n, i, acc, hk, hn, hi => by
    by_cases hs : n < 128
    · rw [encN_small hs]
      show nGo len at_ (UInt8.ofNat n :: t) i acc = _
      have e : (UInt8.ofNat n).toNat = n := by rw [UInt8.toNat_ofNat']; omega
      rw [nGo_cons, e, if_neg, if_pos hs, Nat.mod_eq_of_lt hs]
      · rfl
      · rintro (⟨rfl, h⟩ | ⟨h, h0⟩)
        · have e9 : (128 : Nat) ^ 9 = 9223372036854775808 := by decide
          omega
        · exact hi h h0
    · rw [encN_big hs]
      show nGo len at_ (UInt8.ofNat (n % 128 + 128) :: (encN (n / 128) ++ t)) i acc = _
      have e : (UInt8.ofNat (n % 128 + 128)).toNat = n % 128 + 128 := by rw [UInt8.toNat_ofNat']; omega
      have h9 : i ≠ 9 := fun h => by
        subst h
        have e9 : (128 : Nat) ^ 9 = 9223372036854775808 := by decide
        omega
      have hm : (n % 128 + 128) % 128 = n % 128 := by omega
      have hsum : n % 128 * 128 ^ i + n / 128 * 128 ^ (i + 1) = n * 128 ^ i := by
        rw [Nat.pow_succ, Nat.mul_comm (128 ^ i) 128, ← Nat.mul_assoc, ← Nat.add_mul]
        congr 1
        omega
      cases k with
      | zero => simp at hk; omega
      | succ k =>
        rw [nGo_cons, e, if_neg (by omega), if_neg (by omega), hm, nGo_enc t k (n / 128) (i + 1) _ (by rw [Nat.pow_succ] at hk; omega) (by omega) (fun _ => by omega), List.length_cons]
        congr 2
        · omega
        · omega
theorem drop_more {l x t : List UInt8} {a : Nat} (h : l.drop a = x ++ t) : l.drop (a + x.length) = t := by rw [← List.drop_drop, h, List.drop_left]
theorem drop_len {l x t : List UInt8} {a : Nat} (h : l.drop a = x ++ t) (hx : 0 < x.length) : a + x.length + t.length = l.length := by
  have := congrArg List.length h
  rw [List.length_drop, List.length_append] at this
  omega
theorem cN {l t : List UInt8} {a n : Nat} (hn : n < 18446744073709551616) (h : l.drop a = encN n ++ t) : rN l a = .ok (n, a + (encN n).length) := by
  unfold rN
  rw [h, nGo_enc t 64 n 0 0 (by simpa using hn) (by simpa using hn) (fun h => absurd h (Nat.lt_irrefl _))]
  simp
theorem cLen {l t : List UInt8} {a n : Nat} (hn : n < 18446744073709551616) (h : l.drop a = encN n ++ t) (hl : n ≤ t.length) : rLen l a = .ok (n, a + (encN n).length) := by
  unfold rLen
  rw [cN hn h]
  show (if l.length - (a + (encN n).length) < n then _ else _) = _
  have := drop_len h (encN_pos n)
  rw [if_neg (by omega)]
theorem zig_lt {z : Int} (h : Rg z) : zig z < 18446744073709551616 := by
  obtain ⟨h1, h2⟩ := h
  unfold zig
  split <;> omega
theorem unz_zig (z : Int) : unz (zig z) = z := by
  unfold unz zig
  split <;> split <;> omega
theorem cInt {l t : List UInt8} {a : Nat} {z : Int} (hz : Rg z) (h : l.drop a = encI z ++ t) : rInt l a = .ok (z, a + (encI z).length) := by
  unfold rInt
  rw [cN (zig_lt hz) h]
  show Except.ok (unz (zig z), _) = _
  rw [unz_zig]
  rfl
theorem cNz {l t : List UInt8} {a : Nat} {z : Int} (hz : Rg z) (h0 : z ≠ 0) (h : l.drop a = encI z ++ t) : rNz l a = .ok (z, a + (encI z).length) := by
  unfold rNz
  rw [cInt hz h]
  show (if z = 0 then _ else _) = _
  rw [if_neg h0]
theorem cByte {l t : List UInt8} {most a b : Nat} (hb : b ≤ most) (h2 : b < 256) (h : l.drop a = [UInt8.ofNat b] ++ t) : rByte most l a = .ok (b, a + 1) := by
  have e : l[a]? = some (UInt8.ofNat b) := by
    have := congrArg (fun l => l[0]?) h
    simp only [List.getElem?_drop, Nat.add_zero] at this
    rw [this]
    rfl
  unfold rByte
  rw [e]
  have e2 : (UInt8.ofNat b).toNat = b := by rw [UInt8.toNat_ofNat']; omega
  show (if most < (UInt8.ofNat b).toNat then _ else Except.ok ((UInt8.ofNat b).toNat, _)) = _
  rw [e2, if_neg (by omega)]
theorem cFlag {l t : List UInt8} {a : Nat} {x : Bool} (h : l.drop a = encB x ++ t) : rFlag l a = .ok (x, a + (encB x).length) := by
  unfold rFlag
  cases x with
  | true => rw [cByte (b := 1) (by decide) (by decide) h]; rfl
  | false => rw [cByte (b := 0) (by decide) (by decide) h]; rfl
theorem cRaw {l s t : List UInt8} {a : Nat} (h : l.drop a = s ++ t) : rRaw s.length l a = .ok (s, a + s.length) := by
  have := congrArg List.length h
  rw [List.length_drop, List.length_append] at this
  unfold rRaw
  rw [if_neg (by omega), h, List.take_left]
/-- A piece that reads what is written. -/
def Cm {β : Type} (r : List UInt8 → Nat → Rd β) (E : β → List UInt8) (ok : β → Prop) : Prop := ∀ l a x t, l.length < 18446744073709551616 → l.drop a = E x ++ t → ok x → r l a = .ok (x, a + (E x).length)
theorem cTxt : Cm rTxt encS (fun _ => True) := fun l a s t hl h _ => by
  unfold encS at h ⊢
  rw [List.append_assoc] at h
  have h0 := drop_len h (encN_pos _)
  rw [List.length_append] at h0
  unfold rTxt
  rw [cLen (by omega) h (by rw [List.length_append]; omega)]
  show rRaw s.length l _ = _
  rw [cRaw (drop_more h), List.length_append, Nat.add_assoc]
theorem mInt : Cm rInt encI Rg := fun _ _ _ _ _ h hz => cInt hz h
theorem mFlag : Cm rFlag encB (fun _ => True) := fun _ _ _ _ _ h _ => cFlag h
theorem cRep {β : Type} {r : List UInt8 → Nat → Rd β} {E : β → List UInt8} {ok : β → Prop} (hr : Cm r E ok) (l : List UInt8) (hl : l.length < 18446744073709551616) : ∀ (xs : List β) (a : Nat) (t : List UInt8), l.drop a = xs.flatMap E ++ t → (∀ x ∈ xs, ok x) → rRep (r l) xs.length a = .ok (xs, a + (xs.flatMap E).length)
  | [], a, t, _, _ => rfl
  | x :: xs, a, t, h, hx => by
    rw [List.flatMap_cons, List.append_assoc] at h
    show bd (r l a) _ = _
    rw [hr l a x _ hl h (hx x (by simp))]
    show bd (rRep (r l) xs.length (a + (E x).length)) _ = _
    rw [cRep hr l hl xs _ t (drop_more h) (fun y hy => hx y (List.mem_cons_of_mem _ hy))]
    show Except.ok (x :: xs, _) = _
    rw [List.flatMap_cons, List.length_append, Nat.add_assoc]
theorem cLst {β : Type} {r : List UInt8 → Nat → Rd β} {E : β → List UInt8} {ok : β → Prop} (hr : Cm r E ok) (hp : ∀ x, 0 < (E x).length) : Cm (rLst r) (encL E) (fun xs => ∀ x ∈ xs, ok x) := fun l a xs t hl h hx => by
  unfold encL at h ⊢
  rw [List.append_assoc] at h
  have h0 := drop_len h (encN_pos _)
  have h1 := len_le E hp xs
  rw [List.length_append] at h0
  unfold rLst
  rw [cLen (by omega) h (by rw [List.length_append]; omega)]
  show rRep (r l) xs.length _ = _
  rw [cRep hr l hl xs _ t (drop_more h) hx, List.length_append, Nat.add_assoc]
theorem cBand : Cm rBand encBd (fun b => Rg b.1 ∧ Rg b.2) := fun l a x t hl h hx => by
  unfold encBd at h ⊢
  rw [List.append_assoc] at h
  unfold rBand
  rw [mInt l a x.1 _ hl h hx.1]
  show bd (rInt l _) _ = _
  rw [mInt l _ x.2 t hl (drop_more h) hx.2, List.length_append, ← Nat.add_assoc]
  rfl
theorem cGroup : Cm rGroup encG (fun g => Rg g.2) := fun l a x t hl h hx => by
  unfold encG at h ⊢
  rw [List.append_assoc] at h
  unfold rGroup
  rw [cTxt l a x.1 _ hl h trivial]
  show bd (rInt l _) _ = _
  rw [mInt l _ x.2 t hl (drop_more h) hx, List.length_append, ← Nat.add_assoc]
  rfl
theorem cOptions : Cm rOptions encO (fun _ => True) := fun l a x t hl h _ => by
  unfold encO at h ⊢
  rw [List.append_assoc] at h
  unfold rOptions
  rw [cTxt l a x.1 _ hl h trivial]
  show bd (rLst rTxt l _) _ = _
  rw [cLst cTxt encS_pos l _ x.2 t hl (drop_more h) (fun _ _ => trivial), List.length_append, ← Nat.add_assoc]
  rfl
theorem cTable : Cm rTable encT (fun x => ∀ b ∈ x.2, Rg b.1 ∧ Rg b.2) := fun l a x t hl h hx => by
  unfold encT at h ⊢
  rw [List.append_assoc] at h
  unfold rTable
  rw [cTxt l a x.1 _ hl h trivial]
  show bd (rLst rBand l _) _ = _
  rw [cLst cBand encBd_pos l _ x.2 t hl (drop_more h) hx, List.length_append, ← Nat.add_assoc]
  rfl
def RgF : Fo → Prop
  | .nil => True
  | .cons op num den mode args rest => (Rg op ∧ Rg num ∧ Rg den ∧ Rg mode) ∧ RgF args ∧ RgF rest
def RgE (e : Ex) : Prop := Rg4 e ∧ RgF e.args
theorem toL_ok {n : Nat} : ∀ f : Fo, RgF f → deepF f ≤ n → ∀ x ∈ toL f, deepE x ≤ n ∧ RgE x
  | .nil, _, _, x, hx => by cases hx
  | .cons a b c d y r, h, hd, x, hx => by
    have hd : max (1 + deepF y) (deepF r) ≤ n := hd
    rcases List.mem_cons.1 hx with rfl | hx
    · exact ⟨by show 1 + deepF y ≤ n; omega, h.1, h.2.1⟩
    · exact toL_ok r h.2.2 (by omega) x hx
theorem hasB_bits (num den mode : Int) (n : Nat) : hasB num den mode n ≤ 15 ∧ Nat.testBit (hasB num den mode n) 0 = !decide (num = 0) ∧ Nat.testBit (hasB num den mode n) 1 = !decide (den = 0) ∧ Nat.testBit (hasB num den mode n) 2 = !decide (mode = 0) ∧ Nat.testBit (hasB num den mode n) 3 = !decide (n = 0) := by
  unfold hasB
  by_cases h0 : num = 0 <;> by_cases h1 : den = 0 <;> by_cases h2 : mode = 0 <;> by_cases h3 : n = 0 <;> simp [h0, h1, h2, h3] <;> decide
theorem cOpt {l t : List UInt8} {a : Nat} {z : Int} {is : Bool} (hi : is = !decide (z = 0)) (hz : Rg z) (h : l.drop a = encZ z ++ t) : rOpt is l a = .ok (z, a + (encZ z).length) := by
  by_cases h0 : z = 0
  · subst h0
    subst hi
    rfl
  · rw [encZ_pos h0] at h ⊢
    have : is = true := by rw [hi]; simp [h0]
    subst this
    exact cNz hz h0 h
theorem encE_eq (e : Ex) : encE e = encI e.op ++ ([UInt8.ofNat (hasB e.num e.den e.mode e.args.len)] ++ (encZ e.num ++ (encZ e.den ++ (encZ e.mode ++ (if e.args.len = 0 then [] else encN e.args.len ++ (toL e.args).flatMap encE))))) := by
  have h : encE e = encI e.op ++ ([UInt8.ofNat (hasB e.num e.den e.mode e.args.len)] ++ (encZ e.num ++ (encZ e.den ++ (encZ e.mode ++ (if e.args.len = 0 then [] else encN e.args.len ++ encF e.args))))) := rfl
  rw [h, encF_toL]
theorem cExpr : ∀ k, Cm (rExpr k) encE (fun e => deepE e ≤ k ∧ RgE e)
  | 0 => fun l a x t hl h hx => by
    have := hx.1
    unfold deepE at this
    omega
  | k + 1 => fun l a x t hl h hx => by
    obtain ⟨hd, ⟨r1, r2, r3, r4⟩, hF⟩ := hx
    have hd : 1 + deepF x.args ≤ k + 1 := hd
    obtain ⟨b0, b1, b2, b3, b4⟩ := hasB_bits x.num x.den x.mode x.args.len
    rw [encE_eq] at h ⊢
    generalize hasB x.num x.den x.mode x.args.len = b at *
    simp only [List.append_assoc] at h
    show bd (rInt l a) _ = _
    rw [cInt r1 h]
    have h := drop_more h
    show bd (rByte 15 l _) _ = _
    rw [cByte b0 (by omega) h]
    have h := drop_more h
    show bd (rOpt _ l _) _ = _
    rw [List.length_singleton] at h
    rw [cOpt b1 r2 h]
    have h := drop_more h
    show bd (rOpt _ l _) _ = _
    rw [cOpt b2 r3 h]
    have h := drop_more h
    show bd (rOpt _ l _) _ = _
    rw [cOpt b3 r4 h]
    have h := drop_more h
    show bd (rArg _ (rExpr k) l _) _ = _
    by_cases h0 : x.args.len = 0
    · have e3 : Nat.testBit b 3 = false := by rw [b4, h0]; rfl
      rw [e3, if_pos h0]
      have e4 : x.args = .nil := by
        obtain ⟨_, _, _, _, args⟩ := x
        cases args with
        | nil => rfl
        | cons _ _ _ _ _ _ => exact absurd h0 (Nat.succ_ne_zero _)
      show Except.ok (Ex.mk x.op x.num x.den x.mode Fo.nil, _) = _
      rw [← e4]
      simp only [List.length_append, List.length_singleton, List.length_nil, Nat.add_zero, Nat.add_assoc]
    · have e3 : Nat.testBit b 3 = true := by rw [b4]; simp [h0]
      rw [if_neg h0] at h ⊢
      have h' : l.drop (a + (encI x.op).length + 1 + (encZ x.num).length + (encZ x.den).length + (encZ x.mode).length) = encL encE (toL x.args) ++ t := by
        unfold encL
        rw [toL_len, List.append_assoc]
        rw [List.append_assoc] at h
        exact h
      have hc := cLst (cExpr k) encE_pos l _ (toL x.args) t hl h' (toL_ok x.args hF (by omega))
      rw [e3]
      show bd (bd (rLst (rExpr k) l _) _) _ = _
      rw [hc]
      have e5 : ¬ (toL x.args).length = 0 := by rw [toL_len]; exact h0
      show bd (if (toL x.args).length = 0 then _ else _) _ = _
      rw [if_neg e5]
      show Except.ok (Ex.mk x.op x.num x.den x.mode (ofL (toL x.args)), _) = _
      rw [ofL_toL]
      unfold encL
      rw [toL_len]
      simp only [List.length_append, List.length_singleton, Nat.add_assoc]
def RgC (c : Cl) : Prop := Rg c.pri ∧ RgE c.guard ∧ RgE c.body
def RgL (l : Ln) : Prop := (Rg l.type ∧ Rg l.opts ∧ Rg l.group) ∧ ∀ c ∈ l.cls, RgC c
def RgK (c : Ck) : Prop := Rg c.group ∧ RgE c.when_
theorem cClause : Cm rClause encC (fun c => okC c ∧ RgC c) := fun l a x t hl h hx => by
  obtain ⟨⟨d1, d2⟩, r1, r2, r3⟩ := hx
  unfold encC at h ⊢
  simp only [List.append_assoc] at h
  unfold rClause
  rw [cInt r1 h]
  have h := drop_more h
  show bd (rFlag l _) _ = _
  rw [cFlag h]
  have h := drop_more h
  show bd (rExpr 64 l _) _ = _
  rw [cExpr 64 l _ _ _ hl h ⟨by omega, r2⟩]
  have h := drop_more h
  show bd (rExpr 64 l _) _ = _
  rw [cExpr 64 l _ _ _ hl h ⟨by omega, r3⟩]
  show Except.ok (x, _) = _
  simp only [List.length_append, Nat.add_assoc]
theorem cLine : Cm rLine encLn (fun x => okL x ∧ RgL x) := fun l a x t hl h hx => by
  obtain ⟨d1, ⟨r1, r2, r3⟩, r4⟩ := hx
  unfold encLn at h ⊢
  simp only [List.append_assoc] at h
  unfold rLine
  rw [cTxt l a _ _ hl h trivial]
  have h := drop_more h
  show bd (rFlag l _) _ = _
  rw [cFlag h]
  have h := drop_more h
  show bd (rFlag l _) _ = _
  rw [cFlag h]
  have h := drop_more h
  show bd (rInt l _) _ = _
  rw [cInt r1 h]
  have h := drop_more h
  show bd (rInt l _) _ = _
  rw [cInt r2 h]
  have h := drop_more h
  show bd (rInt l _) _ = _
  rw [cInt r3 h]
  have h := drop_more h
  show bd (rLst rClause l _) _ = _
  rw [cLst cClause encC_pos l _ _ _ hl h (fun c hc => ⟨d1 c hc, r4 c hc⟩)]
  show Except.ok (x, _) = _
  simp only [List.length_append, Nat.add_assoc]
theorem cCheck : Cm rCheck encK (fun x => okK x ∧ RgK x) := fun l a x t hl h hx => by
  obtain ⟨d1, r1, r2⟩ := hx
  have d1 : deepE x.when_ + 1 ≤ 65 := d1
  unfold encK at h ⊢
  simp only [List.append_assoc] at h
  unfold rCheck
  rw [cTxt l a _ _ hl h trivial]
  have h := drop_more h
  show bd (rFlag l _) _ = _
  rw [cFlag h]
  have h := drop_more h
  show bd (rInt l _) _ = _
  rw [cInt r1 h]
  have h := drop_more h
  show bd (rExpr 64 l _) _ = _
  rw [cExpr 64 l _ _ _ hl h ⟨by omega, r2⟩]
  have h := drop_more h
  show bd (rTxt l _) _ = _
  rw [cTxt l _ _ _ hl h trivial]
  show Except.ok (x, _) = _
  simp only [List.length_append, Nat.add_assoc]
structure RgP (p : Pk) : Prop where
  year : Rg p.year
  tabs : ∀ x ∈ p.tabs, ∀ b ∈ x.2, Rg b.1 ∧ Rg b.2
  grps : ∀ x ∈ p.grps, Rg x.2
  lns : ∀ x ∈ p.lns, RgL x
  cks : ∀ x ∈ p.cks, RgK x
/-- What stands behind the sum. -/
theorem cPack {p : Pk} (hr : RgP p) (hok : okP p) (t : List UInt8) (hl : (encP p ++ (sum4 (fnvB (encP p)) ++ t)).length < 18446744073709551616) : rPack (encP p ++ (sum4 (fnvB (encP p)) ++ t)) 0 = if t = [] then .ok (p, (encP p).length + 4) else .error ((encP p).length + 4, 73) := by
  obtain ⟨l, hle⟩ : ∃ l, encP p ++ (sum4 (fnvB (encP p)) ++ t) = l := ⟨_, rfl⟩
  rw [hle] at hl ⊢
  have htk : l.take (encP p).length = encP p := by rw [← hle, List.take_left]
  have hll := congrArg List.length hle
  rw [List.length_append, List.length_append] at hll
  have hn : (encP p).length = 4 + (encS p.name).length + (encI p.year).length + (encL encO p.opts).length + (encL encT p.tabs).length + (encL encG p.grps).length + (encL encLn p.lns).length + (encL encK p.cks).length := by
    unfold encP
    simp only [List.length_append]
    rfl
  obtain ⟨S, hS⟩ : ∃ S, sum4 (fnvB (encP p)) = S := ⟨_, rfl⟩
  have hS4 : S.length = 4 := by rw [← hS]; rfl
  rw [hS] at hle hll
  have h : l.drop 0 = encP p ++ (S ++ t) := hle.symm
  have h7 := drop_more h
  rw [Nat.zero_add] at h7
  have h := h
  unfold encP at h
  simp only [List.append_assoc] at h
  have hh : rHead l 0 = .ok ((), 4) := by
    unfold rHead
    rw [show rRaw 4 l 0 = .ok ([76, 86, 89, 49], 4) from cRaw (s := [76, 86, 89, 49]) h]
    rfl
  show bd (rHead l 0) _ = _
  rw [hh]
  have h : l.drop 4 = _ := drop_more h
  show bd (rTxt l 4) _ = _
  rw [cTxt l _ _ _ hl h trivial]
  have h := drop_more h
  show bd (rInt l _) _ = _
  rw [cInt hr.year h]
  have h := drop_more h
  show bd (rLst rOptions l _) _ = _
  rw [cLst cOptions encO_pos l _ _ _ hl h (fun _ _ => trivial)]
  have h := drop_more h
  show bd (rLst rTable l _) _ = _
  rw [cLst cTable encT_pos l _ _ _ hl h hr.tabs]
  have h := drop_more h
  show bd (rLst rGroup l _) _ = _
  rw [cLst cGroup encG_pos l _ _ _ hl h hr.grps]
  have h := drop_more h
  show bd (rLst rLine l _) _ = _
  rw [cLst cLine encLn_pos l _ _ _ hl h (fun x hx => ⟨hok.1 x hx, hr.lns x hx⟩)]
  have h := drop_more h
  show bd (rLst rCheck l _) _ = _
  rw [cLst cCheck encK_pos l _ _ _ hl h (fun x hx => ⟨hok.2 x hx, hr.cks x hx⟩)]
  rw [← hn]
  have hs : rSum l (encP p).length = if t = [] then .ok ((), (encP p).length + 4) else .error ((encP p).length + 4, 73) := by
    unfold rSum
    have hc := cRaw h7
    rw [hS4] at hc
    rw [hc, htk, hS]
    show (if S = S then (if 0 < l.length - ((encP p).length + 4) then _ else _) else _) = _
    rw [if_pos rfl]
    by_cases ht : t = []
    · have : t.length = 0 := by rw [ht]; rfl
      rw [if_pos ht, if_neg (by omega)]
    · have : 0 < t.length := List.length_pos_iff.2 ht
      rw [if_neg ht, if_pos (by omega)]
  show bd (rSum l _) _ = _
  rw [hs]
  by_cases ht : t = []
  · rw [if_pos ht, if_pos ht]; rfl
  · rw [if_neg ht, if_neg ht]; rfl

end Go.Proofs.Ytjgngmmepheioaa

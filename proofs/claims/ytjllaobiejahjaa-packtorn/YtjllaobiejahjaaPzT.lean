import Derived.Test.YtjllaobiejahjaaPzC
/- WHAT IS CUT IS TOO SHORT. No program. -/
namespace Go.Proofs.Ytjllaobiejahjaa

/-- A piece that is cut says so. -/
def Tr {β : Type} (r : List UInt8 → Nat → Rd β) (E : β → List UInt8) (ok : β → Prop) : Prop := ∀ l a x u, l.length < 18446744073709551616 → a ≤ l.length → u ≠ [] → (E x).length < 18446744073709551616 → E x = l.drop a ++ u → ok x → r l a = .error (l.length, 70)
theorem bd_err {β γ : Type} {m : Rd β} {k : β → Nat → Rd γ} {e : Nat × Nat} (h : m = .error e) : bd m k = .error e := by rw [h]; rfl
theorem bd_go {β γ : Type} {m : Rd β} {k : β → Nat → Rd γ} {x : β} {a : Nat} (h : m = .ok (x, a)) : bd m k = k x a := by rw [h]; rfl
/-- A cut in a sum of two. -/
theorem cut_two {x y s u : List UInt8} (h : x ++ y = s ++ u) : (∃ v, v ≠ [] ∧ x = s ++ v) ∨ ∃ s', s = x ++ s' ∧ y = s' ++ u := by
  rcases List.append_eq_append_iff.1 h with ⟨a, h1, h2⟩ | ⟨c, h1, h2⟩
  · exact .inr ⟨a, h1, h2⟩
  · by_cases hc : c = []
    · subst hc
      exact .inr ⟨[], by rw [List.append_nil]; rw [List.append_nil] at h1; exact h1.symm, by simpa using h2.symm⟩
    · exact .inl ⟨c, hc, h1⟩
theorem nGo_cut {len at_ : Nat} : ∀ (k n i acc : Nat) (s u : List UInt8), n < 2 ^ k → n * 128 ^ i < 18446744073709551616 → (0 < i → n ≠ 0) → u ≠ [] → encN n = s ++ u → nGo len at_ s i acc = .error (len, 70)
  | k, n, i, acc, [], u, _, _, _, _, _ => rfl
  | k, n, i, acc, b :: s, u, hk, hn, hi, hu, h => by
    by_cases hs : n < 128
    · rw [encN_small hs] at h
      injection h with h1 h2
      have h2 : [] = s ++ u := h2
      exact absurd (List.append_eq_nil_iff.1 h2.symm).2 hu
    · rw [encN_big hs] at h
      injection h with h1 h2
      have h2 : encN (n / 128) = s ++ u := h2
      have e : b.toNat = n % 128 + 128 := by rw [← h1, UInt8.toNat_ofNat']; omega
      have h9 : i ≠ 9 := fun h => by
        subst h
        have e9 : (128 : Nat) ^ 9 = 9223372036854775808 := by decide
        omega
      have hsum : n % 128 * 128 ^ i + n / 128 * 128 ^ (i + 1) = n * 128 ^ i := by
        rw [Nat.pow_succ, Nat.mul_comm (128 ^ i) 128, ← Nat.mul_assoc, ← Nat.add_mul]
        congr 1
        omega
      cases k with
      | zero => simp at hk; omega
      | succ k =>
        rw [nGo_cons, e, if_neg (by omega), if_neg (by omega)]
        exact nGo_cut k (n / 128) (i + 1) _ s u (by rw [Nat.pow_succ] at hk; omega) (by omega) (fun _ => by omega) hu h2
theorem tN {l u : List UInt8} {a n : Nat} (hn : n < 18446744073709551616) (hu : u ≠ []) (h : encN n = l.drop a ++ u) : rN l a = .error (l.length, 70) := nGo_cut 64 n 0 0 _ u (by simpa using hn) (by simpa using hn) (fun h => absurd h (Nat.lt_irrefl _)) hu h
theorem tInt : Tr rInt encI Rg := fun _ _ _ _ _ _ hu _ h hx => bd_err (tN (zig_lt hx) hu h)
theorem tByte {l u : List UInt8} {most a b : Nat} (hu : u ≠ []) (h : [UInt8.ofNat b] = l.drop a ++ u) : rByte most l a = .error (l.length, 70) := by
  have hl := congrArg List.length h
  rw [List.length_append, List.length_drop, List.length_singleton] at hl
  have : 0 < u.length := List.length_pos_iff.2 hu
  unfold rByte
  rw [List.getElem?_eq_none (by omega)]
theorem tFlag : Tr rFlag encB (fun _ => True) := fun _ _ x _ _ _ hu _ h _ => by
  cases x with
  | true => exact bd_err (tByte (b := 1) hu h)
  | false => exact bd_err (tByte (b := 0) hu h)
theorem tRaw {l s u : List UInt8} {a : Nat} (hu : u ≠ []) (h : s = l.drop a ++ u) : rRaw s.length l a = .error (l.length, 70) := by
  have hl := congrArg List.length h
  rw [List.length_append, List.length_drop] at hl
  have : 0 < u.length := List.length_pos_iff.2 hu
  exact if_pos (by omega)
/-- Two pieces, one behind the other. -/
theorem tr_two {β γ : Type} {r : List UInt8 → Nat → Rd β} {E : β → List UInt8} {ok : β → Prop} {K : β → Nat → Rd γ} {l y u : List UInt8} {a : Nat} {x : β} (hc : Cm r E ok) (ht : Tr r E ok) (hl : l.length < 18446744073709551616) (ha : a ≤ l.length) (hb : (E x).length < 18446744073709551616) (h : E x ++ y = l.drop a ++ u) (hx : ok x) (next : ∀ s', y = s' ++ u → l.drop (a + (E x).length) = s' → a + (E x).length ≤ l.length → K x (a + (E x).length) = .error (l.length, 70)) : bd (r l a) K = .error (l.length, 70) := by
  rcases cut_two h with ⟨v, hv, h1⟩ | ⟨s', h1, h2⟩
  · exact bd_err (ht l a x v hl ha hv hb h1 hx)
  · rw [bd_go (hc l a x s' hl h1 hx)]
    have hlen := congrArg List.length h1
    rw [List.length_drop, List.length_append] at hlen
    exact next s' h2 (by rw [← List.drop_drop, h1, List.drop_left]) (by omega)
theorem tLen {γ : Type} {K : Nat → Nat → Rd γ} {l y u : List UInt8} {a n : Nat} (hn : n < 18446744073709551616) (ha : a ≤ l.length) (h : encN n ++ y = l.drop a ++ u) (next : ∀ s', y = s' ++ u → l.drop (a + (encN n).length) = s' → a + (encN n).length ≤ l.length → n ≤ s'.length → K n (a + (encN n).length) = .error (l.length, 70)) : bd (rLen l a) K = .error (l.length, 70) := by
  rcases cut_two h with ⟨v, hv, h1⟩ | ⟨s', h1, h2⟩
  · exact bd_err (bd_err (tN hn hv h1))
  · have hlen := congrArg List.length h1
    rw [List.length_drop, List.length_append] at hlen
    have hd : l.drop (a + (encN n).length) = s' := by rw [← List.drop_drop, h1, List.drop_left]
    by_cases hs : n ≤ s'.length
    · rw [bd_go (cLen hn h1 hs)]
      exact next s' h2 hd (by omega) hs
    · refine bd_err ?_
      unfold rLen
      rw [cN hn h1]
      exact if_pos (by omega)
theorem tTxt : Tr rTxt encS (fun _ => True) := fun l a s u hl ha hu hb h _ => by
  unfold encS at h hb
  rw [List.length_append] at hb
  refine tLen (by omega) ha h (fun s' h1 h2 _ _ => ?_)
  exact tRaw hu (by rw [h2]; exact h1)
theorem tRep {β : Type} {r : List UInt8 → Nat → Rd β} {E : β → List UInt8} {ok : β → Prop} (hc : Cm r E ok) (ht : Tr r E ok) (l : List UInt8) (hl : l.length < 18446744073709551616) : ∀ (xs : List β) (a : Nat) (u : List UInt8), a ≤ l.length → u ≠ [] → (xs.flatMap E).length < 18446744073709551616 → xs.flatMap E = l.drop a ++ u → (∀ x ∈ xs, ok x) → rRep (r l) xs.length a = .error (l.length, 70)
  | [], a, u, _, hu, _, h, _ => by
    have h : [] = l.drop a ++ u := h
    exact absurd (List.append_eq_nil_iff.1 h.symm).2 hu
  | x :: xs, a, u, ha, hu, hb, h, hx => by
    rw [List.flatMap_cons] at h hb
    rw [List.length_append] at hb
    refine tr_two hc ht hl ha (by omega) h (hx x (by simp)) (fun s' h1 h2 h3 => ?_)
    exact bd_err (tRep hc ht l hl xs _ u h3 hu (by omega) (by rw [h2]; exact h1) (fun y hy => hx y (List.mem_cons_of_mem _ hy)))
theorem tLst {β : Type} {r : List UInt8 → Nat → Rd β} {E : β → List UInt8} {ok : β → Prop} (hc : Cm r E ok) (ht : Tr r E ok) (hp : ∀ x, 0 < (E x).length) : Tr (rLst r) (encL E) (fun xs => ∀ x ∈ xs, ok x) := fun l a xs u hl ha hu hb h hx => by
  unfold encL at h hb
  rw [List.length_append] at hb
  have := len_le E hp xs
  refine tLen (by omega) ha h (fun s' h1 h2 h3 _ => ?_)
  exact tRep hc ht l hl xs _ u h3 hu (by omega) (by rw [h2]; exact h1) hx
theorem tBand : Tr rBand encBd (fun b => Rg b.1 ∧ Rg b.2) := fun l a x u hl ha hu hb h hx => by
  unfold encBd at h hb
  rw [List.length_append] at hb
  refine tr_two mInt tInt hl ha (by omega) h hx.1 (fun s' h1 h2 h3 => ?_)
  exact bd_err (tInt l _ x.2 u hl h3 hu (by omega) (by rw [h2]; exact h1) hx.2)
theorem tGroup : Tr rGroup encG (fun g => Rg g.2) := fun l a x u hl ha hu hb h hx => by
  unfold encG at h hb
  rw [List.length_append] at hb
  refine tr_two cTxt tTxt hl ha (by omega) h trivial (fun s' h1 h2 h3 => ?_)
  exact bd_err (tInt l _ x.2 u hl h3 hu (by omega) (by rw [h2]; exact h1) hx)
theorem tOptions : Tr rOptions encO (fun _ => True) := fun l a x u hl ha hu hb h _ => by
  unfold encO at h hb
  rw [List.length_append] at hb
  refine tr_two cTxt tTxt hl ha (by omega) h trivial (fun s' h1 h2 h3 => ?_)
  exact bd_err (tLst cTxt tTxt encS_pos l _ x.2 u hl h3 hu (by omega) (by rw [h2]; exact h1) (fun _ _ => trivial))
theorem tTable : Tr rTable encT (fun x => ∀ b ∈ x.2, Rg b.1 ∧ Rg b.2) := fun l a x u hl ha hu hb h hx => by
  unfold encT at h hb
  rw [List.length_append] at hb
  refine tr_two cTxt tTxt hl ha (by omega) h trivial (fun s' h1 h2 h3 => ?_)
  exact bd_err (tLst cBand tBand encBd_pos l _ x.2 u hl h3 hu (by omega) (by rw [h2]; exact h1) hx)
theorem mByte : Cm (rByte 15) (fun b => [UInt8.ofNat b]) (fun b => b ≤ 15) := fun _ _ _ _ _ h hx => cByte hx (by omega) h
theorem tByte15 : Tr (rByte 15) (fun b => [UInt8.ofNat b]) (fun b => b ≤ 15) := fun _ _ _ _ _ _ hu _ h _ => tByte hu h
theorem mOpt (is : Bool) : Cm (rOpt is) encZ (fun z => is = !decide (z = 0) ∧ Rg z) := fun _ _ _ _ _ h hx => cOpt hx.1 hx.2 h
theorem tOpt (is : Bool) : Tr (rOpt is) encZ (fun z => is = !decide (z = 0) ∧ Rg z) := fun l a z u hl ha hu hb h hx => by
  by_cases h0 : z = 0
  · subst h0
    have h : [] = l.drop a ++ u := h
    exact absurd (List.append_eq_nil_iff.1 h.symm).2 hu
  · have hi : is = true := by rw [hx.1]; simp [h0]
    subst hi
    rw [encZ_pos h0] at h hb
    exact bd_err (tInt l a z u hl ha hu hb h hx.2)
theorem tExpr : ∀ k, Tr (rExpr k) encE (fun e => deepE e ≤ k ∧ RgE e)
  | 0 => fun l a x u hl ha hu hb h hx => by
    have := hx.1
    unfold deepE at this
    omega
  | k + 1 => fun l a x u hl ha hu hb h hx => by
    obtain ⟨hd, ⟨r1, r2, r3, r4⟩, hF⟩ := hx
    have hd : 1 + deepF x.args ≤ k + 1 := hd
    obtain ⟨b0, b1, b2, b3, b4⟩ := hasB_bits x.num x.den x.mode x.args.len
    rw [encE_eq] at h hb
    generalize hasB x.num x.den x.mode x.args.len = b at *
    simp only [List.length_append] at hb
    refine tr_two mInt tInt hl ha (by omega) h r1 (fun s1 h1 g1 k1 => ?_)
    rw [← g1] at h1
    refine tr_two mByte tByte15 hl k1 (by omega) h1 b0 (fun s2 h2 g2 k2 => ?_)
    rw [← g2] at h2
    refine tr_two (mOpt _) (tOpt _) hl k2 (by omega) h2 ⟨b1, r2⟩ (fun s3 h3 g3 k3 => ?_)
    rw [← g3] at h3
    refine tr_two (mOpt _) (tOpt _) hl k3 (by omega) h3 ⟨b2, r3⟩ (fun s4 h4 g4 k4 => ?_)
    rw [← g4] at h4
    refine tr_two (mOpt _) (tOpt _) hl k4 (by omega) h4 ⟨b3, r4⟩ (fun s5 h5 g5 k5 => ?_)
    rw [← g5] at h5
    by_cases h0 : x.args.len = 0
    · rw [if_pos h0] at h5
      exact absurd (List.append_eq_nil_iff.1 h5.symm).2 hu
    · rw [if_neg h0] at h5 hb
      have e3 : Nat.testBit b 3 = true := by rw [b4]; simp [h0]
      rw [e3]
      rw [← toL_len] at h5 hb
      have h6 : encL encE (toL x.args) = _ := h5
      rw [List.length_append] at hb
      exact bd_err (bd_err (tLst (cExpr k) (tExpr k) encE_pos l _ (toL x.args) u hl k5 hu (by unfold encL; rw [List.length_append]; omega) h6 (toL_ok x.args hF (by omega))))
theorem tClause : Tr rClause encC (fun c => okC c ∧ RgC c) := fun l a x u hl ha hu hb h hx => by
  obtain ⟨⟨d1, d2⟩, r1, r2, r3⟩ := hx
  unfold encC at h hb
  simp only [List.append_assoc] at h
  simp only [List.length_append] at hb
  refine tr_two mInt tInt hl ha (by omega) h r1 (fun s1 h1 g1 k1 => ?_)
  rw [← g1] at h1
  refine tr_two mFlag tFlag hl k1 (by omega) h1 trivial (fun s2 h2 g2 k2 => ?_)
  rw [← g2] at h2
  refine tr_two (cExpr 64) (tExpr 64) hl k2 (by omega) h2 ⟨by omega, r2⟩ (fun s3 h3 g3 k3 => ?_)
  rw [← g3] at h3
  exact bd_err (tExpr 64 l _ _ u hl k3 hu (by omega) h3 ⟨by omega, r3⟩)
theorem tLine : Tr rLine encLn (fun x => okL x ∧ RgL x) := fun l a x u hl ha hu hb h hx => by
  obtain ⟨d1, ⟨r1, r2, r3⟩, r4⟩ := hx
  unfold encLn at h hb
  simp only [List.append_assoc] at h
  simp only [List.length_append] at hb
  refine tr_two cTxt tTxt hl ha (by omega) h trivial (fun s1 h1 g1 k1 => ?_)
  rw [← g1] at h1
  refine tr_two mFlag tFlag hl k1 (by omega) h1 trivial (fun s2 h2 g2 k2 => ?_)
  rw [← g2] at h2
  refine tr_two mFlag tFlag hl k2 (by omega) h2 trivial (fun s3 h3 g3 k3 => ?_)
  rw [← g3] at h3
  refine tr_two mInt tInt hl k3 (by omega) h3 r1 (fun s4 h4 g4 k4 => ?_)
  rw [← g4] at h4
  refine tr_two mInt tInt hl k4 (by omega) h4 r2 (fun s5 h5 g5 k5 => ?_)
  rw [← g5] at h5
  refine tr_two mInt tInt hl k5 (by omega) h5 r3 (fun s6 h6 g6 k6 => ?_)
  rw [← g6] at h6
  exact bd_err (tLst cClause tClause encC_pos l _ _ u hl k6 hu (by omega) h6 (fun c hc => ⟨d1 c hc, r4 c hc⟩))
theorem tCheck : Tr rCheck encK (fun x => okK x ∧ RgK x) := fun l a x u hl ha hu hb h hx => by
  obtain ⟨d1, r1, r2⟩ := hx
  have d1 : deepE x.when_ + 1 ≤ 65 := d1
  unfold encK at h hb
  simp only [List.append_assoc] at h
  simp only [List.length_append] at hb
  refine tr_two cTxt tTxt hl ha (by omega) h trivial (fun s1 h1 g1 k1 => ?_)
  rw [← g1] at h1
  refine tr_two mFlag tFlag hl k1 (by omega) h1 trivial (fun s2 h2 g2 k2 => ?_)
  rw [← g2] at h2
  refine tr_two mInt tInt hl k2 (by omega) h2 r1 (fun s3 h3 g3 k3 => ?_)
  rw [← g3] at h3
  refine tr_two (cExpr 64) (tExpr 64) hl k3 (by omega) h3 ⟨by omega, r2⟩ (fun s4 h4 g4 k4 => ?_)
  rw [← g4] at h4
  exact bd_err (tTxt l _ _ u hl k4 hu (by omega) h4 trivial)
/-- Bytes that are cut. -/
theorem tPack {p : Pk} (hr : RgP p) (hok : okP p) {l u : List UInt8} (hu : u ≠ []) (h : encP p ++ sum4 (fnvB (encP p)) = l ++ u) (hb : (encP p ++ sum4 (fnvB (encP p))).length < 18446744073709551616) : rPack l 0 = .error (l.length, 70) := by
  have hl : l.length < 18446744073709551616 := by
    have hb2 := hb
    rw [h, List.length_append] at hb2
    omega
  have h0 : encP p ++ sum4 (fnvB (encP p)) = l.drop 0 ++ u := h
  have hS : (sum4 (fnvB (encP p))).length = 4 := rfl
  generalize sum4 (fnvB (encP p)) = S at *
  unfold encP at h0 hb
  simp only [List.append_assoc] at h0
  simp only [List.length_append] at hb
  rcases cut_two h0 with ⟨v, hv, h1⟩ | ⟨s', h1, h2⟩
  · exact bd_err (bd_err (tRaw (s := [76, 86, 89, 49]) hv h1))
  · have hh : rHead l 0 = .ok ((), 4) := by
      unfold rHead
      rw [show rRaw 4 l 0 = .ok ([76, 86, 89, 49], 4) from cRaw (s := [76, 86, 89, 49]) h1]
      rfl
    have g0 : l.drop 4 = s' := drop_more h1
    have k0 : 4 ≤ l.length := by
      have := congrArg List.length h1
      rw [List.length_drop, List.length_append] at this
      have e4 : ([76, 86, 89, 49] : List UInt8).length = 4 := rfl
      omega
    rw [← g0] at h2
    show bd (rHead l 0) _ = _
    rw [bd_go hh]
    refine tr_two cTxt tTxt hl k0 (by omega) h2 trivial (fun s1 h1 g1 k1 => ?_)
    rw [← g1] at h1
    refine tr_two mInt tInt hl k1 (by omega) h1 hr.year (fun s2 h2 g2 k2 => ?_)
    rw [← g2] at h2
    refine tr_two (cLst cOptions encO_pos) (tLst cOptions tOptions encO_pos) hl k2 (by omega) h2 (fun _ _ => trivial) (fun s3 h3 g3 k3 => ?_)
    rw [← g3] at h3
    refine tr_two (cLst cTable encT_pos) (tLst cTable tTable encT_pos) hl k3 (by omega) h3 hr.tabs (fun s4 h4 g4 k4 => ?_)
    rw [← g4] at h4
    refine tr_two (cLst cGroup encG_pos) (tLst cGroup tGroup encG_pos) hl k4 (by omega) h4 hr.grps (fun s5 h5 g5 k5 => ?_)
    rw [← g5] at h5
    refine tr_two (cLst cLine encLn_pos) (tLst cLine tLine encLn_pos) hl k5 (by omega) h5 (fun x hx => ⟨hok.1 x hx, hr.lns x hx⟩) (fun s6 h6 g6 k6 => ?_)
    rw [← g6] at h6
    refine tr_two (cLst cCheck encK_pos) (tLst cCheck tCheck encK_pos) hl k6 (by omega) h6 (fun x hx => ⟨hok.2 x hx, hr.cks x hx⟩) (fun s7 h7 g7 k7 => ?_)
    rw [← g7] at h7
    have ht := tRaw hu h7
    rw [hS] at ht
    exact bd_err (bd_err ht)

end Go.Proofs.Ytjllaobiejahjaa

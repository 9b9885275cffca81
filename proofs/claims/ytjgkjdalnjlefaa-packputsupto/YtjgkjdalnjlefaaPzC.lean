import Derived.Test.YtjgkjdalnjlefaaPzS
/- WHAT IS WRITTEN IS READ. No program. -/
namespace Go.Proofs.Ytjgkjdalnjlefaa

theorem nGo_enc {len at_ : Nat} (t : List UInt8) : ∀ (k n i acc : Nat), n < 2 ^ k → n * 128 ^ i < 18446744073709551616 → (0 < i → n ≠ 0) → nGo len at_ (encN n ++ t) i acc = .ok (acc + n * 128 ^ i, at_ + (i + (encN n).length))
  | k, n, i, acc, hk, hn, hi => by
    by_cases hs : n < 128
    · rw [encN_small hs]
      show nGo len at_ (UInt8.ofNat n :: t) i acc = _
      have e : (UInt8.ofNat n).toNat = n := by rw [UInt8.toNat_ofNat']; omega
      rw [nGo_cons, e, if_neg, if_pos hs, Nat.mod_eq_of_lt hs]
      · rfl
      · rintro (⟨rfl, h⟩ | ⟨h, h0⟩)
        · have e9 : (128 : Nat) ^ 9 = 9223372036854775808 := by decide
          omega
        · exact hi h h0
    · rw [encN_big hs]
      show nGo len at_ (UInt8.ofNat (n % 128 + 128) :: (encN (n / 128) ++ t)) i acc = _
      have e : (UInt8.ofNat (n % 128 + 128)).toNat = n % 128 + 128 := by rw [UInt8.toNat_ofNat']; omega
      have h9 : i ≠ 9 := fun h => by
        subst h
        have e9 : (128 : Nat) ^ 9 = 9223372036854775808 := by decide
        omega
      have hm : (n % 128 + 128) % 128 = n % 128 := by omega
      have hsum : n % 128 * 128 ^ i + n / 128 * 128 ^ (i + 1) = n * 128 ^ i := by
        rw [Nat.pow_succ, Nat.mul_comm (128 ^ i) 128, ← Nat.mul_assoc, ← Nat.add_mul]
        congr 1
        omega
      cases k with
      | zero => simp at hk; omega
      | succ k =>
        rw [nGo_cons, e, if_neg (by omega), if_neg (by omega), hm, nGo_enc t k (n / 128) (i + 1) _ (by rw [Nat.pow_succ] at hk; omega) (by omega) (fun _ => by omega), List.length_cons]
        congr 2
        · omega
        · omega
theorem drop_more {l x t : List UInt8} {a : Nat} (h : l.drop a = x ++ t) : l.drop (a + x.length) = t := by rw [← List.drop_drop, h, List.drop_left]
theorem drop_len {l x t : List UInt8} {a : Nat} (h : l.drop a = x ++ t) (hx : 0 < x.length) : a + x.length + t.length = l.length := by
  have := congrArg List.length h
  rw [List.length_drop, List.length_append] at this
  omega
theorem cN {l t : List UInt8} {a n : Nat} (hn : n < 18446744073709551616) (h : l.drop a = encN n ++ t) : rN l a = .ok (n, a + (encN n).length) := by
  unfold rN
  rw [h, nGo_enc t 64 n 0 0 (by simpa using hn) (by simpa using hn) (fun h => absurd h (Nat.lt_irrefl _))]
  simp
theorem cLen {l t : List UInt8} {a n : Nat} (hn : n < 18446744073709551616) (h : l.drop a = encN n ++ t) (hl : n ≤ t.length) : rLen l a = .ok (n, a + (encN n).length) := by
  unfold rLen
  rw [cN hn h]
  show (if l.length - (a + (encN n).length) < n then _ else _) = _
  have := drop_len h (encN_pos n)
  rw [if_neg (by omega)]
theorem zig_lt {z : Int} (h : Rg z) : zig z < 18446744073709551616 := by
  obtain ⟨h1, h2⟩ := h
  unfold zig
  split <;> omega
theorem unz_zig (z : Int) : unz (zig z) = z := by
  unfold unz zig
  split <;> split <;> omega
theorem cInt {l t : List UInt8} {a : Nat} {z : Int} (hz : Rg z) (h : l.drop a = encI z ++ t) : rInt l a = .ok (z, a + (encI z).length) := by
  unfold rInt
  rw [cN (zig_lt hz) h]
  show Except.ok (unz (zig z), _) = _
  rw [unz_zig]
  rfl
theorem cNz {l t : List UInt8} {a : Nat} {z : Int} (hz : Rg z) (h0 : z ≠ 0) (h : l.drop a = encI z ++ t) : rNz l a = .ok (z, a + (encI z).length) := by
  unfold rNz
  rw [cInt hz h]
  show (if z = 0 then _ else _) = _
  rw [if_neg h0]
theorem cByte {l t : List UInt8} {most a b : Nat} (hb : b ≤ most) (h2 : b < 256) (h : l.drop a = [UInt8.ofNat b] ++ t) : rByte most l a = .ok (b, a + 1) := by
  have e : l[a]? = some (UInt8.ofNat b) := by
    have := congrArg (fun l => l[0]?) h
    simp only [List.getElem?_drop, Nat.add_zero] at this
    rw [this]
    rfl
  unfold rByte
  rw [e]
  have e2 : (UInt8.ofNat b).toNat = b := by rw [UInt8.toNat_ofNat']; omega
  show (if most < (UInt8.ofNat b).toNat then _ else Except.ok ((UInt8.ofNat b).toNat, _)) = _
  rw [e2, if_neg (by omega)]
theorem cFlag {l t : List UInt8} {a : Nat} {x : Bool} (h : l.drop a = encB x ++ t) : rFlag l a = .ok (x, a + (encB x).length) := by
  unfold rFlag
  cases x with
  | true => rw [cByte (b := 1) (by decide) (by decide) h]; rfl
  | false => rw [cByte (b := 0) (by decide) (by decide) h]; rfl
theorem cRaw {l s t : List UInt8} {a : Nat} (h : l.drop a = s ++ t) : rRaw s.length l a = .ok (s, a + s.length) := by
  have := congrArg List.length h
  rw [List.length_drop, List.length_append] at this
  unfold rRaw
  rw [if_neg (by omega), h, List.take_left]
/-- A piece that reads what is written. -/
def Cm {β : Type} (r : List UInt8 → Nat → Rd β) (E : β → List UInt8) (ok : β → Prop) : Prop := ∀ l a x t, l.length < 18446744073709551616 → l.drop a = E x ++ t → ok x → r l a = .ok (x, a + (E x).length)
theorem cTxt : Cm rTxt encS (fun _ => True) := fun l a s t hl h _ => by
  unfold encS at h ⊢
  rw [List.append_assoc] at h
  have h0 := drop_len h (encN_pos _)
  rw [List.length_append] at h0
  unfold rTxt
  rw [cLen (by omega) h (by rw [List.length_append]; omega)]
  show rRaw s.length l _ = _
  rw [cRaw (drop_more h), List.length_append, Nat.add_assoc]
theorem mInt : Cm rInt encI Rg := fun _ _ _ _ _ h hz => cInt hz h
theorem mFlag : Cm rFlag encB (fun _ => True) := fun _ _ _ _ _ h _ => cFlag h
theorem cRep {β : Type} {r : List UInt8 → Nat → Rd β} {E : β → List UInt8} {ok : β → Prop} (hr : Cm r E ok) (l : List UInt8) (hl : l.length < 18446744073709551616) : ∀ (xs : List β) (a : Nat) (t : List UInt8), l.drop a = xs.flatMap E ++ t → (∀ x ∈ xs, ok x) → rRep (r l) xs.length a = .ok (xs, a + (xs.flatMap E).length)
  | [], a, t, _, _ => rfl
  | x :: xs, a, t, h, hx => by
    rw [List.flatMap_cons, List.append_assoc] at h
    show bd (r l a) _ = _
    rw [hr l a x _ hl h (hx x (by simp))]
    show bd (rRep (r l) xs.length (a + (E x).length)) _ = _
    rw [cRep hr l hl xs _ t (drop_more h) (fun y hy => hx y (List.mem_cons_of_mem _ hy))]
    show Except.ok (x :: xs, _) = _
    rw [List.flatMap_cons, List.length_append, Nat.add_assoc]
theorem cLst {β : Type} {r : List UInt8 → Nat → Rd β} {E : β → List UInt8} {ok : β → Prop} (hr : Cm r E ok) (hp : ∀ x, 0 < (E x).length) : Cm (rLst r) (encL E) (fun xs => ∀ x ∈ xs, ok x) := fun l a xs t hl h hx => by
  unfold encL at h ⊢
  rw [List.append_assoc] at h
  have h0 := drop_len h (encN_pos _)
  have h1 := len_le E hp xs
  rw [List.length_append] at h0
  unfold rLst
  rw [cLen (by omega) h (by rw [List.length_append]; omega)]
  show rRep (r l) xs.length _ = _
  rw [cRep hr l hl xs _ t (drop_more h) hx, List.length_append, Nat.add_assoc]
theorem cBand : Cm rBand encBd (fun b => Rg b.1 ∧ Rg b.2) := fun l a x t hl h hx => by
  unfold encBd at h ⊢
  rw [List.append_assoc] at h
  unfold rBand
  rw [mInt l a x.1 _ hl h hx.1]
  show bd (rInt l _) _ = _
  rw [mInt l _ x.2 t hl (drop_more h) hx.2, List.length_append, ← Nat.add_assoc]
  rfl
theorem cGroup : Cm rGroup encG (fun g => Rg g.2) := fun l a x t hl h hx => by
  unfold encG at h ⊢
  rw [List.append_assoc] at h
  unfold rGroup
  rw [cTxt l a x.1 _ hl h trivial]
  show bd (rInt l _) _ = _
  rw [mInt l _ x.2 t hl (drop_more h) hx, List.length_append, ← Nat.add_assoc]
  rfl
theorem cOptions : Cm rOptions encO (fun _ => True) := fun l a x t hl h _ => by
  unfold encO at h ⊢
  rw [List.append_assoc] at h
  unfold rOptions
  rw [cTxt l a x.1 _ hl h trivial]
  show bd (rLst rTxt l _) _ = _
  rw [cLst cTxt encS_pos l _ x.2 t hl (drop_more h) (fun _ _ => trivial), List.length_append, ← Nat.add_assoc]
  rfl
theorem cTable : Cm rTable encT (fun x => ∀ b ∈ x.2, Rg b.1 ∧ Rg b.2) := fun l a x t hl h hx => by
  unfold encT at h ⊢
  rw [List.append_assoc] at h
  unfold rTable
  rw [cTxt l a x.1 _ hl h trivial]
  show bd (rLst rBand l _) _ = _
  rw [cLst cBand encBd_pos l _ x.2 t hl (drop_more h) hx, List.length_append, ← Nat.add_assoc]
  rfl
def RgF : Fo → Prop
  | .nil => True
  | .cons op num den mode args rest => (Rg op ∧ Rg num ∧ Rg den ∧ Rg mode) ∧ RgF args ∧ RgF rest
def RgE (e : Ex) : Prop := Rg4 e ∧ RgF e.args
theorem toL_ok {n : Nat} : ∀ f : Fo, RgF f → deepF f ≤ n → ∀ x ∈ toL f, deepE x ≤ n ∧ RgE x
  | .nil, _, _, x, hx => by cases hx
  | .cons a b c d y r, h, hd, x, hx => by
    have hd : max (1 + deepF y) (deepF r) ≤ n := hd
    rcases List.mem_cons.1 hx with rfl | hx
    · exact ⟨by show 1 + deepF y ≤ n; omega, h.1, h.2.1⟩
    · exact toL_ok r h.2.2 (by omega) x hx
theorem hasB_bits (num den mode : Int) (n : Nat) : hasB num den mode n ≤ 15 ∧ Nat.testBit (hasB num den mode n) 0 = !decide (num = 0) ∧ Nat.testBit (hasB num den mode n) 1 = !decide (den = 0) ∧ Nat.testBit (hasB num den mode n) 2 = !decide (mode = 0) ∧ Nat.testBit (hasB num den mode n) 3 = !decide (n = 0) := by
  unfold hasB
  by_cases h0 : num = 0 <;> by_cases h1 : den = 0 <;> by_cases h2 : mode = 0 <;> by_cases h3 : n = 0 <;> simp [h0, h1, h2, h3] <;> decide
theorem cOpt {l t : List UInt8} {a : Nat} {z : Int} {is : Bool} (hi : is = !decide (z = 0)) (hz : Rg z) (h : l.drop a = encZ z ++ t) : rOpt is l a = .ok (z, a + (encZ z).length) := by
  by_cases h0 : z = 0
  · subst h0
    subst hi
    rfl
  · rw [encZ_pos h0] at h ⊢
    have : is = true := by rw [hi]; simp [h0]
    subst this
    exact cNz hz h0 h
theorem encE_eq (e : Ex) : encE e = encI e.op ++ ([UInt8.ofNat (hasB e.num e.den e.mode e.args.len)] ++ (encZ e.num ++ (encZ e.den ++ (encZ e.mode ++ (if e.args.len = 0 then [] else encN e.args.len ++ (toL e.args).flatMap encE))))) := by
  have h : encE e = encI e.op ++ ([UInt8.ofNat (hasB e.num e.den e.mode e.args.len)] ++ (encZ e.num ++ (encZ e.den ++ (encZ e.mode ++ (if e.args.len = 0 then [] else encN e.args.len ++ encF e.args))))) := rfl
  rw [h, encF_toL]
theorem cExpr : ∀ k, Cm (rExpr k) encE (fun e => deepE e ≤ k ∧ RgE e)
  | 0 => fun l a x t hl h hx => by
    have := hx.1
    unfold deepE at this
    omega
  | k + 1 => fun l a x t hl h hx => by
    obtain ⟨hd, ⟨r1, r2, r3, r4⟩, hF⟩ := hx
    have hd : 1 + deepF x.args ≤ k + 1 := hd
    obtain ⟨b0, b1, b2, b3, b4⟩ := hasB_bits x.num x.den x.mode x.args.len
    rw [encE_eq] at h ⊢
    generalize hasB x.num x.den x.mode x.args.len = b at *
    simp only [List.append_assoc] at h
    show bd (rInt l a) _ = _
    rw [cInt r1 h]
    have h := drop_more h
    show bd (rByte 15 l _) _ = _
    rw [cByte b0 (by omega) h]
    have h := drop_more h
    show bd (rOpt _ l _) _ = _
    rw [List.length_singleton] at h
    rw [cOpt b1 r2 h]
    have h := drop_more h
    show bd (rOpt _ l _) _ = _
    rw [cOpt b2 r3 h]
    have h := drop_more h
    show bd (rOpt _ l _) _ = _
    rw [cOpt b3 r4 h]
    have h := drop_more h
    show bd (rArg _ (rExpr k) l _) _ = _
    by_cases h0 : x.args.len = 0
    · have e3 : Nat.testBit b 3 = false := by rw [b4, h0]; rfl
      rw [e3, if_pos h0]
      have e4 : x.args = .nil := by
        obtain ⟨_, _, _, _, args⟩ := x
        cases args with
        | nil => rfl
        | cons _ _ _ _ _ _ => exact absurd h0 (Nat.succ_ne_zero _)
      show Except.ok (Ex.mk x.op x.num x.den x.mode Fo.nil, _) = _
      rw [← e4]
      simp only [List.length_append, List.length_singleton, List.length_nil, Nat.add_zero, Nat.add_assoc]
    · have e3 : Nat.testBit b 3 = true := by rw [b4]; simp [h0]
      rw [if_neg h0] at h ⊢
      have h' : l.drop (a + (encI x.op).length + 1 + (encZ x.num).length + (encZ x.den).length + (encZ x.mode).length) = encL encE (toL x.args) ++ t := by
        unfold encL
        rw [toL_len, List.append_assoc]
        rw [List.append_assoc] at h
        exact h
      have hc := cLst (cExpr k) encE_pos l _ (toL x.args) t hl h' (toL_ok x.args hF (by omega))
      rw [e3]
      show bd (bd (rLst (rExpr k) l _) _) _ = _
      rw [hc]
      have e5 : ¬ (toL x.args).length = 0 := by rw [toL_len]; exact h0
      show bd (if (toL x.args).length = 0 then _ else _) _ = _
      rw [if_neg e5]
      show Except.ok (Ex.mk x.op x.num x.den x.mode (ofL (toL x.args)), _) = _
      rw [ofL_toL]
      unfold encL
      rw [toL_len]
      simp only [List.length_append, List.length_singleton, Nat.add_assoc]
def RgC (c : Cl) : Prop := Rg c.pri ∧ RgE c.guard ∧ RgE c.body
def RgL (l : Ln) : Prop := (Rg l.type ∧ Rg l.opts ∧ Rg l.group) ∧ ∀ c ∈ l.cls, RgC c
def RgK (c : Ck) : Prop := Rg c.group ∧ RgE c.when_
theorem cClause : Cm rClause encC (fun c => okC c ∧ RgC c) := fun l a x t hl h hx => by
  obtain ⟨⟨d1, d2⟩, r1, r2, r3⟩ := hx
  unfold encC at h ⊢
  simp only [List.append_assoc] at h
  unfold rClause
  rw [cInt r1 h]
  have h := drop_more h
  show bd (rFlag l _) _ = _
  rw [cFlag h]
  have h := drop_more h
  show bd (rExpr 64 l _) _ = _
  rw [cExpr 64 l _ _ _ hl h ⟨by omega, r2⟩]
  have h := drop_more h
  show bd (rExpr 64 l _) _ = _
  rw [cExpr 64 l _ _ _ hl h ⟨by omega, r3⟩]
  show Except.ok (x, _) = _
  simp only [List.length_append, Nat.add_assoc]
theorem cLine : Cm rLine encLn (fun x => okL x ∧ RgL x) := fun l a x t hl h hx => by
  obtain ⟨d1, ⟨r1, r2, r3⟩, r4⟩ := hx
  unfold encLn at h ⊢
  simp only [List.append_assoc] at h
  unfold rLine
  rw [cTxt l a _ _ hl h trivial]
  have h := drop_more h
  show bd (rFlag l _) _ = _
  rw [cFlag h]
  have h := drop_more h
  show bd (rFlag l _) _ = _
  rw [cFlag h]
  have h := drop_more h
  show bd (rInt l _) _ = _
  rw [cInt r1 h]
  have h := drop_more h
  show bd (rInt l _) _ = _
  rw [cInt r2 h]
  have h := drop_more h
  show bd (rInt l _) _ = _
  rw [cInt r3 h]
  have h := drop_more h
  show bd (rLst rClause l _) _ = _
  rw [cLst cClause encC_pos l _ _ _ hl h (fun c hc => ⟨d1 c hc, r4 c hc⟩)]
  show Except.ok (x, _) = _
  simp only [List.length_append, Nat.add_assoc]
theorem cCheck : Cm rCheck encK (fun x => okK x ∧ RgK x) := fun l a x t hl h hx => by
  obtain ⟨d1, r1, r2⟩ := hx
  have d1 : deepE x.when_ + 1 ≤ 65 := d1
  unfold encK at h ⊢
  simp only [List.append_assoc] at h
  unfold rCheck
  rw [cTxt l a _ _ hl h trivial]
  have h := drop_more h
  show bd (rFlag l _) _ = _
  rw [cFlag h]
  have h := drop_more h
  show bd (rInt l _) _ = _
  rw [cInt r1 h]
  have h := drop_more h
  show bd (rExpr 64 l _) _ = _
  rw [cExpr 64 l _ _ _ hl h ⟨by omega, r2⟩]
  have h := drop_more h
  show bd (rTxt l _) _ = _
  rw [cTxt l _ _ _ hl h trivial]
  show Except.ok (x, _) = _
  simp only [List.length_append, Nat.add_assoc]
structure RgP (p : Pk) : Prop where
  year : Rg p.year
  tabs : ∀ x ∈ p.tabs, ∀ b ∈ x.2, Rg b.1 ∧ Rg b.2
  grps : ∀ x ∈ p.grps, Rg x.2
  lns : ∀ x ∈ p.lns, RgL x
  cks : ∀ x ∈ p.cks, RgK x
/-- What stands behind the sum. -/
theorem cPack {p : Pk} (hr : RgP p) (hok : okP p) (t : List UInt8) (hl : (encP p ++ (sum4 (fnvB (encP p)) ++ t)).length < 18446744073709551616) : rPack (encP p ++ (sum4 (fnvB (encP p)) ++ t)) 0 = if t = [] then .ok (p, (encP p).length + 4) else .error ((encP p).length + 4, 73) := by
  obtain ⟨l, hle⟩ : ∃ l, encP p ++ (sum4 (fnvB (encP p)) ++ t) = l := ⟨_, rfl⟩
  rw [hle] at hl ⊢
  have htk : l.take (encP p).length = encP p := by rw [← hle, List.take_left]
  have hll := congrArg List.length hle
  rw [List.length_append, List.length_append] at hll
  have hn : (encP p).length = 4 + (encS p.name).length + (encI p.year).length + (encL encO p.opts).length + (encL encT p.tabs).length + (encL encG p.grps).length + (encL encLn p.lns).length + (encL encK p.cks).length := by
    unfold encP
    simp only [List.length_append]
    rfl
  obtain ⟨S, hS⟩ : ∃ S, sum4 (fnvB (encP p)) = S := ⟨_, rfl⟩
  have hS4 : S.length = 4 := by rw [← hS]; rfl
  rw [hS] at hle hll
  have h : l.drop 0 = encP p ++ (S ++ t) := hle.symm
  have h7 := drop_more h
  rw [Nat.zero_add] at h7
  have h := h
  unfold encP at h
  simp only [List.append_assoc] at h
  have hh : rHead l 0 = .ok ((), 4) := by
    unfold rHead
    rw [show rRaw 4 l 0 = .ok ([76, 86, 89, 49], 4) from cRaw (s := [76, 86, 89, 49]) h]
    rfl
  show bd (rHead l 0) _ = _
  rw [hh]
  have h : l.drop 4 = _ := drop_more h
  show bd (rTxt l 4) _ = _
  rw [cTxt l _ _ _ hl h trivial]
  have h := drop_more h
  show bd (rInt l _) _ = _
  rw [cInt hr.year h]
  have h := drop_more h
  show bd (rLst rOptions l _) _ = _
  rw [cLst cOptions encO_pos l _ _ _ hl h (fun _ _ => trivial)]
  have h := drop_more h
  show bd (rLst rTable l _) _ = _
  rw [cLst cTable encT_pos l _ _ _ hl h hr.tabs]
  have h := drop_more h
  show bd (rLst rGroup l _) _ = _
  rw [cLst cGroup encG_pos l _ _ _ hl h hr.grps]
  have h := drop_more h
  show bd (rLst rLine l _) _ = _
  rw [cLst cLine encLn_pos l _ _ _ hl h (fun x hx => ⟨hok.1 x hx, hr.lns x hx⟩)]
  have h := drop_more h
  show bd (rLst rCheck l _) _ = _
  rw [cLst cCheck encK_pos l _ _ _ hl h (fun x hx => ⟨hok.2 x hx, hr.cks x hx⟩)]
  rw [← hn]
  have hs : rSum l (encP p).length = if t = [] then .ok ((), (encP p).length + 4) else .error ((encP p).length + 4, 73) := by
    unfold rSum
    have hc := cRaw h7
    rw [hS4] at hc
    rw [hc, htk, hS]
    show (if S = S then (if 0 < l.length - ((encP p).length + 4) then _ else _) else _) = _
    rw [if_pos rfl]
    by_cases ht : t = []
    · have : t.length = 0 := by rw [ht]; rfl
      rw [if_pos ht, if_neg (by omega)]
    · have : 0 < t.length := List.length_pos_iff.2 ht
      rw [if_neg ht, if_pos (by omega)]
  show bd (rSum l _) _ = _
  rw [hs]
  by_cases ht : t = []
  · rw [if_pos ht, if_pos ht]; rfl
  · rw [if_neg ht, if_neg ht]; rfl

end Go.Proofs.Ytjgkjdalnjlefaa

import Derived.Test.YtblfdjdhikfjhaaGreatJoin20
/- THE BYTES OF BOOKS: what is written, what is read. No program. -/
namespace Go.Proofs.YtblfdjdhikfjhaaGreat.BZ

/-- What is read, and what is left behind it. -/
abbrev Rd (β : Type) := Option (β × List UInt8)
def bd {β γ : Type} (m : Rd β) (k : β → List UInt8 → Rd γ) : Rd γ :=
  match m with
  | some (x, t) => k x t
  | none => none
theorem bd_some {β γ : Type} {m : Rd β} {k : β → List UInt8 → Rd γ} {y : γ} {t2 : List UInt8} (h : bd m k = some (y, t2)) : ∃ x t, m = some (x, t) ∧ k x t = some (y, t2) := by
  cases m with
  | some p => exact ⟨p.1, p.2, rfl, h⟩
  | none => cases h

/-- A number, seven bits a byte, the lowest first. -/
def encN (n : Nat) : List UInt8 := if n < 128 then [UInt8.ofNat n] else UInt8.ofNat (n % 128 + 128) :: encN (n / 128)
termination_by n
decreasing_by omega
theorem encN_small {n : Nat} (h : n < 128) : encN n = [UInt8.ofNat n] := by rw [encN, if_pos h]
theorem encN_big {n : Nat} (h : ¬ n < 128) : encN n = UInt8.ofNat (n % 128 + 128) :: encN (n / 128) := by rw [encN, if_neg h]
theorem encN_len : ∀ (k n : Nat), n < 128 ^ k → 0 < k → (encN n).length ≤ k
  | 0, n, _, h => by omega
  | k + 1, n, h, _ => by
    by_cases hn : n < 128
    · rw [encN_small hn]; simp
    · rw [encN_big hn, List.length_cons]
      have hk : 0 < k := by
        rcases Nat.eq_zero_or_pos k with h0 | h0
        · subst h0; simp at h; omega
        · exact h0
      have := encN_len k (n / 128) (by rw [Nat.pow_succ] at h; omega) hk
      omega
def zig (z : Int) : Nat := if z < 0 then 2 * (-z - 1).toNat + 1 else 2 * z.toNat
def unz (n : Nat) : Int := if n % 2 = 1 then -((n / 2 : Nat) : Int) - 1 else ((n / 2 : Nat) : Int)
def encI (z : Int) : List UInt8 := encN (zig z)
def Rg (z : Int) : Prop := -9223372036854775808 ≤ z ∧ z ≤ 9223372036854775807
theorem zig_lt {z : Int} (h : Rg z) : zig z < 18446744073709551616 := by
  obtain ⟨h1, h2⟩ := h
  unfold zig
  split <;> omega
theorem unz_zig (z : Int) : unz (zig z) = z := by
  unfold unz zig
  split <;> split <;> omega

def nGo : List UInt8 → Nat → Nat → Rd Nat
  | [], _, _ => none
  | b :: r, i, n => if (i = 9 ∧ 1 < b.toNat) ∨ (0 < i ∧ b.toNat = 0) then none else if b.toNat < 128 then some (n + b.toNat % 128 * 128 ^ i, r) else nGo r (i + 1) (n + b.toNat % 128 * 128 ^ i)
theorem nGo_cons {i n : Nat} {x : UInt8} {r : List UInt8} : nGo (x :: r) i n = if (i = 9 ∧ 1 < x.toNat) ∨ (0 < i ∧ x.toNat = 0) then none else if x.toNat < 128 then some (n + x.toNat % 128 * 128 ^ i, r) else nGo r (i + 1) (n + x.toNat % 128 * 128 ^ i) := rfl
def rN (l : List UInt8) : Rd Nat := nGo l 0 0
def rI (l : List UInt8) : Rd Int := bd (rN l) fun n t => some (unz n, t)
def rB (lo hi : Nat) (l : List UInt8) : Rd Nat := bd (rN l) fun n t => if n < lo ∨ hi < n then none else some (n, t)
def rRaw (n : Nat) (l : List UInt8) : Rd (List UInt8) := if l.length < n then none else some (l.take n, l.drop n)
def rOne : List UInt8 → Rd Nat
  | [] => none
  | b :: r => some (b.toNat, r)
abbrev Es := List (Nat × (Int × Int))
def rCh (m : Es) (id : Nat) (l : List UInt8) : Rd Es := bd (rB 0 1 l) fun w t => if w = 0 then some (del m id, t) else bd (rI t) fun k t => bd (rI t) fun v t => some (ins m id (k, v), t)
def rGo : Nat → Nat → Es → List UInt8 → Rd Es
  | 0, _, m, l => some (m, l)
  | n + 1, least, m, l => bd (rB least 4294967295 l) fun id t => bd (rCh m id t) fun m2 t => if m2 = m then none else rGo n (id + 1) m2 t
def rD (m : Es) (l : List UInt8) : Rd Es := bd (rN l) fun n t => rGo n 0 m t
def isL (b : UInt8) : Bool := decide (97 ≤ b.toNat ∧ b.toNat ≤ 122)
def isD (b : UInt8) : Bool := decide (48 ≤ b.toNat ∧ b.toNat ≤ 57)
/-- May a branch have that name? -/
def isNm : List UInt8 → Bool
  | [] => false
  | b :: r => decide (r.length ≤ 7) && (isL b && r.all fun c => isL c || isD c)
def rNm (ahead : List (List UInt8)) (l : List UInt8) : Rd (List UInt8) := bd (rB 1 8 l) fun n t => bd (rRaw n t) fun s t => if isNm s = true ∧ ∀ x, ahead.getLast? = some x → x < s then some (s, t) else none
def rCn : Nat → Es → List UInt8 → Rd (List Es)
  | 0, _, l => some ([], l)
  | k + 1, m, l => bd (rD m l) fun v t => bd (rCn k v t) fun vs t => some (v :: vs, t)
/-- What a branch holds. -/
structure Bc where
  nm : List UInt8
  bs : Es
  Ls : List Es
  p : Nat
def rBr (nm : List UInt8) (l : List UInt8) : Rd Bc := bd (rD [] l) fun bs t => bd (rB 0 32 t) fun u t => bd (rB 0 (32 - u) t) fun r t => bd (rD bs t) fun v t => bd (rCn (u + r) v t) fun vs t => some (⟨nm, bs, v :: vs, u⟩, t)
def rBs : Nat → List Bc → List UInt8 → Rd (List Bc)
  | 0, acc, l => some (acc, l)
  | k + 1, acc, l => bd (rNm (acc.map (·.nm)) l) fun s t => bd (rBr s t) fun x t => rBs k (acc ++ [x]) t
def nMain : List UInt8 := [109, 97, 105, 110]
def rBook (l : List UInt8) : Rd (List Bc × Nat) := bd (rOne l) fun b t => if b ≠ 66 then none else bd (rB 1 6 t) fun n t => bd (rBs n [] t) fun xs t => bd (rB 0 (n - 1) t) fun c t => if nMain ∈ xs.map (·.nm) then some ((xs, c), t) else none

/-- What differs. -/
def difE (A B : Es) : List Ch := rdif (A.length + B.length) A B
def encC (c : Ch) : List UInt8 := encN c.1 ++ match c.2.2 with | none => encN 0 | some v => encN 1 ++ (encI v.1 ++ encI v.2)
def encD (A B : Es) : List UInt8 := encN (difE A B).length ++ (difE A B).flatMap encC
def encV : Es → List Es → List UInt8
  | _, [] => []
  | m, L :: r => encD m L ++ encV L r
def encX (x : Bc) : List UInt8 := encN x.nm.length ++ (x.nm ++ (encD [] x.bs ++ (encN x.p ++ (encN (x.Ls.length - 1 - x.p) ++ encV x.bs x.Ls))))
def encBk (xs : List Bc) (c : Nat) : List UInt8 := 66 :: (encN xs.length ++ (xs.flatMap encX ++ encN c))

/-- With more behind it the same is read. -/
def Loc {β : Type} (r : List UInt8 → Rd β) : Prop := ∀ l s x t, r l = some (x, t) → r (l ++ s) = some (x, t ++ s)
theorem Loc.bd {β γ : Type} {r : List UInt8 → Rd β} {k : β → List UInt8 → Rd γ} (h : Loc r) (hk : ∀ x, Loc (k x)) : Loc fun l => bd (r l) k := fun l s y t2 e => by
  obtain ⟨x, t, h1, h2⟩ := bd_some e
  show BZ.bd (r (l ++ s)) k = _
  rw [h l s x t h1]
  exact hk x t s y t2 h2
theorem loc_go : ∀ (l : List UInt8) (i n : Nat) (s : List UInt8) (x : Nat) (t : List UInt8), nGo l i n = some (x, t) → nGo (l ++ s) i n = some (x, t ++ s)
  | [], i, n, s, x, t, h => by cases h
  | b :: r, i, n, s, x, t, h => by
    rw [List.cons_append, nGo_cons]
    rw [nGo_cons] at h
    by_cases h1 : (i = 9 ∧ 1 < b.toNat) ∨ (0 < i ∧ b.toNat = 0)
    · rw [if_pos h1] at h; cases h
    · rw [if_neg h1] at h ⊢
      by_cases h2 : b.toNat < 128
      · rw [if_pos h2] at h ⊢
        injection h with h
        injection h with h3 h4
        rw [h3, h4]
      · rw [if_neg h2] at h ⊢
        exact loc_go r _ _ s x t h
theorem loc_N : Loc rN := fun l s x t h => loc_go l 0 0 s x t h
theorem loc_pure {β : Type} (x : β) : Loc fun t => some (x, t) := fun l s y t h => by
  injection h with h
  injection h with h1 h2
  rw [h1, h2]
theorem loc_none {β : Type} : Loc fun _ => (none : Rd β) := fun l s y t h => by cases h
theorem loc_if {β : Type} {P : Prop} [Decidable P] {r q : List UInt8 → Rd β} (h : Loc r) (k : Loc q) : Loc fun t => if P then r t else q t := by
  by_cases hP : P
  · simp only [if_pos hP]; exact h
  · simp only [if_neg hP]; exact k
theorem loc_I : Loc rI := loc_N.bd fun _ => loc_pure _
theorem loc_B (lo hi : Nat) : Loc (rB lo hi) := loc_N.bd fun _ => loc_if loc_none (loc_pure _)
theorem loc_raw (n : Nat) : Loc (rRaw n) := fun l s x t h => by
  unfold rRaw at h ⊢
  by_cases hn : l.length < n
  · rw [if_pos hn] at h; cases h
  · rw [if_neg hn] at h
    injection h with h
    injection h with h1 h2
    rw [if_neg (by rw [List.length_append]; omega), List.take_append_of_le_length (by omega), List.drop_append_of_le_length (by omega), h1, h2]
theorem loc_one : Loc rOne := fun l s x t h => by
  cases l with
  | nil => cases h
  | cons b r =>
    injection h with h
    injection h with h1 h2
    show some (b.toNat, r ++ s) = _
    rw [h1, h2]
theorem loc_Ch (m : Es) (id : Nat) : Loc (rCh m id) := (loc_B 0 1).bd fun _ => loc_if (loc_pure _) (loc_I.bd fun _ => loc_I.bd fun _ => loc_pure _)
theorem loc_Go : ∀ (n least : Nat) (m : Es), Loc (rGo n least m)
  | 0, _, m => loc_pure m
  | n + 1, _, m => (loc_B _ _).bd fun id => (loc_Ch m id).bd fun m2 => loc_if loc_none (loc_Go n _ m2)
theorem loc_D (m : Es) : Loc (rD m) := loc_N.bd fun n => loc_Go n 0 m
theorem loc_Nm (ahead : List (List UInt8)) : Loc (rNm ahead) := by
  refine (loc_B 1 8).bd fun n => (loc_raw n).bd fun s => ?_
  intro l s' x t h
  dsimp only at h ⊢
  by_cases hP : isNm s = true ∧ ∀ x, ahead.getLast? = some x → x < s
  · rw [if_pos hP] at h ⊢
    injection h with h
    injection h with h1 h2
    rw [h1, h2]
  · rw [if_neg hP] at h; cases h
theorem loc_Cn : ∀ (k : Nat) (m : Es), Loc (rCn k m)
  | 0, _ => loc_pure []
  | k + 1, m => (loc_D m).bd fun v => (loc_Cn k v).bd fun _ => loc_pure _
theorem loc_Br (nm : List UInt8) : Loc (rBr nm) := (loc_D []).bd fun bs => (loc_B _ _).bd fun _ => (loc_B _ _).bd fun _ => (loc_D bs).bd fun v => (loc_Cn _ v).bd fun _ => loc_pure _
theorem loc_Bs : ∀ (k : Nat) (acc : List Bc), Loc (rBs k acc)
  | 0, acc => loc_pure acc
  | k + 1, _ => (loc_Nm _).bd fun s => (loc_Br s).bd fun _ => loc_Bs k _
theorem loc_Book : Loc rBook := loc_one.bd fun _ => loc_if loc_none ((loc_B _ _).bd fun n => (loc_Bs n []).bd fun _ => (loc_B _ _).bd fun _ => loc_if (loc_pure _) loc_none)

/- What is written is read. -/
theorem nGo_enc (t : List UInt8) : ∀ (k n i acc : Nat), n < 2 ^ k → n * 128 ^ i < 18446744073709551616 → (0 < i → n ≠ 0) → nGo (encN n ++ t) i acc = some (acc + n * 128 ^ i, t)
  | k, n, i, acc, hk, hn, hi => by
    by_cases hs : n < 128
    · rw [encN_small hs]
      show nGo (UInt8.ofNat n :: t) i acc = _
      have e : (UInt8.ofNat n).toNat = n := by rw [UInt8.toNat_ofNat']; omega
      rw [nGo_cons, e, if_neg, if_pos hs, Nat.mod_eq_of_lt hs]
      rintro (⟨rfl, h⟩ | ⟨h, h0⟩)
      · have e9 : (128 : Nat) ^ 9 = 9223372036854775808 := by decide
        omega
      · exact hi h h0
    · rw [encN_big hs]
      show nGo (UInt8.ofNat (n % 128 + 128) :: (encN (n / 128) ++ t)) i acc = _
      have e : (UInt8.ofNat (n % 128 + 128)).toNat = n % 128 + 128 := by rw [UInt8.toNat_ofNat']; omega
      have h9 : i ≠ 9 := fun h => by
        subst h
        have e9 : (128 : Nat) ^ 9 = 9223372036854775808 := by decide
        omega
      have hm : (n % 128 + 128) % 128 = n % 128 := by omega
      have hsum : n % 128 * 128 ^ i + n / 128 * 128 ^ (i + 1) = n * 128 ^ i := by
        rw [Nat.pow_succ, Nat.mul_comm (128 ^ i) 128, ← Nat.mul_assoc, ← Nat.add_mul]
        congr 1
        omega
      cases k with
      | zero => simp at hk; omega
      | succ k =>
        rw [nGo_cons, e, if_neg (by omega), if_neg (by omega), hm, nGo_enc t k (n / 128) (i + 1) _ (by rw [Nat.pow_succ] at hk; omega) (by omega) (fun _ => by omega)]
        congr 2
        omega
theorem cN {t : List UInt8} {n : Nat} (hn : n < 18446744073709551616) : rN (encN n ++ t) = some (n, t) := by
  unfold rN
  rw [nGo_enc t 64 n 0 0 (by simpa using hn) (by simpa using hn) (fun h => absurd h (Nat.lt_irrefl _))]
  simp
theorem cI {t : List UInt8} {z : Int} (hz : Rg z) : rI (encI z ++ t) = some (z, t) := by
  unfold rI encI
  rw [cN (zig_lt hz)]
  show some (unz (zig z), t) = _
  rw [unz_zig]
theorem cB {t : List UInt8} {lo hi n : Nat} (hn : n < 18446744073709551616) (h1 : lo ≤ n) (h2 : n ≤ hi) : rB lo hi (encN n ++ t) = some (n, t) := by
  unfold rB
  rw [cN hn]
  show (if n < lo ∨ hi < n then none else some (n, t)) = _
  rw [if_neg (by omega)]
theorem cRaw {s t : List UInt8} : rRaw s.length (s ++ t) = some (s, t) := by
  unfold rRaw
  rw [if_neg (by rw [List.length_append]; omega), List.take_left, List.drop_left]

theorem valE_iff {L : Es} (h : Rises L) (k : Nat) (v : Int × Int) : valE L k = some v ↔ (k, v) ∈ L := by
  constructor
  · intro e
    unfold valE at e
    cases hf : L.find? (fun e => e.1 == k) with
    | none => rw [hf] at e; cases e
    | some x =>
      rw [hf] at e
      have h1 := List.mem_of_find?_eq_some hf
      have h2 := List.find?_some hf
      simp at h2 e
      rw [← h2, ← e]
      exact h1
  · intro hm
    exact valE_mem h hm
theorem opt_ext {α : Type} {a b : Option α} (h : ∀ v, a = some v ↔ b = some v) : a = b := by
  cases a with
  | none =>
    cases b with
    | none => rfl
    | some y => exact ((h y).2 rfl)
  | some x => exact ((h x).1 rfl).symm
theorem valE_ins {L : Es} (h : Rises L) (id : Nat) (v : Int × Int) (k : Nat) : valE (ins L id v) k = if k = id then some v else valE L k := by
  apply opt_ext
  intro u
  rw [valE_iff (rises_ins h id v), mem_ins]
  by_cases hk : k = id
  · subst hk
    simp
    exact eq_comm
  · rw [if_neg hk, valE_iff h]
    simp [hk]
theorem valE_del {L : Es} (h : Rises L) (id : Nat) (k : Nat) : valE (del L id) k = if k = id then none else valE L k := by
  apply opt_ext
  intro u
  rw [valE_iff (rises_del h id), mem_del]
  by_cases hk : k = id
  · subst hk
    simp
  · rw [if_neg hk, valE_iff h]
    simp [hk]
/-- One change laid into a map. -/
def lay (m : Es) (c : Ch) : Es := match c.2.2 with | none => del m c.1 | some v => ins m c.1 v
theorem rises_lay {m : Es} (h : Rises m) (c : Ch) : Rises (lay m c) := by
  unfold lay
  split
  · exact rises_del h _
  · exact rises_ins h _ _
theorem valE_lay {m : Es} (h : Rises m) (c : Ch) (k : Nat) : valE (lay m c) k = if k = c.1 then c.2.2 else valE m k := by
  unfold lay
  split
  · rename_i e
    rw [valE_del h, e]
  · rename_i v e
    rw [valE_ins h, e]
theorem valE_ext {A B : Es} (ha : Rises A) (hb : Rises B) (h : ∀ k, valE A k = valE B k) : A = B := by
  refine rises_ext ha hb fun e => ?_
  obtain ⟨k, v⟩ := e
  rw [← valE_iff ha, ← valE_iff hb, h k]
theorem difE_spec {A B : Es} (ha : Rises A) (hb : Rises B) : (difE A B).Pairwise (fun x y => x.1 < y.1) ∧ (∀ k, k ∈ (difE A B).map (·.1) ↔ valE A k ≠ valE B k) ∧ ∀ c ∈ difE A B, c = (c.1, (valE A c.1, valE B c.1)) := by
  obtain ⟨h1, h2⟩ := rdif_DifK ha hb
  exact ⟨List.pairwise_map.1 h1, h2, rdif_vals _ A B (Nat.le_refl _) ha hb⟩
theorem lays : ∀ (D : List Ch), D.Pairwise (fun x y => x.1 < y.1) → ∀ (m : Es), Rises m → Rises (D.foldl lay m) ∧ ∀ k, valE (D.foldl lay m) k = match D.find? (fun c => c.1 == k) with | some c => c.2.2 | none => valE m k
  | [], _, m, h => ⟨h, fun k => rfl⟩
  | c :: D, hp, m, h => by
    obtain ⟨h1, h2⟩ := List.pairwise_cons.1 hp
    obtain ⟨i1, i2⟩ := lays D h2 (lay m c) (rises_lay h c)
    refine ⟨i1, fun k => ?_⟩
    rw [List.foldl_cons, i2 k, List.find?_cons]
    by_cases hk : c.1 = k
    · rw [show (c.1 == k) = true by simpa using hk]
      have : D.find? (fun d => d.1 == k) = none := List.find?_eq_none.2 fun d hd => by have := h1 d hd; simp; omega
      rw [this]
      show valE (lay m c) k = c.2.2
      rw [valE_lay h, if_pos hk.symm]
    · rw [show (c.1 == k) = false by simpa using hk]
      cases hf : D.find? (fun d => d.1 == k) with
      | some d => rfl
      | none =>
        show valE (lay m c) k = valE m k
        rw [valE_lay h, if_neg (fun e => hk e.symm)]
/-- What differs, laid into the one, makes the other. -/
theorem lay_all {A B : Es} (ha : Rises A) (hb : Rises B) : (difE A B).foldl lay A = B := by
  obtain ⟨h1, h2, h3⟩ := difE_spec ha hb
  obtain ⟨l1, l2⟩ := lays _ h1 A ha
  refine valE_ext l1 hb fun k => ?_
  rw [l2]
  cases hf : (difE A B).find? (fun c => c.1 == k) with
  | some c =>
    have hm := List.mem_of_find?_eq_some hf
    have hk : c.1 = k := by simpa using List.find?_some hf
    show c.2.2 = valE B k
    rw [h3 c hm]
    show valE B c.1 = valE B k
    rw [hk]
  | none =>
    show valE A k = valE B k
    apply Classical.byContradiction
    intro hne
    obtain ⟨c, hc, e⟩ := List.mem_map.1 ((h2 k).2 hne)
    have := List.find?_eq_none.1 hf c hc
    simp at this
    exact this e

/-- The entries of a map that can be written. -/
def EsOk (L : Es) : Prop := Rises L ∧ L.length ≤ 4294967296 ∧ ∀ e ∈ L, e.1 < 4294967296 ∧ Rg e.2.1 ∧ Rg e.2.2
theorem esOk_nil : EsOk [] := ⟨List.Pairwise.nil, by simp, fun e h => by cases h⟩
theorem cCh {m : Es} {c : Ch} {t : List UInt8} (hr : ∀ v, c.2.2 = some v → Rg v.1 ∧ Rg v.2) : rCh m c.1 ((match c.2.2 with | none => encN 0 | some v => encN 1 ++ (encI v.1 ++ encI v.2)) ++ t) = some (lay m c, t) := by
  unfold rCh lay
  cases hc : c.2.2 with
  | none =>
    show bd (rB 0 1 (encN 0 ++ t)) _ = _
    rw [cB (by decide) (by decide) (by decide)]
    rfl
  | some v =>
    obtain ⟨r1, r2⟩ := hr v hc
    show bd (rB 0 1 ((encN 1 ++ (encI v.1 ++ encI v.2)) ++ t)) _ = _
    rw [List.append_assoc, List.append_assoc, cB (by decide) (by decide) (by decide)]
    show bd (rI (encI v.1 ++ (encI v.2 ++ t))) _ = _
    rw [cI r1]
    show bd (rI (encI v.2 ++ t)) _ = _
    rw [cI r2]
    rfl
theorem cGo : ∀ (D : List Ch) (t : List UInt8) (m : Es) (least : Nat), D.Pairwise (fun x y => x.1 < y.1) → Rises m → (∀ c ∈ D, least ≤ c.1 ∧ c.1 < 4294967296 ∧ valE m c.1 ≠ c.2.2 ∧ ∀ v, c.2.2 = some v → Rg v.1 ∧ Rg v.2) → rGo D.length least m (D.flatMap encC ++ t) = some (D.foldl lay m, t)
  | [], t, m, least, _, _, _ => rfl
  | c :: D, t, m, least, hp, hm, h => by
    obtain ⟨p1, p2⟩ := List.pairwise_cons.1 hp
    obtain ⟨c1, c2, c3, c4⟩ := h c (by simp)
    rw [List.flatMap_cons, List.append_assoc]
    unfold encC
    rw [List.append_assoc]
    show bd (rB least 4294967295 _) _ = _
    rw [cB (by omega) c1 (by omega)]
    show bd (rCh m c.1 _) _ = _
    rw [cCh c4]
    show (if lay m c = m then none else rGo D.length (c.1 + 1) (lay m c) _) = _
    have hv := valE_lay hm c c.1
    rw [if_pos rfl] at hv
    rw [if_neg (fun e => by rw [e] at hv; exact c3 hv)]
    exact cGo D t (lay m c) (c.1 + 1) p2 (rises_lay hm c) (fun d hd => by
      obtain ⟨d1, d2, d3, d4⟩ := h d (List.mem_cons_of_mem _ hd)
      have hlt := p1 d hd
      refine ⟨hlt, d2, ?_, d4⟩
      rw [valE_lay hm, if_neg (by omega)]
      exact d3)
theorem difE_len (A B : Es) : (difE A B).length ≤ A.length + B.length := rdif_len _ A B
theorem cD {A B : Es} {t : List UInt8} (ha : EsOk A) (hb : EsOk B) : rD A (encD A B ++ t) = some (B, t) := by
  obtain ⟨h1, h2, h3⟩ := difE_spec ha.1 hb.1
  have hl := difE_len A B
  have la := ha.2.1
  have lb := hb.2.1
  unfold rD encD
  rw [List.append_assoc, cN (by omega)]
  show rGo _ 0 A _ = _
  rw [cGo _ t A 0 h1 ha.1 (fun c hc => ?_), lay_all ha.1 hb.1]
  have e := h3 c hc
  have hne := (h2 c.1).1 (List.mem_map_of_mem hc)
  have e2 : c.2.2 = valE B c.1 := congrArg (·.2.2) e
  refine ⟨Nat.zero_le _, ?_, by rw [e2]; exact hne, fun v hv => ?_⟩
  · cases hA : valE A c.1 with
    | some v => exact (ha.2.2 _ ((valE_iff ha.1 _ _).1 hA)).1
    | none =>
      cases hB : valE B c.1 with
      | some v => exact (hb.2.2 _ ((valE_iff hb.1 _ _).1 hB)).1
      | none => rw [hA, hB] at hne; exact absurd rfl hne
  · rw [e2] at hv
    exact (hb.2.2 _ ((valE_iff hb.1 _ _).1 hv)).2
theorem cCn : ∀ (Ls : List Es) (m : Es) (t : List UInt8), EsOk m → (∀ L ∈ Ls, EsOk L) → rCn Ls.length m (encV m Ls ++ t) = some (Ls, t)
  | [], m, t, _, _ => rfl
  | L :: r, m, t, hm, h => by
    unfold encV
    rw [List.append_assoc]
    show bd (rD m _) _ = _
    rw [cD hm (h L (by simp))]
    show bd (rCn r.length L _) _ = _
    rw [cCn r L t (h L (by simp)) (fun x hx => h x (List.mem_cons_of_mem _ hx))]
    rfl
/-- A branch that can be written. -/
structure BcOk (x : Bc) : Prop where
  nm : isNm x.nm = true
  bs : EsOk x.bs
  Ls : ∀ L ∈ x.Ls, EsOk L
  p : x.p < x.Ls.length
  n : x.Ls.length ≤ 33
theorem isNm_len {s : List UInt8} (h : isNm s = true) : 1 ≤ s.length ∧ s.length ≤ 8 := by
  cases s with
  | nil => cases h
  | cons b r =>
    unfold isNm at h
    simp only [Bool.and_eq_true, decide_eq_true_eq] at h
    simp
    omega
theorem cNm {ahead : List (List UInt8)} {s t : List UInt8} (h : isNm s = true) (ha : ∀ x, ahead.getLast? = some x → x < s) : rNm ahead (encN s.length ++ (s ++ t)) = some (s, t) := by
  obtain ⟨l1, l2⟩ := isNm_len h
  unfold rNm
  rw [cB (by omega) l1 l2]
  show bd (rRaw s.length (s ++ t)) _ = _
  rw [cRaw]
  show (if _ then _ else _) = _
  rw [if_pos ⟨h, ha⟩]
theorem cBr {x : Bc} {t : List UInt8} (h : BcOk x) : rBr x.nm (encD [] x.bs ++ (encN x.p ++ (encN (x.Ls.length - 1 - x.p) ++ encV x.bs x.Ls)) ++ t) = some (x, t) := by
  obtain ⟨h1, h2, h3, h4, h5⟩ := h
  unfold rBr
  obtain ⟨nm, bs, Ls, p⟩ := x
  dsimp only at *
  cases Ls with
  | nil => simp at h4
  | cons v vs =>
    simp only [List.length_cons] at h4 h5 ⊢
    simp only [List.append_assoc]
    rw [cD esOk_nil h2]
    show bd (rB 0 32 _) _ = _
    rw [cB (by omega) (by omega) (by omega)]
    show bd (rB 0 (32 - p) _) _ = _
    rw [cB (by omega) (by omega) (by omega)]
    unfold encV
    show bd (rD bs _) _ = _
    rw [List.append_assoc, cD h2 (h3 v (by simp))]
    show bd (rCn (p + (vs.length + 1 - 1 - p)) v _) _ = _
    rw [show p + (vs.length + 1 - 1 - p) = vs.length by omega, cCn vs v t (h3 v (by simp)) (fun L hL => h3 L (List.mem_cons_of_mem _ hL))]
    rfl
theorem cBs : ∀ (xs acc : List Bc) (t : List UInt8), (∀ x ∈ xs, BcOk x) → (acc ++ xs).Pairwise (fun x y => x.nm < y.nm) → rBs xs.length acc (xs.flatMap encX ++ t) = some (acc ++ xs, t)
  | [], acc, t, _, _ => by simp [rBs]
  | x :: xs, acc, t, h, hp => by
    have hx := h x (by simp)
    rw [List.flatMap_cons, List.append_assoc]
    unfold encX
    rw [List.append_assoc, List.append_assoc]
    show bd (rNm (acc.map (·.nm)) _) _ = _
    rw [cNm hx.nm (fun y hy => by
      rw [List.getLast?_map] at hy
      cases hl : acc.getLast? with
      | none => rw [hl] at hy; cases hy
      | some z =>
        rw [hl] at hy
        injection hy with hy
        rw [← hy]
        exact (List.pairwise_append.1 hp).2.2 z (List.mem_of_getLast? hl) x (by simp))]
    show bd (rBr x.nm _) _ = _
    rw [cBr hx]
    show rBs xs.length (acc ++ [x]) _ = _
    have := cBs xs (acc ++ [x]) t (fun y hy => h y (List.mem_cons_of_mem _ hy)) (by rw [List.append_assoc]; exact hp)
    unfold encX at this
    rw [this, List.append_assoc]
    rfl
/-- A book that can be written. -/
structure BkOk (xs : List Bc) (c : Nat) : Prop where
  all : ∀ x ∈ xs, BcOk x
  srt : xs.Pairwise (fun x y => x.nm < y.nm)
  six : xs.length ≤ 6
  cur : c < xs.length
  main : nMain ∈ xs.map (·.nm)
theorem cBook {xs : List Bc} {c : Nat} {t : List UInt8} (h : BkOk xs c) : rBook (encBk xs c ++ t) = some ((xs, c), t) := by
  obtain ⟨h1, h2, h3, h4, h5⟩ := h
  unfold rBook encBk
  show bd (rB 1 6 ((encN xs.length ++ (xs.flatMap encX ++ encN c)) ++ t)) _ = _
  rw [List.append_assoc, List.append_assoc, cB (by omega) (by omega) h3]
  show bd (rBs xs.length [] _) _ = _
  rw [cBs xs [] _ h1 (by simpa using h2)]
  show bd (rB 0 (xs.length - 1) _) _ = _
  rw [cB (by omega) (by omega) (by omega)]
  show (if nMain ∈ (([] : List Bc) ++ xs).map (·.nm) then _ else _) = _
  rw [List.nil_append, if_pos h5]
/-- What Get tells of these bytes. -/
def get (l : List UInt8) : Option (List Bc × Nat) :=
  match rBook l with
  | some (x, []) => some x
  | _ => none
theorem get_enc {xs : List Bc} {c : Nat} (h : BkOk xs c) : get (encBk xs c) = some (xs, c) := by
  have := cBook (t := []) h
  rw [List.append_nil] at this
  unfold get
  rw [this]
theorem get_more {xs : List Bc} {c : Nat} (h : BkOk xs c) (b : UInt8) (t : List UInt8) : get (encBk xs c ++ b :: t) = none := by
  unfold get
  rw [cBook h]
theorem get_cut {xs : List Bc} {c n : Nat} (h : BkOk xs c) (hn : n < (encBk xs c).length) : get ((encBk xs c).take n) = none := by
  unfold get
  cases hr : rBook ((encBk xs c).take n) with
  | none => rfl
  | some q =>
    obtain ⟨x, t⟩ := q
    have h1 := loc_Book _ ((encBk xs c).drop n) _ _ hr
    rw [List.take_append_drop] at h1
    have h2 := cBook (t := []) h
    rw [List.append_nil, h1] at h2
    injection h2 with h2
    injection h2 with h3 h4
    have := congrArg List.length h4
    rw [List.length_append, List.length_drop, List.length_nil] at this
    omega
theorem enc_inj {xs ys : List Bc} {c d : Nat} (h : BkOk xs c) (k : BkOk ys d) (e : encBk xs c = encBk ys d) : xs = ys ∧ c = d := by
  have h1 := get_enc h
  rw [e, get_enc k] at h1
  injection h1 with h1
  injection h1 with h1 h2
  exact ⟨h1.symm, h2.symm⟩

end Go.Proofs.YtblfdjdhikfjhaaGreat.BZ

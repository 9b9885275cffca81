import Derived.Test.YtjgngmmepheioaaProg
/- THE BYTES OF PACKS. No program. -/
namespace Go.Proofs.Ytjgngmmepheioaa

/-- A number, seven bits a byte, the lowest first. -/
def encN (n : Nat) : List UInt8 := if n < 128 then [UInt8.ofNat n] else UInt8.ofNat (n % 128 + 128) :: encN (n / 128)
termination_by n
decreasing_by omega
def valN : List UInt8 → Nat
  | [] => 0
  | b :: l => b.toNat % 128 + 128 * valN l
theorem encN_small {n : Nat} (h : n < 128) : encN n = [UInt8.ofNat n] := by rw [encN, if_pos h]
theorem encN_big {n : Nat} (h : ¬ n < 128) : encN n = UInt8.ofNat (n % 128 + 128) :: encN (n / 128) := by rw [encN, if_neg h]
theorem ofNat_eq {b : UInt8} {n : Nat} (h : b.toNat = n) : UInt8.ofNat n = b := by
  apply UInt8.toNat_inj.1
  have := b.toNat_lt
  simp
  omega
theorem encN_val : ∀ (p : List UInt8) (b : UInt8), (∀ c ∈ p, 128 ≤ c.toNat) → b.toNat < 128 → (p = [] ∨ b.toNat ≠ 0) → encN (valN (p ++ [b])) = p ++ [b]
  | [], b, _, hb, _ => by
    show encN (b.toNat % 128 + 128 * 0) = [b]
    rw [encN_small (by omega), ofNat_eq (b := b) (by omega)]
  | c :: p, b, hp, hb, hz => by
    have h0 : b.toNat ≠ 0 := by rcases hz with h | h; · cases h
                                · exact h
    have ih := encN_val p b (fun x hx => hp x (List.mem_cons_of_mem _ hx)) hb (.inr h0)
    have hpos : ∀ (q : List UInt8), 0 < valN (q ++ [b]) := fun q => by
      induction q with
      | nil => show 0 < b.toNat % 128 + 128 * 0; omega
      | cons x q ih => show 0 < x.toNat % 128 + 128 * valN (q ++ [b]); omega
    have h1 := hpos p
    have hc := hp c (by simp)
    have hcl := c.toNat_lt
    show encN (c.toNat % 128 + 128 * valN (p ++ [b])) = c :: (p ++ [b])
    rw [encN_big (by omega), show (c.toNat % 128 + 128 * valN (p ++ [b])) / 128 = valN (p ++ [b]) from by omega, ih, ofNat_eq (b := c) (by omega)]
theorem valN_snoc : ∀ (p : List UInt8) (b : UInt8), valN (p ++ [b]) = valN p + b.toNat % 128 * 128 ^ p.length
  | [], b => by simp [valN]
  | c :: p, b => by
    show c.toNat % 128 + 128 * valN (p ++ [b]) = c.toNat % 128 + 128 * valN p + _
    rw [valN_snoc p b, List.length_cons, Nat.pow_succ]
    rw [Nat.mul_add, Nat.add_assoc]
    congr 1
    congr 1
    rw [Nat.mul_comm 128, Nat.mul_assoc]
theorem valN_lt : ∀ (p : List UInt8), valN p < 128 ^ p.length
  | [] => by simp [valN]
  | c :: p => by
    have := valN_lt p
    show c.toNat % 128 + 128 * valN p < 128 ^ (p.length + 1)
    rw [Nat.pow_succ]
    omega
theorem encN_len : ∀ (k n : Nat), n < 128 ^ k → 0 < k → (encN n).length ≤ k
  | 0, n, _, h => by omega
  | k + 1, n, h, _ => by
    by_cases hn : n < 128
    · rw [encN_small hn]; simp
    · rw [encN_big hn, List.length_cons]
      have hk : 0 < k := by
        rcases Nat.eq_zero_or_pos k with h0 | h0
        · subst h0; simp at h; omega
        · exact h0
      have := encN_len k (n / 128) (by rw [Nat.pow_succ] at h; omega) hk
      omega
theorem encN_pos (n : Nat) : 0 < (encN n).length := by
  by_cases hn : n < 128
  · rw [encN_small hn]; simp
  · rw [encN_big hn]; simp

/-- 0, -1, 1, -2, 2 .. as 0, 1, 2, 3, 4 .. -/
def zig (z : Int) : Nat := if z < 0 then 2 * (-z - 1).toNat + 1 else 2 * z.toNat
def encI (z : Int) : List UInt8 := encN (zig z)
def encS (s : List UInt8) : List UInt8 := encN s.length ++ s
def encB (b : Bool) : List UInt8 := [if b = true then 1 else 0]
def encL {α : Type} (f : α → List UInt8) (l : List α) : List UInt8 := encN l.length ++ l.flatMap f

/-- Expressions in a row. -/
inductive Fo where
  | nil
  | cons (op num den mode : Int) (args rest : Fo)
def Fo.len : Fo → Nat
  | .nil => 0
  | .cons _ _ _ _ _ r => r.len + 1
/-- One expression. -/
structure Ex where
  op : Int
  num : Int
  den : Int
  mode : Int
  args : Fo
def Fo.snoc : Fo → Ex → Fo
  | .nil, e => .cons e.op e.num e.den e.mode e.args .nil
  | .cons a b c d x r, e => .cons a b c d x (r.snoc e)
def Fo.get? : Fo → Nat → Option Ex
  | .nil, _ => none
  | .cons a b c d x _, 0 => some ⟨a, b, c, d, x⟩
  | .cons _ _ _ _ _ r, i + 1 => r.get? i
def Fo.drop : Fo → Nat → Fo
  | f, 0 => f
  | .nil, _ + 1 => .nil
  | .cons _ _ _ _ _ r, i + 1 => r.drop i
theorem Fo.len_snoc (f : Fo) (e : Ex) : (f.snoc e).len = f.len + 1 := by
  induction f with
  | nil => rfl
  | cons a b c d x r _ ih => show (r.snoc e).len + 1 = _; rw [ih]; rfl
theorem Fo.get_lt : ∀ (f : Fo) (i : Nat), i < f.len → ∃ e, f.get? i = some e
  | .nil, i, h => absurd h (Nat.not_lt_zero _)
  | .cons a b c d x r, 0, _ => ⟨_, rfl⟩
  | .cons a b c d x r, i + 1, h => Fo.get_lt r i (by unfold Fo.len at h; omega)
def hasB (num den mode : Int) (n : Nat) : Nat := (if num = 0 then 0 else 1) + (if den = 0 then 0 else 2) + (if mode = 0 then 0 else 4) + (if n = 0 then 0 else 8)
def encZ (z : Int) : List UInt8 := if z = 0 then [] else encI z
def encF : Fo → List UInt8
  | .nil => []
  | .cons op num den mode args rest => encI op ++ ([UInt8.ofNat (hasB num den mode args.len)] ++ (encZ num ++ (encZ den ++ (encZ mode ++ (if args.len = 0 then [] else encN args.len ++ encF args))))) ++ encF rest
def encE (e : Ex) : List UInt8 := encI e.op ++ ([UInt8.ofNat (hasB e.num e.den e.mode e.args.len)] ++ (encZ e.num ++ (encZ e.den ++ (encZ e.mode ++ (if e.args.len = 0 then [] else encN e.args.len ++ encF e.args)))))
theorem encF_snoc (f : Fo) (e : Ex) : encF (f.snoc e) = encF f ++ encE e := by
  induction f with
  | nil =>
    show encE e ++ [] = [] ++ encE e
    simp
  | cons a b c d x r _ ih =>
    show _ ++ encF (r.snoc e) = _ ++ encF r ++ encE e
    rw [ih]
    simp only [List.append_assoc]
theorem encF_drop : ∀ (f : Fo) (i : Nat) (e : Ex), f.get? i = some e → encF (f.drop i) = encE e ++ encF (f.drop (i + 1))
  | .cons a b c d x r, 0, e, h => by
    cases h
    show _ = _ ++ encF (r.drop 0)
    cases r <;> rfl
  | .cons a b c d x r, i + 1, e, h => encF_drop r i e h
/-- How deep they are. -/
def deepF : Fo → Nat
  | .nil => 0
  | .cons _ _ _ _ args rest => max (1 + deepF args) (deepF rest)
def deepE (e : Ex) : Nat := 1 + deepF e.args
theorem deepF_snoc (f : Fo) (e : Ex) : deepF (f.snoc e) = max (deepF f) (deepE e) := by
  induction f with
  | nil => show max (1 + deepF e.args) 0 = max 0 (deepE e); unfold deepE; omega
  | cons a b c d x r _ ih => show max (1 + deepF x) (deepF (r.snoc e)) = max (max (1 + deepF x) (deepF r)) (deepE e); rw [ih]; omega
theorem deepF_get : ∀ (f : Fo) (i : Nat) (e : Ex), f.get? i = some e → deepE e ≤ deepF f
  | .cons a b c d x r, 0, e, h => by
    cases h
    show 1 + deepF x ≤ max (1 + deepF x) (deepF r)
    omega
  | .cons a b c d x r, i + 1, e, h => by
    have := deepF_get r i e h
    show deepE e ≤ max (1 + deepF x) (deepF r)
    omega

structure Cl where
  pri : Int
  guarded : Bool
  guard : Ex
  body : Ex
structure Ln where
  name : List UInt8
  input : Bool
  must : Bool
  type : Int
  opts : Int
  group : Int
  cls : List Cl
structure Ck where
  name : List UInt8
  hard : Bool
  group : Int
  when_ : Ex
  text : List UInt8
structure Pk where
  name : List UInt8
  year : Int
  opts : List (List UInt8 × List (List UInt8))
  tabs : List (List UInt8 × List (Int × Int))
  grps : List (List UInt8 × Int)
  lns : List Ln
  cks : List Ck
def encO (o : List UInt8 × List (List UInt8)) : List UInt8 := encS o.1 ++ encL encS o.2
def encBd (b : Int × Int) : List UInt8 := encI b.1 ++ encI b.2
def encT (t : List UInt8 × List (Int × Int)) : List UInt8 := encS t.1 ++ encL encBd t.2
def encG (g : List UInt8 × Int) : List UInt8 := encS g.1 ++ encI g.2
def encC (c : Cl) : List UInt8 := encI c.pri ++ encB c.guarded ++ encE c.guard ++ encE c.body
def encLn (l : Ln) : List UInt8 := encS l.name ++ encB l.input ++ encB l.must ++ encI l.type ++ encI l.opts ++ encI l.group ++ encL encC l.cls
def encK (c : Ck) : List UInt8 := encS c.name ++ encB c.hard ++ encI c.group ++ encE c.when_ ++ encS c.text
def encP (p : Pk) : List UInt8 := [76, 86, 89, 49] ++ encS p.name ++ encI p.year ++ encL encO p.opts ++ encL encT p.tabs ++ encL encG p.grps ++ encL encLn p.lns ++ encL encK p.cks

end Go.Proofs.Ytjgngmmepheioaa

import Derived.Test.YtjgngmmepheioaaPkM
import Derived.Test.YtjgngmmepheioaaPSum0
/- WHAT THE READER READS, as functions of the bytes. No program. -/
namespace Go.Proofs.Ytjgngmmepheioaa

/-- What is read, and up to where; or the fault's place and its number. -/
abbrev Rd (β : Type) := Except (Nat × Nat) (β × Nat)
def bd {β γ : Type} (m : Rd β) (k : β → Nat → Rd γ) : Rd γ :=
  match m with
  | .ok (x, a) => k x a
  | .error e => .error e
def nGo (len at_ : Nat) : List UInt8 → Nat → Nat → Rd Nat
  | [], _, _ => .error (len, 70)
  | b :: r, i, n => if (i = 9 ∧ 1 < b.toNat) ∨ (0 < i ∧ b.toNat = 0) then .error (at_, 71) else if b.toNat < 128 then .ok (n + b.toNat % 128 * 128 ^ i, at_ + (i + 1)) else nGo len at_ r (i + 1) (n + b.toNat % 128 * 128 ^ i)
def rN (l : List UInt8) (at_ : Nat) : Rd Nat := nGo l.length at_ (l.drop at_) 0 0
def rLen (l : List UInt8) (at_ : Nat) : Rd Nat := bd (rN l at_) (fun n a => if l.length - a < n then .error (l.length, 70) else .ok (n, a))
def unz (n : Nat) : Int := if n % 2 = 1 then -((n / 2 : Nat) : Int) - 1 else ((n / 2 : Nat) : Int)
def rInt (l : List UInt8) (at_ : Nat) : Rd Int := bd (rN l at_) (fun n a => .ok (unz n, a))
def rNz (l : List UInt8) (at_ : Nat) : Rd Int := bd (rInt l at_) (fun z a => if z = 0 then .error (at_, 71) else .ok (z, a))
def rByte (most : Nat) (l : List UInt8) (at_ : Nat) : Rd Nat :=
  match l[at_]? with
  | none => .error (l.length, 70)
  | some b => if most < b.toNat then .error (at_, 71) else .ok (b.toNat, at_ + 1)
def rFlag (l : List UInt8) (at_ : Nat) : Rd Bool := bd (rByte 1 l at_) (fun b a => .ok (decide (b = 1), a))
def rRaw (n : Nat) (l : List UInt8) (at_ : Nat) : Rd (List UInt8) := if l.length - at_ < n then .error (l.length, 70) else .ok ((l.drop at_).take n, at_ + n)
def rTxt (l : List UInt8) (at_ : Nat) : Rd (List UInt8) := bd (rLen l at_) (fun n a => rRaw n l a)
def rRep {β : Type} (item : Nat → Rd β) : Nat → Nat → Rd (List β)
  | 0, a => .ok ([], a)
  | n + 1, a => bd (item a) (fun x a1 => bd (rRep item n a1) (fun xs a2 => .ok (x :: xs, a2)))
def rLst {β : Type} (item : List UInt8 → Nat → Rd β) (l : List UInt8) (at_ : Nat) : Rd (List β) := bd (rLen l at_) (fun n a => rRep (item l) n a)
def rBand (l : List UInt8) (a : Nat) : Rd (Int × Int) := bd (rInt l a) fun x1 a => bd (rInt l a) fun x2 a => .ok ((x1, x2), a)
def rGroup (l : List UInt8) (a : Nat) : Rd (List UInt8 × Int) := bd (rTxt l a) fun x1 a => bd (rInt l a) fun x2 a => .ok ((x1, x2), a)
def rOptions (l : List UInt8) (a : Nat) : Rd (List UInt8 × List (List UInt8)) := bd (rTxt l a) fun x1 a => bd (rLst rTxt l a) fun x2 a => .ok ((x1, x2), a)
def rTable (l : List UInt8) (a : Nat) : Rd (List UInt8 × List (Int × Int)) := bd (rTxt l a) fun x1 a => bd (rLst rBand l a) fun x2 a => .ok ((x1, x2), a)
def ofL : List Ex → Fo
  | [] => .nil
  | e :: l => .cons e.op e.num e.den e.mode e.args (ofL l)
def rOpt (is : Bool) (l : List UInt8) (a : Nat) : Rd Int :=
  match is with
  | true => rNz l a
  | false => .ok (0, a)
def rArgs (item : List UInt8 → Nat → Rd Ex) (l : List UInt8) (a : Nat) : Rd (List Ex) := bd (rLst item l a) (fun es a2 => if es.length = 0 then .error (a, 71) else .ok (es, a2))
def rArg (is : Bool) (item : List UInt8 → Nat → Rd Ex) (l : List UInt8) (a : Nat) : Rd (List Ex) :=
  match is with
  | true => rArgs item l a
  | false => .ok ([], a)
/-- k: how much deeper it may go. -/
def rExpr : Nat → List UInt8 → Nat → Rd Ex
  | 0, _, a => .error (a, 72)
  | k + 1, l, a => bd (rInt l a) fun op a => bd (rByte 15 l a) fun b a => bd (rOpt (Nat.testBit b 0) l a) fun num a => bd (rOpt (Nat.testBit b 1) l a) fun den a => bd (rOpt (Nat.testBit b 2) l a) fun mode a => bd (rArg (Nat.testBit b 3) (rExpr k) l a) fun es a => .ok (⟨op, num, den, mode, ofL es⟩, a)
def rClause (l : List UInt8) (a : Nat) : Rd Cl := bd (rInt l a) fun x1 a => bd (rFlag l a) fun x2 a => bd (rExpr 64 l a) fun x3 a => bd (rExpr 64 l a) fun x4 a => .ok (⟨x1, x2, x3, x4⟩, a)
def rCheck (l : List UInt8) (a : Nat) : Rd Ck := bd (rTxt l a) fun x1 a => bd (rFlag l a) fun x2 a => bd (rInt l a) fun x3 a => bd (rExpr 64 l a) fun x4 a => bd (rTxt l a) fun x5 a => .ok (⟨x1, x2, x3, x4, x5⟩, a)
def rLine (l : List UInt8) (a : Nat) : Rd Ln := bd (rTxt l a) fun x1 a => bd (rFlag l a) fun x2 a => bd (rFlag l a) fun x3 a => bd (rInt l a) fun x4 a => bd (rInt l a) fun x5 a => bd (rInt l a) fun x6 a => bd (rLst rClause l a) fun x7 a => .ok (⟨x1, x2, x3, x4, x5, x6, x7⟩, a)
def fnvB (l : List UInt8) : Nat := fnv (l.map UInt8.toNat)
def sum4 (n : Nat) : List UInt8 := [UInt8.ofNat (n % 256), UInt8.ofNat (n / 256 % 256), UInt8.ofNat (n / 65536 % 256), UInt8.ofNat (n / 16777216)]
def rSum (l : List UInt8) (at_ : Nat) : Rd Unit := bd (rRaw 4 l at_) fun s a => if s = sum4 (fnvB (l.take at_)) then (if 0 < l.length - a then .error (a, 73) else .ok ((), a)) else .error (at_, 74)
def rHead (l : List UInt8) (a : Nat) : Rd Unit := bd (rRaw 4 l a) fun s a => if s = [76, 86, 89, 49] then .ok ((), a) else .error (0, 71)
def rPack (l : List UInt8) (a : Nat) : Rd Pk := bd (rHead l a) fun _ a => bd (rTxt l a) fun x1 a => bd (rInt l a) fun x2 a => bd (rLst rOptions l a) fun x3 a => bd (rLst rTable l a) fun x4 a => bd (rLst rGroup l a) fun x5 a => bd (rLst rLine l a) fun x6 a => bd (rLst rCheck l a) fun x7 a => bd (rSum l a) fun _ a => .ok (⟨x1, x2, x3, x4, x5, x6, x7⟩, a)

/-- What a piece of the reader did: behind a fault nothing. -/
def Xp {β : Type} (M : Rd β) (ft er at2 ft2 er2 : Nat) (x : β) : Prop := (er ≠ 0 → ft2 = ft ∧ er2 = er) ∧ (er = 0 → (∀ y a, M = .ok (y, a) → y = x ∧ a = at2 ∧ ft2 = ft ∧ er2 = 0) ∧ ∀ p n, M = .error (p, n) → ft2 = p ∧ er2 = n ∧ n ≠ 0)
theorem Xp.bd {β γ : Type} {M : Rd β} {K : β → Nat → Rd γ} {ft er a1 f1 e1 a2 f2 e2 : Nat} {x : β} {y : γ} (h : Xp M ft er a1 f1 e1 x) (k : Xp (K x a1) f1 e1 a2 f2 e2 y) : Xp (bd M K) ft er a2 f2 e2 y := by
  refine ⟨fun he => ?_, fun he => ?_⟩
  · obtain ⟨h1, h2⟩ := h.1 he
    obtain ⟨k1, k2⟩ := k.1 (by rw [h2]; exact he)
    exact ⟨k1.trans h1, k2.trans h2⟩
  · obtain ⟨h1, h2⟩ := h.2 he
    cases hM : M with
    | ok p =>
      obtain ⟨y0, a0⟩ := p
      obtain ⟨rfl, rfl, rfl, rfl⟩ := h1 _ _ hM
      exact k.2 rfl
    | error p =>
      obtain ⟨p, n⟩ := p
      obtain ⟨rfl, rfl, hn⟩ := h2 _ _ hM
      obtain ⟨k1, k2⟩ := k.1 hn
      refine ⟨fun y a h => by (cases h), fun p n h => ?_⟩
      cases h
      exact ⟨k1, k2, hn⟩
theorem Xp.pure {β : Type} {x : β} {ft er a : Nat} : Xp (.ok (x, a)) ft er a ft er x := ⟨fun _ => ⟨rfl, rfl⟩, fun he => ⟨fun y a h => by cases h; exact ⟨rfl, rfl, rfl, he⟩, fun p n h => by (cases h)⟩⟩
theorem Xp.stuck {β : Type} {M : Rd β} {x : β} {ft er a : Nat} (he : er ≠ 0) : Xp M ft er a ft er x := ⟨fun _ => ⟨rfl, rfl⟩, fun h => absurd h he⟩
theorem Xp.fail {β : Type} {M : Rd β} {x : β} {ft er a p n : Nat} (h : er = 0 → M = .error (p, n)) (hn : n ≠ 0) : Xp M ft er a (if er = 0 then p else ft) (if er = 0 then n else er) x := by
  refine ⟨fun he => by rw [if_neg he, if_neg he]; exact ⟨rfl, rfl⟩, fun he => ?_⟩
  rw [if_pos he, if_pos he]
  have hM := h he
  subst hM
  exact ⟨fun y a h => by (cases h), fun p n h => by cases h; exact ⟨rfl, rfl, hn⟩⟩
/-- A step of a list. -/
theorem rRep_step {β : Type} {item : Nat → Rd β} {n i a a2 : Nat} {xs : List β} {x : β} (hi : i < n) (h : item a = .ok (x, a2)) : bd (rRep item (n - i) a) (fun ys b => .ok (xs ++ ys, b)) = bd (rRep item (n - (i + 1)) a2) (fun ys b => .ok (xs ++ [x] ++ ys, b)) := by
  obtain ⟨m, hm⟩ : ∃ m, n - i = m + 1 := ⟨n - i - 1, by omega⟩
  have hm2 : n - (i + 1) = m := by omega
  rw [hm, hm2]
  show bd (bd (item a) _) _ = _
  rw [h]
  show bd (bd (rRep item m a2) _) _ = _
  cases rRep item m a2 with
  | ok p => show Except.ok (xs ++ x :: p.1, p.2) = Except.ok (xs ++ [x] ++ p.1, p.2); rw [List.append_assoc]; rfl
  | error p => rfl
theorem rRep_bad {β : Type} {item : Nat → Rd β} {n i a : Nat} {xs : List β} {e : Nat × Nat} (hi : i < n) (h : item a = .error e) : bd (rRep item (n - i) a) (fun ys b => .ok (xs ++ ys, b)) = .error e := by
  obtain ⟨m, hm⟩ : ∃ m, n - i = m + 1 := ⟨n - i - 1, by omega⟩
  rw [hm]
  show bd (bd (item a) _) _ = _
  rw [h]
  rfl
/-- A list that is being read. -/
def Lp {β : Type} (item : Nat → Rd β) (L : Rd (List β)) (n i ft er at2 ft2 er2 : Nat) (xs : List β) : Prop := (er2 = 0 ∧ er = 0 ∧ ft2 = ft ∧ L = bd (rRep item (n - i) at2) (fun ys a => .ok (xs ++ ys, a))) ∨ (n = 0 ∧ Xp L ft er at2 ft2 er2 [])
theorem Lp.start {β : Type} {item : List UInt8 → Nat → Rd β} {l : List UInt8} {at_ ft er a1 f1 e1 n : Nat} (h : Xp (rLen l at_) ft er a1 f1 e1 n) (hn : e1 ≠ 0 → n = 0) : Lp (item l) (rLst item l at_) n 0 ft er a1 f1 e1 [] := by
  by_cases he : e1 = 0
  · left
    have her : er = 0 := by
      apply Classical.byContradiction
      intro h0
      have := (h.1 h0).2
      omega
    obtain ⟨h1, h2⟩ := h.2 her
    cases hM : rLen l at_ with
    | ok p =>
      obtain ⟨y, a⟩ := p
      obtain ⟨rfl, rfl, rfl, rfl⟩ := h1 _ _ hM
      refine ⟨rfl, her, rfl, ?_⟩
      unfold rLst
      rw [hM]
      show rRep (item l) y a = bd (rRep (item l) y a) _
      cases rRep (item l) y a with
      | ok p => rfl
      | error p => rfl
    | error p =>
      obtain ⟨p, n2⟩ := p
      obtain ⟨-, h3, h4⟩ := h2 _ _ hM
      omega
  · right
    have hn0 := hn he
    subst hn0
    refine ⟨rfl, ?_⟩
    unfold rLst
    exact h.bd (Xp.stuck he)
theorem Lp.step {β : Type} {item : Nat → Rd β} {L : Rd (List β)} {n i ft er at2 ft2 er2 at3 ft3 : Nat} {xs : List β} {x : β} (h : Lp item L n i ft er at2 ft2 er2 xs) (hi : i < n) (k : Xp (item at2) ft2 er2 at3 ft3 0 x) : Lp item L n (i + 1) ft er at3 ft3 0 (xs ++ [x]) := by
  rcases h with ⟨rfl, rfl, rfl, hL⟩ | ⟨h0, _⟩
  · left
    obtain ⟨k1, k2⟩ := k.2 rfl
    cases hM : item at2 with
    | ok p =>
      obtain ⟨y, a⟩ := p
      obtain ⟨rfl, rfl, rfl, _⟩ := k1 _ _ hM
      exact ⟨rfl, rfl, rfl, by rw [hL, rRep_step hi hM]⟩
    | error p =>
      obtain ⟨p, n2⟩ := p
      obtain ⟨-, h3, h4⟩ := k2 _ _ hM
      omega
  · omega
theorem Lp.bad {β : Type} {item : Nat → Rd β} {L : Rd (List β)} {n i ft er at2 ft2 er2 at3 ft3 er3 : Nat} {xs : List β} {x : β} (h : Lp item L n i ft er at2 ft2 er2 xs) (hi : i < n) (k : Xp (item at2) ft2 er2 at3 ft3 er3 x) (he : er3 ≠ 0) : Xp L ft er at3 ft3 er3 [] := by
  rcases h with ⟨rfl, rfl, rfl, hL⟩ | ⟨h0, _⟩
  · obtain ⟨k1, k2⟩ := k.2 rfl
    cases hM : item at2 with
    | ok p =>
      obtain ⟨y, a⟩ := p
      obtain ⟨-, -, -, h4⟩ := k1 _ _ hM
      exact absurd h4 he
    | error p =>
      obtain ⟨p, n2⟩ := p
      obtain ⟨rfl, rfl, h4⟩ := k2 _ _ hM
      rw [hL, rRep_bad hi hM]
      exact ⟨fun h => absurd rfl h, fun _ => ⟨fun y a h => by (cases h), fun p n h => by cases h; exact ⟨rfl, rfl, h4⟩⟩⟩
  · omega
theorem Lp.done {β : Type} {item : Nat → Rd β} {L : Rd (List β)} {n i ft er at2 ft2 er2 : Nat} {xs : List β} (h : Lp item L n i ft er at2 ft2 er2 xs) (hi : n ≤ i) (hx : xs.length = i) (hin : i ≤ n) : Xp L ft er at2 ft2 er2 xs := by
  rcases h with ⟨rfl, rfl, rfl, hL⟩ | ⟨h0, h1⟩
  · rw [hL, show n - i = 0 by omega]
    show Xp (.ok (xs ++ [], at2)) _ _ _ _ _ _
    rw [List.append_nil]
    exact Xp.pure
  · have : xs = [] := List.eq_nil_of_length_eq_zero (by omega)
    subst this
    exact h1

end Go.Proofs.Ytjgngmmepheioaa

import Derived.Test.YtmklkcefbabhbaaGreatProg
import Derived.Laws.BitsAllLaws
import Derived.WalkKit
import Derived.OwnWalk
import Derived.Laws.OwnMore
import Derived.Lib.SmallJoins
import Derived.Deep.QuietTactic
import Derived.WalkSpells
import Derived.Maps.AppendAt
import Derived.Maps.Range
import Derived.BigQuiet
import Derived.Laws.Shifts
import Derived.Lib.EndianBits
/- THE SUM OF BYTES. No program. -/
namespace Go.Proofs.YtmklkcefbabhbaaGreat

def fn1 (h x : Nat) : Nat := ((h ^^^ x) * 16777619) % 4294967296
@[irreducible] def fnv0 : Nat := 2166136261
theorem fnv0_is : (fnv0 : Int) = 2166136261 := by unfold fnv0; rfl
def fnv (bs : List Nat) : Nat := bs.foldl fn1 fnv0
theorem fn1_lt (h x : Nat) : fn1 h x < 4294967296 := Nat.mod_lt _ (by decide)
theorem fnv_lt (bs : List Nat) : fnv bs < 4294967296 := by
  have key : ∀ (bs : List Nat) (h : Nat), h < 4294967296 → bs.foldl fn1 h < 4294967296 := by
    intro bs
    induction bs with
    | nil => intro h hh; exact hh
    | cons x bs ih => intro h _; exact ih _ (fn1_lt h x)
  exact key bs _ (by have := fnv0_is; omega)
theorem fnv_snoc (bs : List Nat) (x : Nat) : fnv (bs ++ [x]) = fn1 (fnv bs) x := by unfold fnv; rw [List.foldl_append, List.foldl_cons, List.foldl_nil]
theorem fnv_take {bs : List Nat} {i : Nat} (h : i < bs.length) : fnv (bs.take (i + 1)) = fn1 (fnv (bs.take i)) bs[i] := by
  rw [List.take_succ_eq_append_getElem h, fnv_snoc]
end Go.Proofs.YtmklkcefbabhbaaGreat


namespace Go.Proofs.YtmklkcefbabhbaaGreat
open Go.RowKit

/-- Bytes in memory. -/
def Byts (w : World) (a : Option Addr) (bs : List Nat) : Prop := (∀ n ∈ bs, n < 256) ∧ (bs = [] ∨ ∃ b off, a = some ⟨b, off, none⟩ ∧ b < w.heap.size ∧ ∀ i (h : i < bs.length), w.cell? ⟨b, off + i, none⟩ = some (.int .u8 (bs[i] : Int)))
theorem Byts.later {w w' : World} {a : Option Addr} {bs : List Nat} (h : Byts w a bs) (hb : Below w.heap.size w w') : Byts w' a bs := by
  obtain ⟨h0, h | ⟨b, off, rfl, hlt, hc⟩⟩ := h
  · exact ⟨h0, .inl h⟩
  · exact ⟨h0, .inr ⟨b, off, rfl, Nat.lt_of_lt_of_le hlt hb.size, fun i hi => (hb.cell (p := ⟨b, off + i, none⟩) hlt).trans (hc i hi)⟩⟩
structure Hid (p : Prop) : Prop where
  out : p

set_option maxRecDepth 4000 in
theorem sum_any (a : Option Addr) (cap : Nat) (bs : List Nat) (hl : bs.length ≤ 1000000000) (w : World) (h : Byts w a bs) :
    Calls Tryz.prog 12 #[.slice a bs.length cap] w fun e w' => e = .returned (.int .u32 (fnv bs : Int)) ∧ w' = w := by
  obtain ⟨hb, hm⟩ := h
  go_enter Tryz.func12, Tryz.ntmps12
  go_wp2
  go_loopw [3, 8] (fun nv iv W => ∃ i : Nat, i ≤ bs.length ∧ iv = .int .i64 (i : Int) ∧ nv = .int .u32 (fnv (bs.take i) : Int) ∧ W = w) (fun _ iv _ => bs.length - (intOf iv).toNat)
  case atStart => exact ⟨0, by omega, rfl, by rw [List.take_zero]; show _ = Value.int .u32 (fnv0 : Int); rw [fnv0_is], rfl⟩
  case round =>
    obtain ⟨i, hi, rfl, rfl, rfl⟩ := hrel
    by_cases hlt : i < bs.length
    · have hlt' : (i : Int) < (bs.length : Int) := by omega
      have hi0 : (0 : Int) ≤ (i : Int) := by omega
      rcases hm with h0 | ⟨b, off, rfl, hblt, hc⟩
      · rw [h0] at hlt; simp at hlt
      have ci := hc i hlt
      have hx := hb _ (List.getElem_mem hlt)
      have hst : Hid (fnv (bs.take (i + 1)) = fn1 (fnv (bs.take i)) bs[i]) := ⟨fnv_take hlt⟩
      have hh := fnv_lt (bs.take i)
      generalize bs[i] = x at *
      generalize fnv (bs.take i) = hv at *
      have hxor := u32_xor_nat hv x hh (by omega)
      have hxl : hv ^^^ x < 4294967296 := Nat.xor_lt_two_pow (n := 32) hh (by omega)
      have hmul : IntKind.u32.wrap (((hv ^^^ x : Nat) : Int) * 16777619) = (fn1 hv x : Int) := by
        rw [IntKind.wrap_u32]
        unfold fn1
        omega
      clear hc hb
      go_wp2_with fail
      go_roundw
      case rel => exact ⟨i + 1, by omega, by go_num, by rw [hst.out], trivial⟩
      case measure => simp [intOf]; omega
    · obtain rfl : i = bs.length := by omega
      go_wp2_with fail
      go_ret
      exact ⟨by rw [List.take_length]; rfl, rfl⟩

end Go.Proofs.YtmklkcefbabhbaaGreat


/- THE BYTES OF PACKS. No program. -/
namespace Go.Proofs.YtmklkcefbabhbaaGreat

/-- A number, seven bits a byte, the lowest first. -/
def encN (n : Nat) : List UInt8 := if n < 128 then [UInt8.ofNat n] else UInt8.ofNat (n % 128 + 128) :: encN (n / 128)
termination_by n
decreasing_by omega
theorem encN_small {n : Nat} (h : n < 128) : encN n = [UInt8.ofNat n] := by rw [encN, if_pos h]
theorem encN_big {n : Nat} (h : ¬ n < 128) : encN n = UInt8.ofNat (n % 128 + 128) :: encN (n / 128) := by rw [encN, if_neg h]
theorem encN_len : ∀ (k n : Nat), n < 128 ^ k → 0 < k → (encN n).length ≤ k
  | 0, n, _, h => by omega
  | k + 1, n, h, _ => by
    by_cases hn : n < 128
    · rw [encN_small hn]; simp
    · rw [encN_big hn, List.length_cons]
      have hk : 0 < k := by
        rcases Nat.eq_zero_or_pos k with h0 | h0
        · subst h0; simp at h; omega
        · exact h0
      have := encN_len k (n / 128) (by rw [Nat.pow_succ] at h; omega) hk
      omega
theorem encN_pos (n : Nat) : 0 < (encN n).length := by
  by_cases hn : n < 128
  · rw [encN_small hn]; simp
  · rw [encN_big hn]; simp

/-- 0, -1, 1, -2, 2 .. as 0, 1, 2, 3, 4 .. -/
def zig (z : Int) : Nat := if z < 0 then 2 * (-z - 1).toNat + 1 else 2 * z.toNat
def encI (z : Int) : List UInt8 := encN (zig z)
def encS (s : List UInt8) : List UInt8 := encN s.length ++ s
def encB (b : Bool) : List UInt8 := [if b = true then 1 else 0]
def encL {α : Type} (f : α → List UInt8) (l : List α) : List UInt8 := encN l.length ++ l.flatMap f

/-- Expressions in a row. -/
inductive Fo where
  | nil
  | cons (op num den mode : Int) (args rest : Fo)
def Fo.len : Fo → Nat
  | .nil => 0
  | .cons _ _ _ _ _ r => r.len + 1
/-- One expression. -/
structure Ex where
  op : Int
  num : Int
  den : Int
  mode : Int
  args : Fo
def Fo.snoc : Fo → Ex → Fo
  | .nil, e => .cons e.op e.num e.den e.mode e.args .nil
  | .cons a b c d x r, e => .cons a b c d x (r.snoc e)
def Fo.drop : Fo → Nat → Fo
  | f, 0 => f
  | .nil, _ + 1 => .nil
  | .cons _ _ _ _ _ r, i + 1 => r.drop i
def hasB (num den mode : Int) (n : Nat) : Nat := (if num = 0 then 0 else 1) + (if den = 0 then 0 else 2) + (if mode = 0 then 0 else 4) + (if n = 0 then 0 else 8)
def encZ (z : Int) : List UInt8 := if z = 0 then [] else encI z
def encF : Fo → List UInt8
  | .nil => []
  | .cons op num den mode args rest => encI op ++ ([UInt8.ofNat (hasB num den mode args.len)] ++ (encZ num ++ (encZ den ++ (encZ mode ++ (if args.len = 0 then [] else encN args.len ++ encF args))))) ++ encF rest
def encE (e : Ex) : List UInt8 := encI e.op ++ ([UInt8.ofNat (hasB e.num e.den e.mode e.args.len)] ++ (encZ e.num ++ (encZ e.den ++ (encZ e.mode ++ (if e.args.len = 0 then [] else encN e.args.len ++ encF e.args)))))
/-- How deep they are. -/
def deepF : Fo → Nat
  | .nil => 0
  | .cons _ _ _ _ args rest => max (1 + deepF args) (deepF rest)
def deepE (e : Ex) : Nat := 1 + deepF e.args
structure Cl where
  pri : Int
  guarded : Bool
  guard : Ex
  body : Ex
structure Ln where
  name : List UInt8
  input : Bool
  must : Bool
  type : Int
  opts : Int
  group : Int
  cls : List Cl
structure Ck where
  name : List UInt8
  hard : Bool
  group : Int
  when_ : Ex
  text : List UInt8
structure Pk where
  name : List UInt8
  year : Int
  opts : List (List UInt8 × List (List UInt8))
  tabs : List (List UInt8 × List (Int × Int))
  grps : List (List UInt8 × Int)
  lns : List Ln
  cks : List Ck
def encO (o : List UInt8 × List (List UInt8)) : List UInt8 := encS o.1 ++ encL encS o.2
def encBd (b : Int × Int) : List UInt8 := encI b.1 ++ encI b.2
def encT (t : List UInt8 × List (Int × Int)) : List UInt8 := encS t.1 ++ encL encBd t.2
def encG (g : List UInt8 × Int) : List UInt8 := encS g.1 ++ encI g.2
def encC (c : Cl) : List UInt8 := encI c.pri ++ encB c.guarded ++ encE c.guard ++ encE c.body
def encLn (l : Ln) : List UInt8 := encS l.name ++ encB l.input ++ encB l.must ++ encI l.type ++ encI l.opts ++ encI l.group ++ encL encC l.cls
def encK (c : Ck) : List UInt8 := encS c.name ++ encB c.hard ++ encI c.group ++ encE c.when_ ++ encS c.text
def encP (p : Pk) : List UInt8 := [76, 86, 89, 49] ++ encS p.name ++ encI p.year ++ encL encO p.opts ++ encL encT p.tabs ++ encL encG p.grps ++ encL encLn p.lns ++ encL encK p.cks

end Go.Proofs.YtmklkcefbabhbaaGreat


/- WHAT THE READER READS, as functions of the bytes. No program. -/
namespace Go.Proofs.YtmklkcefbabhbaaGreat

/-- What is read, and up to where; or the fault's place and its number. -/
abbrev Rd (β : Type) := Except (Nat × Nat) (β × Nat)
def bd {β γ : Type} (m : Rd β) (k : β → Nat → Rd γ) : Rd γ :=
  match m with
  | .ok (x, a) => k x a
  | .error e => .error e
def nGo (len at_ : Nat) : List UInt8 → Nat → Nat → Rd Nat
  | [], _, _ => .error (len, 70)
  | b :: r, i, n => if (i = 9 ∧ 1 < b.toNat) ∨ (0 < i ∧ b.toNat = 0) then .error (at_, 71) else if b.toNat < 128 then .ok (n + b.toNat % 128 * 128 ^ i, at_ + (i + 1)) else nGo len at_ r (i + 1) (n + b.toNat % 128 * 128 ^ i)
def rN (l : List UInt8) (at_ : Nat) : Rd Nat := nGo l.length at_ (l.drop at_) 0 0
def rLen (l : List UInt8) (at_ : Nat) : Rd Nat := bd (rN l at_) (fun n a => if l.length - a < n then .error (l.length, 70) else .ok (n, a))
def unz (n : Nat) : Int := if n % 2 = 1 then -((n / 2 : Nat) : Int) - 1 else ((n / 2 : Nat) : Int)
def rInt (l : List UInt8) (at_ : Nat) : Rd Int := bd (rN l at_) (fun n a => .ok (unz n, a))
def rNz (l : List UInt8) (at_ : Nat) : Rd Int := bd (rInt l at_) (fun z a => if z = 0 then .error (at_, 71) else .ok (z, a))
def rByte (most : Nat) (l : List UInt8) (at_ : Nat) : Rd Nat :=
  match l[at_]? with
  | none => .error (l.length, 70)
  | some b => if most < b.toNat then .error (at_, 71) else .ok (b.toNat, at_ + 1)
def rFlag (l : List UInt8) (at_ : Nat) : Rd Bool := bd (rByte 1 l at_) (fun b a => .ok (decide (b = 1), a))
def rRaw (n : Nat) (l : List UInt8) (at_ : Nat) : Rd (List UInt8) := if l.length - at_ < n then .error (l.length, 70) else .ok ((l.drop at_).take n, at_ + n)
def rTxt (l : List UInt8) (at_ : Nat) : Rd (List UInt8) := bd (rLen l at_) (fun n a => rRaw n l a)
def rRep {β : Type} (item : Nat → Rd β) : Nat → Nat → Rd (List β)
  | 0, a => .ok ([], a)
  | n + 1, a => bd (item a) (fun x a1 => bd (rRep item n a1) (fun xs a2 => .ok (x :: xs, a2)))
def rLst {β : Type} (item : List UInt8 → Nat → Rd β) (l : List UInt8) (at_ : Nat) : Rd (List β) := bd (rLen l at_) (fun n a => rRep (item l) n a)
def rBand (l : List UInt8) (a : Nat) : Rd (Int × Int) := bd (rInt l a) fun x1 a => bd (rInt l a) fun x2 a => .ok ((x1, x2), a)
def rGroup (l : List UInt8) (a : Nat) : Rd (List UInt8 × Int) := bd (rTxt l a) fun x1 a => bd (rInt l a) fun x2 a => .ok ((x1, x2), a)
def rOptions (l : List UInt8) (a : Nat) : Rd (List UInt8 × List (List UInt8)) := bd (rTxt l a) fun x1 a => bd (rLst rTxt l a) fun x2 a => .ok ((x1, x2), a)
def rTable (l : List UInt8) (a : Nat) : Rd (List UInt8 × List (Int × Int)) := bd (rTxt l a) fun x1 a => bd (rLst rBand l a) fun x2 a => .ok ((x1, x2), a)
def ofL : List Ex → Fo
  | [] => .nil
  | e :: l => .cons e.op e.num e.den e.mode e.args (ofL l)
def rOpt (is : Bool) (l : List UInt8) (a : Nat) : Rd Int :=
  match is with
  | true => rNz l a
  | false => .ok (0, a)
def rArgs (item : List UInt8 → Nat → Rd Ex) (l : List UInt8) (a : Nat) : Rd (List Ex) := bd (rLst item l a) (fun es a2 => if es.length = 0 then .error (a, 71) else .ok (es, a2))
def rArg (is : Bool) (item : List UInt8 → Nat → Rd Ex) (l : List UInt8) (a : Nat) : Rd (List Ex) :=
  match is with
  | true => rArgs item l a
  | false => .ok ([], a)
/-- k: how much deeper it may go. -/
def rExpr : Nat → List UInt8 → Nat → Rd Ex
  | 0, _, a => .error (a, 72)
  | k + 1, l, a => bd (rInt l a) fun op a => bd (rByte 15 l a) fun b a => bd (rOpt (Nat.testBit b 0) l a) fun num a => bd (rOpt (Nat.testBit b 1) l a) fun den a => bd (rOpt (Nat.testBit b 2) l a) fun mode a => bd (rArg (Nat.testBit b 3) (rExpr k) l a) fun es a => .ok (⟨op, num, den, mode, ofL es⟩, a)
def rClause (l : List UInt8) (a : Nat) : Rd Cl := bd (rInt l a) fun x1 a => bd (rFlag l a) fun x2 a => bd (rExpr 64 l a) fun x3 a => bd (rExpr 64 l a) fun x4 a => .ok (⟨x1, x2, x3, x4⟩, a)
def rCheck (l : List UInt8) (a : Nat) : Rd Ck := bd (rTxt l a) fun x1 a => bd (rFlag l a) fun x2 a => bd (rInt l a) fun x3 a => bd (rExpr 64 l a) fun x4 a => bd (rTxt l a) fun x5 a => .ok (⟨x1, x2, x3, x4, x5⟩, a)
def rLine (l : List UInt8) (a : Nat) : Rd Ln := bd (rTxt l a) fun x1 a => bd (rFlag l a) fun x2 a => bd (rFlag l a) fun x3 a => bd (rInt l a) fun x4 a => bd (rInt l a) fun x5 a => bd (rInt l a) fun x6 a => bd (rLst rClause l a) fun x7 a => .ok (⟨x1, x2, x3, x4, x5, x6, x7⟩, a)
def fnvB (l : List UInt8) : Nat := fnv (l.map UInt8.toNat)
def sum4 (n : Nat) : List UInt8 := [UInt8.ofNat (n % 256), UInt8.ofNat (n / 256 % 256), UInt8.ofNat (n / 65536 % 256), UInt8.ofNat (n / 16777216)]
def rSum (l : List UInt8) (at_ : Nat) : Rd Unit := bd (rRaw 4 l at_) fun s a => if s = sum4 (fnvB (l.take at_)) then (if 0 < l.length - a then .error (a, 73) else .ok ((), a)) else .error (at_, 74)
def rHead (l : List UInt8) (a : Nat) : Rd Unit := bd (rRaw 4 l a) fun s a => if s = [76, 86, 89, 49] then .ok ((), a) else .error (0, 71)
def rPack (l : List UInt8) (a : Nat) : Rd Pk := bd (rHead l a) fun _ a => bd (rTxt l a) fun x1 a => bd (rInt l a) fun x2 a => bd (rLst rOptions l a) fun x3 a => bd (rLst rTable l a) fun x4 a => bd (rLst rGroup l a) fun x5 a => bd (rLst rLine l a) fun x6 a => bd (rLst rCheck l a) fun x7 a => bd (rSum l a) fun _ a => .ok (⟨x1, x2, x3, x4, x5, x6, x7⟩, a)

/-- What a piece of the reader did: behind a fault nothing. -/
def Xp {β : Type} (M : Rd β) (ft er at2 ft2 er2 : Nat) (x : β) : Prop := (er ≠ 0 → ft2 = ft ∧ er2 = er) ∧ (er = 0 → (∀ y a, M = .ok (y, a) → y = x ∧ a = at2 ∧ ft2 = ft ∧ er2 = 0) ∧ ∀ p n, M = .error (p, n) → ft2 = p ∧ er2 = n ∧ n ≠ 0)
theorem Xp.bd {β γ : Type} {M : Rd β} {K : β → Nat → Rd γ} {ft er a1 f1 e1 a2 f2 e2 : Nat} {x : β} {y : γ} (h : Xp M ft er a1 f1 e1 x) (k : Xp (K x a1) f1 e1 a2 f2 e2 y) : Xp (bd M K) ft er a2 f2 e2 y := by
  refine ⟨fun he => ?_, fun he => ?_⟩
  · obtain ⟨h1, h2⟩ := h.1 he
    obtain ⟨k1, k2⟩ := k.1 (by rw [h2]; exact he)
    exact ⟨k1.trans h1, k2.trans h2⟩
  · obtain ⟨h1, h2⟩ := h.2 he
    cases hM : M with
    | ok p =>
      obtain ⟨y0, a0⟩ := p
      obtain ⟨rfl, rfl, rfl, rfl⟩ := h1 _ _ hM
      exact k.2 rfl
    | error p =>
      obtain ⟨p, n⟩ := p
      obtain ⟨rfl, rfl, hn⟩ := h2 _ _ hM
      obtain ⟨k1, k2⟩ := k.1 hn
      refine ⟨fun y a h => by (cases h), fun p n h => ?_⟩
      cases h
      exact ⟨k1, k2, hn⟩
theorem Xp.pure {β : Type} {x : β} {ft er a : Nat} : Xp (.ok (x, a)) ft er a ft er x := ⟨fun _ => ⟨rfl, rfl⟩, fun he => ⟨fun y a h => by cases h; exact ⟨rfl, rfl, rfl, he⟩, fun p n h => by (cases h)⟩⟩
theorem Xp.stuck {β : Type} {M : Rd β} {x : β} {ft er a : Nat} (he : er ≠ 0) : Xp M ft er a ft er x := ⟨fun _ => ⟨rfl, rfl⟩, fun h => absurd h he⟩
theorem Xp.fail {β : Type} {M : Rd β} {x : β} {ft er a p n : Nat} (h : er = 0 → M = .error (p, n)) (hn : n ≠ 0) : Xp M ft er a (if er = 0 then p else ft) (if er = 0 then n else er) x := by
  refine ⟨fun he => by rw [if_neg he, if_neg he]; exact ⟨rfl, rfl⟩, fun he => ?_⟩
  rw [if_pos he, if_pos he]
  have hM := h he
  subst hM
  exact ⟨fun y a h => by (cases h), fun p n h => by cases h; exact ⟨rfl, rfl, hn⟩⟩
/-- A step of a list. -/
theorem rRep_step {β : Type} {item : Nat → Rd β} {n i a a2 : Nat} {xs : List β} {x : β} (hi : i < n) (h : item a = .ok (x, a2)) : bd (rRep item (n - i) a) (fun ys b => .ok (xs ++ ys, b)) = bd (rRep item (n - (i + 1)) a2) (fun ys b => .ok (xs ++ [x] ++ ys, b)) := by
  obtain ⟨m, hm⟩ : ∃ m, n - i = m + 1 := ⟨n - i - 1, by omega⟩
  have hm2 : n - (i + 1) = m := by omega
  rw [hm, hm2]
  show bd (bd (item a) _) _ = _
  rw [h]
  show bd (bd (rRep item m a2) _) _ = _
  cases rRep item m a2 with
  | ok p => show Except.ok (xs ++ x :: p.1, p.2) = Except.ok (xs ++ [x] ++ p.1, p.2); rw [List.append_assoc]; rfl
  | error p => rfl
theorem rRep_bad {β : Type} {item : Nat → Rd β} {n i a : Nat} {xs : List β} {e : Nat × Nat} (hi : i < n) (h : item a = .error e) : bd (rRep item (n - i) a) (fun ys b => .ok (xs ++ ys, b)) = .error e := by
  obtain ⟨m, hm⟩ : ∃ m, n - i = m + 1 := ⟨n - i - 1, by omega⟩
  rw [hm]
  show bd (bd (item a) _) _ = _
  rw [h]
  rfl
/-- A list that is being read. -/
def Lp {β : Type} (item : Nat → Rd β) (L : Rd (List β)) (n i ft er at2 ft2 er2 : Nat) (xs : List β) : Prop := (er2 = 0 ∧ er = 0 ∧ ft2 = ft ∧ L = bd (rRep item (n - i) at2) (fun ys a => .ok (xs ++ ys, a))) ∨ (n = 0 ∧ Xp L ft er at2 ft2 er2 [])
theorem Lp.start {β : Type} {item : List UInt8 → Nat → Rd β} {l : List UInt8} {at_ ft er a1 f1 e1 n : Nat} (h : Xp (rLen l at_) ft er a1 f1 e1 n) (hn : e1 ≠ 0 → n = 0) : Lp (item l) (rLst item l at_) n 0 ft er a1 f1 e1 [] := by
  by_cases he : e1 = 0
  · left
    have her : er = 0 := by
      apply Classical.byContradiction
      intro h0
      have := (h.1 h0).2
      omega
    obtain ⟨h1, h2⟩ := h.2 her
    cases hM : rLen l at_ with
    | ok p =>
      obtain ⟨y, a⟩ := p
      obtain ⟨rfl, rfl, rfl, rfl⟩ := h1 _ _ hM
      refine ⟨rfl, her, rfl, ?_⟩
      unfold rLst
      rw [hM]
      show rRep (item l) y a = bd (rRep (item l) y a) _
      cases rRep (item l) y a with
      | ok p => rfl
      | error p => rfl
    | error p =>
      obtain ⟨p, n2⟩ := p
      obtain ⟨-, h3, h4⟩ := h2 _ _ hM
      omega
  · right
    have hn0 := hn he
    subst hn0
    refine ⟨rfl, ?_⟩
    unfold rLst
    exact h.bd (Xp.stuck he)
theorem Lp.step {β : Type} {item : Nat → Rd β} {L : Rd (List β)} {n i ft er at2 ft2 er2 at3 ft3 : Nat} {xs : List β} {x : β} (h : Lp item L n i ft er at2 ft2 er2 xs) (hi : i < n) (k : Xp (item at2) ft2 er2 at3 ft3 0 x) : Lp item L n (i + 1) ft er at3 ft3 0 (xs ++ [x]) := by
  rcases h with ⟨rfl, rfl, rfl, hL⟩ | ⟨h0, _⟩
  · left
    obtain ⟨k1, k2⟩ := k.2 rfl
    cases hM : item at2 with
    | ok p =>
      obtain ⟨y, a⟩ := p
      obtain ⟨rfl, rfl, rfl, _⟩ := k1 _ _ hM
      exact ⟨rfl, rfl, rfl, by rw [hL, rRep_step hi hM]⟩
    | error p =>
      obtain ⟨p, n2⟩ := p
      obtain ⟨-, h3, h4⟩ := k2 _ _ hM
      omega
  · omega
theorem Lp.bad {β : Type} {item : Nat → Rd β} {L : Rd (List β)} {n i ft er at2 ft2 er2 at3 ft3 er3 : Nat} {xs : List β} {x : β} (h : Lp item L n i ft er at2 ft2 er2 xs) (hi : i < n) (k : Xp (item at2) ft2 er2 at3 ft3 er3 x) (he : er3 ≠ 0) : Xp L ft er at3 ft3 er3 [] := by
  rcases h with ⟨rfl, rfl, rfl, hL⟩ | ⟨h0, _⟩
  · obtain ⟨k1, k2⟩ := k.2 rfl
    cases hM : item at2 with
    | ok p =>
      obtain ⟨y, a⟩ := p
      obtain ⟨-, -, -, h4⟩ := k1 _ _ hM
      exact absurd h4 he
    | error p =>
      obtain ⟨p, n2⟩ := p
      obtain ⟨rfl, rfl, h4⟩ := k2 _ _ hM
      rw [hL, rRep_bad hi hM]
      exact ⟨fun h => absurd rfl h, fun _ => ⟨fun y a h => by (cases h), fun p n h => by cases h; exact ⟨rfl, rfl, h4⟩⟩⟩
  · omega
theorem Lp.done {β : Type} {item : Nat → Rd β} {L : Rd (List β)} {n i ft er at2 ft2 er2 : Nat} {xs : List β} (h : Lp item L n i ft er at2 ft2 er2 xs) (hi : n ≤ i) (hx : xs.length = i) (hin : i ≤ n) : Xp L ft er at2 ft2 er2 xs := by
  rcases h with ⟨rfl, rfl, rfl, hL⟩ | ⟨h0, h1⟩
  · rw [hL, show n - i = 0 by omega]
    show Xp (.ok (xs ++ [], at2)) _ _ _ _ _ _
    rw [List.append_nil]
    exact Xp.pure
  · have : xs = [] := List.eq_nil_of_length_eq_zero (by omega)
    subst this
    exact h1

end Go.Proofs.YtmklkcefbabhbaaGreat


namespace Go.Proofs.YtmklkcefbabhbaaGreat
open Go.RowKit

theorem gr_cell {W W' : World} {r : Option Nat} (h : W.grownBy W' r) {b : Nat} (hb : b < W.heap.size) (hr : some b ≠ r) (i : Nat) : W'.cell? ⟨b, i, none⟩ = W.cell? ⟨b, i, none⟩ := World.cell?_of_block (h.block b hb hr)
theorem gr_frozen {W W' : World} {r : Option Nat} (h : W.grownBy W' r) {b : Nat} (hb : b < W.heap.size) (hr : some b ≠ r) (i : Nat) : W'.frozen? ⟨b, i, none⟩ = W.frozen? ⟨b, i, none⟩ := World.frozen?_of_block (h.block b hb hr)
theorem gr_set (W : World) (r i : Nat) (v : Value) : W.grownBy (W.setCell ⟨r, i, none⟩ v) (some r) :=
  let h := (Below.refl (0 : Nat) W).setCell (p := ⟨r, i, none⟩) (Nat.zero_le _) v
  ⟨h.os, h.tape, h.output, h.size, fun k _ hne => Below.heap_setCell _ _ _ _ (fun e => hne (by rw [e]))⟩

/-- What the reader works on: its block, the bytes. -/
structure Rc where
  r : Nat
  a : Option Addr
  cap : Nat
  l : List UInt8
/-- Bytes in memory, in another block than the reader's. -/
def BytR (c : Rc) (W : World) : Prop := c.l = [] ∨ ∃ b off, c.a = some ⟨b, off, none⟩ ∧ b < W.heap.size ∧ b ≠ c.r ∧ ∀ i (h : i < c.l.length), W.cell? ⟨b, off + i, none⟩ = some (.int .u8 (c.l[i].toNat : Int))
/-- The reader's state: how far it is, its fault, its error. -/
structure RS (c : Rc) (W : World) (at_ ft er : Nat) : Prop where
  c0 : W.cell? ⟨c.r, 0, none⟩ = some (.slice c.a c.l.length c.cap)
  c1 : W.cell? ⟨c.r, 1, none⟩ = some (.int .i64 (at_ : Int))
  c2 : W.cell? ⟨c.r, 2, none⟩ = some (.int .i64 (ft : Int))
  c3 : W.cell? ⟨c.r, 3, none⟩ = some (.int .i64 (er : Int))
  fz : ∀ j, W.frozen? ⟨c.r, j, none⟩ = false
  by_ : BytR c W
  le : at_ ≤ c.l.length
  fl : ft ≤ c.l.length
  e9 : er < 100
  en : er ≠ 0 → at_ = c.l.length
  ln : c.l.length ≤ 262144
  cp : c.a = none → c.cap = 0
  lc : c.l.length ≤ c.cap
theorem RS.lt {c : Rc} {W : World} {at_ ft er : Nat} (h : RS c W at_ ft er) : c.r < W.heap.size := World.block_lt_of_cell? _ _ h.c0
/-- Where something else than the reader is made or changed. -/
theorem RS.other {c : Rc} {W W' : World} {at_ ft er : Nat} {r : Option Nat} (h : RS c W at_ ft er) (hg : W.grownBy W' r) (hr : some c.r ≠ r) (hb : c.l ≠ [] → ∀ b off, c.a = some ⟨b, off, none⟩ → some b ≠ r) : RS c W' at_ ft er := by
  have o := fun i => gr_cell hg h.lt hr i
  refine ⟨(o 0).trans h.c0, (o 1).trans h.c1, (o 2).trans h.c2, (o 3).trans h.c3, fun j => (gr_frozen hg h.lt hr j).trans (h.fz j), ?_, h.le, h.fl, h.e9, h.en, h.ln, h.cp, h.lc⟩
  rcases h.by_ with h0 | ⟨b, off, ha, hlt, hne, hc⟩
  · exact .inl h0
  · by_cases h0 : c.l = []
    · exact .inl h0
    · exact .inr ⟨b, off, ha, Nat.lt_of_lt_of_le hlt hg.size, hne, fun i hi => (gr_cell hg hlt (hb h0 b off ha) _).trans (hc i hi)⟩
theorem RS.below {c : Rc} {W : World} {at_ ft er : Nat} (h : RS c W at_ ft er) : c.l ≠ [] → ∀ b off, c.a = some ⟨b, off, none⟩ → b < W.heap.size := fun h0 b off ha => by
  rcases h.by_ with h1 | ⟨b2, off2, ha2, hlt, -, -⟩
  · exact absurd h1 h0
  · rw [ha2] at ha
    cases ha
    exact hlt
theorem RS.alloc {c : Rc} {W : World} {at_ ft er : Nat} (h : RS c W at_ ft er) (o : Obj) : RS c (W.alloc o) at_ ft er := h.other (World.grownBy_alloc W o none) (by simp) (by simp)
theorem gr_drew (W : World) (n : Nat) (r : Option Nat) : W.grownBy (World.drewN W n) r := ⟨rfl, rfl, rfl, Nat.le_refl _, fun _ _ _ => rfl⟩
theorem RS.drew {c : Rc} {W : World} {at_ ft er : Nat} (h : RS c W at_ ft er) (n : Nat) : RS c (World.drewN W n) at_ ft er := h.other (gr_drew W n none) (by simp) (by simp)
/-- The reader's own numbers are set. -/
theorem RS.set1 {c : Rc} {W : World} {at_ ft er at2 : Nat} (h : RS c W at_ ft er) (h2 : at2 ≤ c.l.length) (he : er ≠ 0 → at2 = c.l.length) : RS c (W.setCell ⟨c.r, 1, none⟩ (.int .i64 (at2 : Int))) at2 ft er := by
  have o : ∀ i, i ≠ 1 → (W.setCell ⟨c.r, 1, none⟩ (.int .i64 (at2 : Int))).cell? ⟨c.r, i, none⟩ = W.cell? ⟨c.r, i, none⟩ := fun i hi => World.cell?_setCell_other _ _ _ _ (fun e => hi (by cases e; rfl))
  refine ⟨(o 0 (by decide)).trans h.c0, World.cell?_setCell_same _ _ _ h.c1, (o 2 (by decide)).trans h.c2, (o 3 (by decide)).trans h.c3, fun j => by rw [World.frozen?_setCell]; exact h.fz j, ?_, h2, h.fl, h.e9, he, h.ln, h.cp, h.lc⟩
  have hg := gr_set W c.r 1 (.int .i64 (at2 : Int))
  rcases h.by_ with h0 | ⟨b, off, ha, hlt, hne, hc⟩
  · exact .inl h0
  · exact .inr ⟨b, off, ha, Nat.lt_of_lt_of_le hlt hg.size, hne, fun i hi => (gr_cell hg hlt (by simp; exact hne) _).trans (hc i hi)⟩
/-- A fault is kept, and the rest passed over. -/
theorem RS.failed {c : Rc} {W : World} {at_ ft : Nat} (h : RS c W at_ ft 0) {f2 e2 : Nat} (hf : f2 ≤ c.l.length) (he : e2 < 100) : RS c (((W.setCell ⟨c.r, 2, none⟩ (.int .i64 (f2 : Int))).setCell ⟨c.r, 3, none⟩ (.int .i64 (e2 : Int))).setCell ⟨c.r, 1, none⟩ (.int .i64 (c.l.length : Int))) c.l.length f2 e2 := by
  have o : ∀ (X : World) (i j : Nat) (v : Value), i ≠ j → (X.setCell ⟨c.r, j, none⟩ v).cell? ⟨c.r, i, none⟩ = X.cell? ⟨c.r, i, none⟩ := fun X i j v hij => World.cell?_setCell_other _ _ _ _ (fun e => hij (by cases e; rfl))
  have hg := ((gr_set W c.r 2 (.int .i64 (f2 : Int))).trans (gr_set _ c.r 3 (.int .i64 (e2 : Int)))).trans (gr_set _ c.r 1 (.int .i64 (c.l.length : Int)))
  refine ⟨?_, ?_, ?_, ?_, fun j => ?_, ?_, Nat.le_refl _, hf, he, fun _ => rfl, h.ln, h.cp, h.lc⟩
  · rw [o _ 0 1 _ (by decide), o _ 0 3 _ (by decide), o _ 0 2 _ (by decide)]
    exact h.c0
  · exact World.cell?_setCell_same _ _ _ (u := .int .i64 (at_ : Int)) (by rw [o _ 1 3 _ (by decide), o _ 1 2 _ (by decide)]; exact h.c1)
  · rw [o _ 2 1 _ (by decide), o _ 2 3 _ (by decide)]
    exact World.cell?_setCell_same _ _ _ h.c2
  · rw [o _ 3 1 _ (by decide)]
    exact World.cell?_setCell_same _ _ _ (u := .int .i64 ((0 : Nat) : Int)) (by rw [o _ 3 2 _ (by decide)]; exact h.c3)
  · rw [World.frozen?_setCell, World.frozen?_setCell, World.frozen?_setCell]; exact h.fz j
  · rcases h.by_ with h0 | ⟨b, off, ha, hlt, hne, hc⟩
    · exact .inl h0
    · exact .inr ⟨b, off, ha, Nat.lt_of_lt_of_le hlt hg.size, hne, fun i hi => (gr_cell hg hlt (by simp; exact hne) _).trans (hc i hi)⟩

/-- What a piece answers: the value, how far the reader is then. -/
def Xc {β : Type} (M : List UInt8 → Nat → Rd β) (V : World → Nat → β → Value → Prop) (c : Rc) (at_ ft er : Nat) (W : World) (e : Ending) (W' : World) : Prop :=
  ∃ (x : β) (v : Value) (at2 ft2 er2 : Nat), e = .returned v ∧ V W' W.heap.size x v ∧ RS c W' at2 ft2 er2 ∧ W.grownBy W' (some c.r) ∧ Xp (M c.l at_) ft er at2 ft2 er2 x
/-- Behind a fault. -/
def Fl (c : Rc) (p n ft er : Nat) (W W' : World) : Prop := RS c W' c.l.length (if er = 0 then p else ft) (if er = 0 then n else er) ∧ W.grownBy W' (some c.r)

set_option maxRecDepth 4000 in
set_option maxHeartbeats 1000000 in
theorem fail_any (c : Rc) (p n : Nat) (hp : p ≤ c.l.length) (hn : n < 100) (W : World) {at_ ft er : Nat} (h : RS c W at_ ft er) : Calls Tryz.prog 48 #[.pointer (some ⟨c.r, 0, none⟩), .int .i64 (p : Int), .int .i64 (n : Int)] W fun e W' => e = .returned (.tuple #[]) ∧ Fl c p n ft er W W' := by
  have c0 := h.c0
  have c1 := h.c1
  have c2 := h.c2
  have c3 := h.c3
  have f1 := h.fz 1
  have f2 := h.fz 2
  have f3 := h.fz 3
  by_cases he : er = 0
  · subst he
    have c0' : ((W.setCell ⟨c.r, 2, none⟩ (.int .i64 (p : Int))).setCell ⟨c.r, 3, none⟩ (.int .i64 (n : Int))).cell? ⟨c.r, 0, none⟩ = some (.slice c.a c.l.length c.cap) := by
      rw [World.cell?_setCell_other _ _ _ _ (fun e => by cases e), World.cell?_setCell_other _ _ _ _ (fun e => by cases e)]; exact c0
    have c1' : ((W.setCell ⟨c.r, 2, none⟩ (.int .i64 (p : Int))).setCell ⟨c.r, 3, none⟩ (.int .i64 (n : Int))).cell? ⟨c.r, 1, none⟩ = some (.int .i64 (at_ : Int)) := by
      rw [World.cell?_setCell_other _ _ _ _ (fun e => by cases e), World.cell?_setCell_other _ _ _ _ (fun e => by cases e)]; exact c1
    have hf := h.failed hp hn
    have hg := ((gr_set W c.r 2 (.int .i64 (p : Int))).trans (gr_set _ c.r 3 (.int .i64 (n : Int)))).trans (gr_set _ c.r 1 (.int .i64 (c.l.length : Int)))
    clear h
    go_enter Tryz.func48, Tryz.ntmps48
    go_wp2
    exact bodyPost_end (v := .tuple #[]) (by simp [results, Tryz.results48, go_sem]) rfl ⟨rfl, by rw [if_pos rfl, if_pos rfl]; exact hf, hg⟩
  · have he' : ((er : Int) == 0) = false := by simp; omega
    have hat := h.en he
    have hf := h.set1 (Nat.le_refl _) (fun _ => rfl)
    have hg := gr_set W c.r 1 (.int .i64 (c.l.length : Int))
    clear h
    go_enter Tryz.func48, Tryz.ntmps48
    go_wp2
    exact bodyPost_end (v := .tuple #[]) (by simp [results, Tryz.results48, go_sem]) rfl ⟨rfl, by rw [if_neg he, if_neg he]; exact hf, hg⟩

set_option maxHeartbeats 1000000 in
theorem left_any (c : Rc) (W : World) {at_ ft er : Nat} (h : RS c W at_ ft er) : Calls Tryz.prog 78 #[.pointer (some ⟨c.r, 0, none⟩)] W fun e W' => e = .returned (.int .i64 ((c.l.length - at_ : Nat) : Int)) ∧ ∃ n, W' = World.drewN W n := by
  have c0 := h.c0
  have c1 := h.c1
  have hl := h.le
  have hn := h.ln
  have e : ((c.l.length - at_ : Nat) : Int) = (c.l.length : Int) - (at_ : Int) := by omega
  rw [e]
  clear h
  go_enter Tryz.func78, Tryz.ntmps78
  go_wp2
  go_quiet (fail)
  go_wp2
  go_ret
  exact ⟨rfl, nq, rfl⟩
set_option maxHeartbeats 1000000 in
theorem short_any (c : Rc) (W : World) {at_ ft er : Nat} (h : RS c W at_ ft er) : Calls Tryz.prog 79 #[.pointer (some ⟨c.r, 0, none⟩)] W fun e W' => e = .returned (.tuple #[]) ∧ Fl c c.l.length 70 ft er W W' := by
  have c0 := h.c0
  have hf := fail_any c c.l.length 70 (Nat.le_refl _) (by omega) W h
  clear h
  go_enter Tryz.func79, Tryz.ntmps79
  go_wp2_with (go_at_call 48; refine hf.mono ?_; rintro e w1 ⟨rfl, hb1⟩)
  exact bodyPost_end (v := .tuple #[]) (by simp [results, Tryz.results79, go_sem]) rfl ⟨rfl, hb1⟩

end Go.Proofs.YtmklkcefbabhbaaGreat


namespace Go.Proofs.YtmklkcefbabhbaaGreat
open Go.RowKit

def V64 (_ : World) (_ : Nat) (x : Nat) (v : Value) : Prop := v = .int .u64 (x : Int) ∧ x < 18446744073709551616
theorem Fl.to {β : Type} {M : List UInt8 → Nat → Rd β} {V : World → Nat → β → Value → Prop} {c : Rc} {p n at_ ft er : Nat} {W W' W2 : World} {v : Value} (x : β) (h : Fl c p n ft er W W') (hg : W2.grownBy W (some c.r)) (hV : V W' W2.heap.size x v) (hM : er = 0 → M c.l at_ = .error (p, n)) (hn : n ≠ 0) : Xc M V c at_ ft er W2 (.returned v) W' := ⟨x, v, _, _, _, rfl, hV, h.1, hg.trans h.2, Xp.fail hM hn⟩

set_option maxRecDepth 8000 in
set_option maxHeartbeats 4000000 in
theorem number_none (c : Rc) (W : World) {at_ ft er : Nat} (h : RS c W at_ ft er) (hat : at_ = c.l.length) : Calls Tryz.prog 81 #[.pointer (some ⟨c.r, 0, none⟩)] W (Xc rN V64 c at_ ft er W) := by
  have c0 := h.c0
  have c1 := h.c1
  have hln := h.ln
  have hlc := h.lc
  have hcp := h.cp
  have a0 : (0 : Int) ≤ (at_ : Int) := by omega
  have a1 : (at_ : Int) ≤ (c.l.length : Int) := by omega
  have a2 : (c.l.length : Int) ≤ (c.cap : Int) := by omega
  have h0 : c.l.length - at_ = 0 := by omega
  have hle : at_ ≤ c.cap := by omega
  have hsh := fun n => short_any c (World.drewN W n) (h.drew n)
  have hM : rN c.l at_ = .error (c.l.length, 70) := by
    unfold rN
    rw [List.drop_eq_nil_of_le (by omega)]
    rfl
  have hto := fun n W' (hf : Fl c c.l.length 70 ft er (World.drewN W n) W') => Fl.to (M := rN) (V := V64) (at_ := at_) (v := .int .u64 0) 0 hf (gr_drew W n _) ⟨rfl, by decide⟩ (fun _ => hM) (by decide)
  clear hM
  clear h hat hlc
  generalize c.l.length = len at *
  by_cases hcap : c.cap = at_
  · cases ha : c.a with
    | none =>
      rw [ha] at c0
      go_enter Tryz.func81, Tryz.ntmps81
      go_wp2
      go_quiet (fail)
      go_wp2
      refine wp_loop_rounds 1 ?_
      rw [rounds_succ]
      go_wp2_with (go_at_call 79; refine (hsh _).mono ?_; rintro e w1 ⟨rfl, hb1⟩)
      exact bodyPost_ret (v := .int .u64 0) (by simp [results, Tryz.results81, go_sem]) rfl (hto _ _ hb1)
    | some p =>
      rw [ha] at c0
      go_enter Tryz.func81, Tryz.ntmps81
      go_wp2
      go_quiet (fail)
      go_wp2
      refine wp_loop_rounds 1 ?_
      rw [rounds_succ]
      go_wp2_with (go_at_call 79; refine (hsh _).mono ?_; rintro e w1 ⟨rfl, hb1⟩)
      exact bodyPost_ret (v := .int .u64 0) (by simp [results, Tryz.results81, go_sem]) rfl (hto _ _ hb1)
  · cases ha : c.a with
    | none => exact absurd (hcp ha) (by omega)
    | some p =>
      rw [ha] at c0
      go_enter Tryz.func81, Tryz.ntmps81
      go_wp2
      go_quiet (fail)
      go_wp2
      refine wp_loop_rounds 1 ?_
      rw [rounds_succ]
      go_wp2_with (go_at_call 79; refine (hsh _).mono ?_; rintro e w1 ⟨rfl, hb1⟩)
      exact bodyPost_ret (v := .int .u64 0) (by simp [results, Tryz.results81, go_sem]) rfl (hto _ _ hb1)

end Go.Proofs.YtmklkcefbabhbaaGreat

import Derived.Test.YtoippgmecnlhcaaGreatDoorShelf
import Derived.Test.YtoippgmecnlhcaaGreatDoorChecked
import Derived.Lib.ItoaMem
import Derived.Lib.AppendIntMem
import Derived.WalkKit
import Derived.Below
import Derived.Laws.RangeAny
namespace Go.Proofs.YtoippgmecnlhcaaGreatDoor.X
open Go.RowKit Go.Sort Go.Lib

/-- The powers of ten, as the library lays them. -/
abbrev Tab (w : World) : Prop := TabIs Tryz.prog w "internal/strconv.uint64pow10" .u64 pow10Tab
theorem Tab.later {w w' : World} (h : Tab w) (hb : Below w.heap.size w w') : Tab w' := tabBelow_of_tabIs h w' hb

theorem holds_zero0 (w : World) (T : TypeId) (nd : Nat) (hs : nd ≤ 24) : Holds (fun (b : UInt8) => Value.int .u8 (b.toNat : Int)) (w.alloc (.cells zeros24 T)) w.heap.size 0 (Array.replicate nd (0 : UInt8)) := fun j hj => by
  have hj' : j < nd := by simpa using hj
  refine ⟨?_, World.frozen?_alloc_new _ _ _ _⟩
  rw [World.cell?_alloc_new, zeros24_at _ (by omega), getElem!_pos _ j hj]
  simp
theorem fin_pos0 (w : World) (o : Obj) (dk : Array UInt8) (k : Nat) : ∃ os, (putRow (fun (b : UInt8) => Value.int .u8 (b.toNat : Int)) (w.alloc o) w.heap.size 0 dk).drewN k = grow (w.drewN k) os := by
  rw [alloc_eq_grow]
  obtain ⟨os', _, e⟩ := putRow_grow_new (fun (b : UInt8) => Value.int .u8 (b.toNat : Int)) w #[o] w.heap.size 0 dk (Nat.le_refl _)
  exact ⟨os', by rw [e]; rfl⟩

set_option maxHeartbeats 6400000 in
set_option maxRecDepth 100000 in
/-- strconv.FormatUint's inner one, at base 10. -/
theorem formatU_in (u : Nat) (hu64 : u < 18446744073709551616) (w : World) (htab : Tab w) :
    Calls Tryz.prog 80 #[.int .u64 u, .int .i64 10] w fun e w' => e = .returned (.string ⟨(decDigits u).toArray⟩) ∧ Below w.heap.size w w' := by
  by_cases hi : u < 100
  · have hi' : (u : Int) < 100 := by omega
    have hw : IntKind.i64.wrap (u : Int) = (u : Int) := by rw [IntKind.wrap_i64]; omega
    go_enter Tryz.func80, Tryz.ntmps80
    go_wp2_with (go_at_call 82; refine (Tryz.internal_strconv_small u hi _).mono ?_; rintro e w' ⟨rfl, rfl⟩)
    go_ret
    exact ⟨rfl, Below.refl _ _⟩
  · have hi' : ¬ (u : Int) < 100 := by omega
    have hu1 : 1 ≤ u := by omega
    have hnd20 : nDigits u ≤ 20 := by have := numDigits_eq u hu1 hu64; split at this <;> omega
    have hal : Tryz.prog.arrayLen 162 = 24 := by simp [Program.arrayLen, Tryz.underlying162]
    have hsl1 : ∀ W, (Instr.sliceAt 162 (.pointer (some ⟨w.heap.size, 0, none⟩)) none (some (.int .i64 (nDigits u : Int))) none).run Tryz.prog W = .ok (.slice (some ⟨w.heap.size, 0, none⟩) (nDigits u) 24) W := fun W => by
      rw [run_sliceAt_array_h W 162 ⟨w.heap.size, 0, none⟩ (by simp [Program.arrayLen, Program.elem, Tryz.underlying162]) .i64 (nDigits u : Int) (by omega) (by rw [hal]; omega)]
      go_simp
    have hH0 := holds_zero0 w 162 (nDigits u) (by omega)
    have hfmt := Tryz.internal_strconv_formatBase10 w.heap.size 0 24 u (Array.replicate (nDigits u) 0) (w.alloc (.cells zeros24 162)) hH0 (by rw [Array.size_replicate]; exact lt_pow_nDigits u) hu64 (by rw [Array.size_replicate]; omega)
    rw [Array.size_replicate] at hfmt
    have HH0 := hid hH0
    clear hH0 hal
    go_enter Tryz.func80, Tryz.ntmps80
    go_wp2_with (first
      | (go_at_call 83; refine (Tryz.internal_strconv_numDigits u hu1 hu64 _ (tabIs_alloc htab _)).mono ?_; rintro e w' ⟨rfl, rfl⟩) | (go_at_call 84; fail))
    refine hfmt.mono ?_
    rintro e w' ⟨rfl, k, v', dk, rfl, hF⟩
    have hcv : (convert 61 9 (.slice (some ⟨w.heap.size, 0, none⟩) (nDigits u) 24)).run Tryz.prog ((putRow (fun (b : UInt8) => Value.int .u8 (b.toNat : Int)) (w.alloc (.cells zeros24 162)) w.heap.size 0 dk).drewN k) = .ok (.string ⟨(decDigits u).toArray⟩) ((putRow (fun (b : UInt8) => Value.int .u8 (b.toNat : Int)) (w.alloc (.cells zeros24 162)) w.heap.size 0 dk).drewN k) := by
      have h := run_convert_bytes_back (P := Tryz.prog) ((putRow (fun (b : UInt8) => Value.int .u8 (b.toNat : Int)) (w.alloc (.cells zeros24 162)) w.heap.size 0 dk).drewN k) 61 9 5 ⟨w.heap.size, 0, none⟩ 24 (decDigits u) Tryz.underlying61 Tryz.underlying5 Tryz.underlying9 (fun j hj => by
        rw [row_is_numeral hF j hj, Lib.add_plain, World.cell?_drewN]
        exact cell?_putRow (fun (b : UInt8) => Value.int .u8 (b.toNat : Int)) _ w.heap.size 0 _ dk HH0.out (by rw [hF.size, Array.size_replicate]) j (by rw [hF.size]; rw [decDigits_length] at hj; exact hj))
      rw [decDigits_length] at h
      exact h
    go_wp2
    go_ret
    obtain ⟨os, eo⟩ := fin_pos0 w (.cells zeros24 162) dk k
    refine ⟨rfl, ?_⟩
    rw [eo]
    exact below_grow _ _ (Nat.le_refl _) _ _

theorem formatU (u : Nat) (hu64 : u < 18446744073709551616) (w : World) (htab : Tab w) :
    Calls Tryz.prog 63 #[.int .u64 u, .int .i64 10] w fun e w' => e = .returned (.string ⟨(decDigits u).toArray⟩) ∧ Below w.heap.size w w' := by
  go_enter Tryz.func63, Tryz.ntmps63
  go_wp2_with (go_at_call 80; refine (formatU_in u hu64 _ htab).mono ?_; rintro e w' ⟨rfl, hb⟩)
  go_ret
  exact ⟨rfl, hb⟩

end Go.Proofs.YtoippgmecnlhcaaGreatDoor.X


/- THE MATHEMATICS of layer 4: the classes of bytes, what is passed over, how far a word goes. No program. -/
namespace Go.Proofs.YtoippgmecnlhcaaGreatDoor

/-- The class of a byte: blank 1, line feed 2, # 4, letter 8, _ 16, digit 32, quote 64, any other 0. -/
def cls (n : Nat) : Nat := if n = 9 ∨ n = 32 then 1 else if n = 10 then 2 else if n = 35 then 4 else if 97 ≤ n ∧ n ≤ 122 then 8 else if n = 95 then 16 else if 48 ≤ n ∧ n ≤ 57 then 32 else if n = 34 then 64 else 0
theorem cls_high {n : Nat} (h : 128 ≤ n) : cls n = 0 := by unfold cls; repeat (first | rw [if_neg (by omega)])
theorem cls_lt (n : Nat) : cls n < 128 := by
  unfold cls
  repeat' split
  all_goals omega
/-- The class at a place; 128 behind the end. -/
def clsAt (l : List UInt8) (i : Nat) : Nat := match l[i]? with | some c => cls c.toNat | none => 128
theorem clsAt_in {l : List UInt8} {i : Nat} (h : i < l.length) : clsAt l i = cls l[i].toNat := by unfold clsAt; rw [List.getElem?_eq_getElem h]
theorem clsAt_out {l : List UInt8} {i : Nat} (h : l.length ≤ i) : clsAt l i = 128 := by unfold clsAt; rw [List.getElem?_eq_none h]

/-- How many bytes are passed over; rm: a # has been met. -/
def skp : List UInt8 → Bool → Nat
  | [], _ => 0
  | c :: x, rm => if cls c.toNat = 4 then 1 + skp x true else if cls c.toNat = 2 then 0 else if cls c.toNat ≠ 1 ∧ rm = false then 0 else 1 + skp x rm
theorem skp_cons (c : UInt8) (x : List UInt8) (rm : Bool) : skp (c :: x) rm = if cls c.toNat = 4 then 1 + skp x true else if cls c.toNat = 2 then 0 else if cls c.toNat ≠ 1 ∧ rm = false then 0 else 1 + skp x rm := rfl
theorem skp_le : ∀ (x : List UInt8) (rm : Bool), skp x rm ≤ x.length
  | [], _ => Nat.le_refl _
  | c :: x, rm => by
    have h1 := skp_le x true
    have h2 := skp_le x rm
    unfold skp
    rw [List.length_cons]
    repeat' split
    all_goals omega
/-- How many bytes are of some classes. -/
def rn (of : Nat) : List UInt8 → Nat
  | [] => 0
  | c :: x => if cls c.toNat &&& of ≠ 0 then 1 + rn of x else 0
theorem rn_cons (of : Nat) (c : UInt8) (x : List UInt8) : rn of (c :: x) = if cls c.toNat &&& of ≠ 0 then 1 + rn of x else 0 := rfl
theorem rn_le (of : Nat) : ∀ (x : List UInt8), rn of x ≤ x.length
  | [] => Nat.le_refl _
  | c :: x => by
    have h1 := rn_le of x
    unfold rn
    rw [List.length_cons]
    split <;> omega
theorem drop_cons {l : List UInt8} {i : Nat} (h : i < l.length) : l.drop i = l[i] :: l.drop (i + 1) := List.drop_eq_getElem_cons h
/-- Bytes above 127 behind a # are passed over. -/
theorem skp_high (x : List UInt8) : ∀ (w pos : Nat), pos + w ≤ x.length → (∀ k (_ : k < w) (hl : pos + k < x.length), 128 ≤ x[pos + k].toNat) → skp (x.drop pos) true = w + skp (x.drop (pos + w)) true
  | 0, pos, _, _ => by simp
  | w + 1, pos, hl, h => by
    have hp : pos < x.length := by omega
    have h0 := h 0 (by omega) (by simpa using hp)
    simp only [Nat.add_zero] at h0
    have ih := skp_high x w (pos + 1) (by omega) (fun k hk hl2 => by
      have := h (k + 1) (by omega) (by omega)
      simp only [show pos + 1 + k = pos + (k + 1) from by omega]
      exact this)
    rw [drop_cons hp, skp_cons, cls_high h0, if_neg (by omega), if_neg (by omega), if_neg (by simp), ih, show pos + 1 + w = pos + (w + 1) from by omega]
    omega

theorem get_is (s : ByteArray) (k : Nat) (h : k < s.size) : s.get! k = s[k]'h := by simp [ByteArray.get!, getElem!_pos, h]; rfl
/-- How many bytes a rune takes: all of them above 127 where the first is. -/
theorem decode_width (s : ByteArray) (pos : Nat) (h : pos < s.size) (ha : 128 ≤ (s[pos]'h).toNat) : 1 ≤ (Utf8.decode s pos).2 ∧ pos + (Utf8.decode s pos).2 ≤ s.size ∧ ∀ k (_ : k < (Utf8.decode s pos).2) (hk : pos + k < s.size), 128 ≤ (s[pos + k]'hk).toNat := by
  have key : ∀ (w : Nat), 1 ≤ w → (∀ k, 1 ≤ k → k < w → pos + k < s.size ∧ (s.get! (pos + k)).toNat / 64 = 2) → 1 ≤ w ∧ pos + w ≤ s.size ∧ ∀ k (_ : k < w) (hk : pos + k < s.size), 128 ≤ (s[pos + k]'hk).toNat := fun w hw hc => by
    refine ⟨hw, ?_, fun k hkw hk => ?_⟩
    · by_cases h1 : w = 1
      · omega
      · have := (hc (w - 1) (by omega) (by omega)).1
        omega
    · by_cases h0 : k = 0
      · subst h0; exact ha
      · have := (hc k (by omega) hkw).2
        rw [get_is s (pos + k) hk] at this
        omega
  have hn : ¬ (s[pos]'h).toNat < 128 := by omega
  have one : 1 ≤ 1 ∧ pos + 1 ≤ s.size ∧ ∀ k (_ : k < 1) (hk : pos + k < s.size), 128 ≤ (s[pos + k]'hk).toNat := key 1 (by omega) (fun k h1 h2 => by omega)
  simp only [Utf8.decode, get_at s pos h, hn, if_false]
  split
  · rename_i hc
    split
    · simp only [Bool.and_eq_true, decide_eq_true_eq, beq_iff_eq] at hc
      exact key 2 (by omega) (fun k h1 h2 => by obtain rfl : k = 1 := by omega
                                                exact hc.2)
    · exact one
  · split
    · rename_i hc
      split
      · simp only [Bool.and_eq_true, decide_eq_true_eq, beq_iff_eq] at hc
        exact key 3 (by omega) (fun k h1 h2 => by
          have : k = 1 ∨ k = 2 := by omega
          rcases this with rfl | rfl
          · exact hc.1.2
          · exact hc.2)
      · exact one
    · split
      · rename_i hc
        split
        · simp only [Bool.and_eq_true, decide_eq_true_eq, beq_iff_eq] at hc
          exact key 4 (by omega) (fun k h1 h2 => by
            have : k = 1 ∨ k = 2 ∨ k = 3 := by omega
            rcases this with rfl | rfl | rfl
            · exact hc.1.1.2
            · exact hc.1.2
            · exact hc.2)
        · exact one
      · exact one

end Go.Proofs.YtoippgmecnlhcaaGreatDoor


/- WHAT A SCAN ANSWERS, as the chapter tells it, over the bytes of the text. No program. -/
namespace Go.Proofs.YtoippgmecnlhcaaGreatDoor

/-- A word: kind, text, num, den. -/
abbrev Wd := Nat × (List UInt8 × (Nat × Nat))
/-- A word and where it ends, or the place of the fault and its number. -/
abbrev Res := Except (Nat × Nat) (Wd × Nat)
def slc (l : List UInt8) (a b : Nat) : List UInt8 := (l.take b).drop a

def nameS (l : List UInt8) (at_ : Nat) : Res := if 12 < rn 56 (l.drop at_) then .error (at_, 40) else .ok ((1, slc l at_ (at_ + rn 56 (l.drop at_)), 0, 0), at_ + rn 56 (l.drop at_))

/-- What digits say. -/
def val (x : List UInt8) : Nat := x.foldl (fun n c => 10 * n + (c.toNat - 48)) 0
def pctTok (n : Nat) (part : List UInt8) : Option Wd := if 6 < part.length ∨ part.getLast? = some 48 then none else
  if n / n.gcd (100 * 10 ^ part.length) ≤ 1000000000 ∧ 100 * 10 ^ part.length / n.gcd (100 * 10 ^ part.length) ≤ 1000000000 then some (4, [], n / n.gcd (100 * 10 ^ part.length), 100 * 10 ^ part.length / n.gcd (100 * 10 ^ part.length)) else none
def numTok (whole part : List UInt8) (pc : Bool) : Option Wd := if 9223372036854775807 < val (whole ++ part) ∨ (1 < whole.length ∧ whole.head? = some 48) then none else
  if pc = true then pctTok (val (whole ++ part)) part else if part = [] then (if val (whole ++ part) ≤ 1000000000 then some (3, [], val (whole ++ part), 0) else none)
  else if part.length = 2 ∧ val (whole ++ part) ≤ 9999999999999 then some (2, [], val (whole ++ part), 0) else none
/-- Where the digits ahead of the point end; whether there is a point; where the number ends. -/
def nE1 (l : List UInt8) (at_ : Nat) : Nat := at_ + rn 32 (l.drop at_)
def nPt (l : List UInt8) (at_ : Nat) : Bool := l[nE1 l at_]? == some 46 && clsAt l (nE1 l at_ + 1) == 32
def nE2 (l : List UInt8) (at_ : Nat) : Nat := if nPt l at_ = true then nE1 l at_ + 1 + rn 32 (l.drop (nE1 l at_ + 1)) else nE1 l at_
def nPart (l : List UInt8) (at_ : Nat) : List UInt8 := if nPt l at_ = true then slc l (nE1 l at_ + 1) (nE2 l at_) else []
def nPc (l : List UInt8) (at_ : Nat) : Bool := l[nE2 l at_]? == some 37
def nE3 (l : List UInt8) (at_ : Nat) : Nat := if nPc l at_ = true then nE2 l at_ + 1 else nE2 l at_
def numberS (l : List UInt8) (at_ : Nat) : Res := match numTok (slc l at_ (nE1 l at_)) (nPart l at_) (nPc l at_) with
  | none => .error (at_, 42)
  | some t => if clsAt l (nE3 l at_) &&& 24 ≠ 0 then .error (at_, 42) else .ok (t, nE3 l at_)

def fineB (c : UInt8) : Bool := decide (32 ≤ c.toNat ∧ c.toNat ≤ 126)
/-- What stands between quotes; esc: where a backslash stands directly ahead. -/
def qgo (at_ : Nat) : List UInt8 → Nat → Option Nat → List UInt8 → Res
  | [], _, some e, _ => .error (e, 43)
  | [], _, none, _ => .error (at_, 43)
  | c :: x, p, some e, acc => if c = 34 ∨ c = 92 then qgo at_ x (p + 1) none (acc ++ [c]) else .error (e, 43)
  | c :: x, p, none, acc => if c = 92 then qgo at_ x (p + 1) (some p) acc else if c = 34 then (if 40 < acc.length then .error (at_, 40) else .ok ((6, acc, 0, 0), p + 1)) else if c = 10 then .error (at_, 43) else if fineB c = false then .error (p, 43) else qgo at_ x (p + 1) none (acc ++ [c])
def quotedS (l : List UInt8) (at_ : Nat) : Res := qgo at_ (l.drop (at_ + 1)) (at_ + 1) none []

def signsL : List (List UInt8) := [[33, 61], [60, 61], [62, 61], [60], [62], [61], [40], [41], [44], [58], [46], [43], [45], [42], [47]]
def signS (l : List UInt8) (at_ : Nat) : Res := match signsL.find? (fun s => s.isPrefixOf (l.drop at_)) with
  | some s => .ok ((7, s, 0, 0), at_ + s.length)
  | none => .error (at_, 41)

end Go.Proofs.YtoippgmecnlhcaaGreatDoor


/- The signs in another order: the first that fits is the same. No program. -/
namespace Go.Proofs.YtoippgmecnlhcaaGreatDoor.Q

def refSigns : List (List UInt8) := [[33, 61], [60, 61], [62, 61], [40], [41], [44], [58], [46], [61], [60], [62], [43], [45], [42], [47]]
theorem pre_one (k c : UInt8) (y : List UInt8) : [k].isPrefixOf (c :: y) = (k == c) := by simp [List.isPrefixOf]
theorem pre_two (k d c : UInt8) (y : List UInt8) : [k, d].isPrefixOf (c :: y) = (k == c && (y.head? == some d)) := by
  cases y with
  | nil => simp [List.isPrefixOf]
  | cons e y =>
    simp [List.isPrefixOf]
    rw [Bool.beq_comm (a := d)]
def sgF (L : List (List UInt8)) (c : UInt8) (b : Bool) : Option (List UInt8) := L.find? (fun s => match s with | [k] => k == c | [k, _] => k == c && b | _ => false)
theorem sg_same : ∀ (n : Fin 256) (b : Bool), sgF signsL (UInt8.ofNat n.val) b = sgF refSigns (UInt8.ofNat n.val) b := by decide +kernel
theorem sg_find (L : List (List UInt8)) (hL : ∀ s ∈ L, (∃ k, s = [k]) ∨ ∃ k, s = [k, 61]) (c : UInt8) (y : List UInt8) : L.find? (fun s => s.isPrefixOf (c :: y)) = sgF L c (y.head? == some 61) := by
  unfold sgF
  induction L with
  | nil => rfl
  | cons s L ih =>
    have ih' := ih (fun t ht => hL t (List.mem_cons_of_mem _ ht))
    rw [List.find?_cons, List.find?_cons]
    rcases hL s (by simp) with ⟨k, rfl⟩ | ⟨k, rfl⟩
    · rw [pre_one, ih']
    · rw [pre_two, ih']
theorem signs_same (x : List UInt8) : refSigns.find? (fun s => s.isPrefixOf x) = signsL.find? (fun s => s.isPrefixOf x) := by
  cases x with
  | nil => rfl
  | cons c y =>
    rw [sg_find refSigns (by intro s hs; simp only [refSigns, List.mem_cons, List.not_mem_nil, or_false] at hs; rcases hs with h | h | h | h | h | h | h | h | h | h | h | h | h | h | h <;> subst h <;> first | exact .inr ⟨_, rfl⟩ | exact .inl ⟨_, rfl⟩), sg_find signsL (by intro s hs; simp only [signsL, List.mem_cons, List.not_mem_nil, or_false] at hs; rcases hs with h | h | h | h | h | h | h | h | h | h | h | h | h | h | h <;> subst h <;> first | exact .inr ⟨_, rfl⟩ | exact .inl ⟨_, rfl⟩)]
    have := sg_same ⟨c.toNat, c.toNat_lt⟩ (y.head? == some 61)
    simp only [UInt8.ofNat_toNat] at this
    exact this.symm

end Go.Proofs.YtoippgmecnlhcaaGreatDoor.Q

import Derived.Laws.RangeAny
import Derived.Below
/- THE MATHEMATICS of layer 4: the classes of bytes, what is passed over, how far a word goes. No program. -/
namespace Go.Proofs.YtekapipfaahhcaaGreatDoor

/-- The class of a byte: blank 1, line feed 2, # 4, letter 8, _ 16, digit 32, quote 64, any other 0. -/
def cls (n : Nat) : Nat := if n = 9 ∨ n = 32 then 1 else if n = 10 then 2 else if n = 35 then 4 else if 97 ≤ n ∧ n ≤ 122 then 8 else if n = 95 then 16 else if 48 ≤ n ∧ n ≤ 57 then 32 else if n = 34 then 64 else 0
theorem cls_high {n : Nat} (h : 128 ≤ n) : cls n = 0 := by unfold cls; repeat (first | rw [if_neg (by omega)])
theorem cls_lt (n : Nat) : cls n < 128 := by
  unfold cls
  repeat' split
  all_goals omega
/-- The class at a place; 128 behind the end. -/
def clsAt (l : List UInt8) (i : Nat) : Nat := match l[i]? with | some c => cls c.toNat | none => 128
theorem clsAt_in {l : List UInt8} {i : Nat} (h : i < l.length) : clsAt l i = cls l[i].toNat := by unfold clsAt; rw [List.getElem?_eq_getElem h]
theorem clsAt_out {l : List UInt8} {i : Nat} (h : l.length ≤ i) : clsAt l i = 128 := by unfold clsAt; rw [List.getElem?_eq_none h]

/-- How many bytes are passed over; rm: a # has been met. -/
def skp : List UInt8 → Bool → Nat
  | [], _ => 0
  | c :: x, rm => if cls c.toNat = 4 then 1 + skp x true else if cls c.toNat = 2 then 0 else if cls c.toNat ≠ 1 ∧ rm = false then 0 else 1 + skp x rm
theorem skp_cons (c : UInt8) (x : List UInt8) (rm : Bool) : skp (c :: x) rm = if cls c.toNat = 4 then 1 + skp x true else if cls c.toNat = 2 then 0 else if cls c.toNat ≠ 1 ∧ rm = false then 0 else 1 + skp x rm := rfl
theorem skp_le : ∀ (x : List UInt8) (rm : Bool), skp x rm ≤ x.length
  | [], _ => Nat.le_refl _
  | c :: x, rm => by
    have h1 := skp_le x true
    have h2 := skp_le x rm
    unfold skp
    rw [List.length_cons]
    repeat' split
    all_goals omega
/-- How many bytes are of some classes. -/
def rn (of : Nat) : List UInt8 → Nat
  | [] => 0
  | c :: x => if cls c.toNat &&& of ≠ 0 then 1 + rn of x else 0
theorem rn_cons (of : Nat) (c : UInt8) (x : List UInt8) : rn of (c :: x) = if cls c.toNat &&& of ≠ 0 then 1 + rn of x else 0 := rfl
theorem rn_le (of : Nat) : ∀ (x : List UInt8), rn of x ≤ x.length
  | [] => Nat.le_refl _
  | c :: x => by
    have h1 := rn_le of x
    unfold rn
    rw [List.length_cons]
    split <;> omega
theorem drop_cons {l : List UInt8} {i : Nat} (h : i < l.length) : l.drop i = l[i] :: l.drop (i + 1) := List.drop_eq_getElem_cons h
/-- Bytes above 127 behind a # are passed over. -/
theorem skp_high (x : List UInt8) : ∀ (w pos : Nat), pos + w ≤ x.length → (∀ k (_ : k < w) (hl : pos + k < x.length), 128 ≤ x[pos + k].toNat) → skp (x.drop pos) true = w + skp (x.drop (pos + w)) true
  | 0, pos, _, _ => by simp
  | w + 1, pos, hl, h => by
    have hp : pos < x.length := by omega
    have h0 := h 0 (by omega) (by simpa using hp)
    simp only [Nat.add_zero] at h0
    have ih := skp_high x w (pos + 1) (by omega) (fun k hk hl2 => by
      have := h (k + 1) (by omega) (by omega)
      simp only [show pos + 1 + k = pos + (k + 1) from by omega]
      exact this)
    rw [drop_cons hp, skp_cons, cls_high h0, if_neg (by omega), if_neg (by omega), if_neg (by simp), ih, show pos + 1 + w = pos + (w + 1) from by omega]
    omega

theorem get_is (s : ByteArray) (k : Nat) (h : k < s.size) : s.get! k = s[k]'h := by simp [ByteArray.get!, getElem!_pos, h]; rfl
/-- How many bytes a rune takes: all of them above 127 where the first is. -/
theorem decode_width (s : ByteArray) (pos : Nat) (h : pos < s.size) (ha : 128 ≤ (s[pos]'h).toNat) : 1 ≤ (Utf8.decode s pos).2 ∧ pos + (Utf8.decode s pos).2 ≤ s.size ∧ ∀ k (_ : k < (Utf8.decode s pos).2) (hk : pos + k < s.size), 128 ≤ (s[pos + k]'hk).toNat := by
  have key : ∀ (w : Nat), 1 ≤ w → (∀ k, 1 ≤ k → k < w → pos + k < s.size ∧ (s.get! (pos + k)).toNat / 64 = 2) → 1 ≤ w ∧ pos + w ≤ s.size ∧ ∀ k (_ : k < w) (hk : pos + k < s.size), 128 ≤ (s[pos + k]'hk).toNat := fun w hw hc => by
    refine ⟨hw, ?_, fun k hkw hk => ?_⟩
    · by_cases h1 : w = 1
      · omega
      · have := (hc (w - 1) (by omega) (by omega)).1
        omega
    · by_cases h0 : k = 0
      · subst h0; exact ha
      · have := (hc k (by omega) hkw).2
        rw [get_is s (pos + k) hk] at this
        omega
  have hn : ¬ (s[pos]'h).toNat < 128 := by omega
  have one : 1 ≤ 1 ∧ pos + 1 ≤ s.size ∧ ∀ k (_ : k < 1) (hk : pos + k < s.size), 128 ≤ (s[pos + k]'hk).toNat := key 1 (by omega) (fun k h1 h2 => by omega)
  simp only [Utf8.decode, get_at s pos h, hn, if_false]
  split
  · rename_i hc
    split
    · simp only [Bool.and_eq_true, decide_eq_true_eq, beq_iff_eq] at hc
      exact key 2 (by omega) (fun k h1 h2 => by obtain rfl : k = 1 := by omega
                                                exact hc.2)
    · exact one
  · split
    · rename_i hc
      split
      · simp only [Bool.and_eq_true, decide_eq_true_eq, beq_iff_eq] at hc
        exact key 3 (by omega) (fun k h1 h2 => by
          have : k = 1 ∨ k = 2 := by omega
          rcases this with rfl | rfl
          · exact hc.1.2
          · exact hc.2)
      · exact one
    · split
      · rename_i hc
        split
        · simp only [Bool.and_eq_true, decide_eq_true_eq, beq_iff_eq] at hc
          exact key 4 (by omega) (fun k h1 h2 => by
            have : k = 1 ∨ k = 2 ∨ k = 3 := by omega
            rcases this with rfl | rfl | rfl
            · exact hc.1.1.2
            · exact hc.1.2
            · exact hc.2)
        · exact one
      · exact one

end Go.Proofs.YtekapipfaahhcaaGreatDoor

import Derived.Test.YtjapkeenlodgcaaBBk1
import Derived.Test.YtjapkeenlodgcaaShelf
import Derived.Deep.RegionLaw
namespace Go.Proofs.Ytjapkeenlodgcaa
open Go.RowKit

def sA : ByteArray := { data := #[97] }
def SomeB (s : ByteArray) (e : Ending) : Prop := ∃ o : Bool, e = .returned (.bool o) ∧ (o = true → 0 < s.size)
theorem five (k : Nat) : (k < 48 ∧ k < 97) ∨ (48 ≤ k ∧ k ≤ 57) ∨ (57 < k ∧ k < 97) ∨ (97 ≤ k ∧ k ≤ 122) ∨ (97 ≤ k ∧ 122 < k) := by omega
set_option maxRecDepth 4000 in
set_option maxHeartbeats 2000000 in
/-- isName answers. -/
theorem isName_some (s : ByteArray) (w : World) : Calls Try.prog 40 #[.string s] w fun e w' => SomeB s e ∧ Below w.heap.size w w' := by
  by_cases h0 : s.size = 0
  · have h0' : ((s.size : Int) == 0) = true := by rw [h0]; rfl
    go_enter Try.func40, Try.ntmps40
    go_wp2
    go_ret
    exact ⟨⟨false, rfl, fun e => by cases e⟩, Below.refl _ _⟩
  have h0' : ((s.size : Int) == 0) = false := by rw [beq_eq_false_iff_ne]; omega
  by_cases h8 : 8 < s.size
  · have h8' : (8 : Int) < (s.size : Int) := by omega
    go_enter Try.func40, Try.ntmps40
    go_wp2
    go_ret
    exact ⟨⟨_, rfl, fun _ => by omega⟩, Below.refl _ _⟩
  have h8' : ¬ (8 : Int) < (s.size : Int) := by omega
  go_enter Try.func40, Try.ntmps40
  go_wp2
  go_loopw [16] (fun x wr => ∃ j : Nat, j ≤ s.size ∧ x = .int .i64 j ∧ Below w.heap.size w wr) (fun x _ => s.size - (intOf x).toNat)
  case atStart => exact ⟨0, by omega, rfl, Below.refl _ _⟩
  case round =>
    obtain ⟨j, hj, rfl, hB⟩ := hrel
    by_cases hlt : j < s.size
    · have hlt' : (j : Int) < (s.size : Int) := by omega
      have hj0 : (0 : Int) ≤ (j : Int) := by omega
      by_cases hz : j = 0
      · subst hz
        rcases five s[0].toNat with ⟨h1, h2⟩ | ⟨h1, h2⟩ | ⟨h1, h2⟩ | ⟨h1, h2⟩ | ⟨h1, h2⟩
        · have q0 : ¬ (97 : Int) ≤ ((s[0].toNat : Nat) : Int) := by omega
          have q1 : ¬ (48 : Int) ≤ ((s[0].toNat : Nat) : Int) := by omega
          go_wp2
          go_ret
          exact ⟨⟨_, rfl, fun _ => by omega⟩, hB⟩
        · have q0 : ¬ (97 : Int) ≤ ((s[0].toNat : Nat) : Int) := by omega
          have q1 : (48 : Int) ≤ ((s[0].toNat : Nat) : Int) := by omega
          have q2 : ((s[0].toNat : Nat) : Int) ≤ 57 := by omega
          go_wp2
          go_ret
          exact ⟨⟨_, rfl, fun _ => by omega⟩, hB⟩
        · have q0 : ¬ (97 : Int) ≤ ((s[0].toNat : Nat) : Int) := by omega
          have q1 : (48 : Int) ≤ ((s[0].toNat : Nat) : Int) := by omega
          have q2 : ¬ ((s[0].toNat : Nat) : Int) ≤ 57 := by omega
          go_wp2
          go_ret
          exact ⟨⟨_, rfl, fun _ => by omega⟩, hB⟩
        · have q0 : (97 : Int) ≤ ((s[0].toNat : Nat) : Int) := by omega
          have q1 : ((s[0].toNat : Nat) : Int) ≤ 122 := by omega
          have q2 : (48 : Int) ≤ ((s[0].toNat : Nat) : Int) := by omega
          have q3 : ¬ ((s[0].toNat : Nat) : Int) ≤ 57 := by omega
          go_wp2
          go_roundw
          case rel => exact ⟨1, by omega, by first | rfl | go_num, hB⟩
          case measure => simp [intOf]; omega
        · have q0 : (97 : Int) ≤ ((s[0].toNat : Nat) : Int) := by omega
          have q1 : ¬ ((s[0].toNat : Nat) : Int) ≤ 122 := by omega
          have q2 : (48 : Int) ≤ ((s[0].toNat : Nat) : Int) := by omega
          have q3 : ¬ ((s[0].toNat : Nat) : Int) ≤ 57 := by omega
          go_wp2
          go_ret
          exact ⟨⟨_, rfl, fun _ => by omega⟩, hB⟩
      · have hz' : ((j : Int) == 0) = false := by simp; omega
        rcases five s[j].toNat with ⟨h1, h2⟩ | ⟨h1, h2⟩ | ⟨h1, h2⟩ | ⟨h1, h2⟩ | ⟨h1, h2⟩
        · have q0 : ¬ (97 : Int) ≤ ((s[j].toNat : Nat) : Int) := by omega
          have q1 : ¬ (48 : Int) ≤ ((s[j].toNat : Nat) : Int) := by omega
          go_wp2
          go_ret
          exact ⟨⟨_, rfl, fun _ => by omega⟩, hB⟩
        · have q0 : ¬ (97 : Int) ≤ ((s[j].toNat : Nat) : Int) := by omega
          have q1 : (48 : Int) ≤ ((s[j].toNat : Nat) : Int) := by omega
          have q2 : ((s[j].toNat : Nat) : Int) ≤ 57 := by omega
          go_wp2
          go_roundw
          case rel => exact ⟨j + 1, by omega, by first | rfl | go_num, hB⟩
          case measure => simp [intOf]; omega
        · have q0 : ¬ (97 : Int) ≤ ((s[j].toNat : Nat) : Int) := by omega
          have q1 : (48 : Int) ≤ ((s[j].toNat : Nat) : Int) := by omega
          have q2 : ¬ ((s[j].toNat : Nat) : Int) ≤ 57 := by omega
          go_wp2
          go_ret
          exact ⟨⟨_, rfl, fun _ => by omega⟩, hB⟩
        · have q0 : (97 : Int) ≤ ((s[j].toNat : Nat) : Int) := by omega
          have q1 : ((s[j].toNat : Nat) : Int) ≤ 122 := by omega
          have q2 : (48 : Int) ≤ ((s[j].toNat : Nat) : Int) := by omega
          have q3 : ¬ ((s[j].toNat : Nat) : Int) ≤ 57 := by omega
          go_wp2
          go_roundw
          case rel => exact ⟨j + 1, by omega, by first | rfl | go_num, hB⟩
          case measure => simp [intOf]; omega
        · have q0 : (97 : Int) ≤ ((s[j].toNat : Nat) : Int) := by omega
          have q1 : ¬ ((s[j].toNat : Nat) : Int) ≤ 122 := by omega
          have q2 : (48 : Int) ≤ ((s[j].toNat : Nat) : Int) := by omega
          have q3 : ¬ ((s[j].toNat : Nat) : Int) ≤ 57 := by omega
          go_wp2
          go_ret
          exact ⟨⟨_, rfl, fun _ => by omega⟩, hB⟩
    · have hlt' : ¬ (j : Int) < (s.size : Int) := by omega
      go_wp2
      go_ret
      exact ⟨⟨_, rfl, fun _ => by omega⟩, hB⟩

set_option maxRecDepth 4000 in
set_option maxHeartbeats 2000000 in
theorem isName_a (w : World) : Calls Try.prog 40 #[.string sA] w fun e w' => e = .returned (.bool true) ∧ w' = w := by
  unfold sA
  go_enter Try.func40, Try.ntmps40
  go_wp2
  refine wp_loop_rounds 2 ?_
  rw [rounds_succ]
  go_wp2
  rw [rounds_succ]
  go_wp2
  go_ret
  exact ⟨rfl, rfl⟩

theorem sclone (s : ByteArray) (hs : s.size ≤ 281474976710656) (w : World) : Calls Try.prog 41 #[.string s] w fun e w' => e = .returned (.string s) ∧ Below w.heap.size w w' := by
  have h := Try.stringslite_Clone s w hs
  go_enter Try.func41, Try.ntmps41
  go_wp2_with (go_at_call 52; refine h.mono ?_; rintro e w1 ⟨rfl, hb1⟩)
  go_ret
  exact ⟨rfl, hb1⟩

end Go.Proofs.Ytjapkeenlodgcaa

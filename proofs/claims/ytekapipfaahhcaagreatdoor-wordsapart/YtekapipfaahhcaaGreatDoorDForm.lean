import Derived.Test.YtekapipfaahhcaaGreatDoorDText
import Derived.Deep.QuietTactic
namespace Go.Proofs.YtekapipfaahhcaaGreatDoor
open Go.RowKit

/-- may the sign c stand at place i? -/
def ck (i : Nat) (c : Int) : Bool := if i = 4 ∨ i = 7 then decide (c = 45) else decide (48 ≤ c ∧ c ≤ 57)
theorem fits_ck (i : Nat) (a : Int) (c : Int) (r : Bool) (hr : ck i c = r) (h : ((i = 4 ∨ i = 7) ∧ a = 45) ∨ (¬ (i = 4 ∨ i = 7) ∧ a = 48)) (w : World) :
    Calls Tryz.prog 154 #[.int .u8 c, .int .u8 a] w fun e w' => e = .returned (.bool r) ∧ w' = w := by
  have hf := fits_any c a w
  have e : (if a = 48 then decide (48 ≤ c ∧ c ≤ 57) else decide (c = a)) = r := by
    rw [← hr]
    unfold ck
    rcases h with ⟨h1, h2⟩ | ⟨h1, h2⟩
    · rw [if_pos h1, h2, if_neg (by omega)]
    · rw [if_neg h1, h2, if_pos rfl]
  rwa [e] at hf

set_option maxRecDepth 4000 in
set_option maxHeartbeats 4000000 in
theorem formed_any (s : ByteArray) (r : Nat) (hr : r ≤ 10) (hs : r ≤ s.size) (hok : ∀ i (h : i < s.size), i < r → ck i s[i].toNat = true) (hend : r = 10 ∨ r = s.size ∨ ∃ h : r < s.size, ck r s[r].toNat = false) (w : World) :
    Calls Tryz.prog 146 #[.string s] w fun e w' => e = .returned (.int .i64 r) ∧ Below w.heap.size w w' := by
  go_enter Tryz.func146, Tryz.ntmps146
  go_wp2
  go_loopw [4] (fun x wr => ∃ i : Nat, x = .int .i64 i ∧ i ≤ r ∧ Below w.heap.size w wr) (fun x _ => 10 - (intOf x).toNat)
  case atStart => exact ⟨0, rfl, Nat.zero_le _, Below.refl _ _⟩
  case round =>
    obtain ⟨i, rfl, hi, hB⟩ := hrel
    by_cases h10 : i = 10
    · subst h10
      obtain rfl : r = 10 := by omega
      clear hok hend
      go_wp2
      go_ret
      exact ⟨rfl, hB⟩
    · have hi9 : i = 0 ∨ i = 1 ∨ i = 2 ∨ i = 3 ∨ i = 4 ∨ i = 5 ∨ i = 6 ∨ i = 7 ∨ i = 8 ∨ i = 9 := by omega
      by_cases hir : i = r
      · subst hir
        by_cases hsz : i = s.size
        · clear hok hend
          have hsz2 : Hid (i = s.size) := hsz
          clear hsz
          rcases hi9 with rfl | rfl | rfl | rfl | rfl | rfl | rfl | rfl | rfl | rfl
          all_goals
            have hsz3 := hsz2.out.symm
            go_wp2
            go_quiet ((go_at_call 154; exact Calls.quiet_of_same (fits_any _ _ _)))
            go_wp2
            go_ret
            exact ⟨rfl, below_drewN hB _⟩
        · obtain ⟨hlt, hck⟩ : ∃ h : i < s.size, ck i s[i].toNat = false := by
            rcases hend with h | h | h
            · exact absurd h h10
            · exact absurd h hsz
            · exact h
          have hne : ∀ z : Int, z = (i : Int) → (z == (s.size : Int)) = false ∧ z < (s.size : Int) := fun z hz => ⟨by simp; omega, by omega⟩
          clear hok hend
          rcases hi9 with rfl | rfl | rfl | rfl | rfl | rfl | rfl | rfl | rfl | rfl
          · obtain ⟨hn1, hn2⟩ := hne 0 rfl
            clear hne
            go_wp2
            go_quiet ((go_at_call 154; exact Calls.quiet_of_same (fits_ck _ _ _ false hck (by decide) _)))
            go_wp2
            go_ret
            exact ⟨rfl, below_drewN hB _⟩
          · obtain ⟨hn1, hn2⟩ := hne 1 rfl
            clear hne
            go_wp2
            go_quiet ((go_at_call 154; exact Calls.quiet_of_same (fits_ck _ _ _ false hck (by decide) _)))
            go_wp2
            go_ret
            exact ⟨rfl, below_drewN hB _⟩
          · obtain ⟨hn1, hn2⟩ := hne 2 rfl
            clear hne
            go_wp2
            go_quiet ((go_at_call 154; exact Calls.quiet_of_same (fits_ck _ _ _ false hck (by decide) _)))
            go_wp2
            go_ret
            exact ⟨rfl, below_drewN hB _⟩
          · obtain ⟨hn1, hn2⟩ := hne 3 rfl
            clear hne
            go_wp2
            go_quiet ((go_at_call 154; exact Calls.quiet_of_same (fits_ck _ _ _ false hck (by decide) _)))
            go_wp2
            go_ret
            exact ⟨rfl, below_drewN hB _⟩
          · obtain ⟨hn1, hn2⟩ := hne 4 rfl
            clear hne
            go_wp2
            go_quiet ((go_at_call 154; exact Calls.quiet_of_same (fits_ck _ _ _ false hck (by decide) _)))
            go_wp2
            go_ret
            exact ⟨rfl, below_drewN hB _⟩
          · obtain ⟨hn1, hn2⟩ := hne 5 rfl
            clear hne
            go_wp2
            go_quiet ((go_at_call 154; exact Calls.quiet_of_same (fits_ck _ _ _ false hck (by decide) _)))
            go_wp2
            go_ret
            exact ⟨rfl, below_drewN hB _⟩
          · obtain ⟨hn1, hn2⟩ := hne 6 rfl
            clear hne
            go_wp2
            go_quiet ((go_at_call 154; exact Calls.quiet_of_same (fits_ck _ _ _ false hck (by decide) _)))
            go_wp2
            go_ret
            exact ⟨rfl, below_drewN hB _⟩
          · obtain ⟨hn1, hn2⟩ := hne 7 rfl
            clear hne
            go_wp2
            go_quiet ((go_at_call 154; exact Calls.quiet_of_same (fits_ck _ _ _ false hck (by decide) _)))
            go_wp2
            go_ret
            exact ⟨rfl, below_drewN hB _⟩
          · obtain ⟨hn1, hn2⟩ := hne 8 rfl
            clear hne
            go_wp2
            go_quiet ((go_at_call 154; exact Calls.quiet_of_same (fits_ck _ _ _ false hck (by decide) _)))
            go_wp2
            go_ret
            exact ⟨rfl, below_drewN hB _⟩
          · obtain ⟨hn1, hn2⟩ := hne 9 rfl
            clear hne
            go_wp2
            go_quiet ((go_at_call 154; exact Calls.quiet_of_same (fits_ck _ _ _ false hck (by decide) _)))
            go_wp2
            go_ret
            exact ⟨rfl, below_drewN hB _⟩
      · have hck := hok i (by omega) (by omega)
        have hlt : i < s.size := by omega
        have hne : ∀ z : Int, z = (i : Int) → (z == (s.size : Int)) = false ∧ z < (s.size : Int) := fun z hz => ⟨by simp; omega, by omega⟩
        clear hok hend
        rcases hi9 with rfl | rfl | rfl | rfl | rfl | rfl | rfl | rfl | rfl | rfl
        · obtain ⟨hn1, hn2⟩ := hne 0 rfl
          clear hne
          go_wp2
          go_quiet ((go_at_call 154; exact Calls.quiet_of_same (fits_ck _ _ _ true hck (by decide) _)))
          go_wp2
          exact ⟨⟨1, rfl, by omega, below_drewN hB _⟩, by simp [intOf]⟩
        · obtain ⟨hn1, hn2⟩ := hne 1 rfl
          clear hne
          go_wp2
          go_quiet ((go_at_call 154; exact Calls.quiet_of_same (fits_ck _ _ _ true hck (by decide) _)))
          go_wp2
          exact ⟨⟨2, rfl, by omega, below_drewN hB _⟩, by simp [intOf]⟩
        · obtain ⟨hn1, hn2⟩ := hne 2 rfl
          clear hne
          go_wp2
          go_quiet ((go_at_call 154; exact Calls.quiet_of_same (fits_ck _ _ _ true hck (by decide) _)))
          go_wp2
          exact ⟨⟨3, rfl, by omega, below_drewN hB _⟩, by simp [intOf]⟩
        · obtain ⟨hn1, hn2⟩ := hne 3 rfl
          clear hne
          go_wp2
          go_quiet ((go_at_call 154; exact Calls.quiet_of_same (fits_ck _ _ _ true hck (by decide) _)))
          go_wp2
          exact ⟨⟨4, rfl, by omega, below_drewN hB _⟩, by simp [intOf]⟩
        · obtain ⟨hn1, hn2⟩ := hne 4 rfl
          clear hne
          go_wp2
          go_quiet ((go_at_call 154; exact Calls.quiet_of_same (fits_ck _ _ _ true hck (by decide) _)))
          go_wp2
          exact ⟨⟨5, rfl, by omega, below_drewN hB _⟩, by simp [intOf]⟩
        · obtain ⟨hn1, hn2⟩ := hne 5 rfl
          clear hne
          go_wp2
          go_quiet ((go_at_call 154; exact Calls.quiet_of_same (fits_ck _ _ _ true hck (by decide) _)))
          go_wp2
          exact ⟨⟨6, rfl, by omega, below_drewN hB _⟩, by simp [intOf]⟩
        · obtain ⟨hn1, hn2⟩ := hne 6 rfl
          clear hne
          go_wp2
          go_quiet ((go_at_call 154; exact Calls.quiet_of_same (fits_ck _ _ _ true hck (by decide) _)))
          go_wp2
          exact ⟨⟨7, rfl, by omega, below_drewN hB _⟩, by simp [intOf]⟩
        · obtain ⟨hn1, hn2⟩ := hne 7 rfl
          clear hne
          go_wp2
          go_quiet ((go_at_call 154; exact Calls.quiet_of_same (fits_ck _ _ _ true hck (by decide) _)))
          go_wp2
          exact ⟨⟨8, rfl, by omega, below_drewN hB _⟩, by simp [intOf]⟩
        · obtain ⟨hn1, hn2⟩ := hne 8 rfl
          clear hne
          go_wp2
          go_quiet ((go_at_call 154; exact Calls.quiet_of_same (fits_ck _ _ _ true hck (by decide) _)))
          go_wp2
          exact ⟨⟨9, rfl, by omega, below_drewN hB _⟩, by simp [intOf]⟩
        · obtain ⟨hn1, hn2⟩ := hne 9 rfl
          clear hne
          go_wp2
          go_quiet ((go_at_call 154; exact Calls.quiet_of_same (fits_ck _ _ _ true hck (by decide) _)))
          go_wp2
          exact ⟨⟨10, rfl, by omega, below_drewN hB _⟩, by simp [intOf]⟩

end Go.Proofs.YtekapipfaahhcaaGreatDoor

import Derived.Test.YtdjfjcabfbencabDoorDRParse
import Derived.Test.YtdjfjcabfbencabDoorDRPrint
import Derived.Test.YtdjfjcabfbencabDoorDBack
namespace Go.Proofs.YtdjfjcabfbencabDoor
open Go.RowKit

/-- how far a text keeps to the form -/
theorem far (s : ByteArray) (k : Nat) (hk : k ≤ 10) : (k ≤ s.size ∧ ∀ i (h : i < s.size), i < k → ck i s[i].toNat = true) ∨ ∃ r, r < k ∧ r ≤ s.size ∧ (∀ i (h : i < s.size), i < r → ck i s[i].toNat = true) ∧ (r = s.size ∨ ∃ h : r < s.size, ck r s[r].toNat = false) := by
  induction k with
  | zero => exact .inl ⟨Nat.zero_le _, fun i _ h => absurd h (by omega)⟩
  | succ k ih =>
    rcases ih (by omega) with ⟨h1, h2⟩ | ⟨r, h1, h2⟩
    · by_cases hs : k = s.size
      · exact .inr ⟨k, by omega, h1, h2, .inl hs⟩
      · have hlt : k < s.size := by omega
        cases hc : ck k s[k].toNat with
        | true =>
          refine .inl ⟨by omega, fun i h hi => ?_⟩
          by_cases e : i = k
          · subst e; exact hc
          · exact h2 i h (by omega)
        | false => exact .inr ⟨k, by omega, h1, h2, .inr ⟨hlt, hc⟩⟩
    · exact .inr ⟨r, by omega, h2⟩

/-- what both say of a text -/
structure Says (s : ByteArray) (V A E : Int) : Prop where
  prog : ∀ w, Mon w → Calls Tryd.prog 18 #[.string s] w fun en w' => en = .returned (.tuple #[.int .i64 V, .int .i64 A, .int .i64 E]) ∧ Below w.heap.size w w'
  ref : ∀ w, Calls Tryd.prog 19 #[.string s] w fun en w' => en = .returned (.tuple #[.int .i64 V, .int .i64 A, .int .i64 E]) ∧ Below w.heap.size w w'

theorem says_ex (s : ByteArray) : ∃ V A E, Says s V A E := by
  obtain ⟨r, h1, h2, h3, h4⟩ : ∃ r, r ≤ 10 ∧ r ≤ s.size ∧ (∀ i (h : i < s.size), i < r → ck i s[i].toNat = true) ∧ (r = 10 ∨ r = s.size ∨ ∃ h : r < s.size, ck r s[r].toNat = false) := by
    rcases far s 10 (by omega) with ⟨h1, h2⟩ | ⟨r, h1, h2, h3, h4⟩
    · exact ⟨10, by omega, h1, h2, .inl rfl⟩
    · exact ⟨r, by omega, h2, h3, .inr h4⟩
  by_cases hb : r < 10 ∨ 10 < s.size
  · exact ⟨0, r, 22, fun w _ => parse_bad s r h1 h2 h3 h4 hb w, fun w => rparse_any s r h1 h2 h3 h4 0 r 22 (.inl ⟨hb, rfl, rfl, rfl⟩) w⟩
  · have hr : r = 10 := by omega
    have hsz : s.size = 10 := by omega
    obtain ⟨V, E, hV⟩ : ∃ V E, (V, E) = D.num (dval (fun i => cc s (0 + i)) (4 - 0)) (dval (fun i => cc s (5 + i)) (7 - 5)) (dval (fun i => cc s (8 + i)) (10 - 8)) := ⟨_, _, rfl⟩
    exact ⟨V, if E = 0 then 10 else 0, E, fun w hM => parse_good s hsz (fun i h => h3 i h (by omega)) V E hV w hM, fun w => rparse_any s r h1 h2 h3 h4 V _ E (.inr ⟨hr, hsz, hV, rfl⟩) w⟩

theorem shown_ex (n : Int) : ∃ S E, (∀ w, Mon w → Calls Tryd.prog 16 #[.int .i64 n] w fun en w' => en = .returned (.tuple #[.string S, .int .i64 E]) ∧ Below w.heap.size w w') ∧
    ∀ w, Calls Tryd.prog 17 #[.int .i64 n] w fun en w' => en = .returned (.tuple #[.string S, .int .i64 E]) ∧ w' = w := by
  by_cases h : 0 ≤ n ∧ n ≤ 109572
  · obtain ⟨k, d, hk⟩ := D.at_ex n h.1 h.2
    have k0 := hk.k0
    have d0 := hk.d0
    exact ⟨_, 0, fun w hM => print_yes n k d hk (1900 + k / 12).toNat (k % 12 + 1).toNat (d + 1).toNat (by omega) (by omega) (by omega) w hM, fun w => rprint_yes n k d hk (1900 + k / 12).toNat (k % 12 + 1).toNat (d + 1).toNat (by omega) (by omega) (by omega) w⟩
  · exact ⟨_, 21, fun w _ => print_no n h w, fun w => rprint_no n h w⟩

set_option maxHeartbeats 2000000 in
theorem texts_walk (n : Int) (s : ByteArray) (w : World) (hM : Mon w) :
    Calls Tryd.prog 4 #[.int .i64 n, .string s] w fun e w' => e = .returned (.bool true) ∧ Below w.heap.size w w' := by
  obtain ⟨V, A, E, hs⟩ := says_ex s
  obtain ⟨S, G, hp, hq⟩ := shown_ex n
  obtain ⟨ha, hb⟩ := hs
  go_enter Tryd.func4, Tryd.ntmps4
  go_wp2_with (first | (go_at_call 16; refine (hp _ hM).mono ?_; clear hp; rintro _ w1 ⟨rfl, hb1⟩; have hM1 := hM.later hb1) | (go_at_call 17; refine (hq _).mono ?_; clear hq; rintro _ w1 ⟨rfl, rfl⟩) | (go_at_call 18; refine (ha _ hM1).mono ?_; clear ha; rintro _ w2 ⟨rfl, hb2⟩; have hB2 := below_step hb1 hb2) | (go_at_call 19; refine (hb _).mono ?_; clear hb; rintro _ w3 ⟨rfl, hb3⟩; have hB3 := below_step hB2 hb3))
  go_ret
  exact ⟨rfl, hB3⟩

end Go.Proofs.YtdjfjcabfbencabDoor

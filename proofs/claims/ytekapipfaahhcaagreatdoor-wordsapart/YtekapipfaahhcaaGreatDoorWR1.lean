import Derived.Test.YtekapipfaahhcaaGreatDoorWSc
namespace Go.Proofs.YtekapipfaahhcaaGreatDoor.Q
open Go.RowKit

theorem cls_letter (k : Nat) : cls k = 8 ↔ 97 ≤ k ∧ k ≤ 122 := by
  unfold cls
  constructor
  · intro h
    repeat' split at h
    all_goals omega
  · intro h
    repeat rw [if_neg (by omega)]
    rw [if_pos h]
theorem cls_digit (k : Nat) : cls k = 32 ↔ 48 ≤ k ∧ k ≤ 57 := by
  unfold cls
  constructor
  · intro h
    repeat' split at h
    all_goals omega
  · intro h
    repeat rw [if_neg (by omega)]
    rw [if_pos h]
theorem cls_under (k : Nat) : cls k = 16 ↔ k = 95 := by
  unfold cls
  constructor
  · intro h
    repeat' split at h
    all_goals omega
  · intro h
    repeat rw [if_neg (by omega)]
    rw [if_pos h]
theorem cls_all (k : Nat) : cls k = 0 ∨ cls k = 1 ∨ cls k = 2 ∨ cls k = 4 ∨ cls k = 8 ∨ cls k = 16 ∨ cls k = 32 ∨ cls k = 64 := by
  unfold cls
  repeat' split
  all_goals omega
theorem cls_56 (k : Nat) : cls k &&& 56 ≠ 0 ↔ cls k = 8 ∨ cls k = 32 ∨ cls k = 16 := by
  rcases cls_all k with h | h | h | h | h | h | h | h <;> rw [h] <;> decide
theorem cls_32 (k : Nat) : cls k &&& 32 ≠ 0 ↔ cls k = 32 := by
  rcases cls_all k with h | h | h | h | h | h | h | h <;> rw [h] <;> decide
theorem cls_24 (k : Nat) : cls k &&& 24 ≠ 0 ↔ cls k = 8 ∨ cls k = 16 := by
  rcases cls_all k with h | h | h | h | h | h | h | h <;> rw [h] <;> decide

set_option maxHeartbeats 1000000 in
theorem isLetter_at (k : Nat) (o : Bool) (ho : o = decide (cls k = 8)) (w : World) : Calls Tryz.prog 69 #[.int .u8 (k : Int)] w fun e w' => e = .returned (.bool o) ∧ w' = w := by
  have ho' : o = decide (97 ≤ k ∧ k ≤ 122) := by rw [ho]; exact decide_eq_decide.2 (cls_letter k)
  clear ho
  by_cases h1 : (97 : Int) ≤ (k : Int)
  · by_cases h2 : (k : Int) ≤ 122
    · obtain rfl : o = true := by rw [ho']; exact decide_eq_true (by omega)
      clear ho'
      go_enter Tryz.func69, Tryz.ntmps69
      go_wp2
      go_ret
      exact ⟨rfl, rfl⟩
    · obtain rfl : o = false := by rw [ho']; exact decide_eq_false (by omega)
      clear ho'
      go_enter Tryz.func69, Tryz.ntmps69
      go_wp2
      go_ret
      exact ⟨rfl, rfl⟩
  · obtain rfl : o = false := by rw [ho']; exact decide_eq_false (by omega)
    clear ho'
    go_enter Tryz.func69, Tryz.ntmps69
    go_wp2
    go_ret
    exact ⟨rfl, rfl⟩
set_option maxHeartbeats 1000000 in
theorem isDigit_at (k : Nat) (o : Bool) (ho : o = decide (cls k = 32)) (w : World) : Calls Tryz.prog 71 #[.int .u8 (k : Int)] w fun e w' => e = .returned (.bool o) ∧ w' = w := by
  have ho' : o = decide (48 ≤ k ∧ k ≤ 57) := by rw [ho]; exact decide_eq_decide.2 (cls_digit k)
  clear ho
  by_cases h1 : (48 : Int) ≤ (k : Int)
  · by_cases h2 : (k : Int) ≤ 57
    · obtain rfl : o = true := by rw [ho']; exact decide_eq_true (by omega)
      clear ho'
      go_enter Tryz.func71, Tryz.ntmps71
      go_wp2
      go_ret
      exact ⟨rfl, rfl⟩
    · obtain rfl : o = false := by rw [ho']; exact decide_eq_false (by omega)
      clear ho'
      go_enter Tryz.func71, Tryz.ntmps71
      go_wp2
      go_ret
      exact ⟨rfl, rfl⟩
  · obtain rfl : o = false := by rw [ho']; exact decide_eq_false (by omega)
    clear ho'
    go_enter Tryz.func71, Tryz.ntmps71
    go_wp2
    go_ret
    exact ⟨rfl, rfl⟩
set_option maxHeartbeats 2000000 in
theorem isWord_at (k : Nat) (o : Bool) (ho : o = decide (cls k &&& 56 ≠ 0)) (w : World) : Calls Tryz.prog 131 #[.int .u8 (k : Int)] w fun e w' => e = .returned (.bool o) ∧ w' = w := by
  have ho' : o = decide (cls k = 8 ∨ cls k = 32 ∨ cls k = 16) := by rw [ho]; exact decide_eq_decide.2 (cls_56 k)
  clear ho
  by_cases h1 : cls k = 8
  · have hA := fun W => isLetter_at k true (by simp [h1]) W
    obtain rfl : o = true := by rw [ho']; simp [h1]
    clear ho'
    go_enter Tryz.func131, Tryz.ntmps131
    go_wp2_with (first | (go_at_call 69; refine (hA _).mono ?_; rintro e w9 ⟨rfl, hw9⟩; subst w9))
    go_ret
    exact ⟨rfl, rfl⟩
  · have hA := fun W => isLetter_at k false (by simp [h1]) W
    by_cases h2 : cls k = 32
    · have hB := fun W => isDigit_at k true (by simp [h2]) W
      obtain rfl : o = true := by rw [ho']; simp [h2]
      clear ho'
      go_enter Tryz.func131, Tryz.ntmps131
      go_wp2_with (first | (go_at_call 69; refine (hA _).mono ?_; rintro e w9 ⟨rfl, hw9⟩; subst w9) | (go_at_call 71; refine (hB _).mono ?_; rintro e w9 ⟨rfl, hw9⟩; subst w9))
      go_ret
      exact ⟨rfl, rfl⟩
    · have hB := fun W => isDigit_at k false (by simp [h2]) W
      have hz : ((k : Int) == 95) = o := by
        rw [ho']
        have := cls_under k
        by_cases hk : k = 95
        · rw [decide_eq_true (.inr (.inr (this.2 hk))), hk]; rfl
        · rw [decide_eq_false (by rintro (h | h | h); exact h1 h; exact h2 h; exact hk (this.1 h))]
          simp
          omega
      clear ho'
      go_enter Tryz.func131, Tryz.ntmps131
      go_wp2_with (first | (go_at_call 69; refine (hA _).mono ?_; rintro e w9 ⟨rfl, hw9⟩; subst w9) | (go_at_call 71; refine (hB _).mono ?_; rintro e w9 ⟨rfl, hw9⟩; subst w9))
      go_ret
      exact ⟨rfl, rfl⟩

theorem idx_at (s : ByteArray) (i : Nat) (h : i < s.data.toList.length) (W : World) : (Instr.index 9 (.string s) (.int .i64 (i : Int))).run Tryz.prog W = .ok (.int .u8 ((s.data.toList[i].toNat : Nat) : Int)) W := by
  have h' : i < s.size := by rw [← size_list]; exact h
  rw [run_index_string W 9 s .i64 (i : Int) Tryz.underlying9, dif_pos ⟨by omega, by omega⟩, ← at_list s i h']
  rfl

set_option maxRecDepth 4000 in
set_option maxHeartbeats 2000000 in
/-- How many bytes from a place on are digits. -/
theorem run1_any (s : ByteArray) (a : Nat) (ha : a ≤ s.size) (hs : s.size ≤ 1000000) (w : World) : Calls Tryz.prog 70 #[.string s, .int .i64 (a : Int), .int .i64 1] w fun e w' => e = .returned (.int .i64 ((rn 32 (s.data.toList.drop a) : Nat) : Int)) ∧ w' = w := by
  obtain ⟨l, hl⟩ : ∃ l, s.data.toList = l := ⟨_, rfl⟩
  have hls : l.length = s.size := by rw [← hl]; exact size_list s
  rw [hl]
  obtain ⟨N, hN⟩ : ∃ N, rn 32 (l.drop a) = N := ⟨_, rfl⟩
  rw [hN]
  go_enter Tryz.func70, Tryz.ntmps70
  go_wp2_with fail
  go_loopw [7] (fun v wr => ∃ n : Nat, v = .int .i64 (n : Int) ∧ a + n ≤ s.size ∧ Hid (n + rn 32 (l.drop (a + n)) = N) ∧ wr = w) (fun v _ => s.size - (intOf v).toNat)
  case atStart => exact ⟨0, rfl, by omega, by unfold Hid; simpa using hN, rfl⟩
  case round =>
    obtain ⟨n, rfl, hn, hR, rfl⟩ := hrel
    clear hN
    by_cases hlt : a + n < s.size
    · have hlt' : (a : Int) + (n : Int) < (s.size : Int) := by omega
      have hix := idx_at s (a + n) (by rw [hl]; omega)
      simp only [hl] at hix
      rw [show ((a + n : Nat) : Int) = (a : Int) + (n : Int) from by omega] at hix
      rw [Hid, drop_cons (by omega), rn_cons] at hR
      obtain ⟨k, hk⟩ : ∃ k, (l[a + n]'(by omega)).toNat = k := ⟨_, rfl⟩
      rw [hk] at hix hR
      by_cases hc : cls k = 32
      · have hD := fun W => isDigit_at k true (by simp [hc]) W
        rw [if_pos ((cls_32 k).2 hc)] at hR
        have hR' : Hid (n + 1 + rn 32 (l.drop (a + (n + 1))) = N) := by unfold Hid; rw [← hR, show a + (n + 1) = a + n + 1 from by omega]; omega
        clear hR hc hk
        go_wp2_with (first | (go_at_call 71; refine (hD _).mono ?_; rintro e w9 ⟨rfl, hw9⟩; subst w9))
        go_roundw
        case rel => exact ⟨n + 1, by go_num, by omega, hR', trivial⟩
        case measure => simp [intOf]; omega
      · have hD := fun W => isDigit_at k false (by simp [hc]) W
        rw [if_neg (fun h => hc ((cls_32 k).1 h))] at hR
        clear hc hk
        go_wp2_with (first | (go_at_call 71; refine (hD _).mono ?_; rintro e w9 ⟨rfl, hw9⟩; subst w9))
        go_ret
        exact ⟨by rw [← hR]; simp, rfl⟩
    · have hlt' : ¬ (a : Int) + (n : Int) < (s.size : Int) := by omega
      have hR2 : N = n := by
        rw [← hR.out, List.drop_of_length_le (by omega)]
        rfl
      clear hR
      subst hR2
      go_wp2_with fail
      go_ret
      exact ⟨rfl, rfl⟩

set_option maxRecDepth 4000 in
set_option maxHeartbeats 2000000 in
/-- How many bytes from a place on stand in names. -/
theorem run2_any (s : ByteArray) (a : Nat) (ha : a ≤ s.size) (hs : s.size ≤ 1000000) (w : World) : Calls Tryz.prog 70 #[.string s, .int .i64 (a : Int), .int .i64 2] w fun e w' => e = .returned (.int .i64 ((rn 56 (s.data.toList.drop a) : Nat) : Int)) ∧ w' = w := by
  obtain ⟨l, hl⟩ : ∃ l, s.data.toList = l := ⟨_, rfl⟩
  have hls : l.length = s.size := by rw [← hl]; exact size_list s
  rw [hl]
  obtain ⟨N, hN⟩ : ∃ N, rn 56 (l.drop a) = N := ⟨_, rfl⟩
  rw [hN]
  go_enter Tryz.func70, Tryz.ntmps70
  go_wp2_with fail
  go_loopw [7] (fun v wr => ∃ n : Nat, v = .int .i64 (n : Int) ∧ a + n ≤ s.size ∧ Hid (n + rn 56 (l.drop (a + n)) = N) ∧ wr = w) (fun v _ => s.size - (intOf v).toNat)
  case atStart => exact ⟨0, rfl, by omega, by unfold Hid; simpa using hN, rfl⟩
  case round =>
    obtain ⟨n, rfl, hn, hR, rfl⟩ := hrel
    clear hN
    by_cases hlt : a + n < s.size
    · have hlt' : (a : Int) + (n : Int) < (s.size : Int) := by omega
      have hix := idx_at s (a + n) (by rw [hl]; omega)
      simp only [hl] at hix
      rw [show ((a + n : Nat) : Int) = (a : Int) + (n : Int) from by omega] at hix
      rw [Hid, drop_cons (by omega), rn_cons] at hR
      obtain ⟨k, hk⟩ : ∃ k, (l[a + n]'(by omega)).toNat = k := ⟨_, rfl⟩
      rw [hk] at hix hR
      by_cases hc : cls k &&& 56 ≠ 0
      · have hD := fun W => isWord_at k true (by simp [hc]) W
        rw [if_pos hc] at hR
        have hR' : Hid (n + 1 + rn 56 (l.drop (a + (n + 1))) = N) := by unfold Hid; rw [← hR, show a + (n + 1) = a + n + 1 from by omega]; omega
        clear hR hc hk
        go_wp2_with (first | (go_at_call 131; refine (hD _).mono ?_; rintro e w9 ⟨rfl, hw9⟩; subst w9))
        go_roundw
        case rel => exact ⟨n + 1, by go_num, by omega, hR', trivial⟩
        case measure => simp [intOf]; omega
      · have hD := fun W => isWord_at k false (by simp [Classical.not_not.1 hc]) W
        rw [if_neg hc] at hR
        clear hc hk
        go_wp2_with (first | (go_at_call 131; refine (hD _).mono ?_; rintro e w9 ⟨rfl, hw9⟩; subst w9))
        go_ret
        exact ⟨by rw [← hR]; simp, rfl⟩
    · have hlt' : ¬ (a : Int) + (n : Int) < (s.size : Int) := by omega
      have hR2 : N = n := by
        rw [← hR.out, List.drop_of_length_le (by omega)]
        rfl
      clear hR
      subst hR2
      go_wp2_with fail
      go_ret
      exact ⟨rfl, rfl⟩

end Go.Proofs.YtekapipfaahhcaaGreatDoor.Q

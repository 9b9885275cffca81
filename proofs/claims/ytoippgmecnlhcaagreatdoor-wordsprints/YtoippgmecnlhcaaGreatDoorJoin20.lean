import Derived.Test.YtoippgmecnlhcaaGreatDoorTurnWSc
namespace Go.Proofs.YtoippgmecnlhcaaGreatDoor.Q
open Go.RowKit

theorem cls_letter (k : Nat) : cls k = 8 ↔ 97 ≤ k ∧ k ≤ 122 := by
  unfold cls
  constructor
  · intro h
    repeat' split at h
    all_goals omega
  · intro h
    repeat rw [if_neg (by omega)]
    rw [if_pos h]
theorem cls_digit (k : Nat) : cls k = 32 ↔ 48 ≤ k ∧ k ≤ 57 := by
  unfold cls
  constructor
  · intro h
    repeat' split at h
    all_goals omega
  · intro h
    repeat rw [if_neg (by omega)]
    rw [if_pos h]
theorem cls_under (k : Nat) : cls k = 16 ↔ k = 95 := by
  unfold cls
  constructor
  · intro h
    repeat' split at h
    all_goals omega
  · intro h
    repeat rw [if_neg (by omega)]
    rw [if_pos h]
theorem cls_all (k : Nat) : cls k = 0 ∨ cls k = 1 ∨ cls k = 2 ∨ cls k = 4 ∨ cls k = 8 ∨ cls k = 16 ∨ cls k = 32 ∨ cls k = 64 := by
  unfold cls
  repeat' split
  all_goals omega
theorem cls_56 (k : Nat) : cls k &&& 56 ≠ 0 ↔ cls k = 8 ∨ cls k = 32 ∨ cls k = 16 := by
  rcases cls_all k with h | h | h | h | h | h | h | h <;> rw [h] <;> decide
theorem cls_32 (k : Nat) : cls k &&& 32 ≠ 0 ↔ cls k = 32 := by
  rcases cls_all k with h | h | h | h | h | h | h | h <;> rw [h] <;> decide
theorem cls_24 (k : Nat) : cls k &&& 24 ≠ 0 ↔ cls k = 8 ∨ cls k = 16 := by
  rcases cls_all k with h | h | h | h | h | h | h | h <;> rw [h] <;> decide

set_option maxHeartbeats 1000000 in
theorem isLetter_at (k : Nat) (o : Bool) (ho : o = decide (cls k = 8)) (w : World) : Calls Tryz.prog 99 #[.int .u8 (k : Int)] w fun e w' => e = .returned (.bool o) ∧ w' = w := by
  have ho' : o = decide (97 ≤ k ∧ k ≤ 122) := by rw [ho]; exact decide_eq_decide.2 (cls_letter k)
  clear ho
  by_cases h1 : (97 : Int) ≤ (k : Int)
  · by_cases h2 : (k : Int) ≤ 122
    · obtain rfl : o = true := by rw [ho']; exact decide_eq_true (by omega)
      clear ho'
      go_enter Tryz.func99, Tryz.ntmps99
      go_wp2
      go_ret
      exact ⟨rfl, rfl⟩
    · obtain rfl : o = false := by rw [ho']; exact decide_eq_false (by omega)
      clear ho'
      go_enter Tryz.func99, Tryz.ntmps99
      go_wp2
      go_ret
      exact ⟨rfl, rfl⟩
  · obtain rfl : o = false := by rw [ho']; exact decide_eq_false (by omega)
    clear ho'
    go_enter Tryz.func99, Tryz.ntmps99
    go_wp2
    go_ret
    exact ⟨rfl, rfl⟩
set_option maxHeartbeats 1000000 in
theorem isDigit_at (k : Nat) (o : Bool) (ho : o = decide (cls k = 32)) (w : World) : Calls Tryz.prog 101 #[.int .u8 (k : Int)] w fun e w' => e = .returned (.bool o) ∧ w' = w := by
  have ho' : o = decide (48 ≤ k ∧ k ≤ 57) := by rw [ho]; exact decide_eq_decide.2 (cls_digit k)
  clear ho
  by_cases h1 : (48 : Int) ≤ (k : Int)
  · by_cases h2 : (k : Int) ≤ 57
    · obtain rfl : o = true := by rw [ho']; exact decide_eq_true (by omega)
      clear ho'
      go_enter Tryz.func101, Tryz.ntmps101
      go_wp2
      go_ret
      exact ⟨rfl, rfl⟩
    · obtain rfl : o = false := by rw [ho']; exact decide_eq_false (by omega)
      clear ho'
      go_enter Tryz.func101, Tryz.ntmps101
      go_wp2
      go_ret
      exact ⟨rfl, rfl⟩
  · obtain rfl : o = false := by rw [ho']; exact decide_eq_false (by omega)
    clear ho'
    go_enter Tryz.func101, Tryz.ntmps101
    go_wp2
    go_ret
    exact ⟨rfl, rfl⟩
set_option maxHeartbeats 2000000 in
theorem isWord_at (k : Nat) (o : Bool) (ho : o = decide (cls k &&& 56 ≠ 0)) (w : World) : Calls Tryz.prog 129 #[.int .u8 (k : Int)] w fun e w' => e = .returned (.bool o) ∧ w' = w := by
  have ho' : o = decide (cls k = 8 ∨ cls k = 32 ∨ cls k = 16) := by rw [ho]; exact decide_eq_decide.2 (cls_56 k)
  clear ho
  by_cases h1 : cls k = 8
  · have hA := fun W => isLetter_at k true (by simp [h1]) W
    obtain rfl : o = true := by rw [ho']; simp [h1]
    clear ho'
    go_enter Tryz.func129, Tryz.ntmps129
    go_wp2_with (first | (go_at_call 99; refine (hA _).mono ?_; rintro e w9 ⟨rfl, hw9⟩; subst w9))
    go_ret
    exact ⟨rfl, rfl⟩
  · have hA := fun W => isLetter_at k false (by simp [h1]) W
    by_cases h2 : cls k = 32
    · have hB := fun W => isDigit_at k true (by simp [h2]) W
      obtain rfl : o = true := by rw [ho']; simp [h2]
      clear ho'
      go_enter Tryz.func129, Tryz.ntmps129
      go_wp2_with (first | (go_at_call 99; refine (hA _).mono ?_; rintro e w9 ⟨rfl, hw9⟩; subst w9) | (go_at_call 101; refine (hB _).mono ?_; rintro e w9 ⟨rfl, hw9⟩; subst w9))
      go_ret
      exact ⟨rfl, rfl⟩
    · have hB := fun W => isDigit_at k false (by simp [h2]) W
      have hz : ((k : Int) == 95) = o := by
        rw [ho']
        have := cls_under k
        by_cases hk : k = 95
        · rw [decide_eq_true (.inr (.inr (this.2 hk))), hk]; rfl
        · rw [decide_eq_false (by rintro (h | h | h); exact h1 h; exact h2 h; exact hk (this.1 h))]
          simp
          omega
      clear ho'
      go_enter Tryz.func129, Tryz.ntmps129
      go_wp2_with (first | (go_at_call 99; refine (hA _).mono ?_; rintro e w9 ⟨rfl, hw9⟩; subst w9) | (go_at_call 101; refine (hB _).mono ?_; rintro e w9 ⟨rfl, hw9⟩; subst w9))
      go_ret
      exact ⟨rfl, rfl⟩

theorem idx_at (s : ByteArray) (i : Nat) (h : i < s.data.toList.length) (W : World) : (Instr.index 9 (.string s) (.int .i64 (i : Int))).run Tryz.prog W = .ok (.int .u8 ((s.data.toList[i].toNat : Nat) : Int)) W := by
  have h' : i < s.size := by rw [← size_list]; exact h
  rw [run_index_string W 9 s .i64 (i : Int) Tryz.underlying9, dif_pos ⟨by omega, by omega⟩, ← at_list s i h']
  rfl

set_option maxRecDepth 4000 in
set_option maxHeartbeats 2000000 in
/-- How many bytes from a place on are digits. -/
theorem run1_any (s : ByteArray) (a : Nat) (ha : a ≤ s.size) (hs : s.size ≤ 1000000) (w : World) : Calls Tryz.prog 100 #[.string s, .int .i64 (a : Int), .int .i64 1] w fun e w' => e = .returned (.int .i64 ((rn 32 (s.data.toList.drop a) : Nat) : Int)) ∧ w' = w := by
  obtain ⟨l, hl⟩ : ∃ l, s.data.toList = l := ⟨_, rfl⟩
  have hls : l.length = s.size := by rw [← hl]; exact size_list s
  rw [hl]
  obtain ⟨N, hN⟩ : ∃ N, rn 32 (l.drop a) = N := ⟨_, rfl⟩
  rw [hN]
  go_enter Tryz.func100, Tryz.ntmps100
  go_wp2_with fail
  go_loopw [7] (fun v wr => ∃ n : Nat, v = .int .i64 (n : Int) ∧ a + n ≤ s.size ∧ Hid (n + rn 32 (l.drop (a + n)) = N) ∧ wr = w) (fun v _ => s.size - (intOf v).toNat)
  case atStart => exact ⟨0, rfl, by omega, by unfold Hid; simpa using hN, rfl⟩
  case round =>
    obtain ⟨n, rfl, hn, hR, rfl⟩ := hrel
    clear hN
    by_cases hlt : a + n < s.size
    · have hlt' : (a : Int) + (n : Int) < (s.size : Int) := by omega
      have hix := idx_at s (a + n) (by rw [hl]; omega)
      simp only [hl] at hix
      rw [show ((a + n : Nat) : Int) = (a : Int) + (n : Int) from by omega] at hix
      rw [Hid, drop_cons (by omega), rn_cons] at hR
      obtain ⟨k, hk⟩ : ∃ k, (l[a + n]'(by omega)).toNat = k := ⟨_, rfl⟩
      rw [hk] at hix hR
      by_cases hc : cls k = 32
      · have hD := fun W => isDigit_at k true (by simp [hc]) W
        rw [if_pos ((cls_32 k).2 hc)] at hR
        have hR' : Hid (n + 1 + rn 32 (l.drop (a + (n + 1))) = N) := by unfold Hid; rw [← hR, show a + (n + 1) = a + n + 1 from by omega]; omega
        clear hR hc hk
        go_wp2_with (first | (go_at_call 101; refine (hD _).mono ?_; rintro e w9 ⟨rfl, hw9⟩; subst w9))
        go_roundw
        case rel => exact ⟨n + 1, by go_num, by omega, hR', trivial⟩
        case measure => simp [intOf]; omega
      · have hD := fun W => isDigit_at k false (by simp [hc]) W
        rw [if_neg (fun h => hc ((cls_32 k).1 h))] at hR
        clear hc hk
        go_wp2_with (first | (go_at_call 101; refine (hD _).mono ?_; rintro e w9 ⟨rfl, hw9⟩; subst w9))
        go_ret
        exact ⟨by rw [← hR]; simp, rfl⟩
    · have hlt' : ¬ (a : Int) + (n : Int) < (s.size : Int) := by omega
      have hR2 : N = n := by
        rw [← hR.out, List.drop_of_length_le (by omega)]
        rfl
      clear hR
      subst hR2
      go_wp2_with fail
      go_ret
      exact ⟨rfl, rfl⟩

set_option maxRecDepth 4000 in
set_option maxHeartbeats 2000000 in
/-- How many bytes from a place on stand in names. -/
theorem run2_any (s : ByteArray) (a : Nat) (ha : a ≤ s.size) (hs : s.size ≤ 1000000) (w : World) : Calls Tryz.prog 100 #[.string s, .int .i64 (a : Int), .int .i64 2] w fun e w' => e = .returned (.int .i64 ((rn 56 (s.data.toList.drop a) : Nat) : Int)) ∧ w' = w := by
  obtain ⟨l, hl⟩ : ∃ l, s.data.toList = l := ⟨_, rfl⟩
  have hls : l.length = s.size := by rw [← hl]; exact size_list s
  rw [hl]
  obtain ⟨N, hN⟩ : ∃ N, rn 56 (l.drop a) = N := ⟨_, rfl⟩
  rw [hN]
  go_enter Tryz.func100, Tryz.ntmps100
  go_wp2_with fail
  go_loopw [7] (fun v wr => ∃ n : Nat, v = .int .i64 (n : Int) ∧ a + n ≤ s.size ∧ Hid (n + rn 56 (l.drop (a + n)) = N) ∧ wr = w) (fun v _ => s.size - (intOf v).toNat)
  case atStart => exact ⟨0, rfl, by omega, by unfold Hid; simpa using hN, rfl⟩
  case round =>
    obtain ⟨n, rfl, hn, hR, rfl⟩ := hrel
    clear hN
    by_cases hlt : a + n < s.size
    · have hlt' : (a : Int) + (n : Int) < (s.size : Int) := by omega
      have hix := idx_at s (a + n) (by rw [hl]; omega)
      simp only [hl] at hix
      rw [show ((a + n : Nat) : Int) = (a : Int) + (n : Int) from by omega] at hix
      rw [Hid, drop_cons (by omega), rn_cons] at hR
      obtain ⟨k, hk⟩ : ∃ k, (l[a + n]'(by omega)).toNat = k := ⟨_, rfl⟩
      rw [hk] at hix hR
      by_cases hc : cls k &&& 56 ≠ 0
      · have hD := fun W => isWord_at k true (by simp [hc]) W
        rw [if_pos hc] at hR
        have hR' : Hid (n + 1 + rn 56 (l.drop (a + (n + 1))) = N) := by unfold Hid; rw [← hR, show a + (n + 1) = a + n + 1 from by omega]; omega
        clear hR hc hk
        go_wp2_with (first | (go_at_call 129; refine (hD _).mono ?_; rintro e w9 ⟨rfl, hw9⟩; subst w9))
        go_roundw
        case rel => exact ⟨n + 1, by go_num, by omega, hR', trivial⟩
        case measure => simp [intOf]; omega
      · have hD := fun W => isWord_at k false (by simp [Classical.not_not.1 hc]) W
        rw [if_neg hc] at hR
        clear hc hk
        go_wp2_with (first | (go_at_call 129; refine (hD _).mono ?_; rintro e w9 ⟨rfl, hw9⟩; subst w9))
        go_ret
        exact ⟨by rw [← hR]; simp, rfl⟩
    · have hlt' : ¬ (a : Int) + (n : Int) < (s.size : Int) := by omega
      have hR2 : N = n := by
        rw [← hR.out, List.drop_of_length_le (by omega)]
        rfl
      clear hR
      subst hR2
      go_wp2_with fail
      go_ret
      exact ⟨rfl, rfl⟩

end Go.Proofs.YtoippgmecnlhcaaGreatDoor.Q


namespace Go.Proofs.YtoippgmecnlhcaaGreatDoor.Q
open Go.RowKit

set_option maxHeartbeats 2000000 in
theorem is_any (s : ByteArray) (a : Nat) (hs : s.size ≤ 1000000) (ha : a ≤ 1000001) (p : ByteArray) (hp : 0 < p.size ∧ p.size ≤ 100) (o : Bool) (ho : o = p.data.toList.isPrefixOf (s.data.toList.drop a)) (w : World) : Calls Tryz.prog 106 #[.string s, .int .i64 (a : Int), .string p] w fun e w' => e = .returned (.bool o) ∧ w' = w := by
  have hls := size_list s
  have hlp := size_list p
  by_cases h : a + p.size ≤ s.size
  · have h' : (a : Int) + (p.size : Int) ≤ (s.size : Int) := by omega
    obtain ⟨t, ht⟩ : ∃ t, s.extract a (a + p.size) = t := ⟨_, rfl⟩
    have hsl : ∀ W, (Instr.slice 9 (.string s) (some (.int .i64 (a : Int))) (some (.int .i64 ((a : Int) + (p.size : Int)))) none).run Tryz.prog W = .ok (.string t) W := fun W => by
      rw [run_slice_string W 9 s .i64 .i64 (a : Int) ((a : Int) + (p.size : Int)) Tryz.underlying9 (by omega) (by omega) (by omega), ← ht, show ((a : Int) + (p.size : Int)).toNat = a + p.size from by omega]
      rfl
    have hte : (t.toList == p.toList) = o := by
      rw [ByteArray.toList_eq, ByteArray.toList_eq, ← ht, slice_list, slc_rn, ho]
      cases hb : p.data.toList.isPrefixOf (s.data.toList.drop a) with
      | true =>
        have := List.prefix_iff_eq_take.1 (List.isPrefixOf_iff_prefix.1 hb)
        rw [hlp] at this
        rw [← this]
        simp
      | false =>
        simp only [beq_eq_false_iff_ne]
        intro he
        have : p.data.toList <+: s.data.toList.drop a := by
          rw [List.prefix_iff_eq_take, hlp, he]
        rw [List.isPrefixOf_iff_prefix.2 this] at hb
        cases hb
    clear ho
    go_enter Tryz.func106, Tryz.ntmps106
    go_wp2_with fail
    go_ret
    exact ⟨rfl, rfl⟩
  · have h' : ¬ (a : Int) + (p.size : Int) ≤ (s.size : Int) := by omega
    obtain rfl : o = false := by
      rw [ho]
      cases hb : p.data.toList.isPrefixOf (s.data.toList.drop a) with
      | false => rfl
      | true =>
        have := (List.isPrefixOf_iff_prefix.1 hb).length_le
        rw [List.length_drop] at this
        omega
    clear ho
    go_enter Tryz.func106, Tryz.ntmps106
    go_wp2_with fail
    go_ret
    exact ⟨rfl, rfl⟩

theorem dForm_iff (l : List UInt8) (a : Nat) (ha : a ≤ l.length) : dForm (dX l a) ↔ ∃ h : a + 10 ≤ l.length, ∀ i (hi : i < 10), ck i ((l[a + i]'(by omega)).toNat) = true := by
  have hsz : (dX l a).size = min (a + 10) l.length - a := by
    unfold dX slc
    show (List.toArray _).size = _
    rw [List.size_toArray, List.length_drop, List.length_take]
    omega
  have hat : ∀ i (h : i < (dX l a).size) (h2 : a + i < l.length), (dX l a)[i] = l[a + i] := fun i h h2 => by
    show (List.toArray (slc l a (min (a + 10) l.length)))[i] = _
    simp [slc]
  unfold dForm
  constructor
  · rintro ⟨h1, h2⟩
    refine ⟨by omega, fun i hi => ?_⟩
    have := h2 i (by omega)
    rwa [hat i (by omega) (by omega)] at this
  · rintro ⟨h1, h2⟩
    refine ⟨by omega, fun i hi => ?_⟩
    rw [hat i hi (by omega)]
    exact h2 i (by omega)

set_option maxRecDepth 4000 in
set_option maxHeartbeats 4000000 in
theorem dateAt_any (s : ByteArray) (a : Nat) (ha : a ≤ s.size) (hs : s.size ≤ 1000000) (o : Bool) (ho : o = true ↔ dForm (dX s.data.toList a)) (w : World) : Calls Tryz.prog 102 #[.string s, .int .i64 (a : Int)] w fun e w' => e = .returned (.bool o) ∧ w' = w := by
  obtain ⟨l, hl⟩ : ∃ l, s.data.toList = l := ⟨_, rfl⟩
  have hls : l.length = s.size := by rw [← hl]; exact size_list s
  rw [hl, dForm_iff l a (by omega)] at ho
  have hix : ∀ i, (h : a + i < l.length) → ∀ W, (Instr.index 9 (.string s) (.int .i64 ((a : Int) + (i : Int)))).run Tryz.prog W = .ok (.int .u8 ((l[a + i].toNat : Nat) : Int)) W := fun i h W => by
    have := idx_at s (a + i) (by rw [hl]; exact h) W
    simp only [hl] at this
    rw [show ((a + i : Nat) : Int) = (a : Int) + (i : Int) from by omega] at this
    exact this
  by_cases h10 : a + 10 ≤ l.length
  · have h10' : ¬ (s.size : Int) < (a : Int) + 10 := by omega
    have h4 := hix 4 (by omega)
    have h7 := hix 7 (by omega)
    rw [show ((4 : Nat) : Int) = 4 from rfl] at h4
    rw [show ((7 : Nat) : Int) = 7 from rfl] at h7
    by_cases k4 : (l[a + 4]'(by omega)).toNat = 45
    · rw [k4] at h4
      by_cases k7 : (l[a + 7]'(by omega)).toNat = 45
      · rw [k7] at h7
        rw [show ((45 : Nat) : Int) = 45 from rfl] at h4 h7
        have ho' : Hid (o = true ↔ ∀ i (hi : i < 10), ck i ((l[a + i]'(by omega)).toNat) = true) := by
          unfold Hid
          rw [ho]
          exact ⟨fun ⟨_, h⟩ => h, fun h => ⟨h10, h⟩⟩
        have k4' : Hid (ck 4 ((l[a + 4]'(by omega)).toNat) = true) := by unfold Hid ck; simp [k4]
        have k7' : Hid (ck 7 ((l[a + 7]'(by omega)).toNat) = true) := by unfold Hid ck; simp [k7]
        clear ho k4 k7
        go_enter Tryz.func102, Tryz.ntmps102
        go_wp2_with fail
        clear h4 h7
        go_loopw [5] (fun v wr => ∃ j : Nat, j ≤ 10 ∧ v = .int .i64 (j : Int) ∧ Hid (∀ i (_ : i < j) (hi : a + i < l.length), ck i (l[a + i].toNat) = true) ∧ wr = w) (fun v _ => 10 - (intOf v).toNat)
        case atStart => exact ⟨0, by omega, rfl, fun i hi => by omega, rfl⟩
        case round =>
          obtain ⟨j, hj, rfl, hall, rfl⟩ := hrel
          by_cases hlt : j < 10
          · have hlt' : (j : Int) < 10 := by omega
            have hix2 := hix j (by omega)
            by_cases e4 : j = 4
            · subst e4
              have hall' : Hid (∀ i (_ : i < 4 + 1) (hi : a + i < l.length), ck i (l[a + i].toNat) = true) := fun i h hi => by
                by_cases e : i = 4
                · subst e; exact k4'.out
                · exact hall.out i (by omega) hi
              clear hall hix2
              go_wp2_with fail
              go_roundw
              case rel => exact ⟨4 + 1, by omega, by go_num, hall', trivial⟩
              case measure => simp [intOf]
            · by_cases e7 : j = 7
              · subst e7
                have hall' : Hid (∀ i (_ : i < 7 + 1) (hi : a + i < l.length), ck i (l[a + i].toNat) = true) := fun i h hi => by
                  by_cases e : i = 7
                  · subst e; exact k7'.out
                  · exact hall.out i (by omega) hi
                clear hall hix2
                go_wp2_with fail
                go_roundw
                case rel => exact ⟨7 + 1, by omega, by go_num, hall', trivial⟩
                case measure => simp [intOf]
              · have b4 : ((j : Int) != 4) = true := by simp; omega
                have b7 : ((j : Int) != 7) = true := by simp; omega
                obtain ⟨k, hk⟩ : ∃ k, (l[a + j]'(by omega)).toNat = k := ⟨_, rfl⟩
                rw [hk] at hix2
                have hck : ck j (k : Int) = true ↔ cls k = 32 := by
                  unfold ck
                  rw [if_neg (by omega), cls_digit, decide_eq_true_iff]
                  omega
                by_cases hc : cls k = 32
                · have hD := fun W => isDigit_at k true (by simp [hc]) W
                  have hall' : Hid (∀ i (_ : i < j + 1) (hi : a + i < l.length), ck i (l[a + i].toNat) = true) := fun i h hi => by
                    by_cases e : i = j
                    · subst e; rw [hk]; exact hck.2 hc
                    · exact hall.out i (by omega) hi
                  clear hall hck hc hk e4 e7
                  go_wp2_with (first | (go_at_call 101; refine (hD _).mono ?_; rintro e w9 ⟨rfl, hw9⟩; subst w9))
                  go_roundw
                  case rel => exact ⟨j + 1, by omega, by go_num, hall', trivial⟩
                  case measure => simp [intOf]; omega
                · have hD := fun W => isDigit_at k false (by simp [hc]) W
                  obtain rfl : o = false := by
                    cases o with
                    | false => rfl
                    | true =>
                      have := ho'.out.1 rfl j hlt
                      rw [hk] at this
                      exact absurd (hck.1 this) hc
                  clear hall hck hc hk e4 e7 ho'
                  go_wp2_with (first | (go_at_call 101; refine (hD _).mono ?_; rintro e w9 ⟨rfl, hw9⟩; subst w9))
                  go_ret
                  exact ⟨rfl, rfl⟩
          · obtain rfl : j = 10 := by omega
            obtain rfl : o = true := ho'.out.2 (fun i hi => hall.out i hi (by omega))
            clear hall ho'
            go_wp2_with fail
            go_ret
            exact ⟨rfl, rfl⟩
      · have b7 : (((l[a + 7]'(by omega)).toNat : Int) != 45) = true := by simp; omega
        obtain rfl : o = false := by
          cases o with
          | false => rfl
          | true =>
            obtain ⟨_, h⟩ := ho.1 rfl
            have := h 7 (by omega)
            unfold ck at this
            simp at this
            omega
        rw [show (((45 : Nat)) : Int) = 45 from rfl] at h4
        generalize (l[a + 7]'(by omega)).toNat = z at *
        clear ho hix
        go_enter Tryz.func102, Tryz.ntmps102
        go_wp2_with fail
        go_ret
        exact ⟨rfl, rfl⟩
    · have b4 : (((l[a + 4]'(by omega)).toNat : Int) != 45) = true := by simp; omega
      obtain rfl : o = false := by
        cases o with
        | false => rfl
        | true =>
          obtain ⟨_, h⟩ := ho.1 rfl
          have := h 4 (by omega)
          unfold ck at this
          simp at this
          omega
      generalize (l[a + 4]'(by omega)).toNat = z at *
      clear ho hix h7
      go_enter Tryz.func102, Tryz.ntmps102
      go_wp2_with fail
      go_ret
      exact ⟨rfl, rfl⟩
  · have h10' : (s.size : Int) < (a : Int) + 10 := by omega
    obtain rfl : o = false := by
      cases o with
      | false => rfl
      | true => exact absurd (ho.1 rfl).1 h10
    clear ho hix
    go_enter Tryz.func102, Tryz.ntmps102
    go_wp2_with fail
    go_ret
    exact ⟨rfl, rfl⟩

end Go.Proofs.YtoippgmecnlhcaaGreatDoor.Q

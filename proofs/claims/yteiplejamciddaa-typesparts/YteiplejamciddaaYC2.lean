import Derived.Test.YteiplejamciddaaYC1
import Derived.Laws.IdiomStrings
namespace Go.Proofs.Yteiplejamciddaa
open Go.RowKit

/-- '[]byte(s)': a new row of the bytes. -/
theorem conv_bytes (W : World) (s : List UInt8) : ∃ W1 cap, (convert 9 126 (.string ⟨s.toArray⟩)).run Try.prog W = .ok (.slice (some ⟨W.heap.size, 0, none⟩) s.length cap) W1 ∧ Below W.heap.size W W1 ∧ ∀ j (h : j < s.length), W1.cell? ⟨W.heap.size, j, none⟩ = some (.int .u8 (s[j].toNat : Int)) := by
  have h := run_bytes_of_string (P := Try.prog) W 9 126 5 ⟨s.toArray⟩ Try.underlying9 Try.underlying126 Try.underlying5
  refine ⟨_, _, h, (Below.refl _ _).drew.alloc (Nat.le_refl _) _, fun j hj => ?_⟩
  have hz : W.heap.size = W.drew.heap.size := rfl
  rw [hz, World.cell?_alloc_mark, bytesRow_at _ _ j (by simpa using hj)]
  simp
theorem nmB_cons (c : UInt8) (r : List UInt8) : nmB (c :: r) = (decide ((c :: r).length ≤ 12) && letB c && (c :: r).all wrdB) := rfl

set_option maxRecDepth 20000 in
set_option maxHeartbeats 1000000 in
theorem isName_any (s : List UInt8) (W : World) : Calls Try.prog 38 #[.string ⟨s.toArray⟩] W (Lk (.bool (nmB s)) W) := by
  cases s with
  | nil =>
    have hf : Lk (.bool (nmB [])) W (.returned (.bool false)) W := ⟨rfl, Below.refl _ _⟩
    go_enter Try.func38, Try.ntmps38
    go_wp2
    go_ret
    exact hf
  | cons c r =>
    have hl1 : ¬ ((c :: r).length : Int) < 1 := by simp only [List.length_cons]; omega
    by_cases h2 : (c :: r).length ≤ 12
    rotate_left
    · have h2' : (12 : Int) < ((c :: r).length : Int) := by omega
      have hf : Lk (.bool (nmB (c :: r))) W (.returned (.bool false)) W := ⟨by rw [nmB_cons, decide_eq_false h2, Bool.false_and, Bool.false_and], Below.refl _ _⟩
      generalize hs : c :: r = s at hl1 h2' hf ⊢
      go_enter Try.func38, Try.ntmps38
      go_wp2
      go_ret
      exact hf
    · have h2' : ¬ (12 : Int) < ((c :: r).length : Int) := by omega
      have hix : ∀ w, (Instr.index 9 (.string ⟨(c :: r).toArray⟩) (.int .i64 0)).run Try.prog w = .ok (.int .u8 (c.toNat : Int)) w := fun w => by
        rw [run_index_string w 9 ⟨(c :: r).toArray⟩ .i64 0 Try.underlying9, dif_pos ⟨by omega, by simp [ByteArray.size]⟩]
        rfl
      have hlet := isLetter_any c
      obtain ⟨W1, cap, hcv, hB1, hcell⟩ := conv_bytes W (c :: r)
      have hnm := nmB_cons c r
      rw [decide_eq_true h2, Bool.true_and] at hnm
      cases hc : letB c with
      | false =>
        rw [hc] at hlet
        have hf : Lk (.bool (nmB (c :: r))) W (.returned (.bool false)) W := ⟨by rw [hnm, hc, Bool.false_and], Below.refl _ _⟩
        generalize hs : c :: r = s at hl1 h2' hf hix ⊢
        go_enter Try.func38, Try.ntmps38
        go_wp2_with (go_at_call 68; refine (hlet _).mono ?_; rintro e w1 ⟨rfl, rfl⟩)
        go_ret
        exact hf
      | true =>
        rw [hc] at hlet
        rw [hc, Bool.true_and] at hnm
        clear hc h2
        have hletH := Hid.mk hlet
        have hnmH := Hid.mk hnm
        clear hnm hlet
        generalize hs : c :: r = s at hl1 h2' hix hnmH hcv hcell ⊢
        clear hs
        have hcH := Hid.mk hcell
        clear hcell
        go_enter Try.func38, Try.ntmps38
        go_wp2_with (go_at_call 68; refine (hletH.out _).mono ?_; rintro e w1 ⟨rfl, rfl⟩)
        clear hcv hl1 hix
        go_loopw [22] (fun iv wr => ∃ i : Nat, iv = .int .i64 (i : Int) ∧ i ≤ s.length ∧ wr = W1 ∧ Hid (∀ j (h : j < s.length), j < i → wrdB s[j] = true)) (fun iv _ => s.length - (intOf iv).toNat)
        case atStart => exact ⟨0, rfl, Nat.zero_le _, rfl, ⟨fun j _ h => absurd h (Nat.not_lt_zero _)⟩⟩
        case round =>
          obtain ⟨i, rfl, hi, rfl, hall⟩ := hrel
          by_cases hlt : i < s.length
          · have hlt' : (i : Int) < (s.length : Int) := by omega
            have hi0 : (0 : Int) ≤ (i : Int) := by omega
            have hci := hcH.out i hlt
            have hst : Hid (wrdB s[i] = true → ∀ j (h : j < s.length), j < i + 1 → wrdB s[j] = true) := ⟨fun he j h hj => by
              by_cases hji : j < i
              · exact hall.out j h hji
              · obtain rfl : j = i := by omega
                exact he⟩
            have hno : Hid (wrdB s[i] = false → nmB s = false) := ⟨fun he => by
              rw [hnmH.out]
              cases hq : s.all wrdB with
              | false => rfl
              | true =>
                have := List.all_eq_true.1 hq _ (List.getElem_mem hlt)
                rw [he] at this
                cases this⟩
            generalize s[i] = b at hci hst hno
            have hb := b.toNat_lt
            have hL := isLetter_any b
            have hD := isDigit_any b
            have hw : wrdB b = (letB b || digB b || decide (b.toNat = 95)) := rfl
            cases hl : letB b with
            | true =>
              rw [hl] at hL
              have hs2 := Hid.mk (hst.out (by rw [hw, hl]; rfl))
              clear hst hno hall hw hl
              go_wp2_with (go_at_call 68; refine (hL _).mono ?_; rintro e w1 ⟨rfl, rfl⟩)
              exact ⟨⟨i + 1, rfl, hlt, (by first | rfl | trivial), hs2⟩, by simp only [intOf]; omega⟩
            | false =>
              rw [hl] at hL
              cases hd : digB b with
              | true =>
                rw [hd] at hD
                have hs2 := Hid.mk (hst.out (by rw [hw, hl, hd]; rfl))
                clear hst hno hall hw hl hd
                go_wp2_with (first | (go_at_call 68; refine (hL _).mono ?_; rintro e w1 ⟨rfl, rfl⟩) | (go_at_call 69; refine (hD _).mono ?_; rintro e w1 ⟨rfl, rfl⟩))
                exact ⟨⟨i + 1, rfl, hlt, (by first | rfl | trivial), hs2⟩, by simp only [intOf]; omega⟩
              | false =>
                rw [hd] at hD
                by_cases h9 : b.toNat = 95
                · have h9' : ((b.toNat : Int) != 95) = false := by simp; omega
                  have hs2 := Hid.mk (hst.out (by rw [hw, hl, hd, decide_eq_true h9]; rfl))
                  clear hst hno hall hw hl hd h9
                  go_wp2_with (first | (go_at_call 68; refine (hL _).mono ?_; rintro e w1 ⟨rfl, rfl⟩) | (go_at_call 69; refine (hD _).mono ?_; rintro e w1 ⟨rfl, rfl⟩))
                  exact ⟨⟨i + 1, rfl, hlt, (by first | rfl | trivial), hs2⟩, by simp only [intOf]; omega⟩
                · have h9' : ((b.toNat : Int) != 95) = true := by simp; omega
                  have hff : Lk (.bool (nmB s)) W (.returned (.bool false)) wr := ⟨by rw [hno.out (by rw [hw, hl, hd, decide_eq_false h9]; rfl)], hB1⟩
                  clear hst hno hall hw hl hd h9
                  go_wp2_with (first | (go_at_call 68; refine (hL _).mono ?_; rintro e w1 ⟨rfl, rfl⟩) | (go_at_call 69; refine (hD _).mono ?_; rintro e w1 ⟨rfl, rfl⟩))
                  go_ret
                  exact hff
          · have hlt' : ¬ (i : Int) < (s.length : Int) := by omega
            have hff : Lk (.bool (nmB s)) W (.returned (.bool true)) wr := ⟨by
              rw [hnmH.out]
              have : s.all wrdB = true := List.all_eq_true.2 (fun a ha => by
                obtain ⟨j, hj, rfl⟩ := List.mem_iff_getElem.1 ha
                exact hall.out j hj (by omega))
              rw [this], hB1⟩
            clear hall
            go_wp2
            go_ret
            exact hff

set_option maxRecDepth 20000 in
set_option maxHeartbeats 1000000 in
theorem isText_any (s : List UInt8) (W : World) : Calls Try.prog 53 #[.string ⟨s.toArray⟩] W (Lk (.bool (txB s)) W) := by
  by_cases h1 : s.length < 1
  · have h1' : (s.length : Int) < 1 := by omega
    have hff : Lk (.bool (txB s)) W (.returned (.bool false)) W := ⟨by unfold txB; rw [decide_eq_false (by omega), Bool.false_and, Bool.false_and], Below.refl _ _⟩
    go_enter Try.func53, Try.ntmps53
    go_wp2
    go_ret
    exact hff
  · have h1' : ¬ (s.length : Int) < 1 := by omega
    by_cases h2 : 40 < s.length
    · have h2' : (40 : Int) < (s.length : Int) := by omega
      have hff : Lk (.bool (txB s)) W (.returned (.bool false)) W := ⟨by unfold txB; rw [decide_eq_false (p := s.length ≤ 40) (by omega), Bool.and_false, Bool.false_and], Below.refl _ _⟩
      go_enter Try.func53, Try.ntmps53
      go_wp2
      go_ret
      exact hff
    · have h2' : ¬ (40 : Int) < (s.length : Int) := by omega
      obtain ⟨W1, cap, hcv, hB1, hcell⟩ := conv_bytes W s
      have hnmH : Hid (txB s = s.all shwB) := ⟨by unfold txB; rw [decide_eq_true (p := 1 ≤ s.length) (by omega), decide_eq_true (p := s.length ≤ 40) (by omega), Bool.true_and, Bool.true_and]⟩
      have hcH := Hid.mk hcell
      clear hcell
      go_enter Try.func53, Try.ntmps53
      go_wp2
      clear hcv
      go_loopw [16] (fun iv wr => ∃ i : Nat, iv = .int .i64 (i : Int) ∧ i ≤ s.length ∧ wr = W1 ∧ Hid (∀ j (h : j < s.length), j < i → shwB s[j] = true)) (fun iv _ => s.length - (intOf iv).toNat)
      case atStart => exact ⟨0, rfl, Nat.zero_le _, rfl, ⟨fun j _ h => absurd h (Nat.not_lt_zero _)⟩⟩
      case round =>
        obtain ⟨i, rfl, hi, rfl, hall⟩ := hrel
        by_cases hlt : i < s.length
        · have hlt' : (i : Int) < (s.length : Int) := by omega
          have hi0 : (0 : Int) ≤ (i : Int) := by omega
          have hci := hcH.out i hlt
          have hst : Hid (shwB s[i] = true → ∀ j (h : j < s.length), j < i + 1 → shwB s[j] = true) := ⟨fun he j h hj => by
            by_cases hji : j < i
            · exact hall.out j h hji
            · obtain rfl : j = i := by omega
              exact he⟩
          have hno : Hid (shwB s[i] = false → txB s = false) := ⟨fun he => by
            rw [hnmH.out]
            cases hq : s.all shwB with
            | false => rfl
            | true =>
              have := List.all_eq_true.1 hq _ (List.getElem_mem hlt)
              rw [he] at this
              cases this⟩
          generalize s[i] = b at hci hst hno
          have hw : shwB b = (decide (32 ≤ b.toNat) && decide (b.toNat ≤ 126)) := rfl
          by_cases h3 : 32 ≤ b.toNat
          · have h3' : ¬ (b.toNat : Int) < 32 := by omega
            by_cases h4 : b.toNat ≤ 126
            · have h4' : ¬ (126 : Int) < (b.toNat : Int) := by omega
              have hs2 := Hid.mk (hst.out (by rw [hw, decide_eq_true h3, decide_eq_true h4]; rfl))
              clear hst hno hall hw h3 h4
              go_wp2
              exact ⟨⟨i + 1, rfl, hlt, (by first | rfl | trivial), hs2⟩, by simp only [intOf]; omega⟩
            · have h4' : (126 : Int) < (b.toNat : Int) := by omega
              have hff : Lk (.bool (txB s)) W (.returned (.bool false)) wr := ⟨by rw [hno.out (by rw [hw, decide_eq_false h4, Bool.and_false])], hB1⟩
              clear hst hno hall hw h3 h4
              go_wp2
              go_ret
              exact hff
          · have h3' : (b.toNat : Int) < 32 := by omega
            have hff : Lk (.bool (txB s)) W (.returned (.bool false)) wr := ⟨by rw [hno.out (by rw [hw, decide_eq_false h3, Bool.false_and])], hB1⟩
            clear hst hno hall hw h3
            go_wp2
            go_ret
            exact hff
        · have hlt' : ¬ (i : Int) < (s.length : Int) := by omega
          have hff : Lk (.bool (txB s)) W (.returned (.bool true)) wr := ⟨by
            rw [hnmH.out]
            have : s.all shwB = true := List.all_eq_true.2 (fun a ha => by
              obtain ⟨j, hj, rfl⟩ := List.mem_iff_getElem.1 ha
              exact hall.out j hj (by omega))
            rw [this], hB1⟩
          clear hall
          go_wp2
          go_ret
          exact hff
end Go.Proofs.Yteiplejamciddaa

import Derived.Test.YtnmcniibcjjflaaDoorTurnMishap
namespace Go.Proofs.YtnmcniibcjjflaaDoor
open Go.RowKit

set_option maxHeartbeats 1000000 in
theorem looked_any (a : Option Addr) (cap : Nat) (vs : List (Int × Int)) (w : World) (hV : Vals w a vs) :
    Calls Tryd.prog 64 #[.slice a vs.length cap] w fun e w' => e = .returned (.tuple #[.agg #[.int .i64 (M.vk (M.mish vs)), .int .i64 (M.vn (M.mish vs))], .bool (M.mish vs).isSome]) ∧ Below w.heap.size w w' := by
  have hlen := hV.1
  unfold maxLen at hlen
  have hV0 := hV.later ((Below.refl _ _).alloc (Nat.le_refl _) (.cells #[.int .i64 0, .int .i64 0] 24))
  have hB0 : Below w.heap.size w (w.alloc (.cells #[.int .i64 0, .int .i64 0] 24)) := (Below.refl _ _).alloc (Nat.le_refl _) _
  clear hV
  go_enter Tryd.func64, Tryd.ntmps64
  go_wp2
  go_loopw [4] (fun i wr => ∃ j : Nat, j ≤ vs.length ∧ i = .int .i64 j ∧ M.mish (vs.drop j) = M.mish vs ∧ Below (w.alloc (.cells #[.int .i64 0, .int .i64 0] 24)).heap.size (w.alloc (.cells #[.int .i64 0, .int .i64 0] 24)) wr) (fun i _ => vs.length - (intOf i).toNat)
  case atStart => exact ⟨0, Nat.zero_le _, rfl, rfl, Below.refl _ _⟩
  case round =>
    obtain ⟨j, hj, rfl, hm, hb⟩ := hrel
    have hBw := below_step hB0 hb
    have hVr := hV0.later hb
    have hR := (Box.new w (.int .i64 0) (.int .i64 0) 24).later hb
    have HB : Hid (Below (w.alloc (.cells #[.int .i64 0, .int .i64 0] 24)).heap.size (w.alloc (.cells #[.int .i64 0, .int .i64 0] 24)) wr) := hb
    clear hb hB0 hV0
    by_cases hlt : j < vs.length
    · obtain ⟨-, h | ⟨b, off, rfl, hbw, hcs⟩⟩ := hVr
      · subst h; simp at hlt
      obtain ⟨hc0, hc1⟩ := hcs j hlt
      have hdr := M.drop_at hlt
      generalize (vs.getD j (0, 0)).1 = k at *
      generalize (vs.getD j (0, 0)).2 = n at *
      clear hcs
      have hlt' : (j : Int) < vs.length := by omega
      have HD : Hid (vs.drop j = (k, n) :: vs.drop (j + 1)) := hdr
      have HM : Hid (M.mish (vs.drop j) = M.mish vs) := hm
      clear hdr hm
      cases hv : M.valid k n with
      | false =>
        go_wp2_with (first | (go_at_call 15; refine (rvalid_any _ _ _).mono ?_; rintro e w1 ⟨rfl, hb1⟩; have hR1 := hR.later hb1; have hB1 := below_step hBw hb1; clear hb1) | (go_at_call 14; refine (bad_any _ _).mono ?_; rintro e w2 ⟨rfl, hb2⟩; obtain ⟨r0, r1, q0, q1⟩ := hR1.later hb2; have hB2 := below_step hB1 hb2; clear hb2))
        exact bodyPost_ret (v := .tuple #[.agg #[.int .i64 6, .int .i64 5], .bool true]) (by simp [results, Tryd.results64, go_sem, r0, r1]) rfl ⟨by rw [← HM.out, HD.out, M.mish_cons_bad hv]; rfl, (hB2.setCell (Nat.le_refl _) _).setCell (Nat.le_refl _) _⟩
      | true =>
        by_cases h6 : k = 6
        · subst h6
          go_wp2_with (go_at_call 15; refine (rvalid_any _ _ _).mono ?_; rintro e w1 ⟨rfl, hb1⟩; obtain ⟨r0, r1, q0, q1⟩ := hR.later hb1; have c0 := (hb1.cell (p := ⟨b, off + j * 2, none⟩) hbw).trans hc0; have c1 := (hb1.cell (p := ⟨b, off + j * 2 + 1, none⟩) hbw).trans hc1; have hB1 := below_step hBw hb1; clear hb1)
          exact bodyPost_ret (v := .tuple #[.agg #[.int .i64 6, .int .i64 n], .bool true]) (by simp [results, Tryd.results64, go_sem, r0, r1]) rfl ⟨by rw [← HM.out, HD.out, M.mish_cons_fault hv]; rfl, (hB1.setCell (Nat.le_refl _) _).setCell (Nat.le_refl _) _⟩
        · by_cases h0 : k = 0
          · subst h0
            go_wp2_with (first | (go_at_call 15; refine (rvalid_any _ _ _).mono ?_; rintro e w1 ⟨rfl, hb1⟩; have hR1 := hR.later hb1; have c0 := (hb1.cell (p := ⟨b, off + j * 2, none⟩) hbw).trans hc0; have hB1 := below_step hBw hb1; clear hb1) | (go_at_call 14; refine (bad_any _ _).mono ?_; rintro e w2 ⟨rfl, hb2⟩; obtain ⟨r0, r1, q0, q1⟩ := hR1.later hb2; have hB2 := below_step hB1 hb2; clear hb2))
            exact bodyPost_ret (v := .tuple #[.agg #[.int .i64 6, .int .i64 3], .bool true]) (by simp [results, Tryd.results64, go_sem, r0, r1]) rfl ⟨by rw [← HM.out, HD.out, M.mish_cons_blank hv]; rfl, (hB2.setCell (Nat.le_refl _) _).setCell (Nat.le_refl _) _⟩
          · have e6 : (k == 6) = false := by simpa using h6
            have e0 : (k == 0) = false := by simpa using h0
            have HN : Hid (M.mish (vs.drop (j + 1)) = M.mish vs) := by have := HM.out; rw [HD.out, M.mish_cons_ok hv h6 h0] at this; exact this
            clear h6 h0
            go_wp2_with (go_at_call 15; refine (rvalid_any _ _ _).mono ?_; rintro e w1 ⟨rfl, hb1⟩; have c0 := (hb1.cell (p := ⟨b, off + j * 2, none⟩) hbw).trans hc0; have hB1 := below_step HB.out hb1; clear hb1)
            go_roundw
            case rel => exact ⟨j + 1, by omega, by go_num, HN.out, hB1⟩
            case measure => simp [intOf]; omega
    · have HE : Hid (M.mish vs = none) := by
        have e : j = vs.length := by omega
        rw [e, List.drop_length] at hm
        exact hm.symm
      clear hm
      obtain ⟨r0, r1, q0, q1⟩ := hR
      go_wp2
      exact bodyPost_ret (v := .tuple #[.agg #[.int .i64 0, .int .i64 0], .bool false]) (by simp [results, Tryd.results64, go_sem, r0, r1]) rfl ⟨by rw [HE.out]; rfl, (hBw.setCell (Nat.le_refl _) _).setCell (Nat.le_refl _) _⟩

end Go.Proofs.YtnmcniibcjjflaaDoor

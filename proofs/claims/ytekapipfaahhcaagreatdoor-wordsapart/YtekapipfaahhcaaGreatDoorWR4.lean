import Derived.Test.YtekapipfaahhcaaGreatDoorWR3
import Derived.Test.YtekapipfaahhcaaGreatDoorDRParse
namespace Go.Proofs.YtekapipfaahhcaaGreatDoor.Q
open Go.RowKit

set_option maxRecDepth 8000 in
set_option maxHeartbeats 2000000 in
theorem dated_any (s : ByteArray) (a : Nat) (ha : a ≤ s.size) (hs : s.size ≤ 8000) (hf : dForm (dX s.data.toList a)) (w : World) :
    Calls Tryz.prog 73 #[.string s, .int .i64 (a : Int)] w fun e w' => e = .returned (refV (dateS s.data.toList a)) ∧ Below w.heap.size w w' := by
  have hb1 := (Below.refl w.heap.size w).alloc (Nat.le_refl _) (.cells #[.int .i64 0, .int .i64 0, .string ⟨#[]⟩, .int .i64 0, .int .i64 0] 66)
  have hbox := Box5.new w 66
  obtain ⟨l, hl⟩ : ∃ l, s.data.toList = l := ⟨_, rfl⟩
  have hls : l.length = s.size := by rw [← hl]; exact size_list s
  rw [hl] at hf ⊢
  have h10 := ((dForm_iff l a (by omega)).1 hf).1
  obtain ⟨x, hx⟩ : ∃ x, s.extract a (a + 10) = x := ⟨_, rfl⟩
  have hxl : dX l a = x := by
    unfold dX
    rw [show min (a + 10) l.length = a + 10 from by omega, ← hl, ← slice_list, hx]
  have hsl : ∀ W, (Instr.slice 9 (.string s) (some (.int .i64 (a : Int))) (some (.int .i64 ((a : Int) + 10))) none).run Tryz.prog W = .ok (.string x) W := fun W => by
    rw [run_slice_string W 9 s .i64 .i64 (a : Int) ((a : Int) + 10) Tryz.underlying9 (by omega) (by omega) (by omega), ← hx, show ((a : Int) + 10).toNat = a + 10 from by omega]
    rfl
  obtain ⟨R, hR⟩ : ∃ R, dateS l a = R := ⟨_, rfl⟩
  rw [hR]
  unfold dateS at hR
  rw [if_pos hf] at hR
  rw [hxl] at hR hf
  have hp := fun W => rparse_any x 10 (Nat.le_refl _) (by rw [hf.1]; exact Nat.le_refl _) (fun i h _ => hf.2 i h) (.inl rfl) (dNum x).1 (if (dNum x).2 = 0 then 10 else 0) (dNum x).2 (.inr ⟨rfl, hf.1, rfl, rfl⟩) W
  obtain ⟨v, hv⟩ : ∃ v, (dNum x).1 = v := ⟨_, rfl⟩
  have hbd := dNum_bd x
  have hz := dNum_zero x
  rw [hv] at hbd hp hR hz
  obtain ⟨z, hz'⟩ : ∃ z, (dNum x).2 = z := ⟨_, rfl⟩
  rw [hz'] at hp hR hz
  clear hf hxl
  by_cases hz0 : z = 0
  · subst hz0
    by_cases hend : a + 10 < s.size
    · have hend' : (a : Int) + 10 < (s.size : Int) := by omega
      have hix := idx_at s (a + 10) (by rw [hl]; omega)
      simp only [hl] at hix
      rw [show ((a + 10 : Nat) : Int) = (a : Int) + 10 from by omega] at hix
      rw [clsAt_in (by omega)] at hR
      obtain ⟨k, hk⟩ : ∃ k, (l[a + 10]'(by omega)).toNat = k := ⟨_, rfl⟩
      rw [hk] at hix hR
      by_cases hbad : cls k &&& 56 = 0
      · rw [if_pos ⟨rfl, hbad⟩] at hR
        have hRv : Hid (refV (.ok ((5, [], v.toNat, 0), a + 10)) = refV R) := by unfold Hid; rw [hR]
        have hW := fun W => isWord_at k false (by simp [hbad]) W
        clear hR hbad hz hk
        go_enter Tryz.func73, Tryz.ntmps73
        go_wp2_with (first | (go_at_call 132; refine (hp _).mono ?_; rintro e w1 ⟨rfl, hb2⟩; have hVa := hb2; have hbx := hbox.later hVa; have hbx' := hbx; obtain ⟨⟨v0, c0⟩, ⟨v1, c1⟩, ⟨v2, c2⟩, ⟨v3, c3⟩, ⟨v4, c4⟩, hf⟩ := hbx'; have f0 := hf 0; have f1 := hf 1; have f2 := hf 2; have f3 := hf 3; have f4 := hf 4; clear hf) | (go_at_call 131; refine (hW _).mono ?_; rintro e w9 ⟨rfl, hw9⟩; subst w9))
        obtain ⟨q0, q1, q2, q3, q4⟩ := set5_cells hbx (.int .i64 5) (.int .i64 0) (.string ⟨#[]⟩) (.int .i64 v) (.int .i64 0)
        unfold set5 at q0 q1 q2 q3 q4
        refine bodyPost_ret (v := .tuple #[.agg #[.int .i64 5, .int .i64 0, .string ⟨#[]⟩, .int .i64 v, .int .i64 0], .int .i64 ((a : Int) + 10), .int .i64 0]) (by simp [results, Tryz.results73, go_sem, q0, q1, q2, q3, q4]) rfl ⟨?_, set5_below (below_step hb1 hVa) (Nat.le_refl _) _ _ _ _ _⟩
        rw [← hRv.out]
        simp [refV, tokC]
        omega
      · rw [if_neg (fun h => hbad h.2)] at hR
        have hRv : Hid (refV (.error (a, 44)) = refV R) := by unfold Hid; rw [hR]
        have hW := fun W => isWord_at k true (by simp [hbad]) W
        clear hR hbad hz hk
        go_enter Tryz.func73, Tryz.ntmps73
        go_wp2_with (first | (go_at_call 132; refine (hp _).mono ?_; rintro e w1 ⟨rfl, hb2⟩; have hVa := hb2; have hbx := hbox.later hVa; have hbx' := hbx; obtain ⟨⟨v0, c0⟩, ⟨v1, c1⟩, ⟨v2, c2⟩, ⟨v3, c3⟩, ⟨v4, c4⟩, hf⟩ := hbx'; have f0 := hf 0; have f1 := hf 1; have f2 := hf 2; have f3 := hf 3; have f4 := hf 4; clear hf) | (go_at_call 131; refine (hW _).mono ?_; rintro e w9 ⟨rfl, hw9⟩; subst w9))
        obtain ⟨q0, q1, q2, q3, q4⟩ := set5_cells hbx (.int .i64 0) (.int .i64 0) (.string ⟨#[]⟩) (.int .i64 0) (.int .i64 0)
        unfold set5 at q0 q1 q2 q3 q4
        refine bodyPost_ret (v := .tuple #[.agg #[.int .i64 0, .int .i64 0, .string ⟨#[]⟩, .int .i64 0, .int .i64 0], .int .i64 (a : Int), .int .i64 44]) (by simp [results, Tryz.results73, go_sem, q0, q1, q2, q3, q4]) rfl ⟨?_, set5_below (below_step hb1 hVa) (Nat.le_refl _) _ _ _ _ _⟩
        rw [← hRv.out]
        rfl
    · have hend' : ¬ (a : Int) + 10 < (s.size : Int) := by omega
      rw [clsAt_out (by omega), if_pos ⟨rfl, by decide⟩] at hR
      have hRv : Hid (refV (.ok ((5, [], v.toNat, 0), a + 10)) = refV R) := by unfold Hid; rw [hR]
      clear hR hz
      go_enter Tryz.func73, Tryz.ntmps73
      go_wp2_with (first | (go_at_call 132; refine (hp _).mono ?_; rintro e w1 ⟨rfl, hb2⟩; have hVa := hb2; have hbx := hbox.later hVa; have hbx' := hbx; obtain ⟨⟨v0, c0⟩, ⟨v1, c1⟩, ⟨v2, c2⟩, ⟨v3, c3⟩, ⟨v4, c4⟩, hf⟩ := hbx'; have f0 := hf 0; have f1 := hf 1; have f2 := hf 2; have f3 := hf 3; have f4 := hf 4; clear hf))
      obtain ⟨q0, q1, q2, q3, q4⟩ := set5_cells hbx (.int .i64 5) (.int .i64 0) (.string ⟨#[]⟩) (.int .i64 v) (.int .i64 0)
      unfold set5 at q0 q1 q2 q3 q4
      refine bodyPost_ret (v := .tuple #[.agg #[.int .i64 5, .int .i64 0, .string ⟨#[]⟩, .int .i64 v, .int .i64 0], .int .i64 ((a : Int) + 10), .int .i64 0]) (by simp [results, Tryz.results73, go_sem, q0, q1, q2, q3, q4]) rfl ⟨?_, set5_below (below_step hb1 hVa) (Nat.le_refl _) _ _ _ _ _⟩
      rw [← hRv.out]
      simp [refV, tokC]
      omega
  · rw [if_neg (fun h => hz0 h.1)] at hR
    have hRv : Hid (refV (.error (a, 44)) = refV R) := by unfold Hid; rw [hR]
    have hz2 : z = 20 ∨ z = 21 := by omega
    rw [if_neg hz0] at hp
    clear hR hz hz0
    rcases hz2 with rfl | rfl
    all_goals
      go_enter Tryz.func73, Tryz.ntmps73
      go_wp2_with (first | (go_at_call 132; refine (hp _).mono ?_; rintro e w1 ⟨rfl, hb2⟩; have hVa := hb2; have hbx := hbox.later hVa; have hbx' := hbx; obtain ⟨⟨v0, c0⟩, ⟨v1, c1⟩, ⟨v2, c2⟩, ⟨v3, c3⟩, ⟨v4, c4⟩, hf⟩ := hbx'; have f0 := hf 0; have f1 := hf 1; have f2 := hf 2; have f3 := hf 3; have f4 := hf 4; clear hf))
      obtain ⟨q0, q1, q2, q3, q4⟩ := set5_cells hbx (.int .i64 0) (.int .i64 0) (.string ⟨#[]⟩) (.int .i64 0) (.int .i64 0)
      unfold set5 at q0 q1 q2 q3 q4
      refine bodyPost_ret (v := .tuple #[.agg #[.int .i64 0, .int .i64 0, .string ⟨#[]⟩, .int .i64 0, .int .i64 0], .int .i64 (a : Int), .int .i64 44]) (by simp [results, Tryz.results73, go_sem, q0, q1, q2, q3, q4]) rfl ⟨?_, set5_below (below_step hb1 hVa) (Nat.le_refl _) _ _ _ _ _⟩
      rw [← hRv.out]
      rfl

end Go.Proofs.YtekapipfaahhcaaGreatDoor.Q

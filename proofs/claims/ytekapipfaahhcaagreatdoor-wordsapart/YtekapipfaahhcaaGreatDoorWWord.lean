import Derived.Test.YtekapipfaahhcaaGreatDoorWQtd
namespace Go.Proofs.YtekapipfaahhcaaGreatDoor
open Go.RowKit

noncomputable def wordS (l : List UInt8) (a : Nat) : Res := if clsAt l a = 8 then nameS l a else if clsAt l a = 32 then dateS l a else if clsAt l a = 64 then quotedS l a else signS l a

set_option maxRecDepth 8000 in
set_option maxHeartbeats 2000000 in
theorem word_any (s : ByteArray) (a : Nat) (ha : a ≤ s.size) (hs : s.size ≤ 140737488351232) (w : World) (hC : Cls w) (hE : ErrR w) (hM : Mon w) (hS : Sgn w) :
    Calls Tryz.prog 42 #[.string s, .int .i64 a] w fun e w' => e = .returned (resV a (wordS s.data.toList a)) ∧ Below w.heap.size w w' := by
  have hb1 := (Below.refl w.heap.size w).alloc (Nat.le_refl _) (.cells #[.int .i64 0, .int .i64 0, .string ⟨#[]⟩, .int .i64 0, .int .i64 0] 66)
  have hbox := Box5.new w 66
  obtain ⟨l, hl⟩ : ∃ l, s.data.toList = l := ⟨_, rfl⟩
  have hls : l.length = s.size := by rw [← hl]; exact size_list s
  obtain ⟨R, hR⟩ : ∃ R, wordS l a = R := ⟨_, rfl⟩
  have hin : clsAt l a ≠ 128 → a < s.size := fun h => by
    apply Classical.byContradiction
    intro hn
    exact h (clsAt_out (by omega))
  have hca := fun W h => classAt_any s a (clsAt l a : Int) (by rw [hl]) W h
  rw [hl, hR]
  unfold wordS at hR
  obtain ⟨z, hz⟩ : ∃ z : Int, z = (clsAt l a : Int) := ⟨_, rfl⟩
  rw [← hz] at hca
  by_cases h8 : clsAt l a = 8
  · rw [if_pos h8] at hR
    have hz8 : (z == 8) = true := by rw [hz, h8]; rfl
    clear hz h8 hin
    have hg := name_any s a ha hs _ (hC.later hb1)
    rw [hl, hR] at hg
    obtain ⟨K, P, T, N, D, E, Z, hlit⟩ := resV_lit a R
    rw [hlit] at hg ⊢
    clear hlit hR hl hls
    go_enter Tryz.func42, Tryz.ntmps42
    go_wp2_with (first | (go_at_call 41; refine (hca _ (hC.later hb1)).mono ?_; rintro e w9 ⟨rfl, hw9⟩; subst w9) | (go_at_call 78; refine hg.mono ?_; rintro e w5 ⟨rfl, hb5⟩; have hVa := hb5; have hbx := hbox.later hVa; have hbx' := hbx; obtain ⟨⟨v0, c0⟩, ⟨v1, c1⟩, ⟨v2, c2⟩, ⟨v3, c3⟩, ⟨v4, c4⟩, hf⟩ := hbx'; have f0 := hf 0; have f1 := hf 1; have f2 := hf 2; have f3 := hf 3; have f4 := hf 4; clear hf))
    obtain ⟨q0, q1, q2, q3, q4⟩ := set5_cells hbx (.int .i64 K) (.int .i64 P) (.string T) (.int .i64 N) (.int .i64 D)
    unfold set5 at q0 q1 q2 q3 q4
    exact bodyPost_ret (v := .tuple #[.agg #[.int .i64 K, .int .i64 P, .string T, .int .i64 N, .int .i64 D], .int .i64 E, .int .i64 Z]) (by simp [results, Tryz.results42, go_sem, q0, q1, q2, q3, q4]) rfl ⟨rfl, set5_below (below_step hb1 hVa) (Nat.le_refl _) _ _ _ _ _⟩
  · rw [if_neg h8] at hR
    have hz8 : (z == 8) = false := by rw [hz]; simp; omega
    by_cases h32 : clsAt l a = 32
    · rw [if_pos h32] at hR
      have hz32 : (z == 32) = true := by rw [hz, h32]; rfl
      have hlt := hin (by omega)
      have hcl : clsAt s.data.toList a = 32 := by rw [hl]; exact h32
      clear hz h8 hin h32
      have hg := dateOrNumber_any s a hlt hs hcl _ (hC.later hb1) (hE.later hb1) (hM.later hb1)
      rw [hl, hR] at hg
      obtain ⟨K, P, T, N, D, E, Z, hlit⟩ := resV_lit a R
      rw [hlit] at hg ⊢
      clear hlit hR hl hls
      go_enter Tryz.func42, Tryz.ntmps42
      go_wp2_with (first | (go_at_call 41; refine (hca _ (hC.later hb1)).mono ?_; rintro e w9 ⟨rfl, hw9⟩; subst w9) | (go_at_call 79; refine hg.mono ?_; rintro e w5 ⟨rfl, hb5⟩; have hVa := hb5; have hbx := hbox.later hVa; have hbx' := hbx; obtain ⟨⟨v0, c0⟩, ⟨v1, c1⟩, ⟨v2, c2⟩, ⟨v3, c3⟩, ⟨v4, c4⟩, hf⟩ := hbx'; have f0 := hf 0; have f1 := hf 1; have f2 := hf 2; have f3 := hf 3; have f4 := hf 4; clear hf))
      obtain ⟨q0, q1, q2, q3, q4⟩ := set5_cells hbx (.int .i64 K) (.int .i64 P) (.string T) (.int .i64 N) (.int .i64 D)
      unfold set5 at q0 q1 q2 q3 q4
      exact bodyPost_ret (v := .tuple #[.agg #[.int .i64 K, .int .i64 P, .string T, .int .i64 N, .int .i64 D], .int .i64 E, .int .i64 Z]) (by simp [results, Tryz.results42, go_sem, q0, q1, q2, q3, q4]) rfl ⟨rfl, set5_below (below_step hb1 hVa) (Nat.le_refl _) _ _ _ _ _⟩
    · rw [if_neg h32] at hR
      have hz32 : (z == 32) = false := by rw [hz]; simp; omega
      by_cases h64 : clsAt l a = 64
      · rw [if_pos h64] at hR
        have hz64 : (z == 64) = true := by rw [hz, h64]; rfl
        have hlt := hin (by omega)
        clear hz h8 hin h32 h64
        have hg := Q.quoted_any s a hlt hs (w.alloc (.cells #[.int .i64 0, .int .i64 0, .string ⟨#[]⟩, .int .i64 0, .int .i64 0] 66))
        rw [hl, hR] at hg
        obtain ⟨K, P, T, N, D, E, Z, hlit⟩ := resV_lit a R
        rw [hlit] at hg ⊢
        clear hlit hR hl hls
        go_enter Tryz.func42, Tryz.ntmps42
        go_wp2_with (first | (go_at_call 41; refine (hca _ (hC.later hb1)).mono ?_; rintro e w9 ⟨rfl, hw9⟩; subst w9) | (go_at_call 80; refine hg.mono ?_; rintro e w5 ⟨rfl, hb5⟩; have hVa := hb5; have hbx := hbox.later hVa; have hbx' := hbx; obtain ⟨⟨v0, c0⟩, ⟨v1, c1⟩, ⟨v2, c2⟩, ⟨v3, c3⟩, ⟨v4, c4⟩, hf⟩ := hbx'; have f0 := hf 0; have f1 := hf 1; have f2 := hf 2; have f3 := hf 3; have f4 := hf 4; clear hf))
        obtain ⟨q0, q1, q2, q3, q4⟩ := set5_cells hbx (.int .i64 K) (.int .i64 P) (.string T) (.int .i64 N) (.int .i64 D)
        unfold set5 at q0 q1 q2 q3 q4
        exact bodyPost_ret (v := .tuple #[.agg #[.int .i64 K, .int .i64 P, .string T, .int .i64 N, .int .i64 D], .int .i64 E, .int .i64 Z]) (by simp [results, Tryz.results42, go_sem, q0, q1, q2, q3, q4]) rfl ⟨rfl, set5_below (below_step hb1 hVa) (Nat.le_refl _) _ _ _ _ _⟩
      · rw [if_neg h64] at hR
        have hz64 : (z == 64) = false := by rw [hz]; simp; omega
        clear hz h8 hin h32 h64
        have hg := sign_any s a ha hs _ (hS.later hb1)
        rw [hl, hR] at hg
        obtain ⟨K, P, T, N, D, E, Z, hlit⟩ := resV_lit a R
        rw [hlit] at hg ⊢
        clear hlit hR hl hls
        go_enter Tryz.func42, Tryz.ntmps42
        go_wp2_with (first | (go_at_call 41; refine (hca _ (hC.later hb1)).mono ?_; rintro e w9 ⟨rfl, hw9⟩; subst w9) | (go_at_call 81; refine hg.mono ?_; rintro e w5 ⟨rfl, hb5⟩; have hVa := hb5; have hbx := hbox.later hVa; have hbx' := hbx; obtain ⟨⟨v0, c0⟩, ⟨v1, c1⟩, ⟨v2, c2⟩, ⟨v3, c3⟩, ⟨v4, c4⟩, hf⟩ := hbx'; have f0 := hf 0; have f1 := hf 1; have f2 := hf 2; have f3 := hf 3; have f4 := hf 4; clear hf))
        obtain ⟨q0, q1, q2, q3, q4⟩ := set5_cells hbx (.int .i64 K) (.int .i64 P) (.string T) (.int .i64 N) (.int .i64 D)
        unfold set5 at q0 q1 q2 q3 q4
        exact bodyPost_ret (v := .tuple #[.agg #[.int .i64 K, .int .i64 P, .string T, .int .i64 N, .int .i64 D], .int .i64 E, .int .i64 Z]) (by simp [results, Tryz.results42, go_sem, q0, q1, q2, q3, q4]) rfl ⟨rfl, set5_below (below_step hb1 hVa) (Nat.le_refl _) _ _ _ _ _⟩

end Go.Proofs.YtekapipfaahhcaaGreatDoor

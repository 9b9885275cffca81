import Derived.Test.YtemmljcmmjcngaaDoorWRefA
namespace Go.Proofs.YtemmljcmmjcngaaDoor
open Go.RowKit Go.Sort Go.Lib

set_option maxRecDepth 4000 in
set_option maxHeartbeats 1000000 in
theorem ramount_neg (N : Nat) (hN1 : 1 ≤ N) (hN : N ≤ 9223372036854775808) (w : World) :
    Calls Tryd.prog 9 #[.int .i64 (-(N : Int))] w fun e w' => e = .returned (.string ⟨(amtL (-(N : Int))).toArray⟩) ∧ Below w.heap.size w w' := by
  obtain ⟨i0, hi, hz0, hz1, hz2⟩ := info_parts infoB
  go_enter Tryd.func9, Tryd.ntmps9
  go_wp2
  go_loopw [3, 4, 5] (fun m n j wr => ∃ i : Nat, i ≤ 30 ∧ j = .int .i64 i ∧ n = .int .i64 (-((N / 10 ^ i : Nat) : Int)) ∧ (i ≤ 3 ∨ N / 10 ^ (i - 1) ≠ 0) ∧ Bys w.heap.size wr m (am N i) ∧ Below w.heap.size w wr) (fun _ n j _ => (-RowKit.intOf n).toNat + (3 - (RowKit.intOf j).toNat))
  case atStart => exact ⟨0, by omega, rfl, by simp, .inl (by omega), World.ownsRow_nil _ _ _ _, Below.refl _ _⟩
  case round =>
    obtain ⟨i, hi30, rfl, rfl, hpre, ho, hB⟩ := hrel
    obtain ⟨a, ha⟩ : ∃ a, N / 10 ^ i = a := ⟨_, rfl⟩
    have haN : a ≤ N := by rw [← ha]; exact Nat.div_le_self _ _
    by_cases hgo : i < 3 ∨ a ≠ 0
    · have hi0 : (0 : Int) ≤ (i : Int) := by omega
      have ha1 : N / 10 ^ (i + 1) = a / 10 := by rw [Nat.pow_succ, ← Nat.div_div_eq_div_mul, ha]
      have hdg : Hid (((dg N i).toNat : Int) = 48 + ((a % 10 : Nat) : Int)) := by
        unfold Hid
        rw [dg_nat, ha]
      have hpre2 : Hid (i + 1 ≤ 3 ∨ N / 10 ^ (i + 1 - 1) ≠ 0) := by
        unfold Hid
        rw [Nat.add_sub_cancel, ha]
        omega
      have hi31 : i + 1 ≤ 30 := by
        rcases Nat.lt_or_ge i 25 with h | h
        · omega
        · exfalso
          have h1 : 10 ^ 25 ≤ 10 ^ i := Nat.pow_le_pow_right (by decide) h
          have h2 : 9223372036854775808 < 10 ^ 25 := by decide
          have h3 : N / 10 ^ i = 0 := Nat.div_eq_of_lt (by omega)
          omega
      have hl := am_len N i
      have ha1' : Hid (N / 10 ^ (i + 1) = a / 10) := ha1
      have hcond : (i : Int) < 3 ∨ (¬ (i : Int) < 3 ∧ ((-(a : Int)) != 0) = true) := by
        rcases Classical.em (i < 3) with h | h
        · exact .inl (by omega)
        · exact .inr ⟨by omega, by simp; omega⟩
      rw [ha]
      unfold Bys at ho
      have hmeas : i < 3 ∨ a ≠ 0 := hgo
      clear ha ha1 hpre hgo
      by_cases hi2 : i = 2
      · subst hi2
        have hsucc : Hid (am N 3 = am N 2 ++ [46] ++ [dg N 2]) := rfl
        have hl2 := hl.2 (by omega)
        have hl46 : (am N 2 ++ [46]).length = 3 := by rw [List.length_append, hl2]; rfl
        have tok : True := trivial
        by_cases hd : (0 : Int) < (a : Int) % 10
        all_goals
         go_wp2_with (first | (at_builtin; have _u := tok; clear tok; refine wpList_append_own _ rfl _ _ 30 rfl w.heap.size 5 i0 (.int .u8 0) 1 1 Tryd.underlying30 hi hz0 hz1 hz2 rfl (by decide) _ _ _ rfl (ho.alloc _) ⟨wr.heap.size, 0, none⟩ 1 1 [.int .u8 46] rfl rfl (cell_one_new _ _ _) (byte_one _) (by unfold maxLen; omega) (by omega) (by have := hB.size; simp; omega) ?_; intro v2 w2 hown2 hgrow2 _; have hB2 : Below w.heap.size w w2 := (hB.alloc hB.size _).grown hgrow2 (by have := hB.size; simp; omega) (fun j hj => (ho.lt j hj).1); have hown2' : w2.ownsRow w.heap.size 5 1 v2 (am N 2 ++ [46]).length (byteCells (am N 2 ++ [46])) := bys_snoc (c := 46) rfl rfl hown2) | (at_builtin; refine wpList_append_own _ rfl _ _ 30 rfl w.heap.size 5 i0 (.int .u8 0) 1 1 Tryd.underlying30 hi hz0 hz1 hz2 rfl (by decide) _ _ _ rfl (hown2'.alloc _) ⟨w2.heap.size, 0, none⟩ 1 1 [_] rfl rfl (cell_one_new _ _ _) (byte_one _) (by unfold maxLen; omega) (by omega) (by have := hB2.size; simp; omega) ?_; intro v3 w3 hown3 hgrow3 _))
         go_roundw
         case rel => exact ⟨3, hi31, rfl, by rw [ha1'.out]; go_num, hpre2.out, by rw [hsucc.out]; exact bys_snoc (by have := hdg.out; omega) rfl hown3, (hB2.alloc hB2.size _).grown hgrow3 (by have := hB2.size; simp; omega) (fun j hj => (hown2.lt j hj).1)⟩
         case measure => simp [RowKit.intOf]; omega
      · have hi2b : ((i : Int) == 2) = false := by simp; omega
        have hsucc : Hid (am N (i + 1) = am N i ++ [dg N i]) := by
          unfold Hid
          show am N i ++ (if i = 2 then [46] else []) ++ [dg N i] = _
          rw [if_neg hi2]
          simp
        rcases hcond with hc3 | ⟨hc3, hcz⟩ <;> by_cases hd : (0 : Int) < (a : Int) % 10
        all_goals
          go_wp2_with (first | (at_builtin; refine wpList_append_own _ rfl _ _ 30 rfl w.heap.size 5 i0 (.int .u8 0) 1 1 Tryd.underlying30 hi hz0 hz1 hz2 rfl (by decide) _ _ _ rfl (ho.alloc _) ⟨wr.heap.size, 0, none⟩ 1 1 [_] rfl rfl (cell_one_new _ _ _) (byte_one _) (by unfold maxLen; omega) (by omega) (by have := hB.size; simp; omega) ?_; intro v2 w2 hown2 hgrow2 _))
          go_roundw
          case rel => exact ⟨i + 1, hi31, by go_num, by rw [ha1'.out]; go_num, hpre2.out, by rw [hsucc.out]; exact bys_snoc (by have := hdg.out; omega) rfl hown2, (hB.alloc hB.size _).grown hgrow2 (by have := hB.size; simp; omega) (fun j hj => (ho.lt j hj).1)⟩
          case measure => simp [RowKit.intOf]; omega
    · have h3 : ¬ (i : Int) < 3 := by omega
      obtain rfl : a = 0 := by omega
      have hF : Hid (amtL (-(N : Int)) = (am N i ++ [45]).reverse) := by
        unfold Hid
        rw [List.reverse_append, am_dec (by omega) ha hpre]
        unfold amtL
        rw [if_pos (by omega), Int.natAbs_neg, Int.natAbs_natCast]
        simp
      have hl := am_len N i
      have hlm : (am N i ++ [45]).length = (am N i).length + 1 := by simp
      rw [ha]
      clear ha hpre
      unfold Bys at ho
      have hneg : -(N : Int) < 0 := by omega
      have hdr := fun v W (h : BysAt W v (am N i ++ [45])) => turned_any v (am N i ++ [45]) (by omega) (by omega) W h
      go_wp2_with (first | (at_builtin; refine wpList_append_own _ rfl _ _ 30 rfl w.heap.size 5 i0 (.int .u8 0) 1 1 Tryd.underlying30 hi hz0 hz1 hz2 rfl (by decide) _ _ _ rfl (ho.alloc _) ⟨wr.heap.size, 0, none⟩ 1 1 [.int .u8 45] rfl rfl (cell_one_new _ _ _) (byte_one _) (by unfold maxLen; omega) (by omega) (by have := hB.size; simp; omega) ?_; intro v2 w2 hown2 hgrow2 _; have hB2 : Below w.heap.size w w2 := (hB.alloc hB.size _).grown hgrow2 (by have := hB.size; simp; omega) (fun j hj => (ho.lt j hj).1); have hat : BysAt w2 v2 (am N i ++ [45]) := bysAt_of (B := w.heap.size) (bys_snoc (c := 45) rfl rfl hown2) (by omega)) | (go_at_call 15; refine (hdr _ _ hat).mono ?_; rintro e w3 ⟨rfl, hb3⟩))
      go_ret
      exact ⟨by rw [hF.out, List.reverse_append]; rfl, below_step hB2 hb3⟩

/-- P4.12, the document's answer: the text of an amount. -/
theorem ramount_any (n : Int) (h0 : -9223372036854775808 ≤ n) (h1 : n ≤ 9223372036854775807) (w : World) :
    Calls Tryd.prog 9 #[.int .i64 n] w fun e w' => e = .returned (.string ⟨(amtL n).toArray⟩) ∧ Below w.heap.size w w' := by
  by_cases h : 0 ≤ n
  · obtain ⟨u, rfl⟩ : ∃ u : Nat, n = (u : Int) := ⟨n.natAbs, by omega⟩
    exact ramount_pos u (by omega) w
  · obtain ⟨u, rfl⟩ : ∃ u : Nat, n = -(u : Int) := ⟨n.natAbs, by omega⟩
    exact ramount_neg u (by omega) (by omega) w

end Go.Proofs.YtemmljcmmjcngaaDoor

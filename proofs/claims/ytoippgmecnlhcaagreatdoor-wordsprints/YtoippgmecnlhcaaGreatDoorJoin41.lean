import Derived.Test.YtoippgmecnlhcaaGreatDoorJoin40
import Derived.Test.YtoippgmecnlhcaaGreatDoorJoin31
namespace Go.Proofs.YtoippgmecnlhcaaGreatDoor.X.R
open Go.RowKit Go.Sort Go.Lib

/-- The bytes that the document's Amount lays, the lowest digit first. -/
def am (N : Nat) : Nat → List UInt8
  | 0 => []
  | i + 1 => am N i ++ (if i = 2 then [46] else []) ++ [dg N i]
theorem dg_hundred (N t : Nat) : dg N (2 + t) = dg (N / 100) t := by
  unfold dg
  rw [Nat.pow_add, ← Nat.div_div_eq_div_mul]
theorem am_eq (N : Nat) : ∀ k, am N (k + 3) = [dg N 0, dg N 1, 46] ++ low (N / 100) (k + 1)
  | 0 => by
    have : dg N 2 = dg (N / 100) 0 := dg_hundred N 0
    simp [am, low, this]
  | k + 1 => by
    show am N (k + 3) ++ (if k + 3 = 2 then [46] else []) ++ [dg N (k + 3)] = _
    rw [am_eq N k, if_neg (by omega), low_succ _ (k + 1), show k + 3 = 2 + (k + 1) from by omega, dg_hundred]
    simp
theorem am_len (N : Nat) : ∀ i, (am N i).length ≤ i + 1 ∧ (i ≤ 2 → (am N i).length = i)
  | 0 => by simp [am]
  | i + 1 => by
    obtain ⟨h1, h2⟩ := am_len N i
    unfold am
    rw [List.length_append, List.length_append]
    by_cases h : i = 2
    · subst h
      rw [if_pos rfl]
      have := h2 (by omega)
      simp
      omega
    · rw [if_neg h]
      simp
      exact ⟨by omega, fun hi => h2 (by omega)⟩
theorem pad_two (N : Nat) : pad (N % 100) 2 = [dg N 1, dg N 0] := by
  unfold pad dg
  have e0 : N / 10 ^ 0 % 10 = N % 100 % 10 := by simp
  have e1 : N / 10 ^ 1 % 10 = N % 100 / 10 := by simp; omega
  rw [e0, e1]
  have hlt := Nat.mod_lt N (show 0 < 100 by decide)
  generalize N % 100 = m at *
  by_cases h : m < 10
  · rw [nDigits_small h, decDigits_one h, Nat.div_eq_of_lt h, Nat.mod_eq_of_lt h]
    rfl
  · rw [nDigits_big h, nDigits_small (by omega), decDigits_two h hlt]
    rfl
theorem am_dec {N i : Nat} (h3 : 3 ≤ i) (hz : N / 10 ^ i = 0) (hi : i ≤ 3 ∨ N / 10 ^ (i - 1) ≠ 0) : (am N i).reverse = decDigits (N / 100) ++ [46] ++ pad (N % 100) 2 := by
  obtain ⟨k, rfl⟩ : ∃ k, i = k + 3 := ⟨i - 3, by omega⟩
  have e2 : ∀ t, N / 100 / 10 ^ t = N / 10 ^ (t + 2) := fun t => by
    rw [Nat.div_div_eq_div_mul, show t + 2 = 2 + t from by omega, Nat.pow_add]
  have hd : (low (N / 100) (k + 1)).reverse = decDigits (N / 100) := by
    refine low_dec ?_ ?_
    · rcases hi with h | h
      · exact .inl (by omega)
      · right
        rw [show k + 3 - 1 = k + 2 from by omega, ← e2] at h
        exact (Nat.one_le_div_iff (Nat.pow_pos (by decide))).1 (Nat.pos_of_ne_zero h)
    · have : N / 100 / 10 ^ k / 10 = 0 := by rw [Nat.div_div_eq_div_mul, ← Nat.pow_succ, e2]; exact hz
      omega
  rw [am_eq, List.reverse_append, hd, pad_two]
  simp

set_option maxRecDepth 4000 in
set_option maxHeartbeats 1000000 in
theorem ramount_pos (N : Nat) (hN : N ≤ 9223372036854775807) (w : World) :
    Calls Tryz.prog 43 #[.int .i64 N] w fun e w' => e = .returned (.string ⟨(amtL N).toArray⟩) ∧ Below w.heap.size w w' := by
  obtain ⟨i0, hi, hz0, hz1, hz2⟩ := info_parts infoB
  go_enter Tryz.func43, Tryz.ntmps43
  go_wp2
  go_loopw [3, 4, 5] (fun m n j wr => ∃ i : Nat, i ≤ 30 ∧ j = .int .i64 i ∧ n = .int .i64 ((N / 10 ^ i : Nat) : Int) ∧ (i ≤ 3 ∨ N / 10 ^ (i - 1) ≠ 0) ∧ Bys w.heap.size wr m (am N i) ∧ Below w.heap.size w wr) (fun _ n j _ => (RowKit.intOf n).toNat + (3 - (RowKit.intOf j).toNat))
  case atStart => exact ⟨0, by omega, rfl, by simp, .inl (by omega), World.ownsRow_nil _ _ _ _, Below.refl _ _⟩
  case round =>
    obtain ⟨i, hi30, rfl, rfl, hpre, ho, hB⟩ := hrel
    obtain ⟨a, ha⟩ : ∃ a, N / 10 ^ i = a := ⟨_, rfl⟩
    have haN : a ≤ N := by rw [← ha]; exact Nat.div_le_self _ _
    by_cases hgo : i < 3 ∨ a ≠ 0
    · have hi0 : (0 : Int) ≤ (i : Int) := by omega
      have ha1 : N / 10 ^ (i + 1) = a / 10 := by rw [Nat.pow_succ, ← Nat.div_div_eq_div_mul, ha]
      have hdg : Hid (((dg N i).toNat : Int) = 48 + ((a % 10 : Nat) : Int)) := by
        unfold Hid
        rw [dg_nat, ha]
      have hpre2 : Hid (i + 1 ≤ 3 ∨ N / 10 ^ (i + 1 - 1) ≠ 0) := by
        unfold Hid
        rw [Nat.add_sub_cancel, ha]
        omega
      have hi31 : i + 1 ≤ 30 := by
        rcases Nat.lt_or_ge i 25 with h | h
        · omega
        · exfalso
          have h1 : 10 ^ 25 ≤ 10 ^ i := Nat.pow_le_pow_right (by decide) h
          have h2 : 9223372036854775807 < 10 ^ 25 := by decide
          have h3 : N / 10 ^ i = 0 := Nat.div_eq_of_lt (by omega)
          omega
      have hl := am_len N i
      have ha1' : Hid (N / 10 ^ (i + 1) = a / 10) := ha1
      have hcond : (i : Int) < 3 ∨ (¬ (i : Int) < 3 ∧ ((a : Int) != 0) = true) := by
        rcases Classical.em (i < 3) with h | h
        · exact .inl (by omega)
        · exact .inr ⟨by omega, by simp; omega⟩
      rw [ha]
      unfold Bys at ho
      have hmeas : i < 3 ∨ a ≠ 0 := hgo
      clear ha ha1 hpre hgo
      by_cases hi2 : i = 2
      · subst hi2
        have hsucc : Hid (am N 3 = am N 2 ++ [46] ++ [dg N 2]) := rfl
        have hl2 := hl.2 (by omega)
        have hl46 : (am N 2 ++ [46]).length = 3 := by rw [List.length_append, hl2]; rfl
        have tok : True := trivial
        go_wp2_with (first | (at_builtin; have _u := tok; clear tok; refine wpList_append_own _ rfl _ _ 61 rfl w.heap.size 5 i0 (.int .u8 0) 1 1 Tryz.underlying61 hi hz0 hz1 hz2 rfl (by decide) _ _ _ rfl (ho.alloc _) ⟨wr.heap.size, 0, none⟩ 1 1 [.int .u8 46] rfl rfl (cell_one_new _ _ _) (byte_one _) (by unfold maxLen; omega) (by omega) (by have := hB.size; simp; omega) ?_; intro v2 w2 hown2 hgrow2 _; have hB2 : Below w.heap.size w w2 := (hB.alloc hB.size _).grown hgrow2 (by have := hB.size; simp; omega) (fun j hj => (ho.lt j hj).1); have hown2' : w2.ownsRow w.heap.size 5 1 v2 (am N 2 ++ [46]).length (byteCells (am N 2 ++ [46])) := bys_snoc (c := 46) rfl rfl hown2) | (at_builtin; refine wpList_append_own _ rfl _ _ 61 rfl w.heap.size 5 i0 (.int .u8 0) 1 1 Tryz.underlying61 hi hz0 hz1 hz2 rfl (by decide) _ _ _ rfl (hown2'.alloc _) ⟨w2.heap.size, 0, none⟩ 1 1 [_] rfl rfl (cell_one_new _ _ _) (byte_one _) (by unfold maxLen; omega) (by omega) (by have := hB2.size; simp; omega) ?_; intro v3 w3 hown3 hgrow3 _))
        go_roundw
        case rel => exact ⟨3, hi31, rfl, by rw [ha1'.out]; go_num, hpre2.out, by rw [hsucc.out]; exact bys_snoc (by have := hdg.out; omega) rfl hown3, (hB2.alloc hB2.size _).grown hgrow3 (by have := hB2.size; simp; omega) (fun j hj => (hown2.lt j hj).1)⟩
        case measure => simp [RowKit.intOf]; omega
      · have hi2b : ((i : Int) == 2) = false := by simp; omega
        have hsucc : Hid (am N (i + 1) = am N i ++ [dg N i]) := by
          unfold Hid
          show am N i ++ (if i = 2 then [46] else []) ++ [dg N i] = _
          rw [if_neg hi2]
          simp
        rcases hcond with hc3 | ⟨hc3, hcz⟩
        all_goals
          go_wp2_with (first | (at_builtin; refine wpList_append_own _ rfl _ _ 61 rfl w.heap.size 5 i0 (.int .u8 0) 1 1 Tryz.underlying61 hi hz0 hz1 hz2 rfl (by decide) _ _ _ rfl (ho.alloc _) ⟨wr.heap.size, 0, none⟩ 1 1 [_] rfl rfl (cell_one_new _ _ _) (byte_one _) (by unfold maxLen; omega) (by omega) (by have := hB.size; simp; omega) ?_; intro v2 w2 hown2 hgrow2 _))
          go_roundw
          case rel => exact ⟨i + 1, hi31, by go_num, by rw [ha1'.out]; go_num, hpre2.out, by rw [hsucc.out]; exact bys_snoc (by have := hdg.out; omega) rfl hown2, (hB.alloc hB.size _).grown hgrow2 (by have := hB.size; simp; omega) (fun j hj => (ho.lt j hj).1)⟩
          case measure => simp [RowKit.intOf]; omega
    · have h3 : ¬ (i : Int) < 3 := by omega
      obtain rfl : a = 0 := by omega
      have hF : Hid (amtL (N : Int) = (am N i).reverse) := by
        unfold Hid
        rw [am_dec (by omega) ha hpre]
        unfold amtL
        rw [if_neg (by omega)]
        simp
      have hl := am_len N i
      have hat := bysAt_of ho (by have := am_eq N (i - 3); rw [show i - 3 + 3 = i from by omega] at this; rw [this]; simp)
      have hpos : 0 < (am N i).length := by have := am_eq N (i - 3); rw [show i - 3 + 3 = i from by omega] at this; rw [this]; simp
      rw [ha]
      clear ha hpre
      go_wp2_with (go_at_call 59; refine (turned_any _ _ hpos (by omega) _ hat).mono ?_; rintro e w1 ⟨rfl, hb1⟩)
      go_ret
      exact ⟨by rw [hF.out]; rfl, below_step hB hb1⟩

end Go.Proofs.YtoippgmecnlhcaaGreatDoor.X.R


namespace Go.Proofs.YtoippgmecnlhcaaGreatDoor.X.R
open Go.RowKit Go.Sort Go.Lib

set_option maxRecDepth 4000 in
set_option maxHeartbeats 1000000 in
theorem ramount_neg (N : Nat) (hN1 : 1 ≤ N) (hN : N ≤ 9223372036854775808) (w : World) :
    Calls Tryz.prog 43 #[.int .i64 (-(N : Int))] w fun e w' => e = .returned (.string ⟨(amtL (-(N : Int))).toArray⟩) ∧ Below w.heap.size w w' := by
  obtain ⟨i0, hi, hz0, hz1, hz2⟩ := info_parts infoB
  go_enter Tryz.func43, Tryz.ntmps43
  go_wp2
  go_loopw [3, 4, 5] (fun m n j wr => ∃ i : Nat, i ≤ 30 ∧ j = .int .i64 i ∧ n = .int .i64 (-((N / 10 ^ i : Nat) : Int)) ∧ (i ≤ 3 ∨ N / 10 ^ (i - 1) ≠ 0) ∧ Bys w.heap.size wr m (am N i) ∧ Below w.heap.size w wr) (fun _ n j _ => (-RowKit.intOf n).toNat + (3 - (RowKit.intOf j).toNat))
  case atStart => exact ⟨0, by omega, rfl, by simp, .inl (by omega), World.ownsRow_nil _ _ _ _, Below.refl _ _⟩
  case round =>
    obtain ⟨i, hi30, rfl, rfl, hpre, ho, hB⟩ := hrel
    obtain ⟨a, ha⟩ : ∃ a, N / 10 ^ i = a := ⟨_, rfl⟩
    have haN : a ≤ N := by rw [← ha]; exact Nat.div_le_self _ _
    by_cases hgo : i < 3 ∨ a ≠ 0
    · have hi0 : (0 : Int) ≤ (i : Int) := by omega
      have ha1 : N / 10 ^ (i + 1) = a / 10 := by rw [Nat.pow_succ, ← Nat.div_div_eq_div_mul, ha]
      have hdg : Hid (((dg N i).toNat : Int) = 48 + ((a % 10 : Nat) : Int)) := by
        unfold Hid
        rw [dg_nat, ha]
      have hpre2 : Hid (i + 1 ≤ 3 ∨ N / 10 ^ (i + 1 - 1) ≠ 0) := by
        unfold Hid
        rw [Nat.add_sub_cancel, ha]
        omega
      have hi31 : i + 1 ≤ 30 := by
        rcases Nat.lt_or_ge i 25 with h | h
        · omega
        · exfalso
          have h1 : 10 ^ 25 ≤ 10 ^ i := Nat.pow_le_pow_right (by decide) h
          have h2 : 9223372036854775808 < 10 ^ 25 := by decide
          have h3 : N / 10 ^ i = 0 := Nat.div_eq_of_lt (by omega)
          omega
      have hl := am_len N i
      have ha1' : Hid (N / 10 ^ (i + 1) = a / 10) := ha1
      have hcond : (i : Int) < 3 ∨ (¬ (i : Int) < 3 ∧ ((-(a : Int)) != 0) = true) := by
        rcases Classical.em (i < 3) with h | h
        · exact .inl (by omega)
        · exact .inr ⟨by omega, by simp; omega⟩
      rw [ha]
      unfold Bys at ho
      have hmeas : i < 3 ∨ a ≠ 0 := hgo
      clear ha ha1 hpre hgo
      by_cases hi2 : i = 2
      · subst hi2
        have hsucc : Hid (am N 3 = am N 2 ++ [46] ++ [dg N 2]) := rfl
        have hl2 := hl.2 (by omega)
        have hl46 : (am N 2 ++ [46]).length = 3 := by rw [List.length_append, hl2]; rfl
        have tok : True := trivial
        by_cases hd : (0 : Int) < (a : Int) % 10
        all_goals
         go_wp2_with (first | (at_builtin; have _u := tok; clear tok; refine wpList_append_own _ rfl _ _ 61 rfl w.heap.size 5 i0 (.int .u8 0) 1 1 Tryz.underlying61 hi hz0 hz1 hz2 rfl (by decide) _ _ _ rfl (ho.alloc _) ⟨wr.heap.size, 0, none⟩ 1 1 [.int .u8 46] rfl rfl (cell_one_new _ _ _) (byte_one _) (by unfold maxLen; omega) (by omega) (by have := hB.size; simp; omega) ?_; intro v2 w2 hown2 hgrow2 _; have hB2 : Below w.heap.size w w2 := (hB.alloc hB.size _).grown hgrow2 (by have := hB.size; simp; omega) (fun j hj => (ho.lt j hj).1); have hown2' : w2.ownsRow w.heap.size 5 1 v2 (am N 2 ++ [46]).length (byteCells (am N 2 ++ [46])) := bys_snoc (c := 46) rfl rfl hown2) | (at_builtin; refine wpList_append_own _ rfl _ _ 61 rfl w.heap.size 5 i0 (.int .u8 0) 1 1 Tryz.underlying61 hi hz0 hz1 hz2 rfl (by decide) _ _ _ rfl (hown2'.alloc _) ⟨w2.heap.size, 0, none⟩ 1 1 [_] rfl rfl (cell_one_new _ _ _) (byte_one _) (by unfold maxLen; omega) (by omega) (by have := hB2.size; simp; omega) ?_; intro v3 w3 hown3 hgrow3 _))
         go_roundw
         case rel => exact ⟨3, hi31, rfl, by rw [ha1'.out]; go_num, hpre2.out, by rw [hsucc.out]; exact bys_snoc (by have := hdg.out; omega) rfl hown3, (hB2.alloc hB2.size _).grown hgrow3 (by have := hB2.size; simp; omega) (fun j hj => (hown2.lt j hj).1)⟩
         case measure => simp [RowKit.intOf]; omega
      · have hi2b : ((i : Int) == 2) = false := by simp; omega
        have hsucc : Hid (am N (i + 1) = am N i ++ [dg N i]) := by
          unfold Hid
          show am N i ++ (if i = 2 then [46] else []) ++ [dg N i] = _
          rw [if_neg hi2]
          simp
        rcases hcond with hc3 | ⟨hc3, hcz⟩ <;> by_cases hd : (0 : Int) < (a : Int) % 10
        all_goals
          go_wp2_with (first | (at_builtin; refine wpList_append_own _ rfl _ _ 61 rfl w.heap.size 5 i0 (.int .u8 0) 1 1 Tryz.underlying61 hi hz0 hz1 hz2 rfl (by decide) _ _ _ rfl (ho.alloc _) ⟨wr.heap.size, 0, none⟩ 1 1 [_] rfl rfl (cell_one_new _ _ _) (byte_one _) (by unfold maxLen; omega) (by omega) (by have := hB.size; simp; omega) ?_; intro v2 w2 hown2 hgrow2 _))
          go_roundw
          case rel => exact ⟨i + 1, hi31, by go_num, by rw [ha1'.out]; go_num, hpre2.out, by rw [hsucc.out]; exact bys_snoc (by have := hdg.out; omega) rfl hown2, (hB.alloc hB.size _).grown hgrow2 (by have := hB.size; simp; omega) (fun j hj => (ho.lt j hj).1)⟩
          case measure => simp [RowKit.intOf]; omega
    · have h3 : ¬ (i : Int) < 3 := by omega
      obtain rfl : a = 0 := by omega
      have hF : Hid (amtL (-(N : Int)) = (am N i ++ [45]).reverse) := by
        unfold Hid
        rw [List.reverse_append, am_dec (by omega) ha hpre]
        unfold amtL
        rw [if_pos (by omega), Int.natAbs_neg, Int.natAbs_natCast]
        simp
      have hl := am_len N i
      have hlm : (am N i ++ [45]).length = (am N i).length + 1 := by simp
      rw [ha]
      clear ha hpre
      unfold Bys at ho
      have hneg : -(N : Int) < 0 := by omega
      have hdr := fun v W (h : BysAt W v (am N i ++ [45])) => turned_any v (am N i ++ [45]) (by omega) (by omega) W h
      go_wp2_with (first | (at_builtin; refine wpList_append_own _ rfl _ _ 61 rfl w.heap.size 5 i0 (.int .u8 0) 1 1 Tryz.underlying61 hi hz0 hz1 hz2 rfl (by decide) _ _ _ rfl (ho.alloc _) ⟨wr.heap.size, 0, none⟩ 1 1 [.int .u8 45] rfl rfl (cell_one_new _ _ _) (byte_one _) (by unfold maxLen; omega) (by omega) (by have := hB.size; simp; omega) ?_; intro v2 w2 hown2 hgrow2 _; have hB2 : Below w.heap.size w w2 := (hB.alloc hB.size _).grown hgrow2 (by have := hB.size; simp; omega) (fun j hj => (ho.lt j hj).1); have hat : BysAt w2 v2 (am N i ++ [45]) := bysAt_of (B := w.heap.size) (bys_snoc (c := 45) rfl rfl hown2) (by omega)) | (go_at_call 59; refine (hdr _ _ hat).mono ?_; rintro e w3 ⟨rfl, hb3⟩))
      go_ret
      exact ⟨by rw [hF.out, List.reverse_append]; rfl, below_step hB2 hb3⟩

/-- P4.12, the document's answer: the text of an amount. -/
theorem ramount_any (n : Int) (h0 : -9223372036854775808 ≤ n) (h1 : n ≤ 9223372036854775807) (w : World) :
    Calls Tryz.prog 43 #[.int .i64 n] w fun e w' => e = .returned (.string ⟨(amtL n).toArray⟩) ∧ Below w.heap.size w w' := by
  by_cases h : 0 ≤ n
  · obtain ⟨u, rfl⟩ : ∃ u : Nat, n = (u : Int) := ⟨n.natAbs, by omega⟩
    exact ramount_pos u (by omega) w
  · obtain ⟨u, rfl⟩ : ∃ u : Nat, n = -(u : Int) := ⟨n.natAbs, by omega⟩
    exact ramount_neg u (by omega) (by omega) w

end Go.Proofs.YtoippgmecnlhcaaGreatDoor.X.R


namespace Go.Proofs.YtoippgmecnlhcaaGreatDoor.X.R
open Go.RowKit Go.Sort Go.Lib

theorem digitsOf_at (z : Int) (u : Nat) (hz : z = (u : Int)) (hu : u ≤ 9223372036854775807) (S : List UInt8) (hS : decDigits u = S) (w : World) :
    Calls Tryz.prog 44 #[.int .i64 z] w fun e w' => e = .returned (.string ⟨S.toArray⟩) ∧ Below w.heap.size w w' := by
  rw [hz, ← hS]
  exact digitsOf_any u hu w

/-- The text that has been laid, and what is to come: together they are the whole. -/
def pctI (A D i r : Nat) (T : List UInt8) : Prop := r < D ∧ pctL A D = (tl D (6 - i) r).map fun l => T ++ (if i = 0 ∧ l ≠ [] then 46 :: l else l) ++ [37]
theorem pctI_start {A D : Nat} (hD : 0 < D) : pctI A D 0 (A % D) (decDigits (A / D)) := by
  refine ⟨Nat.mod_lt _ hD, ?_⟩
  unfold pctL
  congr 1
  funext l
  by_cases h : l = []
  · simp [h]
  · simp [h]
theorem pctI_step {A D i r : Nat} {T : List UInt8} (hD : 0 < D) (hi : i < 6) (hr : r ≠ 0) (h : pctI A D i r T) : pctI A D (i + 1) (10 * r % D) (T ++ (if i = 0 then [46] else []) ++ [ch (10 * r / D)]) := by
  refine ⟨Nat.mod_lt _ hD, ?_⟩
  rw [h.2, show 6 - i = (6 - (i + 1)) + 1 from by omega]
  show (if r = 0 then some [] else (tl D (6 - (i + 1)) (10 * r % D)).map (ch (10 * r / D) :: ·)).map _ = _
  rw [if_neg hr, Option.map_map]
  congr 1
  funext l
  by_cases h0 : i = 0
  · simp [h0]
  · simp [h0]
theorem pctI_end {A D i : Nat} {T : List UInt8} (h : pctI A D i 0 T) : pctL A D = some (T ++ [37]) := by
  rw [h.2]
  have : tl D (6 - i) 0 = some [] := by cases 6 - i <;> rfl
  rw [this]
  simp
theorem pctI_none {A D r : Nat} {T : List UInt8} (hr : r ≠ 0) (h : pctI A D 6 r T) : pctL A D = none := by
  rw [h.2]
  show (if r = 0 then some [] else none).map _ = _
  rw [if_neg hr]
  rfl

set_option maxRecDepth 4000 in
set_option maxHeartbeats 1000000 in
theorem rpercent_any (n d : Int) (hn : -9223372036854775808 ≤ n ∧ n ≤ 9223372036854775807) (hd : -9223372036854775808 ≤ d ∧ d ≤ 9223372036854775807) (w : World) :
    Calls Tryz.prog 45 #[.int .i64 n, .int .i64 d] w fun e w' => e = .returned (pctV (pct n d)) ∧ Below w.heap.size w w' := by
  by_cases hbad : n < 0 ∨ 1000000000 < n ∨ d < 1 ∨ 1000000000 < d
  · have hp : pct n d = none := if_pos hbad
    rw [hp]
    have hcs : n < 0 ∨ (¬ n < 0 ∧ 1000000000 < n) ∨ (¬ n < 0 ∧ ¬ 1000000000 < n ∧ d < 1) ∨ (¬ n < 0 ∧ ¬ 1000000000 < n ∧ ¬ d < 1 ∧ 1000000000 < d) := by omega
    clear hp hbad
    rcases hcs with h1 | ⟨h1, h2⟩ | ⟨h1, h2, h3⟩ | ⟨h1, h2, h3, h4⟩
    all_goals
      go_enter Tryz.func45, Tryz.ntmps45
      go_wp2_with fail
      exact bodyPost_ret (v := pctV none) (by simp [results, Tryz.results45, go_sem, pctV]) rfl ⟨rfl, Below.refl _ _⟩
  · obtain ⟨N, rfl⟩ : ∃ N : Nat, n = (N : Int) := ⟨n.toNat, by omega⟩
    obtain ⟨D, rfl⟩ : ∃ D : Nat, d = (D : Int) := ⟨d.toNat, by omega⟩
    have hD : 0 < D := by omega
    have hN9 : N ≤ 1000000000 := by omega
    have hD9 : D ≤ 1000000000 := by omega
    have h1 : ¬ (N : Int) < 0 := by omega
    have h2 : ¬ (1000000000 : Int) < N := by omega
    have h3 : ¬ (D : Int) < 1 := by omega
    have h4 : ¬ (1000000000 : Int) < D := by omega
    have hp : pct (N : Int) (D : Int) = pctL (100 * N) D := by
      unfold pct
      rw [if_neg hbad, Int.toNat_natCast, Int.toNat_natCast]
    rw [hp]
    clear hp hbad
    obtain ⟨R, hR0⟩ : ∃ R, pctL (100 * N) D = R := ⟨_, rfl⟩
    have hR : Hid (pctL (100 * N) D = R) := hR0
    rw [hR0]
    clear hR0
    have hst := pctI_start (A := 100 * N) hD
    have e1 : (100 * (N : Int) / (D : Int)) = ((100 * N / D : Nat) : Int) := by
      rw [show 100 * (N : Int) = ((100 * N : Nat) : Int) from by omega, Int.natCast_ediv]
    have e2 : (100 * (N : Int) % (D : Int)) = ((100 * N % D : Nat) : Int) := by
      rw [show 100 * (N : Int) = ((100 * N : Nat) : Int) from by omega, Int.natCast_emod]
    have hq : 100 * N / D ≤ 100 * N := Nat.div_le_self _ _
    have hqb : 100 * N / D ≤ 100000000000 := by omega
    generalize 100 * N / D = q at *
    generalize 100 * N % D = r0 at *
    obtain ⟨S, hS⟩ : ∃ S, decDigits q = S := ⟨_, rfl⟩
    have hSl : S.length ≤ 20 := by rw [← hS, decDigits_length]; exact nDigits_le20 _ (by omega)
    have hf : ∀ W, _ := fun W => digitsOf_at (q : Int) q rfl (by omega) S hS W
    rw [hS] at hst
    have hst' : Hid (pctI (100 * N) D 0 r0 S) := hst
    clear hS hst hq
    go_enter Tryz.func45, Tryz.ntmps45
    go_wp2_with (first | (go_at_call 44; refine (hf _).mono ?_; rintro e w1 ⟨rfl, hb1⟩))
    go_loopw [6, 7, 8] (fun s rr j wr => ∃ (i r : Nat) (T : List UInt8), i ≤ 6 ∧ j = .int .i64 i ∧ rr = .int .i64 (r : Int) ∧ s = .string ⟨T.toArray⟩ ∧ pctI (100 * N) D i r T ∧ T.length ≤ 30 + 2 * i ∧ Below w.heap.size w wr) (fun _ _ j _ => 7 - (RowKit.intOf j).toNat)
    case atStart => exact ⟨0, r0, S, by omega, rfl, by rw [e2], rfl, hst'.out, by omega, hb1⟩
    case round =>
      obtain ⟨i, r, T, hi6, rfl, rfl, rfl, hI, hTl, hB⟩ := hrel
      clear hst' hb1 hf hSl e1 e2
      have hrD : r < D := hI.1
      have hI' : Hid (pctI (100 * N) D i r T) := hI
      clear hI
      by_cases hr0 : r = 0
      · subst hr0
        have hE : Hid (R = some (T ++ [37])) := hR.out.symm.trans (pctI_end hI'.out)
        have hsum : ¬ 9223372036854775807 < T.length + 1 := by omega
        clear hR hI'
        go_wp2_with fail
        refine bodyPost_ret (v := .tuple #[.string (⟨T.toArray⟩ ++ ⟨[37].toArray⟩), .bool true]) (by simp [results, Tryz.results45, go_sem]) rfl ⟨?_, hB⟩
        rw [hE.out, ByteArray.mk_append_mk]
        rfl
      · have hrp : (0 : Int) < (r : Int) := by omega
        by_cases h6 : i = 6
        · subst h6
          have hE : Hid (R = none) := hR.out.symm.trans (pctI_none hr0 hI'.out)
          clear hR hI'
          go_wp2_with fail
          exact bodyPost_ret (v := pctV none) (by simp [results, Tryz.results45, go_sem, pctV]) rfl ⟨by rw [hE.out], hB⟩
        · have h6b : ((i : Int) == 6) = false := by simp; omega
          have hI2 : Hid _ := pctI_step hD (by omega) hr0 hI'.out
          have f1 : (10 * (r : Int) / (D : Int)) = ((10 * r / D : Nat) : Int) := by
            rw [show 10 * (r : Int) = ((10 * r : Nat) : Int) from by omega, Int.natCast_ediv]
          have f2 : (10 * (r : Int) % (D : Int)) = ((10 * r % D : Nat) : Int) := by
            rw [show 10 * (r : Int) = ((10 * r : Nat) : Int) from by omega, Int.natCast_emod]
          have hc : 10 * r / D < 10 := Nat.div_lt_of_lt_mul (by rw [Nat.mul_comm]; exact (Nat.mul_lt_mul_right (by decide)).2 hrD)
          generalize 10 * r / D = c at *
          generalize 10 * r % D = r' at *
          have hdc : ∀ W, _ := fun W => digitsOf_at (c : Int) c rfl (by omega) [ch c] (decDigits_one hc) W
          clear hI' hR
          by_cases h0 : i = 0
          · subst h0
            rw [if_pos rfl] at hI2
            have s1 : ¬ 9223372036854775807 < T.length + 1 := by omega
            have s2 : ¬ 9223372036854775807 < T.length + 1 + 1 := by omega
            go_wp2_with (first | (go_at_call 44; refine (hdc _).mono ?_; rintro e w1 ⟨rfl, hb1⟩))
            go_roundw
            case rel => exact ⟨1, r', T ++ [46] ++ [ch c], by omega, rfl, by rw [f2], by rw [← ByteArray.mk_append_mk, ← ByteArray.mk_append_mk], hI2.out, by simp; omega, below_step hB hb1⟩
            case measure => simp [RowKit.intOf]
          · have h0b : ((i : Int) == 0) = false := by simp; omega
            rw [if_neg h0, List.append_nil] at hI2
            have s1 : ¬ 9223372036854775807 < T.length + 1 := by omega
            go_wp2_with (first | (go_at_call 44; refine (hdc _).mono ?_; rintro e w1 ⟨rfl, hb1⟩))
            go_roundw
            case rel => exact ⟨i + 1, r', T ++ [ch c], by omega, by go_num, by rw [f2], by rw [← ByteArray.mk_append_mk], hI2.out, by simp; omega, below_step hB hb1⟩
            case measure => simp [RowKit.intOf]; omega

end Go.Proofs.YtoippgmecnlhcaaGreatDoor.X.R

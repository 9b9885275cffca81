import Derived.Test.YtemmljcmmjcngaaDoorWRef
namespace Go.Proofs.YtemmljcmmjcngaaDoor
open Go.RowKit Go.Sort Go.Lib

/-- The bytes that the document's Amount lays, the lowest digit first. -/
def am (N : Nat) : Nat → List UInt8
  | 0 => []
  | i + 1 => am N i ++ (if i = 2 then [46] else []) ++ [dg N i]
theorem dg_hundred (N t : Nat) : dg N (2 + t) = dg (N / 100) t := by
  unfold dg
  rw [Nat.pow_add, ← Nat.div_div_eq_div_mul]
theorem am_eq (N : Nat) : ∀ k, am N (k + 3) = [dg N 0, dg N 1, 46] ++ low (N / 100) (k + 1)
  | 0 => by
    have : dg N 2 = dg (N / 100) 0 := dg_hundred N 0
    simp [am, low, this]
  | k + 1 => by
    show am N (k + 3) ++ (if k + 3 = 2 then [46] else []) ++ [dg N (k + 3)] = _
    rw [am_eq N k, if_neg (by omega), low_succ _ (k + 1), show k + 3 = 2 + (k + 1) from by omega, dg_hundred]
    simp
theorem am_len (N : Nat) : ∀ i, (am N i).length ≤ i + 1 ∧ (i ≤ 2 → (am N i).length = i)
  | 0 => by simp [am]
  | i + 1 => by
    obtain ⟨h1, h2⟩ := am_len N i
    unfold am
    rw [List.length_append, List.length_append]
    by_cases h : i = 2
    · subst h
      rw [if_pos rfl]
      have := h2 (by omega)
      simp
      omega
    · rw [if_neg h]
      simp
      exact ⟨by omega, fun hi => h2 (by omega)⟩
theorem pad_two (N : Nat) : pad (N % 100) 2 = [dg N 1, dg N 0] := by
  unfold pad dg
  have e0 : N / 10 ^ 0 % 10 = N % 100 % 10 := by simp
  have e1 : N / 10 ^ 1 % 10 = N % 100 / 10 := by simp; omega
  rw [e0, e1]
  have hlt := Nat.mod_lt N (show 0 < 100 by decide)
  generalize N % 100 = m at *
  by_cases h : m < 10
  · rw [nDigits_small h, decDigits_one h, Nat.div_eq_of_lt h, Nat.mod_eq_of_lt h]
    rfl
  · rw [nDigits_big h, nDigits_small (by omega), decDigits_two h hlt]
    rfl
theorem am_dec {N i : Nat} (h3 : 3 ≤ i) (hz : N / 10 ^ i = 0) (hi : i ≤ 3 ∨ N / 10 ^ (i - 1) ≠ 0) : (am N i).reverse = decDigits (N / 100) ++ [46] ++ pad (N % 100) 2 := by
  obtain ⟨k, rfl⟩ : ∃ k, i = k + 3 := ⟨i - 3, by omega⟩
  have e2 : ∀ t, N / 100 / 10 ^ t = N / 10 ^ (t + 2) := fun t => by
    rw [Nat.div_div_eq_div_mul, show t + 2 = 2 + t from by omega, Nat.pow_add]
  have hd : (low (N / 100) (k + 1)).reverse = decDigits (N / 100) := by
    refine low_dec ?_ ?_
    · rcases hi with h | h
      · exact .inl (by omega)
      · right
        rw [show k + 3 - 1 = k + 2 from by omega, ← e2] at h
        exact (Nat.one_le_div_iff (Nat.pow_pos (by decide))).1 (Nat.pos_of_ne_zero h)
    · have : N / 100 / 10 ^ k / 10 = 0 := by rw [Nat.div_div_eq_div_mul, ← Nat.pow_succ, e2]; exact hz
      omega
  rw [am_eq, List.reverse_append, hd, pad_two]
  simp

set_option maxRecDepth 4000 in
set_option maxHeartbeats 1000000 in
theorem ramount_pos (N : Nat) (hN : N ≤ 9223372036854775807) (w : World) :
    Calls Tryd.prog 9 #[.int .i64 N] w fun e w' => e = .returned (.string ⟨(amtL N).toArray⟩) ∧ Below w.heap.size w w' := by
  obtain ⟨i0, hi, hz0, hz1, hz2⟩ := info_parts infoB
  go_enter Tryd.func9, Tryd.ntmps9
  go_wp2
  go_loopw [3, 4, 5] (fun m n j wr => ∃ i : Nat, i ≤ 30 ∧ j = .int .i64 i ∧ n = .int .i64 ((N / 10 ^ i : Nat) : Int) ∧ (i ≤ 3 ∨ N / 10 ^ (i - 1) ≠ 0) ∧ Bys w.heap.size wr m (am N i) ∧ Below w.heap.size w wr) (fun _ n j _ => (RowKit.intOf n).toNat + (3 - (RowKit.intOf j).toNat))
  case atStart => exact ⟨0, by omega, rfl, by simp, .inl (by omega), World.ownsRow_nil _ _ _ _, Below.refl _ _⟩
  case round =>
    obtain ⟨i, hi30, rfl, rfl, hpre, ho, hB⟩ := hrel
    obtain ⟨a, ha⟩ : ∃ a, N / 10 ^ i = a := ⟨_, rfl⟩
    have haN : a ≤ N := by rw [← ha]; exact Nat.div_le_self _ _
    by_cases hgo : i < 3 ∨ a ≠ 0
    · have hi0 : (0 : Int) ≤ (i : Int) := by omega
      have ha1 : N / 10 ^ (i + 1) = a / 10 := by rw [Nat.pow_succ, ← Nat.div_div_eq_div_mul, ha]
      have hdg : Hid (((dg N i).toNat : Int) = 48 + ((a % 10 : Nat) : Int)) := by
        unfold Hid
        rw [dg_nat, ha]
      have hpre2 : Hid (i + 1 ≤ 3 ∨ N / 10 ^ (i + 1 - 1) ≠ 0) := by
        unfold Hid
        rw [Nat.add_sub_cancel, ha]
        omega
      have hi31 : i + 1 ≤ 30 := by
        rcases Nat.lt_or_ge i 25 with h | h
        · omega
        · exfalso
          have h1 : 10 ^ 25 ≤ 10 ^ i := Nat.pow_le_pow_right (by decide) h
          have h2 : 9223372036854775807 < 10 ^ 25 := by decide
          have h3 : N / 10 ^ i = 0 := Nat.div_eq_of_lt (by omega)
          omega
      have hl := am_len N i
      have ha1' : Hid (N / 10 ^ (i + 1) = a / 10) := ha1
      have hcond : (i : Int) < 3 ∨ (¬ (i : Int) < 3 ∧ ((a : Int) != 0) = true) := by
        rcases Classical.em (i < 3) with h | h
        · exact .inl (by omega)
        · exact .inr ⟨by omega, by simp; omega⟩
      rw [ha]
      unfold Bys at ho
      have hmeas : i < 3 ∨ a ≠ 0 := hgo
      clear ha ha1 hpre hgo
      by_cases hi2 : i = 2
      · subst hi2
        have hsucc : Hid (am N 3 = am N 2 ++ [46] ++ [dg N 2]) := rfl
        have hl2 := hl.2 (by omega)
        have hl46 : (am N 2 ++ [46]).length = 3 := by rw [List.length_append, hl2]; rfl
        have tok : True := trivial
        go_wp2_with (first | (at_builtin; have _u := tok; clear tok; refine wpList_append_own _ rfl _ _ 30 rfl w.heap.size 5 i0 (.int .u8 0) 1 1 Tryd.underlying30 hi hz0 hz1 hz2 rfl (by decide) _ _ _ rfl (ho.alloc _) ⟨wr.heap.size, 0, none⟩ 1 1 [.int .u8 46] rfl rfl (cell_one_new _ _ _) (byte_one _) (by unfold maxLen; omega) (by omega) (by have := hB.size; simp; omega) ?_; intro v2 w2 hown2 hgrow2 _; have hB2 : Below w.heap.size w w2 := (hB.alloc hB.size _).grown hgrow2 (by have := hB.size; simp; omega) (fun j hj => (ho.lt j hj).1); have hown2' : w2.ownsRow w.heap.size 5 1 v2 (am N 2 ++ [46]).length (byteCells (am N 2 ++ [46])) := bys_snoc (c := 46) rfl rfl hown2) | (at_builtin; refine wpList_append_own _ rfl _ _ 30 rfl w.heap.size 5 i0 (.int .u8 0) 1 1 Tryd.underlying30 hi hz0 hz1 hz2 rfl (by decide) _ _ _ rfl (hown2'.alloc _) ⟨w2.heap.size, 0, none⟩ 1 1 [_] rfl rfl (cell_one_new _ _ _) (byte_one _) (by unfold maxLen; omega) (by omega) (by have := hB2.size; simp; omega) ?_; intro v3 w3 hown3 hgrow3 _))
        go_roundw
        case rel => exact ⟨3, hi31, rfl, by rw [ha1'.out]; go_num, hpre2.out, by rw [hsucc.out]; exact bys_snoc (by have := hdg.out; omega) rfl hown3, (hB2.alloc hB2.size _).grown hgrow3 (by have := hB2.size; simp; omega) (fun j hj => (hown2.lt j hj).1)⟩
        case measure => simp [RowKit.intOf]; omega
      · have hi2b : ((i : Int) == 2) = false := by simp; omega
        have hsucc : Hid (am N (i + 1) = am N i ++ [dg N i]) := by
          unfold Hid
          show am N i ++ (if i = 2 then [46] else []) ++ [dg N i] = _
          rw [if_neg hi2]
          simp
        rcases hcond with hc3 | ⟨hc3, hcz⟩
        all_goals
          go_wp2_with (first | (at_builtin; refine wpList_append_own _ rfl _ _ 30 rfl w.heap.size 5 i0 (.int .u8 0) 1 1 Tryd.underlying30 hi hz0 hz1 hz2 rfl (by decide) _ _ _ rfl (ho.alloc _) ⟨wr.heap.size, 0, none⟩ 1 1 [_] rfl rfl (cell_one_new _ _ _) (byte_one _) (by unfold maxLen; omega) (by omega) (by have := hB.size; simp; omega) ?_; intro v2 w2 hown2 hgrow2 _))
          go_roundw
          case rel => exact ⟨i + 1, hi31, by go_num, by rw [ha1'.out]; go_num, hpre2.out, by rw [hsucc.out]; exact bys_snoc (by have := hdg.out; omega) rfl hown2, (hB.alloc hB.size _).grown hgrow2 (by have := hB.size; simp; omega) (fun j hj => (ho.lt j hj).1)⟩
          case measure => simp [RowKit.intOf]; omega
    · have h3 : ¬ (i : Int) < 3 := by omega
      obtain rfl : a = 0 := by omega
      have hF : Hid (amtL (N : Int) = (am N i).reverse) := by
        unfold Hid
        rw [am_dec (by omega) ha hpre]
        unfold amtL
        rw [if_neg (by omega)]
        simp
      have hl := am_len N i
      have hat := bysAt_of ho (by have := am_eq N (i - 3); rw [show i - 3 + 3 = i from by omega] at this; rw [this]; simp)
      have hpos : 0 < (am N i).length := by have := am_eq N (i - 3); rw [show i - 3 + 3 = i from by omega] at this; rw [this]; simp
      rw [ha]
      clear ha hpre
      go_wp2_with (go_at_call 15; refine (turned_any _ _ hpos (by omega) _ hat).mono ?_; rintro e w1 ⟨rfl, hb1⟩)
      go_ret
      exact ⟨by rw [hF.out]; rfl, below_step hB hb1⟩

end Go.Proofs.YtemmljcmmjcngaaDoor

import Derived.Test.YtaecodgmfmijlaaDoorDMonthsT
import Derived.Test.YtaecodgmfmijlaaDoorDRef
namespace Go.Proofs.YtaecodgmfmijlaaDoor
open Go.RowKit

theorem infoQ : (Tryd.prog.info? 31).map (fun i => (i.zero, i.size, i.bytes)) = some (some (.agg #[.int .i64 0, .int .i64 0, .int .i64 0, .int .i64 0]), 4, 32) := by kernel_rfl

set_option maxRecDepth 4000 in
set_option maxHeartbeats 4000000 in
theorem rmonths_any (a b : Int) (full : List Pc) (hfull : Mo (if b ≤ 109572 then b else 109572) (if 0 ≤ a then a else 0) full) (W : World) :
    Calls Tryd.prog 6 #[.int .i64 a, .int .i64 b] W fun e W' => ∃ v, e = .returned v ∧ W'.ownsRow W.heap.size 31 4 v full.length (flatP full) ∧ Below W.heap.size W W' := by
  obtain ⟨lo, hlo, lo0⟩ : ∃ lo, (if 0 ≤ a then a else 0) = lo ∧ 0 ≤ lo := ⟨_, rfl, by split <;> omega⟩
  obtain ⟨hi, hhi, hi0⟩ : ∃ hi, (if b ≤ 109572 then b else 109572) = hi ∧ hi ≤ 109572 := ⟨_, rfl, by split <;> omega⟩
  rw [hlo, hhi] at hfull
  obtain ⟨i0, hi', hz0, hz1, hz2⟩ := info_parts infoQ
  have hlen := hfull.len hi0 0 (by omega) (by omega) (by rw [D.bg_0]; exact lo0)
  by_cases ca : a < 0 <;> by_cases cb : 109572 < b
  · have hl2 : lo = 0 := by rw [← hlo, if_neg (by omega)]
    have hh2 : hi = 109572 := by rw [← hhi, if_neg (by omega)]
    rw [hl2, hh2] at hfull
    rw [hl2] at lo0
    rw [hh2] at hi0
    clear hlo hhi hl2 hh2
    go_enter Tryd.func6, Tryd.ntmps6
    go_wp2
    go_loopw [0, 5] (fun x v wr => ∃ (m : Int) (pre rest : List Pc), x = .int .i64 m ∧ 0 ≤ m ∧ Hid (full = pre ++ rest) ∧ Hid (Mo 109572 m rest) ∧ wr.ownsRow W.heap.size 31 4 v pre.length (flatP pre) ∧ Below W.heap.size W wr) (fun x _ _ => (109574 - intOf x).toNat)
    case atStart => exact ⟨0, [], full, rfl, by omega, rfl, hfull, World.ownsRow_nil _ _ _ _, Below.refl _ _⟩
    case round =>
      obtain ⟨m, pre, rest, rfl, m0, hfu, hmo, ho, hBr⟩ := hrel
      by_cases hle : m ≤ 109572
      · obtain ⟨k, d, hk, en, he, l, rfl, hl⟩ : ∃ k d, ∃ _ : D.At m k d, ∃ en, ∃ _ : en = (if 109572 < m + D.ln k - (d + 1) then 109572 else m + D.ln k - (d + 1)), ∃ l, rest = ⟨1900 + k / 12, k % 12 + 1, d + 1, en - m + 1⟩ :: l ∧ Hid (Mo 109572 (en + 1) l) := by
          cases hmo.out with
          | nil h => omega
          | cons h k d hk en he hl => exact ⟨k, d, hk, en, he, _, rfl, hl⟩
        have he2 := mo_en hle hk
        rw [← he] at he2
        obtain ⟨en0, en1⟩ := he2
        have hDa := fun W => month_any m k d hk W
        have k0 := hk.k0
        have k1 := hk.k1
        have hLa := fun W => begins_any (k + 1) (by omega) (by omega) W
        have hbg : D.bg (k + 1) = m + D.ln k - d := by rw [D.bg_succ]; have := hk.eq; omega
        rw [hbg] at hLa
        have dd0 := hk.d0
        have dd1 := hk.d1
        have lb := D.ln_bd k
        have hpl : pre.length < 4000 := by
          have := congrArg List.length hfu.out
          simp at this
          omega
        have hne2 : Hid (full = (pre ++ [⟨1900 + k / 12, k % 12 + 1, d + 1, en - m + 1⟩]) ++ l) := by unfold Hid; rw [hfu.out]; simp
        clear hbg hk hmo hfu
        generalize D.ln k = L at *
        by_cases ce : 109572 + 1 < m + L - d
        · have he3 : 109572 = en := by rw [he, if_pos (by omega)]
          subst he3
          clear he
          go_wp2_with (first | (go_at_call 19; refine (hDa _).mono ?_; clear hDa; rintro _ w1 ⟨rfl, rfl⟩) | (go_at_call 20; refine (hLa _).mono ?_; clear hLa; rintro _ w1 ⟨rfl, rfl⟩) | (at_builtin; refine wpList_append_own _ rfl _ _ 22 rfl W.heap.size 31 i0 _ 4 32 Tryd.underlying22 hi' hz0 hz1 hz2 rfl (by decide) _ _ _ rfl (ho.alloc _) ⟨w1.heap.size, 0, none⟩ 1 1 [.int .i64 (1900 + k / 12), .int .i64 (k % 12 + 1), .int .i64 (d + 1), .int .i64 (109573 - m)] rfl rfl (cells4_new _ _ _ _ _ _) (by simp [Value.oneCell']) (by unfold maxLen; omega) (by omega) (by have := hBr.size; simp; omega) ?_; intro v' w2 hown' hgrow _))
          have eC : 109573 - m = 109572 - m + 1 := by omega
          rw [eC] at hown'
          go_roundw
          case rel =>
            refine ⟨109572 + 1, pre ++ [⟨1900 + k / 12, k % 12 + 1, d + 1, 109572 - m + 1⟩], l, by first | rfl | (congr 1; omega), by omega, hne2, hl, ?_, (hBr.alloc hBr.size _).grown hgrow (by have := hBr.size; simp; omega) (fun j hj => (ho.lt j hj).1)⟩
            rw [flatP_snoc, List.length_append]
            exact hown'
          case measure => simp [intOf]; omega
        · have he3 : m + L - (d + 1) = en := by rw [he, if_neg (by omega)]
          subst he3
          clear he
          go_wp2_with (first | (go_at_call 19; refine (hDa _).mono ?_; clear hDa; rintro _ w1 ⟨rfl, rfl⟩) | (go_at_call 20; refine (hLa _).mono ?_; clear hLa; rintro _ w1 ⟨rfl, rfl⟩) | (at_builtin; refine wpList_append_own _ rfl _ _ 22 rfl W.heap.size 31 i0 _ 4 32 Tryd.underlying22 hi' hz0 hz1 hz2 rfl (by decide) _ _ _ rfl (ho.alloc _) ⟨w1.heap.size, 0, none⟩ 1 1 [.int .i64 (1900 + k / 12), .int .i64 (k % 12 + 1), .int .i64 (d + 1), .int .i64 (m + L - d - m)] rfl rfl (cells4_new _ _ _ _ _ _) (by simp [Value.oneCell']) (by unfold maxLen; omega) (by omega) (by have := hBr.size; simp; omega) ?_; intro v' w2 hown' hgrow _))
          have eC : m + L - d - m = m + L - (d + 1) - m + 1 := by omega
          rw [eC] at hown'
          go_roundw
          case rel =>
            refine ⟨m + L - (d + 1) + 1, pre ++ [⟨1900 + k / 12, k % 12 + 1, d + 1, m + L - (d + 1) - m + 1⟩], l, by first | rfl | (congr 1; omega), by omega, hne2, hl, ?_, (hBr.alloc hBr.size _).grown hgrow (by have := hBr.size; simp; omega) (fun j hj => (ho.lt j hj).1)⟩
            rw [flatP_snoc, List.length_append]
            exact hown'
          case measure => simp [intOf]; omega
      · obtain rfl : rest = [] := by
          cases hmo.out with
          | nil h => rfl
          | cons h => omega
        go_wp2
        go_ret
        refine ⟨_, rfl, ?_, hBr⟩
        have := hfu.out
        simp only [List.append_nil] at this
        rw [this]
        exact ho
  · have hl2 : lo = 0 := by rw [← hlo, if_neg (by omega)]
    have hh2 : hi = b := by rw [← hhi, if_pos (by omega)]
    rw [hl2, hh2] at hfull
    rw [hl2] at lo0
    rw [hh2] at hi0
    clear hlo hhi hl2 hh2
    go_enter Tryd.func6, Tryd.ntmps6
    go_wp2
    go_loopw [0, 5] (fun x v wr => ∃ (m : Int) (pre rest : List Pc), x = .int .i64 m ∧ 0 ≤ m ∧ Hid (full = pre ++ rest) ∧ Hid (Mo b m rest) ∧ wr.ownsRow W.heap.size 31 4 v pre.length (flatP pre) ∧ Below W.heap.size W wr) (fun x _ _ => (109574 - intOf x).toNat)
    case atStart => exact ⟨0, [], full, rfl, by omega, rfl, hfull, World.ownsRow_nil _ _ _ _, Below.refl _ _⟩
    case round =>
      obtain ⟨m, pre, rest, rfl, m0, hfu, hmo, ho, hBr⟩ := hrel
      by_cases hle : m ≤ b
      · obtain ⟨k, d, hk, en, he, l, rfl, hl⟩ : ∃ k d, ∃ _ : D.At m k d, ∃ en, ∃ _ : en = (if b < m + D.ln k - (d + 1) then b else m + D.ln k - (d + 1)), ∃ l, rest = ⟨1900 + k / 12, k % 12 + 1, d + 1, en - m + 1⟩ :: l ∧ Hid (Mo b (en + 1) l) := by
          cases hmo.out with
          | nil h => omega
          | cons h k d hk en he hl => exact ⟨k, d, hk, en, he, _, rfl, hl⟩
        have he2 := mo_en hle hk
        rw [← he] at he2
        obtain ⟨en0, en1⟩ := he2
        have hDa := fun W => month_any m k d hk W
        have k0 := hk.k0
        have k1 := hk.k1
        have hLa := fun W => begins_any (k + 1) (by omega) (by omega) W
        have hbg : D.bg (k + 1) = m + D.ln k - d := by rw [D.bg_succ]; have := hk.eq; omega
        rw [hbg] at hLa
        have dd0 := hk.d0
        have dd1 := hk.d1
        have lb := D.ln_bd k
        have hpl : pre.length < 4000 := by
          have := congrArg List.length hfu.out
          simp at this
          omega
        have hne2 : Hid (full = (pre ++ [⟨1900 + k / 12, k % 12 + 1, d + 1, en - m + 1⟩]) ++ l) := by unfold Hid; rw [hfu.out]; simp
        clear hbg hk hmo hfu
        generalize D.ln k = L at *
        by_cases ce : b + 1 < m + L - d
        · have he3 : b = en := by rw [he, if_pos (by omega)]
          subst he3
          clear he
          go_wp2_with (first | (go_at_call 19; refine (hDa _).mono ?_; clear hDa; rintro _ w1 ⟨rfl, rfl⟩) | (go_at_call 20; refine (hLa _).mono ?_; clear hLa; rintro _ w1 ⟨rfl, rfl⟩) | (at_builtin; refine wpList_append_own _ rfl _ _ 22 rfl W.heap.size 31 i0 _ 4 32 Tryd.underlying22 hi' hz0 hz1 hz2 rfl (by decide) _ _ _ rfl (ho.alloc _) ⟨w1.heap.size, 0, none⟩ 1 1 [.int .i64 (1900 + k / 12), .int .i64 (k % 12 + 1), .int .i64 (d + 1), .int .i64 (b + 1 - m)] rfl rfl (cells4_new _ _ _ _ _ _) (by simp [Value.oneCell']) (by unfold maxLen; omega) (by omega) (by have := hBr.size; simp; omega) ?_; intro v' w2 hown' hgrow _))
          have eC : b + 1 - m = b - m + 1 := by omega
          rw [eC] at hown'
          go_roundw
          case rel =>
            refine ⟨b + 1, pre ++ [⟨1900 + k / 12, k % 12 + 1, d + 1, b - m + 1⟩], l, by first | rfl | (congr 1; omega), by omega, hne2, hl, ?_, (hBr.alloc hBr.size _).grown hgrow (by have := hBr.size; simp; omega) (fun j hj => (ho.lt j hj).1)⟩
            rw [flatP_snoc, List.length_append]
            exact hown'
          case measure => simp [intOf]; omega
        · have he3 : m + L - (d + 1) = en := by rw [he, if_neg (by omega)]
          subst he3
          clear he
          go_wp2_with (first | (go_at_call 19; refine (hDa _).mono ?_; clear hDa; rintro _ w1 ⟨rfl, rfl⟩) | (go_at_call 20; refine (hLa _).mono ?_; clear hLa; rintro _ w1 ⟨rfl, rfl⟩) | (at_builtin; refine wpList_append_own _ rfl _ _ 22 rfl W.heap.size 31 i0 _ 4 32 Tryd.underlying22 hi' hz0 hz1 hz2 rfl (by decide) _ _ _ rfl (ho.alloc _) ⟨w1.heap.size, 0, none⟩ 1 1 [.int .i64 (1900 + k / 12), .int .i64 (k % 12 + 1), .int .i64 (d + 1), .int .i64 (m + L - d - m)] rfl rfl (cells4_new _ _ _ _ _ _) (by simp [Value.oneCell']) (by unfold maxLen; omega) (by omega) (by have := hBr.size; simp; omega) ?_; intro v' w2 hown' hgrow _))
          have eC : m + L - d - m = m + L - (d + 1) - m + 1 := by omega
          rw [eC] at hown'
          go_roundw
          case rel =>
            refine ⟨m + L - (d + 1) + 1, pre ++ [⟨1900 + k / 12, k % 12 + 1, d + 1, m + L - (d + 1) - m + 1⟩], l, by first | rfl | (congr 1; omega), by omega, hne2, hl, ?_, (hBr.alloc hBr.size _).grown hgrow (by have := hBr.size; simp; omega) (fun j hj => (ho.lt j hj).1)⟩
            rw [flatP_snoc, List.length_append]
            exact hown'
          case measure => simp [intOf]; omega
      · obtain rfl : rest = [] := by
          cases hmo.out with
          | nil h => rfl
          | cons h => omega
        go_wp2
        go_ret
        refine ⟨_, rfl, ?_, hBr⟩
        have := hfu.out
        simp only [List.append_nil] at this
        rw [this]
        exact ho
  · have hl2 : lo = a := by rw [← hlo, if_pos (by omega)]
    have hh2 : hi = 109572 := by rw [← hhi, if_neg (by omega)]
    rw [hl2, hh2] at hfull
    rw [hl2] at lo0
    rw [hh2] at hi0
    clear hlo hhi hl2 hh2
    go_enter Tryd.func6, Tryd.ntmps6
    go_wp2
    go_loopw [0, 5] (fun x v wr => ∃ (m : Int) (pre rest : List Pc), x = .int .i64 m ∧ a ≤ m ∧ Hid (full = pre ++ rest) ∧ Hid (Mo 109572 m rest) ∧ wr.ownsRow W.heap.size 31 4 v pre.length (flatP pre) ∧ Below W.heap.size W wr) (fun x _ _ => (109574 - intOf x).toNat)
    case atStart => exact ⟨a, [], full, rfl, by omega, rfl, hfull, World.ownsRow_nil _ _ _ _, Below.refl _ _⟩
    case round =>
      obtain ⟨m, pre, rest, rfl, m0, hfu, hmo, ho, hBr⟩ := hrel
      by_cases hle : m ≤ 109572
      · obtain ⟨k, d, hk, en, he, l, rfl, hl⟩ : ∃ k d, ∃ _ : D.At m k d, ∃ en, ∃ _ : en = (if 109572 < m + D.ln k - (d + 1) then 109572 else m + D.ln k - (d + 1)), ∃ l, rest = ⟨1900 + k / 12, k % 12 + 1, d + 1, en - m + 1⟩ :: l ∧ Hid (Mo 109572 (en + 1) l) := by
          cases hmo.out with
          | nil h => omega
          | cons h k d hk en he hl => exact ⟨k, d, hk, en, he, _, rfl, hl⟩
        have he2 := mo_en hle hk
        rw [← he] at he2
        obtain ⟨en0, en1⟩ := he2
        have hDa := fun W => month_any m k d hk W
        have k0 := hk.k0
        have k1 := hk.k1
        have hLa := fun W => begins_any (k + 1) (by omega) (by omega) W
        have hbg : D.bg (k + 1) = m + D.ln k - d := by rw [D.bg_succ]; have := hk.eq; omega
        rw [hbg] at hLa
        have dd0 := hk.d0
        have dd1 := hk.d1
        have lb := D.ln_bd k
        have hpl : pre.length < 4000 := by
          have := congrArg List.length hfu.out
          simp at this
          omega
        have hne2 : Hid (full = (pre ++ [⟨1900 + k / 12, k % 12 + 1, d + 1, en - m + 1⟩]) ++ l) := by unfold Hid; rw [hfu.out]; simp
        clear hbg hk hmo hfu
        generalize D.ln k = L at *
        by_cases ce : 109572 + 1 < m + L - d
        · have he3 : 109572 = en := by rw [he, if_pos (by omega)]
          subst he3
          clear he
          go_wp2_with (first | (go_at_call 19; refine (hDa _).mono ?_; clear hDa; rintro _ w1 ⟨rfl, rfl⟩) | (go_at_call 20; refine (hLa _).mono ?_; clear hLa; rintro _ w1 ⟨rfl, rfl⟩) | (at_builtin; refine wpList_append_own _ rfl _ _ 22 rfl W.heap.size 31 i0 _ 4 32 Tryd.underlying22 hi' hz0 hz1 hz2 rfl (by decide) _ _ _ rfl (ho.alloc _) ⟨w1.heap.size, 0, none⟩ 1 1 [.int .i64 (1900 + k / 12), .int .i64 (k % 12 + 1), .int .i64 (d + 1), .int .i64 (109573 - m)] rfl rfl (cells4_new _ _ _ _ _ _) (by simp [Value.oneCell']) (by unfold maxLen; omega) (by omega) (by have := hBr.size; simp; omega) ?_; intro v' w2 hown' hgrow _))
          have eC : 109573 - m = 109572 - m + 1 := by omega
          rw [eC] at hown'
          go_roundw
          case rel =>
            refine ⟨109572 + 1, pre ++ [⟨1900 + k / 12, k % 12 + 1, d + 1, 109572 - m + 1⟩], l, by first | rfl | (congr 1; omega), by omega, hne2, hl, ?_, (hBr.alloc hBr.size _).grown hgrow (by have := hBr.size; simp; omega) (fun j hj => (ho.lt j hj).1)⟩
            rw [flatP_snoc, List.length_append]
            exact hown'
          case measure => simp [intOf]; omega
        · have he3 : m + L - (d + 1) = en := by rw [he, if_neg (by omega)]
          subst he3
          clear he
          go_wp2_with (first | (go_at_call 19; refine (hDa _).mono ?_; clear hDa; rintro _ w1 ⟨rfl, rfl⟩) | (go_at_call 20; refine (hLa _).mono ?_; clear hLa; rintro _ w1 ⟨rfl, rfl⟩) | (at_builtin; refine wpList_append_own _ rfl _ _ 22 rfl W.heap.size 31 i0 _ 4 32 Tryd.underlying22 hi' hz0 hz1 hz2 rfl (by decide) _ _ _ rfl (ho.alloc _) ⟨w1.heap.size, 0, none⟩ 1 1 [.int .i64 (1900 + k / 12), .int .i64 (k % 12 + 1), .int .i64 (d + 1), .int .i64 (m + L - d - m)] rfl rfl (cells4_new _ _ _ _ _ _) (by simp [Value.oneCell']) (by unfold maxLen; omega) (by omega) (by have := hBr.size; simp; omega) ?_; intro v' w2 hown' hgrow _))
          have eC : m + L - d - m = m + L - (d + 1) - m + 1 := by omega
          rw [eC] at hown'
          go_roundw
          case rel =>
            refine ⟨m + L - (d + 1) + 1, pre ++ [⟨1900 + k / 12, k % 12 + 1, d + 1, m + L - (d + 1) - m + 1⟩], l, by first | rfl | (congr 1; omega), by omega, hne2, hl, ?_, (hBr.alloc hBr.size _).grown hgrow (by have := hBr.size; simp; omega) (fun j hj => (ho.lt j hj).1)⟩
            rw [flatP_snoc, List.length_append]
            exact hown'
          case measure => simp [intOf]; omega
      · obtain rfl : rest = [] := by
          cases hmo.out with
          | nil h => rfl
          | cons h => omega
        go_wp2
        go_ret
        refine ⟨_, rfl, ?_, hBr⟩
        have := hfu.out
        simp only [List.append_nil] at this
        rw [this]
        exact ho
  · have hl2 : lo = a := by rw [← hlo, if_pos (by omega)]
    have hh2 : hi = b := by rw [← hhi, if_pos (by omega)]
    rw [hl2, hh2] at hfull
    rw [hl2] at lo0
    rw [hh2] at hi0
    clear hlo hhi hl2 hh2
    go_enter Tryd.func6, Tryd.ntmps6
    go_wp2
    go_loopw [0, 5] (fun x v wr => ∃ (m : Int) (pre rest : List Pc), x = .int .i64 m ∧ a ≤ m ∧ Hid (full = pre ++ rest) ∧ Hid (Mo b m rest) ∧ wr.ownsRow W.heap.size 31 4 v pre.length (flatP pre) ∧ Below W.heap.size W wr) (fun x _ _ => (109574 - intOf x).toNat)
    case atStart => exact ⟨a, [], full, rfl, by omega, rfl, hfull, World.ownsRow_nil _ _ _ _, Below.refl _ _⟩
    case round =>
      obtain ⟨m, pre, rest, rfl, m0, hfu, hmo, ho, hBr⟩ := hrel
      by_cases hle : m ≤ b
      · obtain ⟨k, d, hk, en, he, l, rfl, hl⟩ : ∃ k d, ∃ _ : D.At m k d, ∃ en, ∃ _ : en = (if b < m + D.ln k - (d + 1) then b else m + D.ln k - (d + 1)), ∃ l, rest = ⟨1900 + k / 12, k % 12 + 1, d + 1, en - m + 1⟩ :: l ∧ Hid (Mo b (en + 1) l) := by
          cases hmo.out with
          | nil h => omega
          | cons h k d hk en he hl => exact ⟨k, d, hk, en, he, _, rfl, hl⟩
        have he2 := mo_en hle hk
        rw [← he] at he2
        obtain ⟨en0, en1⟩ := he2
        have hDa := fun W => month_any m k d hk W
        have k0 := hk.k0
        have k1 := hk.k1
        have hLa := fun W => begins_any (k + 1) (by omega) (by omega) W
        have hbg : D.bg (k + 1) = m + D.ln k - d := by rw [D.bg_succ]; have := hk.eq; omega
        rw [hbg] at hLa
        have dd0 := hk.d0
        have dd1 := hk.d1
        have lb := D.ln_bd k
        have hpl : pre.length < 4000 := by
          have := congrArg List.length hfu.out
          simp at this
          omega
        have hne2 : Hid (full = (pre ++ [⟨1900 + k / 12, k % 12 + 1, d + 1, en - m + 1⟩]) ++ l) := by unfold Hid; rw [hfu.out]; simp
        clear hbg hk hmo hfu
        generalize D.ln k = L at *
        by_cases ce : b + 1 < m + L - d
        · have he3 : b = en := by rw [he, if_pos (by omega)]
          subst he3
          clear he
          go_wp2_with (first | (go_at_call 19; refine (hDa _).mono ?_; clear hDa; rintro _ w1 ⟨rfl, rfl⟩) | (go_at_call 20; refine (hLa _).mono ?_; clear hLa; rintro _ w1 ⟨rfl, rfl⟩) | (at_builtin; refine wpList_append_own _ rfl _ _ 22 rfl W.heap.size 31 i0 _ 4 32 Tryd.underlying22 hi' hz0 hz1 hz2 rfl (by decide) _ _ _ rfl (ho.alloc _) ⟨w1.heap.size, 0, none⟩ 1 1 [.int .i64 (1900 + k / 12), .int .i64 (k % 12 + 1), .int .i64 (d + 1), .int .i64 (b + 1 - m)] rfl rfl (cells4_new _ _ _ _ _ _) (by simp [Value.oneCell']) (by unfold maxLen; omega) (by omega) (by have := hBr.size; simp; omega) ?_; intro v' w2 hown' hgrow _))
          have eC : b + 1 - m = b - m + 1 := by omega
          rw [eC] at hown'
          go_roundw
          case rel =>
            refine ⟨b + 1, pre ++ [⟨1900 + k / 12, k % 12 + 1, d + 1, b - m + 1⟩], l, by first | rfl | (congr 1; omega), by omega, hne2, hl, ?_, (hBr.alloc hBr.size _).grown hgrow (by have := hBr.size; simp; omega) (fun j hj => (ho.lt j hj).1)⟩
            rw [flatP_snoc, List.length_append]
            exact hown'
          case measure => simp [intOf]; omega
        · have he3 : m + L - (d + 1) = en := by rw [he, if_neg (by omega)]
          subst he3
          clear he
          go_wp2_with (first | (go_at_call 19; refine (hDa _).mono ?_; clear hDa; rintro _ w1 ⟨rfl, rfl⟩) | (go_at_call 20; refine (hLa _).mono ?_; clear hLa; rintro _ w1 ⟨rfl, rfl⟩) | (at_builtin; refine wpList_append_own _ rfl _ _ 22 rfl W.heap.size 31 i0 _ 4 32 Tryd.underlying22 hi' hz0 hz1 hz2 rfl (by decide) _ _ _ rfl (ho.alloc _) ⟨w1.heap.size, 0, none⟩ 1 1 [.int .i64 (1900 + k / 12), .int .i64 (k % 12 + 1), .int .i64 (d + 1), .int .i64 (m + L - d - m)] rfl rfl (cells4_new _ _ _ _ _ _) (by simp [Value.oneCell']) (by unfold maxLen; omega) (by omega) (by have := hBr.size; simp; omega) ?_; intro v' w2 hown' hgrow _))
          have eC : m + L - d - m = m + L - (d + 1) - m + 1 := by omega
          rw [eC] at hown'
          go_roundw
          case rel =>
            refine ⟨m + L - (d + 1) + 1, pre ++ [⟨1900 + k / 12, k % 12 + 1, d + 1, m + L - (d + 1) - m + 1⟩], l, by first | rfl | (congr 1; omega), by omega, hne2, hl, ?_, (hBr.alloc hBr.size _).grown hgrow (by have := hBr.size; simp; omega) (fun j hj => (ho.lt j hj).1)⟩
            rw [flatP_snoc, List.length_append]
            exact hown'
          case measure => simp [intOf]; omega
      · obtain rfl : rest = [] := by
          cases hmo.out with
          | nil h => rfl
          | cons h => omega
        go_wp2
        go_ret
        refine ⟨_, rfl, ?_, hBr⟩
        have := hfu.out
        simp only [List.append_nil] at this
        rw [this]
        exact ho

end Go.Proofs.YtaecodgmfmijlaaDoor

import Derived.Test.YtoippgmecnlhcaaGreatDoorJoin5
namespace Go.Proofs.YtoippgmecnlhcaaGreatDoor
open Go.RowKit

theorem rleap_any (y : Int) (w : World) : Calls Tryz.prog 127 #[.int .i64 y] w fun e w' => e = .returned (.bool (D.leap y)) ∧ w' = w := by
  rw [D.leap_tmod]
  by_cases h4 : y.tmod 4 = 0
  · by_cases h100 : y.tmod 100 = 0
    · go_enter Tryz.func127, Tryz.ntmps127
      go_wp2
      go_ret
      exact ⟨ret_bool (by rw [Bool.eq_iff_iff]; simp [h4, h100]), rfl⟩
    · go_enter Tryz.func127, Tryz.ntmps127
      go_wp2
      go_ret
      exact ⟨by simp [h4, h100], rfl⟩
  · go_enter Tryz.func127, Tryz.ntmps127
    go_wp2
    go_ret
    exact ⟨by simp [h4], rfl⟩

theorem rlast_any (y m : Int) (w : World) (L : Int) (hL : L = D.last y m) : Calls Tryz.prog 128 #[.int .i64 y, .int .i64 m] w fun e w' => e = .returned (.int .i64 L) ∧ w' = w := by
  by_cases h : 1 ≤ m ∧ m ≤ 12
  · have hm : m = 1 ∨ m = 2 ∨ m = 3 ∨ m = 4 ∨ m = 5 ∨ m = 6 ∨ m = 7 ∨ m = 8 ∨ m = 9 ∨ m = 10 ∨ m = 11 ∨ m = 12 := by omega
    clear h
    have hl := rleap_any y w
    cases hb : D.leap y with
    | true =>
      have hv : D.lv y = 1 := by rw [D.lv_leap, hb]; rfl
      rw [hb] at hl
      rcases hm with rfl | rfl | rfl | rfl | rfl | rfl | rfl | rfl | rfl | rfl | rfl | rfl
      all_goals
        simp [D.last, hv] at hL
        subst hL
        go_enter Tryz.func128, Tryz.ntmps128
        go_wp2_with (go_at_call 127; refine hl.mono ?_; rintro e w' ⟨rfl, rfl⟩)
        go_ret
        exact ⟨rfl, rfl⟩
    | false =>
      have hv : D.lv y = 0 := by rw [D.lv_leap, hb]; rfl
      rw [hb] at hl
      rcases hm with rfl | rfl | rfl | rfl | rfl | rfl | rfl | rfl | rfl | rfl | rfl | rfl
      all_goals
        simp [D.last, hv] at hL
        subst hL
        go_enter Tryz.func128, Tryz.ntmps128
        go_wp2_with (go_at_call 127; refine hl.mono ?_; rintro e w' ⟨rfl, rfl⟩)
        go_ret
        exact ⟨rfl, rfl⟩
  · rw [hL, D.last_no y m (by omega)]
    have h1 : (m == 1) = false := by simp; omega
    have h2 : (m == 2) = false := by simp; omega
    have h3 : (m == 3) = false := by simp; omega
    have h4 : (m == 4) = false := by simp; omega
    have h5 : (m == 5) = false := by simp; omega
    have h6 : (m == 6) = false := by simp; omega
    have h7 : (m == 7) = false := by simp; omega
    have h8 : (m == 8) = false := by simp; omega
    have h9 : (m == 9) = false := by simp; omega
    have h10 : (m == 10) = false := by simp; omega
    have h11 : (m == 11) = false := by simp; omega
    have h12 : (m == 12) = false := by simp; omega
    clear h hL
    go_enter Tryz.func128, Tryz.ntmps128
    go_wp2
    go_ret
    exact ⟨rfl, rfl⟩

set_option maxHeartbeats 1000000 in
theorem begins_any (k : Int) (h0 : 0 ≤ k) (h1 : k ≤ 3600) (w : World) :
    Calls Tryz.prog 98 #[.int .i64 k] w fun e w' => e = .returned (.int .i64 (D.bg k)) ∧ w' = w := by
  have e1 : k.tdiv 12 = k / 12 := Int.tdiv_eq_ediv_of_nonneg h0
  obtain ⟨q, hq⟩ : ∃ q, q = k / 12 := ⟨_, rfl⟩
  have q0 : 0 ≤ q := by omega
  have q1 : q ≤ 300 := by omega
  have hk0 : 12 * q ≤ k := by omega
  have hk1 : k < 12 * q + 12 := by omega
  rw [← hq] at e1
  clear hq
  obtain ⟨W, hW⟩ : ∃ W, W = w := ⟨_, rfl⟩
  rw [← hW]
  clear hW
  go_enter Tryz.func98, Tryz.ntmps98
  go_wp2
  go_loopw [3, 4] (fun v x wr => ∃ z : Int, x = .int .i64 z ∧ 0 ≤ z ∧ z ≤ q ∧ v = .int .i64 (D.ys (1900 + z)) ∧ wr = W) (fun _ x _ => (q - intOf x).toNat)
  case atStart => exact ⟨0, rfl, by omega, by omega, congrArg (Value.int .i64) (by decide), rfl⟩
  case round =>
    obtain ⟨z, rfl, z0, z1, rfl, rfl⟩ := hrel
    by_cases hz : z = q
    · subst hz
      have e2 : wrap64 (12 * z) = 12 * z := wrap64_id (by omega) (by omega)
      go_wp2
      obtain ⟨W1, hW1⟩ : ∃ W1, W1 = wr := ⟨_, rfl⟩
      go_loopw [3, 6] (fun v x wr => ∃ i : Int, x = .int .i64 i ∧ 12 * z ≤ i ∧ i ≤ k ∧ v = .int .i64 (D.bg i) ∧ wr = W1) (fun _ x _ => (k - intOf x).toNat)
      case atStart => exact ⟨12 * z, rfl, by omega, by omega, by rw [D.bg_year], hW1.symm⟩
      case round =>
        obtain ⟨i, rfl, i0, i1, rfl, hW2⟩ := hrel
        subst hW1
        subst hW2
        by_cases hi : i = k
        · subst hi
          go_wp2
          go_ret
          exact ⟨rfl, rfl⟩
        · have hlt : i < k := by omega
          have e3 : i.tmod 12 = i % 12 := Int.tmod_eq_emod_of_nonneg (by omega)
          have e4 : wrap64 (i % 12 + 1) = i % 12 + 1 := wrap64_id (by omega) (by omega)
          have e5 : wrap64 (1900 + z) = 1900 + z := wrap64_id (by omega) (by omega)
          have e6 : i / 12 = z := by omega
          have es := D.bg_succ i
          have bl := D.ln_bd i
          have b0 := D.bg_mono (j := 0) (k := i) (by omega)
          have b1 := D.bg_mono (j := i) (k := 3600) (by omega)
          rw [D.bg_0] at b0
          rw [D.bg_end] at b1
          have hL := rlast_any (1900 + z) (i % 12 + 1) wr (D.ln i) (by unfold D.ln; rw [e6])
          have e7 : wrap64 (D.bg i + D.ln i) = D.bg i + D.ln i := wrap64_id (by omega) (by omega)
          have e8 : wrap64 (i + 1) = i + 1 := wrap64_id (by omega) (by omega)
          go_wp2_with (go_at_call 128; refine hL.mono ?_; clear hL; rintro e wr ⟨rfl, rfl⟩)
          go_roundw
          case rel => exact ⟨i + 1, rfl, by omega, by omega, by rw [es], trivial⟩
          case measure => simp [intOf]; omega
    · have hlt : z < q := by omega
      have e2 : wrap64 (1900 + z) = 1900 + z := wrap64_id (by omega) (by omega)
      have es := D.ys_succ (1900 + z)
      have bz := D.ys_bd (1900 + z) (by omega) (by omega)
      have hl := rleap_any (1900 + z) wr
      have hv := D.lv_leap (1900 + z)
      have e3 : wrap64 (D.ys (1900 + z) + 365) = D.ys (1900 + z) + 365 := wrap64_id (by omega) (by omega)
      have e4 : wrap64 (D.ys (1900 + z) + 365 + 1) = D.ys (1900 + z) + 365 + 1 := wrap64_id (by omega) (by omega)
      have e5 : wrap64 (z + 1) = z + 1 := wrap64_id (by omega) (by omega)
      have e6 : 1900 + (z + 1) = 1900 + z + 1 := by omega
      cases hb : D.leap (1900 + z) with
      | true =>
        rw [hb] at hl hv
        simp only [if_pos] at hv
        have er : D.ys (1900 + (z + 1)) = D.ys (1900 + z) + 365 + 1 := by rw [e6, es, hv]
        clear e6 es hb hv
        go_wp2_with (go_at_call 127; refine hl.mono ?_; clear hl; rintro e wr ⟨rfl, rfl⟩)
        go_roundw
        case rel => exact ⟨z + 1, rfl, by omega, by omega, by rw [er], trivial⟩
        case measure => simp [intOf]; omega
      | false =>
        rw [hb] at hl hv
        rw [if_neg (by simp)] at hv
        have er : D.ys (1900 + (z + 1)) = D.ys (1900 + z) + 365 := by rw [e6, es, hv]; omega
        clear e6 es hb hv
        go_wp2_with (go_at_call 127; refine hl.mono ?_; clear hl; rintro e wr ⟨rfl, rfl⟩)
        go_roundw
        case rel => exact ⟨z + 1, rfl, by omega, by omega, by rw [er], trivial⟩
        case measure => simp [intOf]; omega

set_option maxHeartbeats 1000000 in
theorem month_any (n k d : Int) (h : D.At n k d) (w : World) :
    Calls Tryz.prog 78 #[.int .i64 n] w fun e w' => e = .returned (.tuple #[.int .i64 k, .int .i64 d]) ∧ w' = w := by
  obtain ⟨n0, n1⟩ := h.nn
  have hl := h.lo
  have hh := h.hi
  have heq : Hid (n = D.bg k + d) := h.eq
  have hd0 := h.d0
  have hb0 := D.bg_mono h.k0
  rw [D.bg_0] at hb0
  have k0 := h.k0
  have k1 := h.k1
  clear h
  obtain ⟨W, hW⟩ : ∃ W, W = w := ⟨_, rfl⟩
  rw [← hW]
  clear hW
  go_enter Tryz.func78, Tryz.ntmps78
  go_wp2
  go_loopw [4, 5] (fun x y wr => ∃ lo hi : Int, x = .int .i64 lo ∧ y = .int .i64 hi ∧ 0 ≤ lo ∧ lo < hi ∧ hi ≤ 3600 ∧ Hid (D.bg lo ≤ n ∧ n < D.bg hi) ∧ wr = W) (fun x y _ => (intOf y - intOf x).toNat)
  case atStart => exact ⟨0, 3600, rfl, rfl, by omega, by omega, by omega, ⟨by rw [D.bg_0]; omega, by rw [D.bg_end]; omega⟩, rfl⟩
  case round =>
    obtain ⟨lo, hi, rfl, rfl, l0, l1, l2, hb, rfl⟩ := hrel
    have e1 : wrap64 (hi - lo) = hi - lo := wrap64_id (by omega) (by omega)
    by_cases hd : 1 < hi - lo
    · have e2 : wrap64 (lo + hi) = lo + hi := wrap64_id (by omega) (by omega)
      have e3 : (lo + hi).tdiv 2 = (lo + hi) / 2 := Int.tdiv_eq_ediv_of_nonneg (by omega)
      obtain ⟨m, hm⟩ : ∃ m, m = (lo + hi) / 2 := ⟨_, rfl⟩
      have m0 : lo < m := by omega
      have m1 : m < hi := by omega
      rw [← hm] at e3
      clear hm
      have hB := begins_any m (by omega) (by omega) wr
      by_cases ht : D.bg m ≤ n
      · have hb2 : Hid (D.bg m ≤ n ∧ n < D.bg hi) := ⟨ht, hb.out.2⟩
        go_wp2_with (go_at_call 98; refine hB.mono ?_; clear hB; rintro e wr ⟨rfl, rfl⟩)
        go_roundw
        case rel => exact ⟨m, hi, rfl, rfl, by omega, by omega, by omega, hb2, trivial⟩
        case measure => simp [intOf]; omega
      · have hb2 : Hid (D.bg lo ≤ n ∧ n < D.bg m) := ⟨hb.out.1, by omega⟩
        go_wp2_with (go_at_call 98; refine hB.mono ?_; clear hB; rintro e wr ⟨rfl, rfl⟩)
        go_roundw
        case rel => exact ⟨lo, m, rfl, rfl, by omega, by omega, by omega, hb2, trivial⟩
        case measure => simp [intOf]; omega
    · have hk : lo = k := by
        have a := hb.out.1
        have b := hb.out.2
        have e : hi = lo + 1 := by omega
        rw [e] at b
        have c1 := D.bg_lt (j := k) (k := lo + 1) (by omega)
        have c2 := D.bg_lt (j := lo) (k := k + 1) (by omega)
        omega
      subst hk
      have e4 : wrap64 (n - D.bg lo) = n - D.bg lo := wrap64_id (by omega) (by omega)
      have hB := begins_any lo (by omega) (by omega) wr
      clear hb
      go_wp2_with (go_at_call 98; refine hB.mono ?_; clear hB; rintro e wr ⟨rfl, rfl⟩)
      exact bodyPost_ret (v := .tuple #[.int .i64 lo, .int .i64 d]) (by have := heq.out; simp [results, Tryz.results78, go_sem]; omega) rfl ⟨rfl, rfl⟩

end Go.Proofs.YtoippgmecnlhcaaGreatDoor


namespace Go.Proofs.YtoippgmecnlhcaaGreatDoor
open Go.RowKit

theorem is_any (n : Int) (w : World) : Calls Tryz.prog 77 #[.int .i64 n] w fun e w' => e = .returned (.bool (decide (0 ≤ n ∧ n ≤ 109572))) ∧ w' = w := by
  by_cases h : 0 ≤ n
  · go_enter Tryz.func77, Tryz.ntmps77
    go_wp2
    go_ret
    exact ⟨by simp [h], rfl⟩
  · go_enter Tryz.func77, Tryz.ntmps77
    go_wp2
    go_ret
    exact ⟨ret_bool (by simp; omega), rfl⟩
theorem is_yes (n : Int) (h0 : 0 ≤ n) (h1 : n ≤ 109572) (w : World) : Calls Tryz.prog 77 #[.int .i64 n] w fun e w' => e = .returned (.bool true) ∧ w' = w := by
  have := is_any n w
  rwa [decide_eq_true ⟨h0, h1⟩] at this
theorem is_no (n : Int) (h : ¬ (0 ≤ n ∧ n ≤ 109572)) (w : World) : Calls Tryz.prog 77 #[.int .i64 n] w fun e w' => e = .returned (.bool false) ∧ w' = w := by
  have := is_any n w
  rwa [decide_eq_false h] at this

end Go.Proofs.YtoippgmecnlhcaaGreatDoor


namespace Go.Proofs.YtoippgmecnlhcaaGreatDoor
open Go.RowKit

set_option maxHeartbeats 1000000 in
theorem rnumber_any (y m d : Int) (w : World) (v e : Int) (hv : Hid ((v, e) = D.num y m d)) :
    Calls Tryz.prog 145 #[.int .i64 y, .int .i64 m, .int .i64 d] w fun en w' => en = .returned (.tuple #[.int .i64 v, .int .i64 e]) ∧ w' = w := by
  have hv := hv.out
  have hL := rlast_any y m w _ rfl
  unfold D.num at hv
  by_cases h1 : d < 1 ∨ D.last y m < d
  · rw [if_pos h1] at hv
    obtain ⟨rfl, rfl⟩ := Prod.mk.inj hv
    clear hv
    generalize D.last y m = L at *
    by_cases h2 : d < 1
    · clear h1
      go_enter Tryz.func145, Tryz.ntmps145
      go_wp2_with (go_at_call 128; refine hL.mono ?_; clear hL; rintro e w ⟨rfl, rfl⟩)
      exact bodyPost_ret (v := .tuple #[.int .i64 0, .int .i64 20]) (by simp [results, Tryz.results145, go_sem]) rfl ⟨rfl, rfl⟩
    · have h3 : L < d := by omega
      clear h1
      go_enter Tryz.func145, Tryz.ntmps145
      go_wp2_with (go_at_call 128; refine hL.mono ?_; clear hL; rintro e w ⟨rfl, rfl⟩)
      exact bodyPost_ret (v := .tuple #[.int .i64 0, .int .i64 20]) (by simp [results, Tryz.results145, go_sem]) rfl ⟨rfl, rfl⟩
  · rw [if_neg h1] at hv
    have h2 : ¬ d < 1 := by omega
    have h3 : d ≤ D.last y m := by omega
    by_cases h4 : y < 1900 ∨ 2199 < y
    · rw [if_pos h4] at hv
      obtain ⟨rfl, rfl⟩ := Prod.mk.inj hv
      generalize D.last y m = L at *
      clear h1 hv
      by_cases h5 : y < 1900
      · clear h4
        go_enter Tryz.func145, Tryz.ntmps145
        go_wp2_with (go_at_call 128; refine hL.mono ?_; clear hL; rintro e w ⟨rfl, rfl⟩)
        exact bodyPost_ret (v := .tuple #[.int .i64 0, .int .i64 21]) (by simp [results, Tryz.results145, go_sem]) rfl ⟨rfl, rfl⟩
      · have h6 : 2199 < y := by omega
        clear h4
        go_enter Tryz.func145, Tryz.ntmps145
        go_wp2_with (go_at_call 128; refine hL.mono ?_; clear hL; rintro e w ⟨rfl, rfl⟩)
        exact bodyPost_ret (v := .tuple #[.int .i64 0, .int .i64 21]) (by simp [results, Tryz.results145, go_sem]) rfl ⟨rfl, rfl⟩
    · rw [if_neg h4] at hv
      obtain ⟨hv1, rfl⟩ := Prod.mk.inj hv
      have hm : 1 ≤ m ∧ m ≤ 12 := by
        apply Classical.byContradiction
        intro hn
        rw [D.last_no y m (by omega)] at h3
        omega
      have hl := D.last_bd y m hm.1 hm.2
      have hy0 : ¬ y < 1900 := by omega
      have hy1 : y ≤ 2199 := by omega
      have hbg := D.bg_ym (y := y) hm.1 hm.2
      have hB := begins_any (12 * (y - 1900) + m - 1) (by omega) (by omega) w
      have bb := D.ys_bd y (by omega) (by omega)
      have bm := D.ms_bd y m (by omega) (by omega)
      have e1 : wrap64 (y - 1900) = y - 1900 := wrap64_id (by omega) (by omega)
      have e2 : wrap64 (12 * (y - 1900)) = 12 * (y - 1900) := wrap64_id (by omega) (by omega)
      have e3 : wrap64 (12 * (y - 1900) + m) = 12 * (y - 1900) + m := wrap64_id (by omega) (by omega)
      have e4 : wrap64 (12 * (y - 1900) + m - 1) = 12 * (y - 1900) + m - 1 := wrap64_id (by omega) (by omega)
      generalize D.bg (12 * (y - 1900) + m - 1) = B at *
      have e5 : wrap64 (B + d) = B + d := wrap64_id (by omega) (by omega)
      have e6 : wrap64 (B + d - 1) = B + d - 1 := wrap64_id (by omega) (by omega)
      have ev : v = B + d - 1 := by omega
      subst ev
      generalize D.last y m = L at *
      clear h1 h4 hv hv1 hbg
      go_enter Tryz.func145, Tryz.ntmps145
      go_wp2_with (first | (go_at_call 128; refine hL.mono ?_; clear hL; rintro e w ⟨rfl, rfl⟩) | (go_at_call 98; refine hB.mono ?_; clear hB; rintro e w ⟨rfl, rfl⟩))
      exact bodyPost_ret (v := .tuple #[.int .i64 (B + d - 1), .int .i64 0]) (by simp [results, Tryz.results145, go_sem, e6]) rfl ⟨rfl, rfl⟩

set_option maxHeartbeats 1000000 in
theorem rdate_any (n y m d e : Int) (w : World) (h : Hid (D.Dat n y m d e)) :
    Calls Tryz.prog 60 #[.int .i64 n] w fun en w' => en = .returned (.tuple #[.int .i64 y, .int .i64 m, .int .i64 d, .int .i64 e]) ∧ w' = w := by
  cases h.out with
  | yes k d hk =>
    have n0 := hk.nn
    have k0 := hk.k0
    have k1 := hk.k1
    have d0 := hk.d0
    have d1 := hk.d1
    have hl := D.ln_bd k
    have hD := month_any n k d hk w
    have hI := is_yes n n0.1 n0.2 w
    have e1 : k.tdiv 12 = k / 12 := Int.tdiv_eq_ediv_of_nonneg k0
    have e2 : k.tmod 12 = k % 12 := Int.tmod_eq_emod_of_nonneg k0
    have e3 : wrap64 (1900 + k / 12) = 1900 + k / 12 := wrap64_id (by omega) (by omega)
    have e4 : wrap64 (k % 12 + 1) = k % 12 + 1 := wrap64_id (by omega) (by omega)
    have e5 : wrap64 (d + 1) = d + 1 := wrap64_id (by omega) (by omega)
    clear h hk n0 d1 hl
    go_enter Tryz.func60, Tryz.ntmps60
    go_wp2_with (first | (go_at_call 77; refine hI.mono ?_; clear hI; rintro e w ⟨rfl, rfl⟩) | (go_at_call 78; refine hD.mono ?_; clear hD; rintro e w ⟨rfl, rfl⟩))
    exact bodyPost_ret (v := .tuple #[.int .i64 (1900 + k / 12), .int .i64 (k % 12 + 1), .int .i64 (d + 1), .int .i64 0]) (by simp [results, Tryz.results60, go_sem, e5]) rfl ⟨rfl, rfl⟩
  | no hn =>
    have hI := is_no n hn w
    clear h hn
    go_enter Tryz.func60, Tryz.ntmps60
    go_wp2_with (go_at_call 77; refine hI.mono ?_; clear hI; rintro e w1 ⟨rfl, rfl⟩)
    exact bodyPost_ret (v := .tuple #[.int .i64 0, .int .i64 0, .int .i64 0, .int .i64 21]) (by simp [results, Tryz.results60, go_sem]) rfl ⟨rfl, rfl⟩


end Go.Proofs.YtoippgmecnlhcaaGreatDoor

import Derived.Test.YtmklkcefbabhbaaGreatJoin21
/- A table of bands. -/
namespace Go.Proofs.YtmklkcefbabhbaaGreat.R6
open Go.RowKit

set_option maxRecDepth 20000 in
set_option maxHeartbeats 2000000 in
theorem table_any (o : List UInt8 × List (Int × Int)) (a : Option Addr) (c : Nat) (all : Sn) (b : Option Addr) (d : Nat) (W : World) (hO : RowR eBd W AnyB o.2 a) (hA : RowR eS W AnyB all b) (hl : all.length ≤ 9223372036854775807) : Calls Tryz.prog 25 #[.agg #[.string ⟨o.1.toArray⟩, .slice a o.2.length c], .slice b all.length d] W (Lk (.int .i64 (tbE all o : Int)) W) := by
  obtain ⟨X, hXe⟩ : ∃ X, W.alloc (.cells #[.string ⟨o.1.toArray⟩, .slice a o.2.length c] 52) = X := ⟨_, rfl⟩
  have hb0 : Below W.heap.size W X := by rw [← hXe]; exact (Below.refl _ _).alloc (Nat.le_refl _) _
  have hXl : W.heap.size < X.heap.size := by rw [← hXe]; simp
  have hBx : Hid (∀ w, Below X.heap.size X w → w.cell? ⟨W.heap.size, 0, none⟩ = some (.string ⟨o.1.toArray⟩) ∧ w.cell? ⟨W.heap.size, 1, none⟩ = some (.slice a o.2.length c)) := ⟨fun w hw => ⟨(bel_cell hw hXl 0).trans (by rw [← hXe]; simp), (bel_cell hw hXl 1).trans (by rw [← hXe]; simp)⟩⟩
  obtain ⟨x0, x1⟩ := hBx.out X (Below.refl _ _)
  have hRX : Hid (∀ w, Below X.heap.size X w → RowR eBd w AnyB o.2 a) := ⟨fun w hw => row_bel (row_bel hO hb0 (Nat.le_refl _)) hw (Nat.le_refl _)⟩
  have hlk := look_any all b d o.1 X (row_bel hA hb0 (Nat.le_refl _)) hl
  clear hO hA
  obtain ⟨E, hE⟩ : ∃ E, lkN all o.1 = E := ⟨_, rfl⟩
  rw [hE] at hlk
  by_cases h0 : E = 0
  rotate_left
  · have h0' : ((E : Int) != 0) = true := by simp; omega
    have hf : tbE all o = E := by unfold tbE; rw [hE, if_pos h0]
    rw [hf]
    clear hf hE h0
    go_enter Tryz.func25, Tryz.ntmps25
    go_wp2_with (go_at_call 26; refine hlk.mono ?_; rintro e w1 ⟨rfl, hw⟩; subst w1)
    go_ret
    exact ⟨rfl, hb0⟩
  subst h0
  by_cases h1 : o.2.length < 1
  · have g0 : (o.2.length : Int) < 1 := by omega
    have hf : tbE all o = 60 := by unfold tbE; rw [hE, if_neg (by simp), if_pos (by omega)]
    rw [hf]
    clear hf hE
    go_enter Tryz.func25, Tryz.ntmps25
    go_wp2_with (go_at_call 26; refine hlk.mono ?_; rintro e w1 ⟨rfl, hw⟩; subst w1)
    go_ret
    exact ⟨rfl, hb0⟩
  by_cases h8 : 8 < o.2.length
  · have g0 : ¬ (o.2.length : Int) < 1 := by omega
    have g1 : (8 : Int) < (o.2.length : Int) := by omega
    have hf : tbE all o = 60 := by unfold tbE; rw [hE, if_neg (by simp), if_pos (by omega)]
    rw [hf]
    clear hf hE
    go_enter Tryz.func25, Tryz.ntmps25
    go_wp2_with (go_at_call 26; refine hlk.mono ?_; rintro e w1 ⟨rfl, hw⟩; subst w1)
    go_ret
    exact ⟨rfl, hb0⟩
  have g0 : ¬ (o.2.length : Int) < 1 := by omega
  have g1 : ¬ (8 : Int) < (o.2.length : Int) := by omega
  have hf : tbE all o = if rsF o.2 o.2 0 then 0 else 63 := by unfold tbE; rw [hE, if_neg (by simp), if_neg (by omega)]
  obtain ⟨N, hN⟩ : ∃ N, rsF o.2 o.2 0 = N := ⟨_, rfl⟩
  rw [hN] at hf
  have hN0 : Hid (rsF o.2 (o.2.drop 0) 0 = N) := ⟨hN⟩
  obtain ⟨R, hR⟩ : ∃ R, tbE all o = R := ⟨_, rfl⟩
  rw [hR] at hf
  rw [hR]
  have hRN : Hid (R = if N then 0 else 63) := ⟨hf⟩
  clear hR
  clear hf hE hN
  go_enter Tryz.func25, Tryz.ntmps25
  go_wp2_with (go_at_call 26; refine hlk.mono ?_; rintro e w1 ⟨rfl, hw⟩; subst w1)
  go_loopw [6] (fun iv wr => ∃ i : Nat, iv = .int .i64 (i : Int) ∧ i ≤ o.2.length ∧ Below X.heap.size X wr ∧ Hid (rsF o.2 (o.2.drop i) i = N)) (fun iv _ => o.2.length - (intOf iv).toNat)
  case atStart => exact ⟨0, rfl, Nat.zero_le _, Below.refl _ _, hN0⟩
  case round =>
    clear hN0 x0 x1 hlk
    obtain ⟨i, rfl, hi, hbw, hst⟩ := hrel
    obtain ⟨x0, x1⟩ := hBx.out _ hbw
    by_cases hlt : i < o.2.length
    · have hlt' : (i : Int) < (o.2.length : Int) := by omega
      have hi0 : (0 : Int) ≤ (i : Int) := by omega
      replace hst := hst.out
      rw [rs_step o.2 hlt] at hst
      have hR := hRX.out _ hbw
      obtain ⟨ge, oe, rfl⟩ := hR.some hlt
      have hgl : ge < wr.heap.size := by
        rcases hR with h | ⟨g, o', cs, e, -, hg, -⟩
        · rw [h] at hlt
          simp at hlt
        · simp only [Option.some.injEq, Addr.mk.injEq] at e
          omega
      have hkk : Hid (∀ j (h : j < o.2.length), wr.cell? ⟨ge, oe + j * 2, none⟩ = some (.int .i64 (o.2[j]).1) ∧ wr.cell? ⟨ge, oe + j * 2 + 1, none⟩ = some (.int .i64 (o.2[j]).2)) := ⟨fun j h => by
        obtain ⟨cs, -, -, ⟨rfl, -, -⟩, hcs⟩ := hR.item h
        exact ⟨hcs 0 (by decide), hcs 1 (by decide)⟩⟩
      obtain ⟨k0, k1⟩ := hkk.out i hlt
      have hbd : Hid (∀ y, bdB o.2 i y = ((if i = 0 then decide (y.1 = 0) else decide ((o.2.getD (i - 1) (0, 0)).1 < y.1)) && decide (y.1 ≤ 9999999999999) && decide (0 ≤ y.2) && decide (y.2 ≤ 1000000))) := ⟨fun y => rfl⟩
      obtain ⟨⟨y1, y2⟩, hy⟩ : ∃ y, o.2[i] = y := ⟨_, rfl⟩
      rw [hy] at k0 k1 hst
      replace hst := Hid.mk hst
      clear hy hR
      replace k0 : wr.cell? ⟨ge, oe + i * 2, none⟩ = some (.int .i64 y1) := k0
      replace k1 : wr.cell? ⟨ge, oe + i * 2 + 1, none⟩ = some (.int .i64 y2) := k1
      obtain ⟨Y, hYe⟩ : ∃ Y, wr.alloc (.cells #[.int .i64 y1, .int .i64 y2] 118) = Y := ⟨_, rfl⟩
      have hbY : Below wr.heap.size wr Y := by rw [← hYe]; exact (Below.refl _ _).alloc (Nat.le_refl _) _
      have z0 : Y.cell? ⟨wr.heap.size, 0, none⟩ = some (.int .i64 y1) := by rw [← hYe]; simp
      have z1 : Y.cell? ⟨wr.heap.size, 1, none⟩ = some (.int .i64 y2) := by rw [← hYe]; simp
      have hbXY := belT hbw hbY
      have x1Y := (hBx.out _ hbXY).2
      have hbq := Hid.mk (fun n => belT hbXY (drew_below Y n))
      have hkY : Hid (∀ j (h : j < o.2.length), Y.cell? ⟨ge, oe + j * 2, none⟩ = some (.int .i64 (o.2[j]).1)) := ⟨fun j h => (bel_cell hbY hgl _).trans (hkk.out j h).1⟩
      go_upto_region 10 with fail
      clear k0 k1 x0 x1 hYe hkk hbY
      by_cases hz : i = 0
      · have e0 : ((i : Int) == 0) = true := by simp; omega
        have e0' : ¬ (0 : Int) < (i : Int) := by omega
        have e0n : ¬ 0 < i := by omega
        by_cases hy1 : y1 = 0
        · have e1 : (y1 == 0) = true := by simp; omega
          replace hbd : Hid (bdB o.2 i (y1, y2) = (decide (y1 ≤ 9999999999999) && decide (0 ≤ y2) && decide (y2 ≤ 1000000))) := ⟨by rw [hbd.out, if_pos hz]; simp [hy1]⟩
          have v1 : ¬ (9999999999999 : Int) < y1 := by omega
          clear hz hy1
          by_cases v2 : y2 < 0
          · have u0 : ¬ (9999999999999 : Int) < y1 := by omega
            have u1 : y2 < 0 := by omega
            have hfi : false = N := by
              have := hst.out
              rw [show bdB o.2 i (y1, y2) = false from by rw [hbd.out]; simp; omega, Bool.false_and] at this
              exact this
            subst hfi
            obtain rfl : R = 63 := hRN.out
            clear hst hbd hRN
            go_quiet (fail)
            have hbn := hbq.out nq
            clear hbq
            go_wp2
            go_ret
            exact ⟨rfl, belT hb0 hbn⟩
          by_cases v3 : 1000000 < y2
          · have u0 : ¬ (9999999999999 : Int) < y1 := by omega
            have u1 : ¬ y2 < 0 := by omega
            have u2 : (1000000 : Int) < y2 := by omega
            have hfi : false = N := by
              have := hst.out
              rw [show bdB o.2 i (y1, y2) = false from by rw [hbd.out]; simp; omega, Bool.false_and] at this
              exact this
            subst hfi
            obtain rfl : R = 63 := hRN.out
            clear hst hbd hRN
            go_quiet (fail)
            have hbn := hbq.out nq
            clear hbq
            go_wp2
            go_ret
            exact ⟨rfl, belT hb0 hbn⟩
          have u0 : ¬ (9999999999999 : Int) < y1 := by omega
          have u1 : ¬ y2 < 0 := by omega
          have u2 : ¬ (1000000 : Int) < y2 := by omega
          have hnx : Hid (rsF o.2 (o.2.drop (i + 1)) (i + 1) = N) := ⟨by
            have := hst.out
            rw [show bdB o.2 i (y1, y2) = true from by rw [hbd.out]; simp; omega, Bool.true_and] at this
            exact this⟩
          clear hst hbd
          go_quiet (fail)
          have hbn := hbq.out nq
          clear hbq
          go_wp2
          exact ⟨⟨i + 1, rfl, hlt, hbn, hnx⟩, by simp only [intOf]; omega⟩
        · have e1 : (y1 == 0) = false := by simp; omega
          replace hbd : Hid (bdB o.2 i (y1, y2) = false) := ⟨by rw [hbd.out, if_pos hz]; simp [hy1]⟩
          clear hz hy1
          have hfi : false = N := by
            have := hst.out
            rw [show bdB o.2 i (y1, y2) = false from hbd.out, Bool.false_and] at this
            exact this
          subst hfi
          obtain rfl : R = 63 := hRN.out
          clear hst hbd hRN
          go_quiet (fail)
          have hbn := hbq.out nq
          clear hbq
          go_wp2
          go_ret
          exact ⟨rfl, belT hb0 hbn⟩
      · obtain ⟨k, rfl⟩ : ∃ k, i = k + 1 := ⟨i - 1, by omega⟩
        have e0 : ((k : Int) + 1 == 0) = false := by simp; omega
        have e0' : (0 : Int) < (k : Int) + 1 := by omega
        have e0n : 0 < k + 1 := by omega
        have kp := hkY.out k (by omega)
        have hpr : (o.2.getD (k + 1 - 1) (0, 0)).1 = (o.2[k]'(by omega)).1 := by
          rw [Nat.add_sub_cancel, List.getD_eq_getElem?_getD, List.getElem?_eq_getElem (by omega)]
          rfl
        generalize (o.2[k]'(by omega)).1 = pr at kp hpr
        have hkl : (k : Int) < (o.2.length : Int) := by omega
        have hk0 : (0 : Int) ≤ (k : Int) := by omega
        by_cases hy1 : pr < y1
        · replace hbd : Hid (bdB o.2 (k + 1) (y1, y2) = (decide (y1 ≤ 9999999999999) && decide (0 ≤ y2) && decide (y2 ≤ 1000000))) := ⟨by rw [hbd.out, if_neg (by omega), hpr]; simp [hy1]⟩
          clear hpr
          by_cases v1 : 9999999999999 < y1
          · have u0 : (9999999999999 : Int) < y1 := by omega
            have hfi : false = N := by
              have := hst.out
              rw [show bdB o.2 (k + 1) (y1, y2) = false from by rw [hbd.out]; simp; omega, Bool.false_and] at this
              exact this
            subst hfi
            obtain rfl : R = 63 := hRN.out
            clear hst hbd hRN
            go_quiet (fail)
            have hbn := hbq.out nq
            clear hbq
            go_wp2
            go_ret
            exact ⟨rfl, belT hb0 hbn⟩
          by_cases v2 : y2 < 0
          · have u0 : ¬ (9999999999999 : Int) < y1 := by omega
            have u1 : y2 < 0 := by omega
            have hfi : false = N := by
              have := hst.out
              rw [show bdB o.2 (k + 1) (y1, y2) = false from by rw [hbd.out]; simp; omega, Bool.false_and] at this
              exact this
            subst hfi
            obtain rfl : R = 63 := hRN.out
            clear hst hbd hRN
            go_quiet (fail)
            have hbn := hbq.out nq
            clear hbq
            go_wp2
            go_ret
            exact ⟨rfl, belT hb0 hbn⟩
          by_cases v3 : 1000000 < y2
          · have u0 : ¬ (9999999999999 : Int) < y1 := by omega
            have u1 : ¬ y2 < 0 := by omega
            have u2 : (1000000 : Int) < y2 := by omega
            have hfi : false = N := by
              have := hst.out
              rw [show bdB o.2 (k + 1) (y1, y2) = false from by rw [hbd.out]; simp; omega, Bool.false_and] at this
              exact this
            subst hfi
            obtain rfl : R = 63 := hRN.out
            clear hst hbd hRN
            go_quiet (fail)
            have hbn := hbq.out nq
            clear hbq
            go_wp2
            go_ret
            exact ⟨rfl, belT hb0 hbn⟩
          have u0 : ¬ (9999999999999 : Int) < y1 := by omega
          have u1 : ¬ y2 < 0 := by omega
          have u2 : ¬ (1000000 : Int) < y2 := by omega
          have hnx : Hid (rsF o.2 (o.2.drop (k + 1 + 1)) (k + 1 + 1) = N) := ⟨by
            have := hst.out
            rw [show bdB o.2 (k + 1) (y1, y2) = true from by rw [hbd.out]; simp; omega, Bool.true_and] at this
            exact this⟩
          clear hst hbd
          go_quiet (fail)
          have hbn := hbq.out nq
          clear hbq
          go_wp2
          exact ⟨⟨k + 1 + 1, rfl, hlt, hbn, hnx⟩, by simp only [intOf]; omega⟩
        · replace hbd : Hid (bdB o.2 (k + 1) (y1, y2) = false) := ⟨by rw [hbd.out, if_neg (by omega), hpr]; simp [hy1]⟩
          clear hpr
          have hfi : false = N := by
            have := hst.out
            rw [show bdB o.2 (k + 1) (y1, y2) = false from hbd.out, Bool.false_and] at this
            exact this
          subst hfi
          obtain rfl : R = 63 := hRN.out
          clear hst hbd hRN
          go_quiet (fail)
          have hbn := hbq.out nq
          clear hbq
          go_wp2
          go_ret
          exact ⟨rfl, belT hb0 hbn⟩
    · have hlt' : ¬ (i : Int) < (o.2.length : Int) := by omega
      obtain rfl : i = o.2.length := by omega
      have hfi : true = N := by rw [← hst.out, rs_end]
      subst hfi
      obtain rfl : R = 0 := hRN.out
      clear hst hRN
      go_wp2
      go_ret
      exact ⟨rfl, belT hb0 hbw⟩
end Go.Proofs.YtmklkcefbabhbaaGreat.R6


/- How many arguments. -/
namespace Go.Proofs.YtmklkcefbabhbaaGreat.R6
open Go.RowKit

set_option maxRecDepth 20000 in
set_option maxHeartbeats 8000000 in
theorem arity_any (op : Int) (W : World) : Calls Tryz.prog 103 #[.int .i64 op] W fun e W' => e = .returned (.tuple #[.int .i64 (arF op).1, .int .i64 (arF op).2]) ∧ W' = W := by
  by_cases c1 : op = 1
  · subst c1
    rw [show arF 1 = (0, 0) by decide]
    go_enter Tryz.func103, Tryz.ntmps103
    go_wp2
    refine bodyPost_ret (v := .tuple #[.int .i64 0, .int .i64 0]) (by simp [results, Tryz.results103, go_sem]) rfl ?_
    exact ⟨rfl, rfl⟩
  by_cases c2 : op = 2
  · subst c2
    rw [show arF 2 = (0, 0) by decide]
    go_enter Tryz.func103, Tryz.ntmps103
    go_wp2
    refine bodyPost_ret (v := .tuple #[.int .i64 0, .int .i64 0]) (by simp [results, Tryz.results103, go_sem]) rfl ?_
    exact ⟨rfl, rfl⟩
  by_cases c3 : op = 3
  · subst c3
    rw [show arF 3 = (0, 0) by decide]
    go_enter Tryz.func103, Tryz.ntmps103
    go_wp2
    refine bodyPost_ret (v := .tuple #[.int .i64 0, .int .i64 0]) (by simp [results, Tryz.results103, go_sem]) rfl ?_
    exact ⟨rfl, rfl⟩
  by_cases c4 : op = 4
  · subst c4
    rw [show arF 4 = (0, 0) by decide]
    go_enter Tryz.func103, Tryz.ntmps103
    go_wp2
    refine bodyPost_ret (v := .tuple #[.int .i64 0, .int .i64 0]) (by simp [results, Tryz.results103, go_sem]) rfl ?_
    exact ⟨rfl, rfl⟩
  by_cases c5 : op = 5
  · subst c5
    rw [show arF 5 = (0, 0) by decide]
    go_enter Tryz.func103, Tryz.ntmps103
    go_wp2
    refine bodyPost_ret (v := .tuple #[.int .i64 0, .int .i64 0]) (by simp [results, Tryz.results103, go_sem]) rfl ?_
    exact ⟨rfl, rfl⟩
  by_cases c6 : op = 6
  · subst c6
    rw [show arF 6 = (0, 0) by decide]
    go_enter Tryz.func103, Tryz.ntmps103
    go_wp2
    refine bodyPost_ret (v := .tuple #[.int .i64 0, .int .i64 0]) (by simp [results, Tryz.results103, go_sem]) rfl ?_
    exact ⟨rfl, rfl⟩
  by_cases c7 : op = 7
  · subst c7
    rw [show arF 7 = (0, 0) by decide]
    go_enter Tryz.func103, Tryz.ntmps103
    go_wp2
    refine bodyPost_ret (v := .tuple #[.int .i64 0, .int .i64 0]) (by simp [results, Tryz.results103, go_sem]) rfl ?_
    exact ⟨rfl, rfl⟩
  by_cases c8 : op = 8
  · subst c8
    rw [show arF 8 = (0, 0) by decide]
    go_enter Tryz.func103, Tryz.ntmps103
    go_wp2
    refine bodyPost_ret (v := .tuple #[.int .i64 0, .int .i64 0]) (by simp [results, Tryz.results103, go_sem]) rfl ?_
    exact ⟨rfl, rfl⟩
  by_cases c9 : op = 9
  · subst c9
    rw [show arF 9 = (0, 0) by decide]
    go_enter Tryz.func103, Tryz.ntmps103
    go_wp2
    refine bodyPost_ret (v := .tuple #[.int .i64 0, .int .i64 0]) (by simp [results, Tryz.results103, go_sem]) rfl ?_
    exact ⟨rfl, rfl⟩
  by_cases c10 : op = 10
  · subst c10
    rw [show arF 10 = (0, 0) by decide]
    go_enter Tryz.func103, Tryz.ntmps103
    go_wp2
    refine bodyPost_ret (v := .tuple #[.int .i64 0, .int .i64 0]) (by simp [results, Tryz.results103, go_sem]) rfl ?_
    exact ⟨rfl, rfl⟩
  by_cases c11 : op = 11
  · subst c11
    rw [show arF 11 = (0, 0) by decide]
    go_enter Tryz.func103, Tryz.ntmps103
    go_wp2
    refine bodyPost_ret (v := .tuple #[.int .i64 0, .int .i64 0]) (by simp [results, Tryz.results103, go_sem]) rfl ?_
    exact ⟨rfl, rfl⟩
  by_cases c12 : op = 12
  · subst c12
    rw [show arF 12 = (0, 0) by decide]
    go_enter Tryz.func103, Tryz.ntmps103
    go_wp2
    refine bodyPost_ret (v := .tuple #[.int .i64 0, .int .i64 0]) (by simp [results, Tryz.results103, go_sem]) rfl ?_
    exact ⟨rfl, rfl⟩
  by_cases c13 : op = 13
  · subst c13
    rw [show arF 13 = (2, 6) by decide]
    go_enter Tryz.func103, Tryz.ntmps103
    go_wp2
    refine bodyPost_ret (v := .tuple #[.int .i64 2, .int .i64 6]) (by simp [results, Tryz.results103, go_sem]) rfl ?_
    exact ⟨rfl, rfl⟩
  by_cases c19 : op = 19
  · subst c19
    rw [show arF 19 = (2, 6) by decide]
    go_enter Tryz.func103, Tryz.ntmps103
    go_wp2
    refine bodyPost_ret (v := .tuple #[.int .i64 2, .int .i64 6]) (by simp [results, Tryz.results103, go_sem]) rfl ?_
    exact ⟨rfl, rfl⟩
  by_cases c20 : op = 20
  · subst c20
    rw [show arF 20 = (2, 6) by decide]
    go_enter Tryz.func103, Tryz.ntmps103
    go_wp2
    refine bodyPost_ret (v := .tuple #[.int .i64 2, .int .i64 6]) (by simp [results, Tryz.results103, go_sem]) rfl ?_
    exact ⟨rfl, rfl⟩
  by_cases c31 : op = 31
  · subst c31
    rw [show arF 31 = (2, 6) by decide]
    go_enter Tryz.func103, Tryz.ntmps103
    go_wp2
    refine bodyPost_ret (v := .tuple #[.int .i64 2, .int .i64 6]) (by simp [results, Tryz.results103, go_sem]) rfl ?_
    exact ⟨rfl, rfl⟩
  by_cases c32 : op = 32
  · subst c32
    rw [show arF 32 = (2, 6) by decide]
    go_enter Tryz.func103, Tryz.ntmps103
    go_wp2
    refine bodyPost_ret (v := .tuple #[.int .i64 2, .int .i64 6]) (by simp [results, Tryz.results103, go_sem]) rfl ?_
    exact ⟨rfl, rfl⟩
  by_cases c15 : op = 15
  · subst c15
    rw [show arF 15 = (1, 1) by decide]
    go_enter Tryz.func103, Tryz.ntmps103
    go_wp2
    refine bodyPost_ret (v := .tuple #[.int .i64 1, .int .i64 1]) (by simp [results, Tryz.results103, go_sem]) rfl ?_
    exact ⟨rfl, rfl⟩
  by_cases c16 : op = 16
  · subst c16
    rw [show arF 16 = (1, 1) by decide]
    go_enter Tryz.func103, Tryz.ntmps103
    go_wp2
    refine bodyPost_ret (v := .tuple #[.int .i64 1, .int .i64 1]) (by simp [results, Tryz.results103, go_sem]) rfl ?_
    exact ⟨rfl, rfl⟩
  by_cases c21 : op = 21
  · subst c21
    rw [show arF 21 = (1, 1) by decide]
    go_enter Tryz.func103, Tryz.ntmps103
    go_wp2
    refine bodyPost_ret (v := .tuple #[.int .i64 1, .int .i64 1]) (by simp [results, Tryz.results103, go_sem]) rfl ?_
    exact ⟨rfl, rfl⟩
  by_cases c23 : op = 23
  · subst c23
    rw [show arF 23 = (1, 1) by decide]
    go_enter Tryz.func103, Tryz.ntmps103
    go_wp2
    refine bodyPost_ret (v := .tuple #[.int .i64 1, .int .i64 1]) (by simp [results, Tryz.results103, go_sem]) rfl ?_
    exact ⟨rfl, rfl⟩
  by_cases c24 : op = 24
  · subst c24
    rw [show arF 24 = (1, 1) by decide]
    go_enter Tryz.func103, Tryz.ntmps103
    go_wp2
    refine bodyPost_ret (v := .tuple #[.int .i64 1, .int .i64 1]) (by simp [results, Tryz.results103, go_sem]) rfl ?_
    exact ⟨rfl, rfl⟩
  by_cases c33 : op = 33
  · subst c33
    rw [show arF 33 = (1, 1) by decide]
    go_enter Tryz.func103, Tryz.ntmps103
    go_wp2
    refine bodyPost_ret (v := .tuple #[.int .i64 1, .int .i64 1]) (by simp [results, Tryz.results103, go_sem]) rfl ?_
    exact ⟨rfl, rfl⟩
  by_cases c35 : op = 35
  · subst c35
    rw [show arF 35 = (1, 1) by decide]
    go_enter Tryz.func103, Tryz.ntmps103
    go_wp2
    refine bodyPost_ret (v := .tuple #[.int .i64 1, .int .i64 1]) (by simp [results, Tryz.results103, go_sem]) rfl ?_
    exact ⟨rfl, rfl⟩
  by_cases c37 : op = 37
  · subst c37
    rw [show arF 37 = (1, 1) by decide]
    go_enter Tryz.func103, Tryz.ntmps103
    go_wp2
    refine bodyPost_ret (v := .tuple #[.int .i64 1, .int .i64 1]) (by simp [results, Tryz.results103, go_sem]) rfl ?_
    exact ⟨rfl, rfl⟩
  by_cases c22 : op = 22
  · subst c22
    rw [show arF 22 = (3, 3) by decide]
    go_enter Tryz.func103, Tryz.ntmps103
    go_wp2
    refine bodyPost_ret (v := .tuple #[.int .i64 3, .int .i64 3]) (by simp [results, Tryz.results103, go_sem]) rfl ?_
    exact ⟨rfl, rfl⟩
  by_cases c34 : op = 34
  · subst c34
    rw [show arF 34 = (3, 3) by decide]
    go_enter Tryz.func103, Tryz.ntmps103
    go_wp2
    refine bodyPost_ret (v := .tuple #[.int .i64 3, .int .i64 3]) (by simp [results, Tryz.results103, go_sem]) rfl ?_
    exact ⟨rfl, rfl⟩
  by_cases c14 : op = 14
  · subst c14
    rw [show arF 14 = (2, 2) by decide]
    go_enter Tryz.func103, Tryz.ntmps103
    go_wp2
    refine bodyPost_ret (v := .tuple #[.int .i64 2, .int .i64 2]) (by simp [results, Tryz.results103, go_sem]) rfl ?_
    exact ⟨rfl, rfl⟩
  by_cases c17 : op = 17
  · subst c17
    rw [show arF 17 = (2, 2) by decide]
    go_enter Tryz.func103, Tryz.ntmps103
    go_wp2
    refine bodyPost_ret (v := .tuple #[.int .i64 2, .int .i64 2]) (by simp [results, Tryz.results103, go_sem]) rfl ?_
    exact ⟨rfl, rfl⟩
  by_cases c18 : op = 18
  · subst c18
    rw [show arF 18 = (2, 2) by decide]
    go_enter Tryz.func103, Tryz.ntmps103
    go_wp2
    refine bodyPost_ret (v := .tuple #[.int .i64 2, .int .i64 2]) (by simp [results, Tryz.results103, go_sem]) rfl ?_
    exact ⟨rfl, rfl⟩
  by_cases c25 : op = 25
  · subst c25
    rw [show arF 25 = (2, 2) by decide]
    go_enter Tryz.func103, Tryz.ntmps103
    go_wp2
    refine bodyPost_ret (v := .tuple #[.int .i64 2, .int .i64 2]) (by simp [results, Tryz.results103, go_sem]) rfl ?_
    exact ⟨rfl, rfl⟩
  by_cases c26 : op = 26
  · subst c26
    rw [show arF 26 = (2, 2) by decide]
    go_enter Tryz.func103, Tryz.ntmps103
    go_wp2
    refine bodyPost_ret (v := .tuple #[.int .i64 2, .int .i64 2]) (by simp [results, Tryz.results103, go_sem]) rfl ?_
    exact ⟨rfl, rfl⟩
  by_cases c27 : op = 27
  · subst c27
    rw [show arF 27 = (2, 2) by decide]
    go_enter Tryz.func103, Tryz.ntmps103
    go_wp2
    refine bodyPost_ret (v := .tuple #[.int .i64 2, .int .i64 2]) (by simp [results, Tryz.results103, go_sem]) rfl ?_
    exact ⟨rfl, rfl⟩
  by_cases c28 : op = 28
  · subst c28
    rw [show arF 28 = (2, 2) by decide]
    go_enter Tryz.func103, Tryz.ntmps103
    go_wp2
    refine bodyPost_ret (v := .tuple #[.int .i64 2, .int .i64 2]) (by simp [results, Tryz.results103, go_sem]) rfl ?_
    exact ⟨rfl, rfl⟩
  by_cases c29 : op = 29
  · subst c29
    rw [show arF 29 = (2, 2) by decide]
    go_enter Tryz.func103, Tryz.ntmps103
    go_wp2
    refine bodyPost_ret (v := .tuple #[.int .i64 2, .int .i64 2]) (by simp [results, Tryz.results103, go_sem]) rfl ?_
    exact ⟨rfl, rfl⟩
  by_cases c30 : op = 30
  · subst c30
    rw [show arF 30 = (2, 2) by decide]
    go_enter Tryz.func103, Tryz.ntmps103
    go_wp2
    refine bodyPost_ret (v := .tuple #[.int .i64 2, .int .i64 2]) (by simp [results, Tryz.results103, go_sem]) rfl ?_
    exact ⟨rfl, rfl⟩
  by_cases c36 : op = 36
  · subst c36
    rw [show arF 36 = (2, 2) by decide]
    go_enter Tryz.func103, Tryz.ntmps103
    go_wp2
    refine bodyPost_ret (v := .tuple #[.int .i64 2, .int .i64 2]) (by simp [results, Tryz.results103, go_sem]) rfl ?_
    exact ⟨rfl, rfl⟩
  by_cases c38 : op = 38
  · subst c38
    rw [show arF 38 = (2, 2) by decide]
    go_enter Tryz.func103, Tryz.ntmps103
    go_wp2
    refine bodyPost_ret (v := .tuple #[.int .i64 2, .int .i64 2]) (by simp [results, Tryz.results103, go_sem]) rfl ?_
    exact ⟨rfl, rfl⟩
  by_cases c39 : op = 39
  · subst c39
    rw [show arF 39 = (2, 2) by decide]
    go_enter Tryz.func103, Tryz.ntmps103
    go_wp2
    refine bodyPost_ret (v := .tuple #[.int .i64 2, .int .i64 2]) (by simp [results, Tryz.results103, go_sem]) rfl ?_
    exact ⟨rfl, rfl⟩
  by_cases c40 : op = 40
  · subst c40
    rw [show arF 40 = (2, 2) by decide]
    go_enter Tryz.func103, Tryz.ntmps103
    go_wp2
    refine bodyPost_ret (v := .tuple #[.int .i64 2, .int .i64 2]) (by simp [results, Tryz.results103, go_sem]) rfl ?_
    exact ⟨rfl, rfl⟩
  by_cases c41 : op = 41
  · subst c41
    rw [show arF 41 = (2, 2) by decide]
    go_enter Tryz.func103, Tryz.ntmps103
    go_wp2
    refine bodyPost_ret (v := .tuple #[.int .i64 2, .int .i64 2]) (by simp [results, Tryz.results103, go_sem]) rfl ?_
    exact ⟨rfl, rfl⟩
  rw [show arF op = (-1, -1) by unfold arF; rw [if_neg (by omega), if_neg (by omega), if_neg (by omega), if_neg (by omega), if_neg (by omega)]]
  have e1 : (op == 1) = false := by simp; omega
  have e2 : (op == 2) = false := by simp; omega
  have e3 : (op == 3) = false := by simp; omega
  have e4 : (op == 4) = false := by simp; omega
  have e5 : (op == 5) = false := by simp; omega
  have e6 : (op == 6) = false := by simp; omega
  have e7 : (op == 7) = false := by simp; omega
  have e8 : (op == 8) = false := by simp; omega
  have e9 : (op == 9) = false := by simp; omega
  have e10 : (op == 10) = false := by simp; omega
  have e11 : (op == 11) = false := by simp; omega
  have e12 : (op == 12) = false := by simp; omega
  have e13 : (op == 13) = false := by simp; omega
  have e19 : (op == 19) = false := by simp; omega
  have e20 : (op == 20) = false := by simp; omega
  have e31 : (op == 31) = false := by simp; omega
  have e32 : (op == 32) = false := by simp; omega
  have e15 : (op == 15) = false := by simp; omega
  have e16 : (op == 16) = false := by simp; omega
  have e21 : (op == 21) = false := by simp; omega
  have e23 : (op == 23) = false := by simp; omega
  have e24 : (op == 24) = false := by simp; omega
  have e33 : (op == 33) = false := by simp; omega
  have e35 : (op == 35) = false := by simp; omega
  have e37 : (op == 37) = false := by simp; omega
  have e22 : (op == 22) = false := by simp; omega
  have e34 : (op == 34) = false := by simp; omega
  have e14 : (op == 14) = false := by simp; omega
  have e17 : (op == 17) = false := by simp; omega
  have e18 : (op == 18) = false := by simp; omega
  have e25 : (op == 25) = false := by simp; omega
  have e26 : (op == 26) = false := by simp; omega
  have e27 : (op == 27) = false := by simp; omega
  have e28 : (op == 28) = false := by simp; omega
  have e29 : (op == 29) = false := by simp; omega
  have e30 : (op == 30) = false := by simp; omega
  have e36 : (op == 36) = false := by simp; omega
  have e38 : (op == 38) = false := by simp; omega
  have e39 : (op == 39) = false := by simp; omega
  have e40 : (op == 40) = false := by simp; omega
  have e41 : (op == 41) = false := by simp; omega
  clear c1 c2 c3 c4 c5 c6 c7 c8 c9 c10 c11 c12 c13 c19 c20 c31 c32 c15 c16 c21 c23 c24 c33 c35 c37 c22 c34 c14 c17 c18 c25 c26 c27 c28 c29 c30 c36 c38 c39 c40 c41
  go_enter Tryz.func103, Tryz.ntmps103
  go_wp2
  refine bodyPost_ret (v := .tuple #[.int .i64 (-1), .int .i64 (-1)]) (by simp [results, Tryz.results103, go_sem]) rfl ?_
  exact ⟨rfl, rfl⟩

end Go.Proofs.YtmklkcefbabhbaaGreat.R6

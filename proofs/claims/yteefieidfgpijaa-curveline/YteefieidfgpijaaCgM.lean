import Derived.Test.YteefieidfgpijaaCgL
import Derived.Lib.MinMax
namespace Go.Proofs.Yteefieidfgpijaa.CF
open Go.RowKit
attribute [local go_sem] run_store_float

theorem neq_f {p q : Nat} (h : Op.floatEq .f32 p q = true) (w : World) : (binOp .neq 33 (.float .f32 p) (.float .f32 q)).run Try.prog w = .ok (.bool false) w := by
  unfold Op.floatEq at h
  have h' : FloatKind.f32.format.order p q = some .eq := by simpa using h
  simp [binOp, Op.floatCmp, h']
/-- What small tells. -/
def smN (n most : Int) : Int := (if n < 0 then -(n + 1) else n).tmod (2 * most + 1) - most
theorem smN_b (n : Int) {most : Int} (hm : 1 ≤ most) : -most ≤ smN n most ∧ smN n most ≤ most := by
  have h0 : 0 ≤ if n < 0 then -(n + 1) else n := by split <;> omega
  have h1 := Int.tmod_nonneg (2 * most + 1) h0
  have h2 := Int.tmod_lt_of_pos (if n < 0 then -(n + 1) else n) (show 0 < 2 * most + 1 by omega)
  unfold smN
  omega
theorem small_eq (n most : Int) (hn : -9223372036854775808 ≤ n ∧ n ≤ 9223372036854775807) (hm : 1 ≤ most ∧ most ≤ 100000) (w : World) : Calls Try.prog 8 #[.int .i64 n, .int .i64 most] w fun e w' => e = .returned (.int .i64 (smN n most)) ∧ w' = w := by
  have hb := smN_b n hm.1
  by_cases h0 : n < 0
  · obtain ⟨r, hr⟩ : ∃ r, r = (-(n + 1)).tmod (2 * most + 1) := ⟨_, rfl⟩
    have e : smN n most = r - most := by unfold smN; rw [if_pos h0, hr]
    rw [e] at hb ⊢
    have hr2 : (-(n + 1)).tmod (2 * most + 1) = r := hr.symm
    have hne : 2 * most + 1 ≠ 0 := by omega
    clear hr e
    go_enter Try.func8, Try.ntmps8
    go_wp2
    go_ret
    exact ⟨rfl, rfl⟩
  · obtain ⟨r, hr⟩ : ∃ r, r = n.tmod (2 * most + 1) := ⟨_, rfl⟩
    have e : smN n most = r - most := by unfold smN; rw [if_neg h0, hr]
    rw [e] at hb ⊢
    have hr2 : n.tmod (2 * most + 1) = r := hr.symm
    have hne : 2 * most + 1 ≠ 0 := by omega
    clear hr e
    go_enter Try.func8, Try.ntmps8
    go_wp2
    go_ret
    exact ⟨rfl, rfl⟩
theorem fun_k (x k b : Int) (hk : -1000 ≤ k ∧ k ≤ 1000) (hb : -100000 ≤ b ∧ b ≤ 100000) (hx : 0 ≤ x ∧ x ≤ 1000) (kb bb : Nat) (w : World) (hK : w.cell? ⟨kb, 0, none⟩ = some (.int .i64 k)) (hBb : w.cell? ⟨bb, 0, none⟩ = some (.int .i64 b)) : Calls Try.prog 9 #[.int .i64 x, .pointer (some ⟨kb, 0, none⟩), .pointer (some ⟨bb, 0, none⟩)] w fun e w' => e = .returned (.agg #[.int .i64 2, .int .i64 (k * x + b)]) ∧ Below w.heap.size w w' := by
  have h1 : k * x ≤ 1000 * x := Int.mul_le_mul_of_nonneg_right hk.2 hx.1
  have h2 : -1000 * x ≤ k * x := Int.mul_le_mul_of_nonneg_right hk.1 hx.1
  have hkl : kb < w.heap.size := World.block_lt_of_cell? _ _ hK
  have hbl : bb < w.heap.size := World.block_lt_of_cell? _ _ hBb
  have hne1 : kb ≠ w.heap.size := by omega
  have hne2 : bb ≠ w.heap.size := by omega
  obtain ⟨p, hp⟩ : ∃ p, k * x = p := ⟨_, rfl⟩
  rw [hp] at h1 h2 ⊢
  have hpb : -1000000 ≤ p ∧ p ≤ 1000000 := by omega
  have hB : Below w.heap.size w (w.alloc (.cells #[.int .i64 2, .int .i64 (p + b)] 25)) := (Below.refl _ _).alloc (Nat.le_refl _) _
  go_enter Try.func9, Try.ntmps9
  go_wp2
  exact bodyPost_ret (v := .agg #[.int .i64 2, .int .i64 (p + b)]) (by simp [results, Try.results9, go_sem]) rfl ⟨rfl, hB⟩
theorem neq_o {p q : Nat} (h : Op.floatEq .f32 p q = true) : (FloatKind.f32.format.order p q != some Ordering.eq) = false := by
  unfold Op.floatEq at h
  simp [bne, h]
theorem feq_self {p : Nat} (hp : p < 4294967296) (fp : p % 2147483648 < 2139095040) : Op.floatEq .f32 p p = true := feq hp hp (by omega) (by omega) rfl
set_option maxRecDepth 8000 in
set_option maxHeartbeats 4000000 in
theorem line_walk (k0 b0 n0 : Int) (hk0 : -9223372036854775808 ≤ k0 ∧ k0 ≤ 9223372036854775807) (hb0 : -9223372036854775808 ≤ b0 ∧ b0 ≤ 9223372036854775807) (hn0 : -9223372036854775808 ≤ n0 ∧ n0 ≤ 9223372036854775807) (w : World) : Calls Try.prog 3 #[.int .i64 k0, .int .i64 b0, .int .i64 n0] w fun e w' => e = .returned (.bool true) ∧ Below w.heap.size w w' := by
  have s1 := fun X => small_eq k0 1000 hk0 (by decide) X
  have s2 := fun X => small_eq b0 100000 hb0 (by decide) X
  have s3 := fun X => small_eq n0 30 hn0 (by decide) X
  have hk := smN_b k0 (most := 1000) (by decide)
  have hb := smN_b b0 (most := 100000) (by decide)
  have hnb := smN_b n0 (most := 30) (by decide)
  generalize smN k0 1000 = k at *
  generalize smN b0 100000 = b at *
  obtain ⟨m, hm⟩ : ∃ m : Nat, smN n0 30 + 32 = (m : Int) := ⟨(smN n0 30 + 32).toNat, by omega⟩
  have hm2 : 2 ≤ m ∧ m ≤ 62 := by omega
  generalize smN n0 30 = n at *
  have hkn := fun X => known_any X
  obtain ⟨W0, hW0⟩ : ∃ W0, (w.alloc (.cells #[.int .i64 k0] 3)).alloc (.cells #[.int .i64 b0] 3) = W0 := ⟨_, rfl⟩
  have hB0 : Below w.heap.size w W0 := by rw [← hW0]; exact ((Below.refl _ _).alloc (Nat.le_refl _) _).alloc (by simp) _
  have r0 : W0.heap[w.heap.size]? = some (.cells #[.int .i64 k0] 3 (0, 0)) := by rw [← hW0]; exact heap_alloc2_old _ _ _
  have r1 : W0.heap[w.heap.size + 1]? = some (.cells #[.int .i64 b0] 3 (0, 0)) := by rw [← hW0]; exact heap_alloc2_new _ _ _
  go_enter Try.func3, Try.ntmps3
  go_wp2_with (go_at_call 7; fail)
  refine (hkn _).mono ?_
  rintro _ w1 ⟨rfl, hB1⟩
  have l0 : w.heap.size < W0.heap.size := (Array.getElem?_eq_some_iff.1 r0).1
  have l1 : w.heap.size + 1 < W0.heap.size := (Array.getElem?_eq_some_iff.1 r1).1
  have q0 := (hB1.block _ l0).trans r0
  have q1 := (hB1.block _ l1).trans r1
  have hBw1 : Below w.heap.size w w1 := hB0.trans (hB1.mono hB0.size)
  clear hkn hW0 r0 r1 hB0 hB1 l0 l1
  have c0 : w1.cell? ⟨w.heap.size, 0, none⟩ = some (.int .i64 k0) := by rw [cell_of_row w1 _ 0 _ _ _ q0]; rfl
  have c1 : w1.cell? ⟨w.heap.size + 1, 0, none⟩ = some (.int .i64 b0) := by rw [cell_of_row w1 _ 0 _ _ _ q1]; rfl
  have f0 := frozen_of_row w1 _ 0 _ _ q0
  have y0 : (w1.setCell ⟨w.heap.size, 0, none⟩ (.int .i64 k)).heap[w.heap.size]? = some (.cells #[.int .i64 k] 3 (0, 0)) := heap_setCell_same w1 _ 0 _ _ _ q0
  have y1 : (w1.setCell ⟨w.heap.size, 0, none⟩ (.int .i64 k)).heap[w.heap.size + 1]? = some (.cells #[.int .i64 b0] 3 (0, 0)) := (heap_setCell_other w1 ⟨w.heap.size, 0, none⟩ _ _ (by simp)).trans q1
  have hBy : Below w.heap.size w (w1.setCell ⟨w.heap.size, 0, none⟩ (.int .i64 k)) := hBw1.setCell (p := ⟨w.heap.size, 0, none⟩) (Nat.le_refl _) _
  obtain ⟨Y, hY⟩ : ∃ Y, w1.setCell ⟨w.heap.size, 0, none⟩ (.int .i64 k) = Y := ⟨_, rfl⟩
  rw [hY] at y0 y1 hBy
  have d1 : Y.cell? ⟨w.heap.size + 1, 0, none⟩ = some (.int .i64 b0) := by rw [cell_of_row Y _ 0 _ _ _ y1]; rfl
  have f1 := frozen_of_row Y _ 0 _ _ y1
  have z0 : (Y.setCell ⟨w.heap.size + 1, 0, none⟩ (.int .i64 b)).heap[w.heap.size]? = some (.cells #[.int .i64 k] 3 (0, 0)) := (heap_setCell_other Y ⟨w.heap.size + 1, 0, none⟩ _ _ (by simp)).trans y0
  have z1 : (Y.setCell ⟨w.heap.size + 1, 0, none⟩ (.int .i64 b)).heap[w.heap.size + 1]? = some (.cells #[.int .i64 b] 3 (0, 0)) := heap_setCell_same Y _ 0 _ _ _ y1
  have hBz : Below w.heap.size w (Y.setCell ⟨w.heap.size + 1, 0, none⟩ (.int .i64 b)) := hBy.setCell (p := ⟨w.heap.size + 1, 0, none⟩) (Nat.le_succ _) _
  clear q0 q1 y0 y1 hBy hBw1
  go_upto_region 3 with fail
  go_cut [3] (fun v wx => v = .pointer (some ⟨w.heap.size, 0, none⟩) ∧ wx.heap[w.heap.size]? = some (.cells #[.int .i64 k] 3 (0, 0)) ∧ wx.heap[w.heap.size + 1]? = some (.cells #[.int .i64 b] 3 (0, 0)) ∧ Below w.heap.size w wx)
  case first =>
    go_region_with (first | (go_at_call 8; with_reducible refine (s1 _).mono ?_; rintro _ w2 ⟨rfl, hw2⟩; subst w2) | (go_at_call 8; with_reducible refine (s2 _).mono ?_; rintro _ w2 ⟨rfl, hw2⟩; subst w2))
    all_goals
      go_wp2
      go_meet
      exact ⟨rfl, z0, z1, hBz.drew⟩
  case rest =>
    rename World => Wk
    obtain ⟨rfl, y0, y1, hBw⟩ := hcut
    clear z0 z1 hBz hY d1 f1 f0 c0 c1 s1 s2
    have lK : w.heap.size < Wk.heap.size := (Array.getElem?_eq_some_iff.1 y0).1
    have lB : w.heap.size + 1 < Wk.heap.size := (Array.getElem?_eq_some_iff.1 y1).1
    have hcK : Hid (∀ X, Below Wk.heap.size Wk X → X.cell? ⟨w.heap.size, 0, none⟩ = some (.int .i64 k) ∧ X.cell? ⟨w.heap.size + 1, 0, none⟩ = some (.int .i64 b)) := ⟨fun X hX => ⟨by rw [cell_of_row X _ 0 _ _ _ ((hX.block _ lK).trans y0)]; rfl, by rw [cell_of_row X _ 0 _ _ _ ((hX.block _ lB).trans y1)]; rfl⟩⟩
    have hS := snd_L hk hb hm2.2
    have hsa := samp_k 0 4 m (by omega) (by omega) (by
      unfold okS
      rw [decide_eq_true (show (1 : Int) ≤ 4 by decide), show bw 0 = true by decide, decide_eq_false (show ¬ (m : Int) - 1 = 0 by omega), decide_eq_true]
      · rfl
      · rw [Int.le_ediv_iff_mul_le (by omega)]; omega) (fun i => if i < 62 then lZ k b i else 0) (fun i => by
      show _ ≤ (if i < 62 then lZ k b i else 0) ∧ (if i < 62 then lZ k b i else 0) ≤ _
      split
      · have := lZ_b hk hb (i := i) (by omega); omega
      · omega) w.heap.size (w.heap.size + 1) Wk (fun i hi X hX => by
      have := fun_k (0 + (i : Int) * 4) k b hk hb (by omega) w.heap.size (w.heap.size + 1) X (hcK.out X hX).1 (hcK.out X hX).2
      show Calls _ _ _ _ (fun e w' => e = .returned (.agg #[.int .i64 2, .int .i64 (if i < 62 then lZ k b i else 0)]) ∧ _)
      rw [if_pos (by omega)]
      exact this)
    have hpts : ptsW 0 4 (fun i => if i < 62 then lZ k b i else 0) m = WD lX (lZ k b) m := by
      rw [ptsW_WD]
      unfold WD
      apply List.map_congr_left
      intro i hi
      have := List.mem_range.1 hi
      simp only
      rw [if_pos (by omega)]
      rfl
    rw [hpts] at hsa
    clear hpts y0 y1 lK lB
    go_wp2_with (go_at_call 8; refine (s3 _).mono ?_; rintro _ w2 ⟨rfl, hw2⟩; subst w2)
    refine hsa.mono ?_
    rintro _ w2 ⟨pv, rfl, ho2, hB2⟩
    obtain ⟨a2, c2, rfl, hp2⟩ := pt_of_own ho2 (WD_len _ _ _).symm
    have hL : (WD lX (lZ k b) m).length ≤ 8796093021952 := by rw [WD_len]; omega
    have hsl := slopeP_any (WD lX (lZ k b) m) (WD_ok hS) hL a2 c2 w2 hp2
    have hse : slopeE (WD lX (lZ k b) m) = 0 := if_pos (WD_io hS)
    have hsd : slopeD (WD lX (lZ k b) m) = slopeN (WD lX (lZ k b) m) (m - 1) := by unfold slopeD; rw [if_pos (WD_io hS), WD_len]
    rw [hse, hsd] at hsl
    have hra := fun X a' c' (hX : PtAt X a' (WD lX (lZ k b) m)) => rateP_any (WD lX (lZ k b) m) (WD_ok hS) hL a' c' X hX
    have hju := fun X a' c' (hX : PtAt X a' (WD lX (lZ k b) m)) => jumpsP_any (WD lX (lZ k b) m) (WD_ok hS) hL (wholeN (max (4 * k) (-4 * k))) (whole_parts (z := max (4 * k) (-4 * k)) (by omega)).1 a' c' X hX
    have hat := fun x r en (hR : AtR (WD lX (lZ k b) m) x r en) X a' c' (hX : PtAt X a' (WD lX (lZ k b) m)) => at_any (WD lX (lZ k b) m) (WD_ok hS) (by omega) x r en hR a' c' X hX
    rw [WD_len] at hsl hra hju hat ⊢
    obtain ⟨m', hm'⟩ : ∃ m', m' + 1 = m := ⟨m - 1, by omega⟩
    rw [show m - 1 = m' by omega] at hsl hju
    obtain ⟨sl1, sl2⟩ := slope_L hk hb hm2.2 m' (by omega)
    obtain ⟨ra1, ra2⟩ := rate_L hk hb hm2.2 m' (by omega)
    rw [hm'] at ra1 ra2
    have hmm : (m' : Int) + 1 = (m : Int) := by omega
    replace hm' := Hid.mk hm'
    have jl := jump_L hk hb hm2.2 m' (by omega)
    replace sl2 := Hid.mk sl2
    replace ra2 := Hid.mk ra2
    replace hat := Hid.mk hat
    replace hS := Hid.mk hS
    clear hsa ho2 hse hsd hL s3 hm
    go_wp2_with (go_at_call 11; fail)
    refine hsl.mono ?_
    rintro _ w4 ⟨a4, c4, rfl, hp4, hB4⟩
    rw [sl1]
    clear hsl
    go_wp2_with (go_at_call 12; fail)
    refine (hra _ _ _ (hp2.later hB4)).mono ?_
    rintro _ w5 ⟨a5, c5, rfl, hp5, hB5⟩
    rw [ra1]
    clear hra
    have q2 := (hp2.later hB4).later hB5
    have q4 := hp4.later hB5
    have hBc : Below Wk.heap.size Wk w5 := (hB2.trans (hB4.mono hB2.size)).trans (hB5.mono (Nat.le_trans hB2.size hB4.size))
    clear hp2 hp4 hB2 hB4 hB5
    have n1 : ((m : Int) != (m : Int)) = false := by simp
    have n2 : ((m' : Int) != (m' : Int)) = false := by simp
    have n3 : (m : Int) - 1 = (m' : Int) := by omega
    go_wp2_with fail
    go_loopw [13] (fun v wr => ∃ i : Nat, i ≤ m ∧ v = .int .i64 (i : Int) ∧ Below w5.heap.size w5 wr) (fun v _ => m - (intOf v).toNat)
    case atStart => exact ⟨0, by omega, rfl, Below.refl _ _⟩
    case round =>
      obtain ⟨i, him, rfl, hBi⟩ := hrel
      have hBci : Below Wk.heap.size Wk wr := hBc.trans (hBi.mono hBc.size)
      obtain ⟨cK, cB⟩ := hcK.out wr hBci
      have hm1 := hm'.out
      by_cases hlt : i < m
      · have hlt' : (i : Int) < (m : Int) := by omega
        have hi0 : (0 : Int) ≤ (i : Int) := by omega
        have ex : lX i = 4 * (i : Int) := by unfold lX; omega
        have zb := lZ_b hk hb (i := i) (by omega)
        obtain ⟨P, hP⟩ : ∃ P, k * 4 * (i : Int) = P := ⟨_, rfl⟩
        have hPz : P + b = lZ k b i := by rw [← hP]; unfold lZ; rw [Int.mul_assoc]; congr 2; omega
        obtain ⟨zw1, zw2, -, zw3⟩ := whole_parts (z := lZ k b i) (by omega)
        have w1 : IntKind.i64.wrap (k * 4) = k * 4 := by rw [IntKind.wrap_i64]; omega
        have w2 : IntKind.i64.wrap (k * 4 * (i : Int)) = P := by rw [hP, IntKind.wrap_i64]; omega
        have w3 : IntKind.i64.wrap (P + b) = lZ k b i := by rw [hPz, IntKind.wrap_i64]; omega
        have cv1 := conv_i32 (lZ k b i)
        have nf1 := neq_o (feq_self zw1 (by omega))
        obtain ⟨bI, offI, rfl, hcI⟩ := (q2.later hBi).cells (k := i) (by rw [WD_len]; exact hlt)
        obtain ⟨i0, i1⟩ := hcI i (by rw [WD_len]; exact hlt)
        rw [WD_get _ _ hlt] at i0 i1
        simp only [ex] at i0 i1
        have nx : ((4 * (i : Int)) != (4 * (i : Int))) = false := by simp
        go_upto_region 15 with fail
        go_cut [96] (fun bv wx => bv = .bool false ∧ Below wr.heap.size wr wx)
        case first =>
          clear hat hju sl2 ra2 q2 q4 hp5 hcK hS
          generalize lZ k b i = z at *
          generalize wholeN z = U at *
          go_quiet (fail)
          go_wp2
          go_meet
          exact ⟨rfl, below_drewN (Below.refl _ _) _⟩
        case rest =>
          rename World => wA
          obtain ⟨rfl, hBA⟩ := hcut
          have hBiA : Below w5.heap.size w5 wA := hBi.trans (hBA.mono hBi.size)
          obtain ⟨cKA, cBA⟩ := hcK.out wA (hBc.trans (hBiA.mono hBc.size))
          have hbIl : bI < wr.heap.size := World.block_lt_of_cell? _ _ i0
          have i1A := (hBA.cell (p := ⟨bI, offI + i * 2 + 1, none⟩) hbIl).trans i1
          clear cK cB w1 w2 w3 hcI i0 i1
          go_upto_region 17 with fail
          go_cut [119] (fun bv wx => bv = .bool false ∧ Below wA.heap.size wA wx)
          case first =>
            by_cases hlast : i < m'
            · have hlast' : (i : Int) < (m' : Int) := by omega
              obtain ⟨u, hu, u1, u2, u3⟩ := sl2.out i hlast
              obtain ⟨kw1, kw2, -, kw3⟩ := whole_parts (z := k) (by omega)
              have nf2 := neq_o (feq u1 kw1 (by omega) (by omega) u3)
              have cv2 := conv_i32 k
              obtain ⟨bS, offS, rfl, hcS⟩ := (q4.later hBiA).cells (k := i) (by rw [sl1]; exact hlast)
              obtain ⟨t0, t1⟩ := hcS i (by rw [sl1]; exact hlast)
              rw [hu] at t0 t1
              simp only [ex] at t0 t1
              clear hat hju sl2 ra2 q2 q4 hp5 hcK hS hcS hu u1 u2 u3 kw1 kw2 kw3
              generalize wholeN k = U at *
              go_quiet (fail)
              go_wp2
              go_meet
              exact ⟨rfl, below_drewN (Below.refl _ _) _⟩
            · have hlast' : ¬ (i : Int) < (m' : Int) := by omega
              clear hat hju sl2 ra2 q2 q4 hp5 hcK hS
              go_quiet (fail)
              go_wp2
              go_meet
              exact ⟨rfl, below_drewN (Below.refl _ _) _⟩
          case rest =>
            rename World => wB
            obtain ⟨rfl, hBB⟩ := hcut
            have hBiB : Below w5.heap.size w5 wB := hBiA.trans (hBB.mono hBiA.size)
            obtain ⟨cKB, cBB⟩ := hcK.out wB (hBc.trans (hBiB.mono hBc.size))
            have i1B := (hBB.cell (p := ⟨bI, offI + i * 2 + 1, none⟩) (Nat.lt_of_lt_of_le hbIl hBA.size)).trans i1A
            clear cKA cBA i1A
            go_upto_region 19 with fail
            go_cut [146] (fun bv wx => bv = .bool false ∧ Below wB.heap.size wB wx)
            case first =>
              by_cases hz : i = 0
              · have hz' : decide ((0 : Int) < (i : Int)) = false := decide_eq_false (by omega)
                have hzN : decide (0 < i) = false := decide_eq_false (by omega)
                clear hat hju sl2 ra2 q2 q4 hp5 hcK hS hz
                go_quiet (fail)
                go_wp2
                go_meet
                exact ⟨rfl, below_drewN (Below.refl _ _) _⟩
              · have hz' : (0 : Int) < (i : Int) := by omega
                have hzN : 0 < i := by omega
                obtain ⟨j, hj⟩ : ∃ j : Nat, j + 1 = i := ⟨i - 1, by omega⟩
                have hjm : j < m' := by omega
                have hji : (i : Int) - 1 = (j : Int) := by omega
                have hjw : IntKind.i64.wrap ((i : Int) - 1) = (j : Int) := by rw [IntKind.wrap_i64]; omega
                have hjI : (j : Int) < (m' : Int) := by omega
                have hj0 : (0 : Int) ≤ (j : Int) := by omega
                obtain ⟨u, hu, u1, u2, u3⟩ := ra2.out j hjm
                rw [hj] at hu
                obtain ⟨kw1, kw2, -, kw3⟩ := whole_parts (z := k) (by omega)
                have cv2 := conv_i32 k
                obtain ⟨bS, offS, rfl, hcS⟩ := (hp5.later hBiB).cells (k := j) (by rw [ra1]; exact hjm)
                obtain ⟨t0, t1⟩ := hcS j (by rw [ra1]; exact hjm)
                rw [hu] at t0 t1
                simp only [ex] at t0 t1
                by_cases hb0 : b = 0
                · have hbb : (b == 0) = true := beq_iff_eq.2 hb0
                  have nf2 := neq_o (feq u1 kw1 (by omega) (by omega) (u3 hb0))
                  clear hat hju sl2 ra2 q2 q4 hp5 hcK hS hcS hu u1 u2 u3 kw1 kw2 kw3 hb0 hj hPz hP hz
                  generalize wholeN k = U at *
                  go_quiet (fail)
                  go_wp2
                  go_meet
                  exact ⟨rfl, below_drewN (Below.refl _ _) _⟩
                · have hbb : (b == 0) = false := beq_eq_false_iff_ne.2 hb0
                  clear hat hju sl2 ra2 q2 q4 hp5 hcK hS hcS hu u1 u2 u3 kw1 kw2 kw3 hb0 hj hz
                  go_quiet (fail)
                  go_wp2
                  go_meet
                  exact ⟨rfl, below_drewN (Below.refl _ _) _⟩
            case rest =>
              rename World => wC
              obtain ⟨rfl, hBC⟩ := hcut
              have hBiC : Below w5.heap.size w5 wC := hBiB.trans (hBC.mono hBiB.size)
              have i1C := (hBC.cell (p := ⟨bI, offI + i * 2 + 1, none⟩) (Nat.lt_of_lt_of_le hbIl (Nat.le_trans hBA.size hBB.size))).trans i1B
              have hbIC : bI < wC.heap.size := World.block_lt_of_cell? _ _ i1C
              clear cKB cBB i1B
              have h1 := hat.out (lX i) (wholeN (lZ k b i)) 0 (at_L hk hb hm2.2 hlt) wC (some ⟨bI, offI, none⟩) c2 (q2.later hBiC)
              rw [ex] at h1
              have nf3 := neq_o (feq_self zw1 (by omega))
              by_cases hlast : i < m'
              · have hlast' : (i : Int) < (m' : Int) := by omega
                have hne : ((i : Int) == (m' : Int)) = false := beq_eq_false_iff_ne.2 (by omega)
                have h2 := fun X (hX : PtAt X (some ⟨bI, offI, none⟩) (WD lX (lZ k b) m)) => hat.out (lX i + 2) (wholeN (lZ k b i + 2 * k)) 0 (at_L2 hk hb hm2.2 (by omega)) X (some ⟨bI, offI, none⟩) c2 hX
                rw [ex] at h2
                obtain ⟨vw1, vw2, -, vw3⟩ := whole_parts (z := lZ k b i + 2 * k) (by omega)
                have nf4 := neq_o (feq_self vw1 (by omega))
                obtain ⟨R, hR⟩ : ∃ R, k * (4 * (i : Int) + 2) = R := ⟨_, rfl⟩
                have hRz : R + b = lZ k b i + 2 * k := by
                  rw [← hR]
                  unfold lZ
                  rw [Int.mul_add, show (0 + (i : Int) * 4) = 4 * (i : Int) by omega]
                  omega
                have hRb : -500000 ≤ R ∧ R ≤ 500000 := by omega
                have cv3 := conv_i32 (lZ k b i + 2 * k)
                go_wp2_with (go_at_call 13; fail)
                refine h1.mono ?_
                rintro _ wD ⟨rfl, hBD⟩
                have hBiD : Below w5.heap.size w5 wD := hBiC.trans (hBD.mono hBiC.size)
                go_wp2_with (go_at_call 13; fail)
                refine (h2 _ (q2.later hBiD)).mono ?_
                rintro _ wE ⟨rfl, hBE⟩
                have hBiE : Below w5.heap.size w5 wE := hBiD.trans (hBE.mono hBiD.size)
                obtain ⟨cKE, cBE⟩ := hcK.out wE (hBc.trans (hBiE.mono hBc.size))
                have i1E := ((hBE.cell (p := ⟨bI, offI + i * 2 + 1, none⟩) (Nat.lt_of_lt_of_le hbIC hBD.size)).trans (hBD.cell (p := ⟨bI, offI + i * 2 + 1, none⟩) hbIC)).trans i1C
                clear h1 h2 hat hju sl2 ra2 q2 q4 hp5 hcK hS hPz hP
                generalize lZ k b i + 2 * k = z2 at *
                generalize lZ k b i = z1 at *
                generalize wholeN z2 = U2 at *
                generalize wholeN z1 = U1 at *
                go_wp2
                go_roundw
                case rel => exact ⟨i + 1, by omega, by go_num, hBiE⟩
                case measure => simp [intOf]; omega
              · have hlast' : ¬ (i : Int) < (m' : Int) := by omega
                have hne : ((i : Int) == (m' : Int)) = true := beq_iff_eq.2 (by omega)
                have h2 := fun X (hX : PtAt X (some ⟨bI, offI, none⟩) (WD lX (lZ k b) m)) => hat.out (lX i + 2) 0 175 (at_L3 hk hb hm2.2 (by omega)) X (some ⟨bI, offI, none⟩) c2 hX
                rw [ex] at h2
                go_wp2_with (go_at_call 13; fail)
                refine h1.mono ?_
                rintro _ wD ⟨rfl, hBD⟩
                have hBiD : Below w5.heap.size w5 wD := hBiC.trans (hBD.mono hBiC.size)
                go_wp2_with (go_at_call 13; fail)
                refine (h2 _ (q2.later hBiD)).mono ?_
                rintro _ wE ⟨rfl, hBE⟩
                have hBiE : Below w5.heap.size w5 wE := hBiD.trans (hBE.mono hBiD.size)
                have i1E := ((hBE.cell (p := ⟨bI, offI + i * 2 + 1, none⟩) (Nat.lt_of_lt_of_le hbIC hBD.size)).trans (hBD.cell (p := ⟨bI, offI + i * 2 + 1, none⟩) hbIC)).trans i1C
                clear h1 h2 hat hju sl2 ra2 q2 q4 hp5 hcK hS hPz hP
                generalize lZ k b i = z1 at *
                generalize wholeN z1 = U1 at *
                go_wp2
                go_roundw
                case rel => exact ⟨i + 1, by omega, by go_num, hBiE⟩
                case measure => simp [intOf]; omega
      · obtain rfl : i = m := by omega
        have hlt' : ¬ (i : Int) < (i : Int) := by omega
        have cv4 := conv_i32 (max (4 * k) (-4 * k))
        have hj := hju wr a2 c2 (q2.later hBi)
        have hBe : Below w.heap.size w wr := hBw.trans (hBci.mono hBw.size)
        generalize wholeN (max (4 * k) (-4 * k)) = U at *
        obtain ⟨M, hM⟩ : ∃ M, max (4 * k) (-4 * k) = M := ⟨_, rfl⟩
        rw [hM] at cv4
        have hMb : -5000 ≤ M ∧ M ≤ 5000 := by omega
        have em : ((m' : Int) == (m' : Int)) = true := by simp
        clear hat hju sl2 ra2 q2 q4 hp5 hcK hS
        go_wp2_with (go_at_call 14; fail)
        refine hj.mono ?_
        rintro _ wF ⟨aF, cF, rfl, -, hBF⟩
        rw [jl]
        have hBf : Below w.heap.size w wF := hBe.trans (hBF.mono hBe.size)
        clear hj
        go_wp2
        go_ret
        exact ⟨rfl, hBf⟩
end Go.Proofs.Yteefieidfgpijaa.CF

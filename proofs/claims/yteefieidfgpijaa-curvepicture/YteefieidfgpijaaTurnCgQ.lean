import Derived.Test.YteefieidfgpijaaJoin53
namespace Go.Proofs.Yteefieidfgpijaa.CF
open Go.RowKit
attribute [local go_sem] run_store_float

theorem info_cols : (Try.prog.info? 48).map (fun i => (i.zero, i.size)) = some (some (.agg (Array.replicate 72 (.int .i64 0))), 72) := by kernel_rfl
theorem cols_zero : ∃ Z : Array Value, (∀ w, (zeroValue 48).run Try.prog w = .ok (.agg Z) w) ∧ Z.size = 72 ∧ ∀ j, j < 72 → Z[j]? = some (.int .i64 (0 : Int)) := by
  refine ⟨_, (zero_of_info info_cols).1, by simp, fun j hj => ?_⟩
  rw [Array.getElem?_replicate, if_pos hj]
/-- Counts in memory. -/
def Cols (w : World) (b : Nat) (R : Nat → Nat) : Prop := ∃ A : Array Value, w.heap[b]? = some (.cells A 48 (0, 0)) ∧ A.size = 72 ∧ ∀ j, j < 72 → A[j]? = some (.int .i64 (R j : Int))
theorem Cols.cell {w : World} {b : Nat} {R : Nat → Nat} (h : Cols w b R) {j : Nat} (hj : j < 72) : w.cell? ⟨b, j, none⟩ = some (.int .i64 (R j : Int)) := by
  obtain ⟨A, h1, h2, h3⟩ := h
  rw [cell_of_row w b j A _ _ h1]
  exact h3 j hj
theorem Cols.frozen {w : World} {b : Nat} {R : Nat → Nat} (h : Cols w b R) (j : Nat) : w.frozen? ⟨b, j, none⟩ = false := by
  obtain ⟨A, h1, h2, h3⟩ := h
  exact frozen_of_row w b j A _ h1
theorem Cols.set {w : World} {b : Nat} {R R' : Nat → Nat} (h : Cols w b R) {k : Nat} (hk : k < 72) (c : Nat) (hR : ∀ j, j < 72 → R' j = if j = k then c else R j) : Cols (w.setCell ⟨b, k, none⟩ (.int .i64 (c : Int))) b R' := by
  obtain ⟨A, h1, h2, h3⟩ := h
  refine ⟨_, heap_setCell_same w b k A _ _ h1, by simp [h2], fun j hj => ?_⟩
  rw [Array.getElem?_setIfInBounds, hR j hj]
  by_cases e : k = j
  · subst e
    rw [if_pos rfl, if_pos (by omega), if_pos rfl]
  · rw [if_neg e, if_neg (fun e2 : j = k => e e2.symm)]
    exact h3 j hj
theorem Cols.lt {w : World} {b : Nat} {R : Nat → Nat} (h : Cols w b R) : b < w.heap.size := by
  obtain ⟨A, h1, h2, h3⟩ := h
  exact (Array.getElem?_eq_some_iff.1 h1).1
theorem Cols.later {w w' : World} {b : Nat} {R : Nat → Nat} (h : Cols w b R) (hb : Below w.heap.size w w') : Cols w' b R := by
  have hl := h.lt
  obtain ⟨A, h1, h2, h3⟩ := h
  exact ⟨A, (hb.block b hl).trans h1, h2, h3⟩
theorem own_capV {w : World} {base n size : Nat} {e : TypeId} {a : Option Addr} {c : Nat} {xs : List Value} (h : w.ownsRow base e size (.slice a n c) n xs) : n ≤ c := by
  obtain ⟨_, ⟨e, rfl⟩ | ⟨g, cap', cur, h1, _, _, h2, _⟩⟩ := h
  · omega
  · injection h1 with h1 h3 h4
    omega
def unB (Z : Nat → Int) : Nat → Bool
  | 0 => false
  | k + 1 => unB Z k || decide (Z k ≠ Z 0)
theorem unB_some (Z : Nat → Int) : ∀ k, unB Z k = true → ∃ i, i < k ∧ Z i ≠ Z 0
  | k + 1, h => by
    unfold unB at h
    rw [Bool.or_eq_true] at h
    rcases h with h | h
    · obtain ⟨i, h1, h2⟩ := unB_some Z k h
      exact ⟨i, by omega, h2⟩
    · exact ⟨k, by omega, of_decide_eq_true h⟩
theorem neq_oB {p q : Nat} (hp : p < 4294967296) (hq : q < 4294967296) (fp : p % 2147483648 ≤ 2139095040) (fq : q % 2147483648 ≤ 2139095040) : (FloatKind.f32.format.order p q != some Ordering.eq) = decide (ordN p ≠ ordN q) := by
  have e : FloatKind.f32.format.order p q = some (cmpI (ordN p) (ordN q)) := order_eq hp hq fp fq
  rw [e]
  unfold cmpI
  by_cases h1 : ordN p < ordN q
  · rw [if_pos h1, decide_eq_true (by omega)]; rfl
  · rw [if_neg h1]
    by_cases h2 : ordN p = ordN q
    · rw [if_pos h2, decide_eq_false (by omega)]; rfl
    · rw [if_neg h2, decide_eq_true h2]; rfl
def stA (D : Dots) (n w0 len : Nat) (ro : Nat → Nat) (c : Nat) : Nat := cnt (fun i => star D n w0 D.length (ro i) c) len
theorem stA_colS (D : Dots) (n w0 c : Nat) : stA D n w0 (n + 1) (fun i => n - i) c = colS D n w0 D.length c := by
  unfold stA colS
  apply cnt_congr
  intro i hi
  rw [decide_eq_true (show i ≤ n by omega), Bool.and_true]
theorem fin_all {D : Dots} (h : Draws D) {n w0 : Nat} (hn : n < 40) (hw : 1 ≤ w0) : 0 < sumK (stA D n w0 (n + 1) (fun i => n - i)) w0 ↔ 0 < D.length := by
  rw [sumK_pos]
  constructor
  · rintro ⟨c, -, hc⟩
    rw [stA_colS, colS_pos (fun k hk => rowK_le h hn hk)] at hc
    obtain ⟨k, hk, -⟩ := (cnt_pos _ _).1 hc
    omega
  · intro h0
    refine ⟨colK D w0 0, (colK_eq h.io h0 hw).2, ?_⟩
    rw [stA_colS, colS_pos (fun k hk => rowK_le h hn hk)]
    exact (cnt_pos _ _).2 ⟨0, h0, by simp⟩
theorem fin_low {D : Dots} (h : Draws D) {n w0 : Nat} (hn : n < 40) (hw : 1 ≤ w0) (h0 : 0 < D.length) : 0 < sumK (stA D n w0 1 (fun i => n - (n + i))) w0 := by
  obtain ⟨k, hk, hr⟩ := row_lo h h0 hn
  refine (sumK_pos _ _).2 ⟨colK D w0 k, (colK_eq h.io hk hw).2, ?_⟩
  refine (cnt_pos _ _).2 ⟨0, by decide, ?_⟩
  exact star_some.2 ⟨k, hk, by rw [hr]; show 0 = n - (n + 0); omega, rfl⟩
theorem fin_top {D : Dots} (h : Draws D) {n w0 : Nat} (hw : 1 ≤ w0) (hu : ∃ k, k < D.length ∧ rowK D n k = n) : 0 < sumK (stA D n w0 1 (fun i => n - i)) w0 := by
  obtain ⟨k, hk, hr⟩ := hu
  refine (sumK_pos _ _).2 ⟨colK D w0 k, (colK_eq h.io hk hw).2, ?_⟩
  refine (cnt_pos _ _).2 ⟨0, by decide, ?_⟩
  exact star_some.2 ⟨k, hk, by rw [hr]; rfl, rfl⟩
set_option maxRecDepth 8000 in
set_option maxHeartbeats 4000000 in
theorem picture_walk (D0 : Dots) (hD : Ok D0) (hl : D0.length ≤ 8796093021952) (wi hi : Int) (hwi : -9223372036854775808 ≤ wi ∧ wi ≤ 9223372036854775807) (hhi : -9223372036854775808 ≤ hi ∧ hi ≤ 9223372036854775807) (a : Option Addr) (c : Nat) (w : World) (h2 : RtAt w a D0) : Calls Try.prog 5 #[.slice a D0.length c, .int .i64 wi, .int .i64 hi] w fun e w' => e = .returned (.bool true) ∧ Below w.heap.size w w' := by
  obtain ⟨m, hm⟩ : ∃ m, m = min D0.length 64 := ⟨_, rfl⟩
  have hm64 : m ≤ 64 := by omega
  have hS := snd_D D0 hm64
  have hZb : ∀ k, k < m → (sZ D0 k).natAbs ≤ 10000 := fun k _ => by unfold sZ; omega
  have hkn := known_any w
  have hso := fun X (hX : RtAt X a D0) => sound_any D0 hD hl a c X hX
  unfold SoP at hso
  rw [← hm] at hso
  generalize (fun k => sX D0 (k + 1)) = X at *
  generalize sZ D0 = Z at *
  have s1 := small_any wi 35 hwi (by decide)
  have s2 := small_any hi 19 hhi (by decide)
  have hdr := Hid.mk (fun (w0 n : Nat) (hw : 2 ≤ w0 ∧ w0 ≤ 72) (hn1 : 1 ≤ n) (hn : n < 40) (hI : Int) (hh : hI = (n : Int) + 1) W a' c' (hW : PtAt W a' (WD X Z m)) => draw_any (WD X Z m) (WD_ok hS) (by rw [WD_len]; omega) (w0 : Int) hI 0 (textsL (WD X Z m) n w0 (n + 1)) (.inr (.inr (.inr ⟨w0, n, ⟨rfl, hh, hw, hn1, hn⟩, WD_io hS, decide_eq_true (WD_draws hS).df, rfl, rfl⟩))) a' c' W hW)
  replace hZb := Hid.mk hZb
  clear hm hl hD hwi hhi
  go_enter Try.func5, Try.ntmps5
  go_wp2_with (go_at_call 7; fail)
  refine hkn.mono ?_
  rintro _ w1 ⟨rfl, hB1⟩
  clear hkn
  go_wp2_with (go_at_call 15; fail)
  refine (hso _ (h2.later hB1)).mono ?_
  rintro _ w2 ⟨a2, c2, rfl, ho2, hB2⟩
  obtain ⟨a2', c2', e2, hp2⟩ := pt_of_own ho2 (WD_len _ _ _).symm
  rw [WD_len] at e2
  injection e2 with e2 e2' e2''
  subst e2
  clear hso e2'' ho2 e2'
  go_wp2_with (go_at_call 8; fail)
  refine (s1 _).mono ?_
  rintro _ w3 ⟨r1, rfl, hr1, hw3⟩
  subst w3
  clear s1
  obtain ⟨w0, hw0⟩ : ∃ w0 : Nat, r1 + 37 = (w0 : Int) := ⟨(r1 + 37).toNat, by omega⟩
  have hw : 2 ≤ w0 ∧ w0 ≤ 72 := by omega
  go_wp2_with (go_at_call 8; fail)
  refine (s2 _).mono ?_
  rintro _ w3 ⟨r2, rfl, hr2, hw3⟩
  subst w3
  clear s2
  obtain ⟨h, hh⟩ : ∃ h : Nat, r2 + 21 = (h : Int) := ⟨(r2 + 21).toNat, by omega⟩
  obtain ⟨n, hn⟩ : ∃ n, n + 1 = h := ⟨h - 1, by omega⟩
  have hn1 : 1 ≤ n := by omega
  have hn40 : n < 40 := by omega
  have hh40 : h ≤ 40 := by omega
  have hd2 := hdr.out w0 n hw hn1 hn40 (h : Int) (by omega) w2 a2 c2 hp2
  rw [WD_len] at hd2
  clear hdr
  go_wp2_with (go_at_call 17; fail)
  refine hd2.mono ?_
  rintro _ w5 ⟨v5, rfl, ho5, hB5⟩
  clear hd2
  rw [textsL_len, hn] at ho5
  obtain ⟨p5, cap5, rfl⟩ := own_lenW ho5
  obtain ⟨g5, rfl, hc5⟩ := own_at2 (k := 0) ho5 (by rw [textsL_len]; omega) (by rw [textsL_len])
  have hcap5 := own_capV ho5
  have hLn : LnAt w5 g5 0 h (WD X Z m) n w0 (fun i => n - i) := fun i hi => by
    have h1 := hc5 i (by rw [textsL_len]; omega)
    have h3 : (textsL (WD X Z m) n w0 h)[i]? = some (.string (lineB (WD X Z m) n w0 (n - i))) := by
      unfold textsL
      rw [List.getElem?_map, List.getElem?_range (by omega)]
      rfl
    rw [← List.getElem?_eq_getElem, h3] at h1
    rw [Nat.zero_add]
    exact h1
  have hg5 : g5 < w5.heap.size := World.block_lt_of_cell? _ _ (hLn 0 (by omega))
  have q2 := hp2.later hB5
  have hBw5 : Below w.heap.size w w5 := (hB1.trans (hB2.mono hB1.size)).trans (hB5.mono (Nat.le_trans hB1.size hB2.size))
  have hdS := WD_draws hS
  have hne0 : ((h : Int) != (h : Int)) = false := by simp
  have hnw : ((w0 : Int) != (w0 : Int)) = false := by simp
  replace hn := Hid.mk hn
  replace hS := Hid.mk hS
  replace hdS := Hid.mk hdS
  clear hp2 hB1 hB2 hB5 hc5 ho5 h2 hr1 hr2 hw0 hh
  go_wp2_with fail
  go_loopw [10] (fun v wr => ∃ r : Nat, r ≤ h ∧ v = .int .i64 (r : Int) ∧ wr = w5) (fun v _ => h - (intOf v).toNat)
  case atStart => exact ⟨0, by omega, rfl, rfl⟩
  case round =>
    obtain ⟨r, hr, rfl, hwr⟩ := hrel
    subst wr
    by_cases hlt : r < h
    · have hlt' : (r : Int) < (h : Int) := by omega
      have hr0 : (0 : Int) ≤ (r : Int) := by omega
      have s0 := hLn r hlt
      rw [Nat.zero_add] at s0
      have hsz := lineB_size (WD X Z m) n w0 (n - r)
      generalize lineB (WD X Z m) n w0 (n - r) = s at *
      clear hLn q2
      go_wp2
      go_roundw
      case rel => exact ⟨r + 1, by omega, by go_num, trivial⟩
      case measure => simp [intOf]; omega
    · have hlt' : ¬ (r : Int) < (h : Int) := by omega
      clear hlt hr
      generalize ((r : Nat) : Int) = rI at *
      obtain ⟨ZZ, hzz, hZ1, hZ2⟩ := cols_zero
      go_wp2_with fail
      obtain ⟨b, hb⟩ : ∃ b, b = w5.heap.size := ⟨_, rfl⟩
      have hC0 : Cols (w5.alloc (.cells ZZ 48)) w5.heap.size (fun j => colP (WD X Z m) w0 0 j) := ⟨ZZ, heap_alloc_new _ _, hZ1, hZ2⟩
      have hBb0 : Below w5.heap.size w5 (w5.alloc (.cells ZZ 48)) := (Below.refl _ _).alloc (Nat.le_refl _) _
      go_loopw [12, 13] (fun uv v wr => ∃ k : Nat, k ≤ m ∧ uv = .bool (unB Z k) ∧ v = .int .i64 (k : Int) ∧ Cols wr w5.heap.size (fun j => colP (WD X Z m) w0 k j) ∧ Below w5.heap.size w5 wr) (fun _ v _ => m - (intOf v).toNat)
      case atStart => exact ⟨0, by omega, rfl, rfl, hC0, hBb0⟩
      case round =>
        rename World => wx
        clear hC0 hBb0 hzz hZ1 hZ2 hb
        obtain ⟨k, hk, rfl, rfl, hC, hB⟩ := hrel
        by_cases hlt : k < m
        · have hlt' : (k : Int) < (m : Int) := by omega
          have hk0 : (0 : Int) ≤ (k : Int) := by omega
          obtain ⟨bI, off, rfl, hc⟩ := (q2.later hB).cells (k := k) (by rw [WD_len]; exact hlt)
          obtain ⟨s0, s1⟩ := hc k (by rw [WD_len]; exact hlt)
          obtain ⟨e0, e1⟩ := hc 0 (by rw [WD_len]; omega)
          obtain ⟨en, -⟩ := hc (m - 1) (by rw [WD_len]; omega)
          rw [WD_get X Z (by omega)] at s0 s1 e0 e1 en
          simp only [Nat.zero_mul, Nat.add_zero] at s0 s1 e0 e1 en
          have hbI : bI < w5.heap.size := by
            rcases q2 with q | ⟨b', off', ha', hlt', -⟩
            · exact absurd (congrArg List.length q) (by rw [WD_len]; simp; omega)
            · cases ha'; exact hlt'
          have hcolE := colK_eq hdS.out.io (wide := w0) (k := k) (by rw [WD_len]; exact hlt) (by omega)
          rw [WD_len] at hcolE
          have px : ∀ j, j < m → pX (WD X Z m) j = X j := fun j hj => by unfold pX; rw [WD_get X Z hj]
          rw [px 0 (by omega), px (m - 1) (by omega), px k hlt] at hcolE
          obtain ⟨q4, q5⟩ := hcolE
          have y1 := inO_mono hdS.out.io (i := 0) (j := k) (by omega) (by rw [WD_len]; exact hlt)
          have y2 := inO_mono hdS.out.io (i := k) (j := m - 1) (by omega) (by rw [WD_len]; omega)
          have y5 : 1 < m → pX (WD X Z m) 0 < pX (WD X Z m) (m - 1) := fun h1 => inO_lt hdS.out.io (by omega) (by rw [WD_len]; omega)
          rw [px 0 (by omega), px k hlt] at y1
          rw [px (m - 1) (by omega), px k hlt] at y2
          rw [px 0 (by omega), px (m - 1) (by omega)] at y5
          have y3 := hS.out.bdx 0 (by omega)
          have y4 := hS.out.bdx (m - 1) (by omega)
          have y7 : ¬ 1 < m → X 0 = X (m - 1) := fun h1 => by rw [show m - 1 = 0 by omega]
          have zk := hZb.out k hlt
          have z0 := hZb.out 0 (by omega)
          obtain ⟨zw1, zw2, -, zw3⟩ := whole_parts (z := Z k) (by omega)
          obtain ⟨zv1, zv2, -, zv3⟩ := whole_parts (z := Z 0) (by omega)
          have nb := neq_oB zw1 zv1 (by omega) (by omega)
          have nbd : decide (ordN (wholeN (Z k)) ≠ ordN (wholeN (Z 0))) = decide (Z k ≠ Z 0) := decide_eq_decide.2 (by
            have a1 := whole_le (x := Z k) (y := Z 0) (by omega) (by omega)
            have a2 := whole_le (x := Z 0) (y := Z k) (by omega) (by omega)
            omega)
          rw [nbd] at nb
          have hun : Hid (unB Z (k + 1) = (unB Z k || decide (Z k ≠ Z 0))) := ⟨rfl⟩
          have hcp : Hid (∀ j, colP (WD X Z m) w0 (k + 1) j = colP (WD X Z m) w0 k j + if (colK (WD X Z m) w0 k == j) = true then 1 else 0) := ⟨fun j => rfl⟩
          have hcpl : Hid (∀ j, colP (WD X Z m) w0 k j ≤ 64) := ⟨fun j => Nat.le_trans (cnt_le _ _) (by omega)⟩
          clear hc hLn q2 px zk z0 zw1 zw2 zw3 zv1 zv2 zv3 nbd
          generalize decide (Z k ≠ Z 0) = ub at *
          generalize unB Z k = ua at *
          generalize wholeN (Z k) = Uk at *
          generalize wholeN (Z 0) = U0 at *
          generalize X k = xk at *
          generalize X 0 = x0 at *
          generalize X (m - 1) = xn at *
          generalize colK (WD X Z m) w0 k = co at *
          go_upto_if 65 with fail
          go_cut [14] (fun v wc => v = .int .i64 (co : Int) ∧ Below wx.heap.size wx wc)
          case first =>
            by_cases h1 : 1 < m
            · have h1' : (1 : Int) < (m : Int) := by omega
              have y6 := y5 h1
              have e : (co : Int) = (xk - x0) * ((w0 : Int) - 1) / (xn - x0) := by rw [q4]; exact if_neg (by omega)
              have hd1 : 0 ≤ xk - x0 ∧ xk - x0 ≤ 20000000000000 := by omega
              have hd2 : 0 ≤ (w0 : Int) - 1 ∧ (w0 : Int) - 1 ≤ 100 := by omega
              have hd3 : 0 < xn - x0 ∧ xn - x0 ≤ 20000000000000 := by omega
              have hpp := col_prod hd1 hd2
              have hq : ((xk - x0) * ((w0 : Int) - 1)).tdiv (xn - x0) = (co : Int) := by rw [Int.tdiv_eq_ediv_of_nonneg hpp.1, e]
              have hne : xn - x0 ≠ 0 := by omega
              obtain ⟨m', hm'⟩ : ∃ m', m = m' + 1 := ⟨m - 1, by omega⟩
              rw [show m - 1 = m' by omega] at en
              have m1 : (m : Int) - 1 = (m' : Int) := by omega
              have m2 : IntKind.i64.wrap ((m : Int) - 1) = (m' : Int) := by rw [IntKind.wrap_i64]; omega
              have m3 : (m' : Int) < (m : Int) := by omega
              have m4 : (0 : Int) ≤ (m' : Int) := by omega
              have hlen : (0 : Int) < (m : Int) := by omega
              clear e q4 y5 y7 h1 hm' hC
              go_wp2_with fail
              go_quiet (fail)
              go_wp2
              go_meet
              exact ⟨rfl, below_drewN (Below.refl _ _) _⟩
            · have h1' : ¬ (1 : Int) < (m : Int) := by omega
              have e : (co : Int) = 0 := by rw [q4]; exact if_pos (y7 h1)
              replace e := Hid.mk e
              clear q4 y5 y7 h1 hC
              go_wp2
              go_meet
              exact ⟨by rw [e.out], Below.refl _ _⟩
          case rest =>
            rename World => wy
            obtain ⟨rfl, hBy⟩ := hcut
            have hxl : bI < wx.heap.size := Nat.lt_of_lt_of_le hbI hB.size
            have s1' := (hBy.cell (p := ⟨bI, off + k * 2 + 1, none⟩) hxl).trans s1
            have e1' := (hBy.cell (p := ⟨bI, off + 1, none⟩) hxl).trans e1
            have hCy := hC.later hBy
            have hBwy : Below w5.heap.size w5 wy := hB.trans (hBy.mono hB.size)
            have hco72 : co < 72 := by omega
            have cc := hCy.cell hco72
            have cf := hCy.frozen co
            have hcl := hcpl.out co
            have hCz := hCy.set (R' := fun j => colP (WD X Z m) w0 (k + 1) j) hco72 (colP (WD X Z m) w0 k co + 1) (fun j hj => by
              show colP (WD X Z m) w0 (k + 1) j = _
              rw [hcp.out j]
              by_cases e : j = co
              · subst e; rw [if_pos rfl, if_pos (by simp)]
              · rw [if_neg e, if_neg (by simp; omega)]; rfl)
            have hBz := hBwy.setCell (p := ⟨w5.heap.size, co, none⟩) (Nat.le_refl _) (.int .i64 ((colP (WD X Z m) w0 k co + 1 : Nat) : Int))
            rw [Int.natCast_add, show ((1 : Nat) : Int) = 1 from rfl] at hCz hBz
            have s1z : (wy.setCell ⟨w5.heap.size, co, none⟩ (.int .i64 ((colP (WD X Z m) w0 k co : Int) + 1))).cell? ⟨bI, off + k * 2 + 1, none⟩ = some (.float .f32 Uk) := (World.cell?_setCell_far _ _ _ _ (by show w5.heap.size ≠ bI; omega)).trans s1'
            have e1z : (wy.setCell ⟨w5.heap.size, co, none⟩ (.int .i64 ((colP (WD X Z m) w0 k co : Int) + 1))).cell? ⟨bI, off + 1, none⟩ = some (.float .f32 U0) := (World.cell?_setCell_far _ _ _ _ (by show w5.heap.size ≠ bI; omega)).trans e1'
            obtain ⟨V, hV⟩ : ∃ V, wy.setCell ⟨w5.heap.size, co, none⟩ (.int .i64 ((colP (WD X Z m) w0 k co : Int) + 1)) = V := ⟨_, rfl⟩
            rw [hV] at hCz hBz s1z e1z
            have hco0 : (0 : Int) ≤ (co : Int) := by omega
            have hcoI : (co : Int) < 72 := by omega
            have hm0 : (0 : Int) < (m : Int) := by omega
            clear s0 s1 e0 e1 en hC hB hBy hCy q4 y1 y2 y3 y4 y5 y7 hcp hcpl s1' e1' hBwy
            generalize colP (WD X Z m) w0 k co = cp at *
            cases ua with
            | true =>
              go_wp2_with fail
              go_quiet (fail)
              go_wp2
              go_roundw
              case rel => exact ⟨k + 1, by omega, by rw [hun.out]; rfl, by go_num, hCz.later (below_drewN (Below.refl _ _) _), below_drewN hBz _⟩
              case measure => simp [intOf]; omega
            | false =>
              go_wp2_with fail
              go_quiet (fail)
              go_wp2
              go_roundw
              case rel => exact ⟨k + 1, by omega, by rw [hun.out]; rfl, by go_num, hCz.later (below_drewN (Below.refl _ _) _), below_drewN hBz _⟩
              case measure => simp [intOf]; omega
        · obtain rfl : k = m := by omega
          have hlt' : ¬ (k : Int) < (k : Int) := by omega
          have hLx : LnAt wx g5 0 h (WD X Z k) n w0 (fun i => n - i) := fun i hi => (hB.cell (p := ⟨g5, 0 + i, none⟩) hg5).trans (hLn i hi)
          have hn' := hn.out
          have hLt : LnAt wx g5 0 1 (WD X Z k) n w0 (fun i => n - i) := fun i hi => hLx i (by omega)
          have hLl : LnAt wx g5 n 1 (WD X Z k) n w0 (fun i => n - (n + i)) := fun i hi => by
            have := hLx (n + i) (by omega)
            rw [Nat.zero_add] at this
            exact this
          have hfa := fin_all hdS.out (n := n) (w0 := w0) hn40 (by omega)
          have hfl := fin_low hdS.out (n := n) (w0 := w0) hn40 (by omega)
          have hft : unB Z k = true → 0 < sumK (stA (WD X Z k) n w0 1 (fun i => n - i)) w0 := fun hu => fin_top hdS.out (by omega) (by rw [WD_len]; exact row_hi hS.out hZb.out (unB_some Z k hu) hn40)
          rw [WD_len] at hfa hfl
          have hst1 := Hid.mk (fun c (hc : c < w0) => stars_any (WD X Z k) n w0 c hc g5 0 h cap5 (by omega) (fun i => n - i) wx hLx)
          have hst2 := Hid.mk (fun c (hc : c < w0) => stars_any (WD X Z k) n w0 c hc g5 0 1 cap5 (by omega) (fun i => n - i) wx hLt)
          have hst3 := Hid.mk (fun c (hc : c < w0) => stars_any (WD X Z k) n w0 c hc g5 n 1 (cap5 - n) (by omega) (fun i => n - (n + i)) wx hLl)
          have hAP := Hid.mk (fun c => (show stA (WD X Z k) n w0 h (fun i => n - i) c ≤ colP (WD X Z k) w0 k c ∧ (0 < stA (WD X Z k) n w0 h (fun i => n - i) c ↔ 0 < colP (WD X Z k) w0 k c) from by
            have e := stA_colS (WD X Z k) n w0 c
            rw [hn', WD_len] at e
            rw [e]
            exact ⟨colS_le _ _ _ _ _, colS_pos (fun j hj => rowK_le hdS.out hn40 (by rw [WD_len]; exact hj))⟩))
          have hA40 : Hid (∀ c, stA (WD X Z k) n w0 h (fun i => n - i) c ≤ 40) := ⟨fun c => Nat.le_trans (cnt_le _ _) hh40⟩
          have hT1 : Hid (∀ c, stA (WD X Z k) n w0 1 (fun i => n - i) c ≤ 40) := ⟨fun c => Nat.le_trans (cnt_le _ _) (by decide)⟩
          have hL1 : Hid (∀ c, stA (WD X Z k) n w0 1 (fun i => n - (n + i)) c ≤ 40) := ⟨fun c => Nat.le_trans (cnt_le _ _) (by decide)⟩
          rw [hn'] at hfa
          have hn3 : (h : Int) - 1 = (n : Int) := by omega
          have hnh : (n : Int) ≤ (h : Int) := by omega
          have hn0 : (0 : Int) ≤ (n : Int) := by omega
          have hnc : n ≤ h := by omega
          have hnh1 : h - n = 1 := by omega
          have hcp1 : 1 ≤ cap5 := by omega
          have hcpI : (1 : Int) ≤ (cap5 : Int) := by omega
          have hcph : (h : Int) ≤ (cap5 : Int) := by omega
          have hBe : Below w.heap.size w wx := hBw5.trans (hB.mono hBw5.size)
          clear hLn hLx hLt hLl q2 hS hZb hdS hn hn'
          obtain ⟨fA, hfA⟩ : ∃ f : Nat → Nat, f = stA (WD X Z k) n w0 h (fun i => n - i) := ⟨_, rfl⟩
          obtain ⟨fT, hfT⟩ : ∃ f : Nat → Nat, f = stA (WD X Z k) n w0 1 (fun i => n - i) := ⟨_, rfl⟩
          obtain ⟨fL, hfL⟩ : ∃ f : Nat → Nat, f = stA (WD X Z k) n w0 1 (fun i => n - (n + i)) := ⟨_, rfl⟩
          have hs1 : Hid (∀ c, c < w0 → Calls Try.prog 18 #[.slice (some ⟨g5, 0, none⟩) h cap5, .int .i64 (c : Int)] wx (fun e w' => e = .returned (.int .i64 (fA c : Int)) ∧ w' = wx)) := ⟨fun c hc => by rw [hfA]; exact hst1.out c hc⟩
          have hs2 : Hid (∀ c, c < w0 → Calls Try.prog 18 #[.slice (some ⟨g5, 0, none⟩) 1 cap5, .int .i64 (c : Int)] wx (fun e w' => e = .returned (.int .i64 (fT c : Int)) ∧ w' = wx)) := ⟨fun c hc => by rw [hfT]; exact hst2.out c hc⟩
          have hs3 : Hid (∀ c, c < w0 → Calls Try.prog 18 #[.slice (some ⟨g5, n, none⟩) 1 (cap5 - n), .int .i64 (c : Int)] wx (fun e w' => e = .returned (.int .i64 (fL c : Int)) ∧ w' = wx)) := ⟨fun c hc => by rw [hfL]; exact hst3.out c hc⟩
          rw [← hfA] at hAP hA40 hfa
          rw [← hfT] at hT1 hft
          rw [← hfL] at hL1 hfl
          clear hst1 hst2 hst3 hfA hfT hfL
          have hfin := Hid.mk (And.intro hfa (And.intro hfl hft))
          clear hfa hfl hft
          go_wp2_with fail
          go_loopw [15, 16, 17, 18] (fun av tv lv v wr => ∃ c : Nat, c ≤ w0 ∧ av = .int .i64 (sumK fA c : Int) ∧ tv = .int .i64 (sumK fT c : Int) ∧ lv = .int .i64 (sumK fL c : Int) ∧ v = .int .i64 (c : Int) ∧ wr = wx) (fun _ _ _ v _ => w0 - (intOf v).toNat)
          case atStart => exact ⟨0, by omega, rfl, rfl, rfl, rfl, rfl⟩
          case round =>
            rename World => wz
            obtain ⟨c, hc, rfl, rfl, rfl, rfl, hwz⟩ := hrel
            subst wz
            have b1 := sumK_le hA40.out c
            have b2 := sumK_le hT1.out c
            have b3 := sumK_le hL1.out c
            by_cases hcl : c < w0
            · have hcl' : (c : Int) < (w0 : Int) := by omega
              have hc0 : (0 : Int) ≤ (c : Int) := by omega
              have hc72 : (c : Int) < 72 := by omega
              have cc := hC.cell (j := c) (by omega)
              have k1 := hs1.out c hcl
              have k2 := hs2.out c hcl
              have k3 := hs3.out c hcl
              obtain ⟨p1, p2⟩ := hAP.out c
              have a1 := hA40.out c
              have a2 := hT1.out c
              have a3 := hL1.out c
              have n1 : Hid (sumK fA (c + 1) = sumK fA c + fA c) := ⟨rfl⟩
              have n2 : Hid (sumK fT (c + 1) = sumK fT c + fT c) := ⟨rfl⟩
              have n3 : Hid (sumK fL (c + 1) = sumK fL c + fL c) := ⟨rfl⟩
              obtain ⟨sA, hsA⟩ : ∃ s : Nat, s = sumK fA c := ⟨_, rfl⟩
              obtain ⟨sT, hsT⟩ : ∃ s : Nat, s = sumK fT c := ⟨_, rfl⟩
              obtain ⟨sL, hsL⟩ : ∃ s : Nat, s = sumK fL c := ⟨_, rfl⟩
              rw [← hsA] at b1 n1 ⊢
              rw [← hsT] at b2 n2 ⊢
              rw [← hsL] at b3 n3 ⊢
              have b4 : c * 40 ≤ 72 * 40 := Nat.mul_le_mul_right _ (by omega)
              generalize colP (WD X Z k) w0 k c = P at *
              generalize fA c = A at *
              generalize fT c = T1 at *
              generalize fL c = L1 at *
              have g1 : decide ((P : Int) < (A : Int)) = false := decide_eq_false (by omega)
              have g1n : decide (P < A) = false := decide_eq_false (by omega)
              have hb : decide (0 < P) = decide (0 < A) := decide_eq_decide.2 p2.symm
              have hbP : decide ((0 : Int) < (P : Int)) = decide (0 < P) := decide_eq_decide.2 (by omega)
              have hbA : decide ((0 : Int) < (A : Int)) = decide (0 < A) := decide_eq_decide.2 (by omega)
              clear hs1 hs2 hs3 hAP hA40 hT1 hL1 hC hfin hsA hsT hsL p1 p2
              by_cases hA0 : 0 < A
              · have c1 : decide (0 < A) = true := decide_eq_true hA0
                have c2 : decide (0 < P) = true := by rw [hb]; exact c1
                have c3 : 0 < P := of_decide_eq_true c2
                rw [c1] at hbA
                rw [c2] at hbP
                clear hb
                go_wp2_with (go_at_call 18; fail)
                refine k1.mono ?_
                rintro _ wq ⟨rfl, hwq⟩
                subst wq
                clear k1
                go_wp2_with (go_at_call 18; fail)
                refine k2.mono ?_
                rintro _ wq ⟨rfl, hwq⟩
                subst wq
                clear k2
                go_wp2_with (go_at_call 18; fail)
                refine k3.mono ?_
                rintro _ wq ⟨rfl, hwq⟩
                subst wq
                clear k3
                go_wp2
                go_roundw
                case rel => exact ⟨c + 1, by omega, by rw [n1.out]; go_num, by rw [n2.out]; go_num, by rw [n3.out]; go_num, by go_num, trivial⟩
                case measure => simp [intOf]; omega
              · have c1 : decide (0 < A) = false := decide_eq_false hA0
                have c2 : decide (0 < P) = false := by rw [hb]; exact c1
                rw [c1] at hbA
                rw [c2] at hbP
                clear hb hA0
                go_wp2_with (go_at_call 18; fail)
                refine k1.mono ?_
                rintro _ wq ⟨rfl, hwq⟩
                subst wq
                clear k1
                go_wp2_with (go_at_call 18; fail)
                refine k2.mono ?_
                rintro _ wq ⟨rfl, hwq⟩
                subst wq
                clear k2
                go_wp2_with (go_at_call 18; fail)
                refine k3.mono ?_
                rintro _ wq ⟨rfl, hwq⟩
                subst wq
                clear k3
                go_wp2
                go_roundw
                case rel => exact ⟨c + 1, by omega, by rw [n1.out]; go_num, by rw [n2.out]; go_num, by rw [n3.out]; go_num, by go_num, trivial⟩
                case measure => simp [intOf]; omega
            · obtain rfl : c = w0 := by omega
              have hcl' : ¬ (c : Int) < (c : Int) := by omega
              obtain ⟨f1, f2, f3⟩ := hfin.out
              have b4 : c * 40 ≤ 72 * 40 := Nat.mul_le_mul_right _ (by omega)
              generalize sumK fA c = sA at *
              generalize sumK fT c = sT at *
              generalize sumK fL c = sL at *
              clear hs1 hs2 hs3 hAP hA40 hT1 hL1 hC hfin
              by_cases hm0 : 0 < k
              · have g1 : 0 < sA := f1.2 hm0
                have g2 : 0 < sL := f2 hm0
                have g1I : (0 : Int) < (sA : Int) := by omega
                have g2I : (0 : Int) < (sL : Int) := by omega
                have hmI : (0 : Int) < (k : Int) := by omega
                have hme : ((k : Int) == 0) = false := beq_eq_false_iff_ne.2 (by omega)
                cases hu : unB Z k with
                | true =>
                  have g3 : 0 < sT := f3 hu
                  have g3I : (0 : Int) < (sT : Int) := by omega
                  clear hu f1 f2 f3
                  go_wp2
                  go_ret
                  exact ⟨rfl, hBe⟩
                | false =>
                  clear hu f1 f2 f3
                  go_wp2
                  go_ret
                  exact ⟨rfl, hBe⟩
              · obtain rfl : k = 0 := by omega
                have hs0 : sA = 0 := by omega
                have g1 : decide (0 < sA) = false := decide_eq_false (by omega)
                have g1I : decide ((0 : Int) < (sA : Int)) = false := decide_eq_false (by omega)
                clear f1 f2 f3 hs0
                go_wp2
                go_ret
                exact ⟨rfl, hBe⟩
end Go.Proofs.Yteefieidfgpijaa.CF

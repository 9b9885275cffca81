import Derived.Test.YthmjkmdbggfiiaaGreatDoorJoin29
namespace Go.Proofs.YthmjkmdbggfiiaaGreatDoor.CF
open Go.RowKit
attribute [local go_sem] run_store_float

theorem le0 {d : Nat} (hd : d < 4294967296) (h1 : d % 2147483648 ≤ 2139095040) : (Ieee.single.order d 0 == some .lt || Ieee.single.order d 0 == some .eq) = decide (ordN d ≤ 0) := by
  rw [order_eq hd (by decide) h1 (by decide)]
  have h0 : ordN 0 = 0 := rfl
  rw [h0]
  unfold cmpI
  by_cases h3 : ordN d < 0
  · rw [if_pos h3, decide_eq_true (by omega)]; rfl
  · rw [if_neg h3]
    by_cases h4 : ordN d = 0
    · rw [if_pos h4, decide_eq_true (by omega)]; rfl
    · rw [if_neg h4, decide_eq_false (by omega)]; rfl
theorem ge0 {d : Nat} (hd : d < 4294967296) (h1 : d % 2147483648 ≤ 2139095040) : (Ieee.single.order d 0 == some .gt || Ieee.single.order d 0 == some .eq) = decide (0 ≤ ordN d) := by
  rw [order_eq hd (by decide) h1 (by decide)]
  have h0 : ordN 0 = 0 := rfl
  rw [h0]
  unfold cmpI
  by_cases h3 : ordN d < 0
  · rw [if_pos h3, decide_eq_false (by omega)]; rfl
  · rw [if_neg h3]
    by_cases h4 : ordN d = 0
    · rw [if_pos h4, decide_eq_true (by omega)]; rfl
    · rw [if_neg h4, decide_eq_true (by omega)]; rfl
theorem info_pic : (Tryz.prog.info? 98).map (fun i => (i.zero, i.size)) = some (some (.agg (Array.replicate 2880 (.int .u8 0))), 2880) := by kernel_rfl
theorem pic_zero : ∃ Z : Array Value, (∀ w, (zeroValue 98).run Tryz.prog w = .ok (.agg Z) w) ∧ Z.size = 2880 ∧ ∀ j, j < 2880 → Z[j]? = some (.int .u8 (0 : Int)) := by
  refine ⟨_, (zero_of_info info_pic).1, by simp, fun j hj => ?_⟩
  rw [Array.getElem?_replicate, if_pos hj]
/-- What drawn answers: the picture's cells. -/
def DrwP (D : Dots) (n wide : Nat) (w : World) (e : Ending) (w' : World) : Prop := ∃ A : Array Value, e = .returned (.agg A) ∧ A.size = 2880 ∧ (∀ j, j < 2880 → A[j]? = some (.int .u8 (starR D n wide D.length j : Int))) ∧ Below w.heap.size w w'
set_option maxRecDepth 8000 in
set_option maxHeartbeats 2000000 in
theorem drawn_any (D : Dots) (h : Draws D) (hl : D.length ≤ 9223372036854775806) (wide n : Nat) (hw : 2 ≤ wide ∧ wide ≤ 72) (hn : n < 40) (hn1 : 1 ≤ n) (a : Option Addr) (c : Nat) (w : World) (hp : PtAt w a D) : Calls Tryz.prog 55 #[frV (wide : Int) ((n : Int) + 1) (pX D 0) (pX D (D.length - 1)) (loP D D.length) (hiP D D.length), .slice a D.length c] w (DrwP D n wide w) := by
  obtain ⟨Z, hz, hZ1, hZ2⟩ := pic_zero
  have hrow := Hid.mk (fun k (hk : k < D.length) (x0 x1 : Int) X => prow_any (wide : Int) ((n : Int) + 1) x0 x1 (hgt D k) (loP D D.length) (hiP D D.length) n rfl hn (h.btw hk) X)
  have hcol := Hid.mk (fun k (hk : k < D.length) (l g : Nat) X => pcol_any (wide : Int) ((n : Int) + 1) (pX D 0) (pX D (D.length - 1)) (pX D k) l g (inO_mono h.io (by omega) hk) (inO_mono h.io (by omega) (by omega)) (inO_bd h.io (j := 0) (by omega)).1 (inO_bd h.io (j := D.length - 1) (by omega)).2 (by omega) X)
  have hrle := Hid.mk (fun k (hk : k < D.length) => (h.btw hk).row_le hn)
  have hceq := Hid.mk (fun k (hk : k < D.length) => colK_eq h.io hk (wide := wide) (by omega))
  have hzer : Hid ((zerR D n = none ∧ (0 < D.length → ¬ (ordN (loP D D.length) ≤ 0 ∧ 0 ≤ ordN (hiP D D.length)))) ∨ (∃ z, zerR D n = some z ∧ z ≤ n ∧ 0 < D.length ∧ ordN (loP D D.length) ≤ 0 ∧ 0 ≤ ordN (hiP D D.length) ∧ ∀ x0 x1 X, Calls Tryz.prog 86 #[frV (wide : Int) ((n : Int) + 1) x0 x1 (loP D D.length) (hiP D D.length), .float .f32 0] X fun e w' => e = .returned (.int .i64 (z : Int)) ∧ Below X.heap.size X w')) := ⟨by
    unfold zerR
    by_cases hc : 0 < D.length ∧ ordN (loP D D.length) ≤ 0 ∧ 0 ≤ ordN (hiP D D.length)
    · rw [if_pos hc]
      have hb := h.btw0 hc.1 hc.2.1 hc.2.2
      exact .inr ⟨_, rfl, hb.row_le hn, hc.1, hc.2.1, hc.2.2, fun x0 x1 X => prow_any (wide : Int) ((n : Int) + 1) x0 x1 0 _ _ n rfl hn hb X⟩
    · rw [if_neg hc]
      exact .inl ⟨rfl, fun h0 h2 => hc ⟨h0, h2⟩⟩⟩
  have hfin : Hid (0 < D.length → (loP D D.length < 4294967296 ∧ loP D D.length % 2147483648 < 2139095040) ∧ (hiP D D.length < 4294967296 ∧ hiP D D.length % 2147483648 < 2139095040)) := ⟨fun h0 => lo_fin h.ok h.io h0 (Nat.le_refl _)⟩
  obtain ⟨Q, hQ⟩ : ∃ Q : Ending → World → Prop, Q = DrwP D n wide w := ⟨_, rfl⟩
  replace hQ := Hid.mk hQ
  rw [← hQ.out]
  have hrK : Hid (∀ k, rowN (hgt D k) (loP D D.length) (hiP D D.length) n = rowK D n k) := ⟨fun _ => rfl⟩
  replace h := Hid.mk h
  generalize loP D D.length = l at *
  generalize hiP D D.length = g at *
  obtain ⟨x0, hx0⟩ : ∃ x, x = pX D 0 := ⟨_, rfl⟩
  obtain ⟨x1, hx1⟩ : ∃ x, x = pX D (D.length - 1) := ⟨_, rfl⟩
  rw [← hx0, ← hx1] at hcol hceq ⊢
  clear hx0 hx1
  go_enter Tryz.func55, Tryz.ntmps55
  go_wp2_with fail
  obtain ⟨W1, hW1⟩ : ∃ W1, ((w.alloc (.cells #[.int .i64 (wide : Int), .int .i64 ((n : Int) + 1), .int .i64 x0, .int .i64 x1, .float .f32 l, .float .f32 g] 92)).alloc (.cells Z 98)).alloc (.cells Z 98) = W1 := ⟨_, rfl⟩
  have hB1 : Below w.heap.size w W1 := by rw [← hW1]; exact (((Below.refl _ _).alloc (Nat.le_refl _) _).alloc (by simp) _).alloc (by simp; omega) _
  have hF : FrR W1 w.heap.size (wide : Int) ((n : Int) + 1) x0 x1 l g := by
    rw [← hW1]
    unfold FrR
    rw [heap_alloc_old _ _ (by simp; omega)]
    exact heap_alloc2_old _ _ _
  have hRs : W1.heap[w.heap.size + 1]? = some (.cells Z 98 (0, 0)) := by
    rw [← hW1]
    rw [heap_alloc_old _ _ (by simp)]
    exact heap_alloc2_new _ _ _
  have hP1 : Pic W1 (w.heap.size + 1 + 1) (base wide 0) := by
    refine ⟨Z, ?_, hZ1, fun j hj => ?_⟩
    · rw [← hW1]
      have := heap_alloc_new ((w.alloc (.cells #[.int .i64 (wide : Int), .int .i64 ((n : Int) + 1), .int .i64 x0, .int .i64 x1, .float .f32 l, .float .f32 g] 92)).alloc (.cells Z 98)) (.cells Z 98)
      simpa using this
    · rw [hZ2 j hj]
      unfold base
      rw [if_neg (by omega)]
      rfl
  rw [hW1]
  obtain ⟨B, hBe⟩ : ∃ B, w.heap.size + 1 + 1 = B := ⟨_, rfl⟩
  have hBv : w.heap.size < B ∧ w.heap.size + 1 < B := by omega
  rw [hBe] at hP1 ⊢
  replace hBe := Hid.mk hBe
  have hZZ := Hid.mk (And.intro hZ1 hZ2)
  clear hW1 hz hZ1 hZ2
  go_loopw [11] (fun v wr => ∃ k : Nat, k ≤ n + 1 ∧ v = .int .i64 (k : Int) ∧ Pic wr B (base wide k) ∧ Below B W1 wr) (fun v _ => n + 1 - (intOf v).toNat)
  case atStart => exact ⟨0, by omega, rfl, hP1, Below.refl _ _⟩
  case round =>
    obtain ⟨k, hk, rfl, hP, hB⟩ := hrel
    have hFr : FrR wr w.heap.size (wide : Int) ((n : Int) + 1) x0 x1 l g := (hB.block _ hBv.1).trans hF
    by_cases hlt : k < n + 1
    · have hlt' : (k : Int) < (n : Int) + 1 := by omega
      have hk0 : (0 : Int) ≤ (k : Int) := by omega
      have hk40 : (k : Int) < 40 := by omega
      have hfi := fun X (hX : Pic X B (base wide k)) => fill_any wide ((n : Int) + 1) x0 x1 l g hw.2 B k 32 (base wide k) (by omega) X hX
      have hPd : Pic wr.drew B (base wide k) := hP
      have hBd : Below B W1 wr.drew := hB.drew
      obtain ⟨c0, c1, c2, c3, c4, c5⟩ := hFr.cells
      have hS0 : ∀ X, Below B W1 X → X.cell? ⟨w.heap.size, 0, none⟩ = some (.int .i64 (wide : Int)) ∧ X.cell? ⟨w.heap.size, 1, none⟩ = some (.int .i64 ((n : Int) + 1)) ∧ X.cell? ⟨w.heap.size, 2, none⟩ = some (.int .i64 x0) ∧ X.cell? ⟨w.heap.size, 3, none⟩ = some (.int .i64 x1) ∧ X.cell? ⟨w.heap.size, 4, none⟩ = some (.float .f32 l) ∧ X.cell? ⟨w.heap.size, 5, none⟩ = some (.float .f32 g) := fun X hX => FrR.cells ((hX.block _ hBv.1).trans hF)
      have hS1 := hS0 _ hBd
      clear hrow hcol hrle hceq hzer hfin hp
      go_wp2_with fail
      go_region_held3 (fun X => X.cell? ⟨w.heap.size, 0, none⟩ = some (.int .i64 (wide : Int)) ∧ X.cell? ⟨w.heap.size, 1, none⟩ = some (.int .i64 ((n : Int) + 1)) ∧ X.cell? ⟨w.heap.size, 2, none⟩ = some (.int .i64 x0) ∧ X.cell? ⟨w.heap.size, 3, none⟩ = some (.int .i64 x1) ∧ X.cell? ⟨w.heap.size, 4, none⟩ = some (.float .f32 l) ∧ X.cell? ⟨w.heap.size, 5, none⟩ = some (.float .f32 g)) (with_reducible assumption)
        ((go_at_call 85; refine (hfi _ hPd).mono ?_; rintro _ w5 ⟨rfl, hP5, hB5⟩; have hBw5 := hBd.trans hB5; have hS5 := hS0 _ hBw5))
      go_wp2
      go_roundw
      case rel => exact ⟨k + 1, by omega, by go_num, hP5.congr (fun j _ => fill_base wide k hw.2 j), hBw5⟩
      case measure => simp [intOf]; omega
    · have hkn : k = n + 1 := by omega
      rw [hkn] at hP
      have hlt' : ¬ (k : Int) < (n : Int) + 1 := by omega
      clear hkn hlt hk
      generalize ((k : Nat) : Int) = kI at *
      go_upto_region 7 with fail
      obtain ⟨bt, hbt⟩ : ∃ bt, bt = (zerR D n).isSome := ⟨_, rfl⟩
      replace hbt := Hid.mk hbt
      go_cut [31] (fun bv wx => bv = .bool bt ∧ wx = wr)
      case first =>
        obtain ⟨-, -, -, -, c4, c5⟩ := hFr.cells
        have fz := hfin.out
        have hz := hzer.out
        clear hrow hcol hrle hceq hzer hfin hFr hF hP hB hRs hP1 hB1 hp
        by_cases h0 : 0 < D.length
        · have h0' : (0 : Int) < (D.length : Int) := by omega
          obtain ⟨⟨l1, l2⟩, g1, g2⟩ := fz h0
          have oL := le0 l1 (by omega)
          have oG := ge0 g1 (by omega)
          have oL' : (FloatKind.f32.format.order l 0 == some .lt || FloatKind.f32.format.order l 0 == some .eq) = decide (ordN l ≤ 0) := oL
          have oG' : (FloatKind.f32.format.order g 0 == some .gt || FloatKind.f32.format.order g 0 == some .eq) = decide (0 ≤ ordN g) := oG
          clear oL oG fz
          rcases hz with ⟨hz, hno⟩ | ⟨z, hz, -, -, z1, z2, -⟩
          · have e : (zerR D n).isSome = false := by rw [hz]; rfl
            replace e := Hid.mk e
            by_cases z1 : ordN l ≤ 0
            · have z2 : ¬ 0 ≤ ordN g := fun z2 => hno h0 ⟨z1, z2⟩
              rw [decide_eq_true z1] at oL'
              rw [decide_eq_false z2] at oG'
              clear hno hz z1 z2
              go_wp2
              go_meet
              exact ⟨by rw [hbt.out, e.out], rfl⟩
            · rw [decide_eq_false z1] at oL'
              clear hno hz z1 oG'
              go_wp2
              go_meet
              exact ⟨by rw [hbt.out, e.out], rfl⟩
          · have e : (zerR D n).isSome = true := by rw [hz]; rfl
            replace e := Hid.mk e
            rw [decide_eq_true z1] at oL'
            rw [decide_eq_true z2] at oG'
            clear hz z1 z2
            go_wp2
            go_meet
            exact ⟨by rw [hbt.out, e.out], rfl⟩
        · have h0' : ¬ (0 : Int) < (D.length : Int) := by omega
          have e : (zerR D n).isSome = false := by
            rcases hz with ⟨hz, -⟩ | ⟨z, -, -, h, -⟩
            · rw [hz]; rfl
            · exact absurd h h0
          replace e := Hid.mk e
          clear hz fz
          go_wp2
          go_meet
          exact ⟨by rw [hbt.out, e.out], rfl⟩
      case rest =>
        obtain ⟨rfl, hwc⟩ := hcut
        subst wc
        go_upto_if 31 with fail
        go_cut [4] (fun v wx => v = .pointer (some ⟨w.heap.size + 1, 0, none⟩) ∧ Pic wx B (dash wide n (zerR D n)) ∧ Below B W1 wx)
        case first =>
          have hz := hzer.out
          clear hrow hcol hrle hceq hzer hfin hp hP1 hB1
          rcases hz with ⟨hz, -⟩ | ⟨z, hz, hzn, -, -, -, hro⟩
          · obtain rfl : bt = false := by rw [hbt.out, hz]; rfl
            have hPe : Pic wr B (dash wide n (zerR D n)) := by rw [hz]; exact hP.congr (fun j _ => dash_none wide n j)
            clear hz hP
            go_wp2
            go_meet
            exact ⟨rfl, hPe, hB⟩
          · obtain rfl : bt = true := by rw [hbt.out, hz]; rfl
            have hPd : Pic wr.drew B (base wide (n + 1)) := hP
            have hBd : Below B W1 wr.drew := hB.drew
            have hfi := fun X (hX : Pic X B (base wide (n + 1))) => fill_any wide ((n : Int) + 1) x0 x1 l g hw.2 B z 45 (base wide (n + 1)) (by omega) X hX
            have hS0 : ∀ X, Below B W1 X → X.cell? ⟨w.heap.size, 0, none⟩ = some (.int .i64 (wide : Int)) ∧ X.cell? ⟨w.heap.size, 1, none⟩ = some (.int .i64 ((n : Int) + 1)) ∧ X.cell? ⟨w.heap.size, 2, none⟩ = some (.int .i64 x0) ∧ X.cell? ⟨w.heap.size, 3, none⟩ = some (.int .i64 x1) ∧ X.cell? ⟨w.heap.size, 4, none⟩ = some (.float .f32 l) ∧ X.cell? ⟨w.heap.size, 5, none⟩ = some (.float .f32 g) := fun X hX => FrR.cells ((hX.block _ hBv.1).trans hF)
            have hS1 := hS0 _ hBd
            have hz0 : (0 : Int) ≤ (z : Int) := by omega
            have hz40 : (z : Int) < 40 := by omega
            have hz40' : z < 40 := by omega
            replace hz := Hid.mk hz
            clear hP
            go_wp2_with fail
            go_region_held3 (fun X => X.cell? ⟨w.heap.size, 0, none⟩ = some (.int .i64 (wide : Int)) ∧ X.cell? ⟨w.heap.size, 1, none⟩ = some (.int .i64 ((n : Int) + 1)) ∧ X.cell? ⟨w.heap.size, 2, none⟩ = some (.int .i64 x0) ∧ X.cell? ⟨w.heap.size, 3, none⟩ = some (.int .i64 x1) ∧ X.cell? ⟨w.heap.size, 4, none⟩ = some (.float .f32 l) ∧ X.cell? ⟨w.heap.size, 5, none⟩ = some (.float .f32 g)) (with_reducible assumption)
              (first | (go_at_call 86; refine (hro _ _ _).mono ?_; rintro _ w4 ⟨rfl, hB4⟩; have hP4 := hPd.later hB4; have hBw4 := hBd.trans (hB4.mono (Nat.le_of_lt hPd.lt)); have hS4 := hS0 _ hBw4) | (go_at_call 85; refine (hfi _ hP4).mono ?_; rintro _ w5 ⟨rfl, hP5, hB5⟩; have hBw5 := hBw4.trans hB5; have hS5 := hS0 _ hBw5))
            go_wp2
            go_meet
            exact ⟨rfl, by rw [hz.out]; exact hP5.congr (fun j _ => fill_dash wide n z hw.2 j), hBw5⟩
        case rest =>
          obtain ⟨rfl, hPc, hBc⟩ := hcut
          clear hP hB hFr hzer hfin hlt'
          go_wp2_with fail
          go_loopw [39] (fun v wr => ∃ k : Nat, k ≤ D.length ∧ v = .int .i64 (k : Int) ∧ Pic wr B (starR D n wide k) ∧ Below B W1 wr) (fun v _ => D.length - (intOf v).toNat)
          case atStart => exact ⟨0, by omega, rfl, hPc.congr (fun j _ => starR_zero D n wide j), hBc⟩
          case round =>
            rename World => wr2
            obtain ⟨k, hk, rfl, hP, hB⟩ := hrel
            by_cases hlt : k < D.length
            · have hlt' : (k : Int) < (D.length : Int) := by omega
              have hk0 : (0 : Int) ≤ (k : Int) := by omega
              obtain ⟨b, off, rfl, hc⟩ := hp.cells hlt
              have hbl : b < w.heap.size := World.block_lt_of_cell? _ _ (hc k hlt).1
              obtain ⟨r0, r1⟩ := hc k hlt
              have s0 := ((hB.cell (p := ⟨b, off + k * 2, none⟩) (Nat.lt_trans hbl hBv.1)).trans (hB1.cell (p := ⟨b, off + k * 2, none⟩) hbl)).trans r0
              have s1 := ((hB.cell (p := ⟨b, off + k * 2 + 1, none⟩) (Nat.lt_trans hbl hBv.1)).trans (hB1.cell (p := ⟨b, off + k * 2 + 1, none⟩) hbl)).trans r1
              change wr2.cell? _ = some (.int .i64 (pX D k)) at s0
              change wr2.cell? _ = some (.float .f32 (hgt D k)) at s1
              have q1 := fun X => hrow.out k hlt x0 x1 X
              have q2 := fun X => hcol.out k hlt l g X
              have q3 := hrle.out k hlt
              obtain ⟨q4, q5⟩ := hceq.out k hlt
              rw [hrK.out k] at q1 q3
              rw [← q4] at q2
              have hsu : Hid (∀ j, starR D n wide (k + 1) j = if j = rowK D n k * 72 + colK D wide k then 42 else starR D n wide k j) := ⟨fun j => starR_succ D n wide k (by omega) j⟩
              clear hc r0 r1 hrow hcol hrle hceq hrK hp q4 hPc hBc hP1
              generalize pX D k = px at *
              generalize hgt D k = py at *
              generalize rowK D n k = ro at *
              generalize colK D wide k = co at *
              go_upto_region 12 with fail
              obtain ⟨X, hX⟩ : ∃ X, wr2.alloc (.cells #[.int .i64 px, .float .f32 py] 64) = X := ⟨_, rfl⟩
              have t0 : X.cell? ⟨wr2.heap.size, 0, none⟩ = some (.int .i64 px) := by rw [← hX]; simp
              have t1 : X.cell? ⟨wr2.heap.size, 1, none⟩ = some (.float .f32 py) := by rw [← hX]; simp
              have hBX : Below wr2.heap.size wr2 X := by rw [← hX]; exact (Below.refl _ _).alloc (Nat.le_refl _) _
              have hsz : wr2.heap.size < X.heap.size := by rw [← hX]; simp
              have hPX := hP.later hBX
              have hBl := hP.lt
              have hBX1 : Below B W1 X := hB.trans (hBX.mono (Nat.le_of_lt hBl))
              rw [hX]
              clear hX s0 s1 hB hP
              have hXs : ∀ Y, Below X.heap.size X Y → (Below B W1 Y ∧ Pic Y B (starR D n wide k)) ∧ Y.cell? ⟨wr2.heap.size, 0, none⟩ = some (.int .i64 px) ∧ Y.cell? ⟨wr2.heap.size, 1, none⟩ = some (.float .f32 py) := fun Y hY => ⟨⟨hBX1.trans (hY.mono (Nat.le_of_lt hPX.lt)), hPX.later hY⟩, (hY.cell (p := ⟨wr2.heap.size, 0, none⟩) hsz).trans t0, (hY.cell (p := ⟨wr2.heap.size, 1, none⟩) hsz).trans t1⟩
              have hS0 : ∀ Y, Below X.heap.size X Y → (Y.cell? ⟨w.heap.size, 0, none⟩ = some (.int .i64 (wide : Int)) ∧ Y.cell? ⟨w.heap.size, 1, none⟩ = some (.int .i64 ((n : Int) + 1)) ∧ Y.cell? ⟨w.heap.size, 2, none⟩ = some (.int .i64 x0) ∧ Y.cell? ⟨w.heap.size, 3, none⟩ = some (.int .i64 x1) ∧ Y.cell? ⟨w.heap.size, 4, none⟩ = some (.float .f32 l) ∧ Y.cell? ⟨w.heap.size, 5, none⟩ = some (.float .f32 g)) ∧ Y.cell? ⟨wr2.heap.size, 0, none⟩ = some (.int .i64 px) ∧ Y.cell? ⟨wr2.heap.size, 1, none⟩ = some (.float .f32 py) := fun Y hY => ⟨FrR.cells (((hXs Y hY).1.1.block _ hBv.1).trans hF), (hXs Y hY).2⟩
              have hBd : Below X.heap.size X X.drew := (Below.refl _ _).drew
              have hS1 := hS0 _ hBd
              have hro : ro < 40 := by omega
              have hco : co < 72 := by omega
              have hro1 : (ro : Int) < 40 := by omega
              have hco1 : (co : Int) < 72 := by omega
              have hro0 : (0 : Int) ≤ (ro : Int) := by omega
              have hco0 : (0 : Int) ≤ (co : Int) := by omega
              have hj : ro * 72 + co < 2880 := by omega
              have hSt : ∀ Y, Below X.heap.size X Y → ((Y.setCell ⟨B, ro * 72 + co, none⟩ (.int .u8 42)).cell? ⟨w.heap.size, 0, none⟩ = some (.int .i64 (wide : Int)) ∧ (Y.setCell ⟨B, ro * 72 + co, none⟩ (.int .u8 42)).cell? ⟨w.heap.size, 1, none⟩ = some (.int .i64 ((n : Int) + 1)) ∧ (Y.setCell ⟨B, ro * 72 + co, none⟩ (.int .u8 42)).cell? ⟨w.heap.size, 2, none⟩ = some (.int .i64 x0) ∧ (Y.setCell ⟨B, ro * 72 + co, none⟩ (.int .u8 42)).cell? ⟨w.heap.size, 3, none⟩ = some (.int .i64 x1) ∧ (Y.setCell ⟨B, ro * 72 + co, none⟩ (.int .u8 42)).cell? ⟨w.heap.size, 4, none⟩ = some (.float .f32 l) ∧ (Y.setCell ⟨B, ro * 72 + co, none⟩ (.int .u8 42)).cell? ⟨w.heap.size, 5, none⟩ = some (.float .f32 g)) ∧ (Y.setCell ⟨B, ro * 72 + co, none⟩ (.int .u8 42)).cell? ⟨wr2.heap.size, 0, none⟩ = some (.int .i64 px) ∧ (Y.setCell ⟨B, ro * 72 + co, none⟩ (.int .u8 42)).cell? ⟨wr2.heap.size, 1, none⟩ = some (.float .f32 py) := fun Y hY => by
                have hY2 := hS0 Y hY
                have ne1 : B ≠ w.heap.size := by omega
                have ne2 : B ≠ wr2.heap.size := by omega
                refine ⟨FrR.cells (FrR.other (((hXs Y hY).1.1.block _ hBv.1).trans hF) (p := ⟨B, ro * 72 + co, none⟩) (fun e => ne1 e.symm) _), ?_, ?_⟩
                · exact (World.cell?_setCell_far _ _ _ _ ne2).trans hY2.2.1
                · exact (World.cell?_setCell_far _ _ _ _ ne2).trans hY2.2.2
              go_region_held3 (fun Y => (Y.cell? ⟨w.heap.size, 0, none⟩ = some (.int .i64 (wide : Int)) ∧ Y.cell? ⟨w.heap.size, 1, none⟩ = some (.int .i64 ((n : Int) + 1)) ∧ Y.cell? ⟨w.heap.size, 2, none⟩ = some (.int .i64 x0) ∧ Y.cell? ⟨w.heap.size, 3, none⟩ = some (.int .i64 x1) ∧ Y.cell? ⟨w.heap.size, 4, none⟩ = some (.float .f32 l) ∧ Y.cell? ⟨w.heap.size, 5, none⟩ = some (.float .f32 g)) ∧ Y.cell? ⟨wr2.heap.size, 0, none⟩ = some (.int .i64 px) ∧ Y.cell? ⟨wr2.heap.size, 1, none⟩ = some (.float .f32 py)) (first | (with_reducible assumption) | (exact hSt _ hBw5))
                (first | (go_at_call 86; refine (q1 _).mono ?_; rintro _ w4 ⟨rfl, hB4⟩; have hBw4 := hBd.trans hB4; have hS4 := hS0 _ hBw4) | (go_at_call 87; refine (q2 _).mono ?_; rintro _ w5 ⟨rfl, hB5⟩; have hBw5 := hBw4.trans (hB5.mono hBw4.size); have hS5 := hS0 _ hBw5; have hP5 := (hXs _ hBw5).1.2; have hc5 := hP5.cell hj; have hf5 := hP5.frozen (ro * 72 + co)))
              have hP6 := (hP5.set hj 42).congr (R' := starR D n wide (k + 1)) (fun j _ => hsu.out j)
              have hB6 := (hXs _ hBw5).1.1.setCell (p := ⟨B, ro * 72 + co, none⟩) (Nat.le_refl _) (.int .u8 42)
              go_wp2
              go_roundw
              case rel => exact ⟨k + 1, by omega, by go_num, hP6, hB6⟩
              case measure => simp [intOf]; omega
            · obtain rfl : k = D.length := by omega
              have hlt' : ¬ (D.length : Int) < (D.length : Int) := by omega
              obtain ⟨A, hA1, hA2, hA3⟩ := hP
              have hRw : wr2.heap[w.heap.size + 1]? = some (.cells Z 98 (0, 0)) := (hB.block _ hBv.2).trans hRs
              have hAone : A.all (·.oneCell') = true := by
                rw [Array.all_eq_true]
                intro i hi
                have := hA3 i (by omega)
                rw [Array.getElem?_eq_getElem hi] at this
                rw [Option.some.inj this]
                rfl
              have hsz : (Tryz.prog.info? 98).map (·.size) = some A.size := by rw [hA2]; exact (zero_of_info info_pic).2
              have hBw : Below w.heap.size w wr2 := hB1.trans (hB.mono (Nat.le_of_lt hBv.1))
              have hZs := hZZ.out.1
              clear hZZ hrow hcol hrle hceq hrK hp
              go_wp2_with (first | (refine wpList_load_row rfl 98 _ rfl B rfl 98 A (0, 0) _ hA1 Tryz.underlying98 rfl hsz ?_) | (refine wpList_store_row rfl 98 _ _ rfl (w.heap.size + 1) A rfl rfl 98 Z hRw hsz (by omega) hAone ?_))
              refine bodyPost_ret (v := .agg A) ?_ ?_ ?_
              · exact results_cell_row Tryz.results55 _ _ (w.heap.size + 1) 98 _ (0, 0) _ rfl (setRow_heap _ _ _ _ _ _ hRw) Tryz.underlying98 rfl hsz
              · rfl
              · rw [hQ.out]
                exact ⟨A, rfl, hA2, hA3, below_setRow hBw (Nat.le_succ _) _⟩
end Go.Proofs.YthmjkmdbggfiiaaGreatDoor.CF

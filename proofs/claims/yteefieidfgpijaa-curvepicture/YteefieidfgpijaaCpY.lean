import Derived.Test.YteefieidfgpijaaCpX
namespace Go.Proofs.Yteefieidfgpijaa.CF
open Go.RowKit
attribute [local go_sem] run_store_float

def pX (D : Dots) (k : Nat) : Int := (D.getD k (0, 0)).1
/-- The frame of points. -/
def FrP (D : Dots) (wide high : Int) (w : World) (e : Ending) (w' : World) : Prop := e = .returned (frV wide high (pX D 0) (pX D (D.length - 1)) (loP D D.length) (hiP D D.length)) ∧ Below w.heap.size w w'
theorem lo_fin {D : Dots} (hD : Ok D) (hio : inO D = true) (h0 : 0 < D.length) {k : Nat} (hk : k ≤ D.length) : (loP D k < 4294967296 ∧ loP D k % 2147483648 < 2139095040) ∧ (hiP D k < 4294967296 ∧ hiP D k % 2147483648 < 2139095040) := by
  have hj : ∀ j, j < D.length → hgt D j < 4294967296 ∧ hgt D j % 2147483648 < 2139095040 := fun j hj => ⟨(hD.getD j).2, (gB_parts (inO_true.1 hio j hj)).1.2⟩
  obtain ⟨j1, a1, e1⟩ := loP_in D k
  obtain ⟨j2, a2, e2⟩ := hiP_in D k
  rw [e1, e2]
  exact ⟨hj j1 (by omega), hj j2 (by omega)⟩
theorem below_setRow {B : Nat} {a w : World} (h : Below B a w) {g : Nat} (hg : B ≤ g) (cs : Array Value) : Below B a (w.setRow g cs) := ⟨h.os, h.tape, h.output, by rw [size_setRow]; exact h.size, fun k hk => (setRow_other w g k cs (by omega)).trans (h.block k hk)⟩
theorem frV_one (wide high x0 x1 : Int) (l g : Nat) : (#[Value.int .i64 wide, .int .i64 high, .int .i64 x0, .int .i64 x1, .float .f32 l, .float .f32 g]).all (·.oneCell') = true := by simp [Value.oneCell']
theorem info_frame : (Try.prog.info? 65).map (·.size) = some 6 := by kernel_rfl
/-- The frame's row, and the row of what is answered. -/
def FrR (w : World) (b : Nat) (wide high x0 x1 : Int) (l g : Nat) : Prop := w.heap[b]? = some (.cells #[.int .i64 wide, .int .i64 high, .int .i64 x0, .int .i64 x1, .float .f32 l, .float .f32 g] 65 (0, 0))
theorem FrR.cells {w : World} {b : Nat} {wide high x0 x1 : Int} {l g : Nat} (h : FrR w b wide high x0 x1 l g) : w.cell? ⟨b, 0, none⟩ = some (.int .i64 wide) ∧ w.cell? ⟨b, 1, none⟩ = some (.int .i64 high) ∧ w.cell? ⟨b, 2, none⟩ = some (.int .i64 x0) ∧ w.cell? ⟨b, 3, none⟩ = some (.int .i64 x1) ∧ w.cell? ⟨b, 4, none⟩ = some (.float .f32 l) ∧ w.cell? ⟨b, 5, none⟩ = some (.float .f32 g) :=
  ⟨by rw [cell_of_row w b 0 _ _ _ h]; rfl, by rw [cell_of_row w b 1 _ _ _ h]; rfl, by rw [cell_of_row w b 2 _ _ _ h]; rfl, by rw [cell_of_row w b 3 _ _ _ h]; rfl, by rw [cell_of_row w b 4 _ _ _ h]; rfl, by rw [cell_of_row w b 5 _ _ _ h]; rfl⟩
theorem FrR.frozen {w : World} {b : Nat} {wide high x0 x1 : Int} {l g : Nat} (h : FrR w b wide high x0 x1 l g) (j : Nat) : w.frozen? ⟨b, j, none⟩ = false := frozen_of_row w b j _ _ h
theorem FrR.setL {w : World} {b : Nat} {wide high x0 x1 : Int} {l g : Nat} (h : FrR w b wide high x0 x1 l g) (z : Nat) : FrR (w.setCell ⟨b, 4, none⟩ (.float .f32 z)) b wide high x0 x1 z g := heap_setCell_same w b 4 _ _ _ h
theorem FrR.setG {w : World} {b : Nat} {wide high x0 x1 : Int} {l g : Nat} (h : FrR w b wide high x0 x1 l g) (z : Nat) : FrR (w.setCell ⟨b, 5, none⟩ (.float .f32 z)) b wide high x0 x1 l z := heap_setCell_same w b 5 _ _ _ h
theorem FrR.lt {w : World} {b : Nat} {wide high x0 x1 : Int} {l g : Nat} (h : FrR w b wide high x0 x1 l g) : b < w.heap.size := (Array.getElem?_eq_some_iff.1 h).1
theorem FrR.later {w w' : World} {b : Nat} {wide high x0 x1 : Int} {l g : Nat} (h : FrR w b wide high x0 x1 l g) (hb : Below w.heap.size w w') : FrR w' b wide high x0 x1 l g := (hb.block b h.lt).trans h
theorem FrR.other {w : World} {b : Nat} {wide high x0 x1 : Int} {l g : Nat} (h : FrR w b wide high x0 x1 l g) {p : Addr} (hp : b ≠ p.block) (v : Value) : FrR (w.setCell p v) b wide high x0 x1 l g := (heap_setCell_other w p b v hp).trans h
set_option maxRecDepth 8000 in
set_option maxHeartbeats 2000000 in
theorem frameOf_any (D : Dots) (hD : Ok D) (hio : inO D = true) (hl : D.length ≤ 9223372036854775806) (wide high : Int) (a : Option Addr) (c : Nat) (w : World) (h : PtAt w a D) : Calls Try.prog 31 #[.slice a D.length c, .int .i64 wide, .int .i64 high] w (FrP D wide high w) := by
  by_cases h0 : D.length = 0
  · obtain rfl : D = [] := List.eq_nil_of_length_eq_zero h0
    have hB : Below w.heap.size w ((w.alloc (.cells #[.int .i64 wide, .int .i64 high, .int .i64 0, .int .i64 0, .float .f32 0, .float .f32 0] 65)).alloc (.cells #[.int .i64 wide, .int .i64 high, .int .i64 0, .int .i64 0, .float .f32 0, .float .f32 0] 65)) := ((Below.refl _ _).alloc (Nat.le_refl _) _).alloc (by simp) _
    clear h hl hD hio
    go_enter Try.func31, Try.ntmps31
    go_wp2
    exact bodyPost_ret (v := frV wide high 0 0 0 0) (by simp [results, Try.results31, go_sem]) rfl ⟨rfl, hB⟩
  · obtain ⟨n, hn⟩ : ∃ n, D.length = n + 1 := ⟨D.length - 1, by omega⟩
    have h0' : ((D.length : Int) == 0) = false := beq_eq_false_iff_ne.2 (by omega)
    obtain ⟨b, off, rfl, hc⟩ := h.cells (k := 0) (by omega)
    have hbl : b < w.heap.size := World.block_lt_of_cell? _ _ (hc 0 (by omega)).1
    obtain ⟨p0, q0⟩ := hc 0 (by omega)
    obtain ⟨pn, -⟩ := hc n (by omega)
    rw [Nat.zero_mul, Nat.add_zero] at p0 q0
    have e1 : (D.length : Int) - 1 = (n : Int) := by omega
    have e1' : IntKind.i64.wrap ((D.length : Int) - 1) = (n : Int) := by rw [IntKind.wrap_i64]; omega
    have e2 : (n : Int) < (D.length : Int) := by omega
    have e3 : (0 : Int) ≤ (n : Int) := by omega
    have e4 : (0 : Int) < (D.length : Int) := by omega
    have hne1 : b ≠ w.heap.size := by omega
    have hne2 : b ≠ w.heap.size + 1 := by omega
    change w.cell? _ = some (.int .i64 (pX D 0)) at p0
    change w.cell? _ = some (.int .i64 (pX D n)) at pn
    change w.cell? _ = some (.float .f32 (loP D 0)) at q0
    have hcH := Hid.mk hc
    have hnH := Hid.mk hn
    have hlo : Hid (loP D 0 = hiP D 0) := ⟨rfl⟩
    clear hc hn
    obtain ⟨x0, hx0⟩ : ∃ x, x = pX D 0 := ⟨_, rfl⟩
    obtain ⟨x1, hx1⟩ : ∃ x, x = pX D n := ⟨_, rfl⟩
    obtain ⟨y0, hy0⟩ : ∃ x, x = loP D 0 := ⟨_, rfl⟩
    rw [← hx0] at p0
    rw [← hx1] at pn
    rw [← hy0] at q0
    replace hx0 := Hid.mk hx0
    replace hx1 := Hid.mk hx1
    replace hy0 := Hid.mk hy0
    go_enter Try.func31, Try.ntmps31
    go_upto_region 4 with fail
    go_region
    go_wp2_with fail
    go_region
    go_wp2_with fail
    have hRes : (w.alloc (.cells #[.int .i64 0, .int .i64 0, .int .i64 0, .int .i64 0, .float .f32 0, .float .f32 0] 65)).heap.size = w.heap.size + 1 := by simp
    go_loopw [42] (fun v wr => ∃ k : Nat, k ≤ D.length ∧ v = .int .i64 (k : Int) ∧ FrR wr w.heap.size 0 0 0 0 0 0 ∧ FrR wr (w.heap.size + 1) wide high x0 x1 (loP D k) (hiP D k) ∧ Below w.heap.size w wr) (fun v _ => D.length - (intOf v).toNat)
    case atStart =>
      refine ⟨0, by omega, rfl, ?_, ?_, ?_⟩
      · exact heap_alloc2_old _ _ _
      · rw [← hlo.out, ← hy0.out]
        exact heap_alloc2_new _ _ _
      · exact below_drewN (((Below.refl _ _).alloc (Nat.le_refl _) _).alloc (by simp) _) 2
    case round =>
      obtain ⟨k, hk, rfl, hR0, hR1, hB⟩ := hrel
      by_cases hlt : k < D.length
      · have hlt' : (k : Int) < (D.length : Int) := by omega
        have hk0 : (0 : Int) ≤ (k : Int) := by omega
        obtain ⟨r0, r1⟩ := hcH.out k hlt
        have s0 := (hB.cell (p := ⟨b, off + k * 2, none⟩) hbl).trans r0
        have s1 := (hB.cell (p := ⟨b, off + k * 2 + 1, none⟩) hbl).trans r1
        obtain ⟨⟨l1, l2⟩, g1, g2⟩ := lo_fin hD hio (by omega) hk
        have yy := (hD.getD k).2
        have yf := (gB_parts (inO_true.1 hio k hlt)).1.2
        have mi := run_min_f32 l1 yy (by omega) (by omega)
        have ma := run_max_f32 g1 yy (by omega) (by omega)
        have nl : Hid (minN (loP D k) (D.getD k (0, 0)).2 = loP D (k + 1)) := ⟨rfl⟩
        have ng : Hid (maxN (hiP D k) (D.getD k (0, 0)).2 = hiP D (k + 1)) := ⟨rfl⟩
        generalize (D.getD k (0, 0)).1 = px at *
        generalize (D.getD k (0, 0)).2 = y at *
        generalize minN (loP D k) y = lo' at *
        generalize maxN (hiP D k) y = hi' at *
        generalize loP D k = lo at *
        generalize hiP D k = hi at *
        clear r0 r1 l1 l2 g1 g2 yy yf hio hD h
        go_upto_region 9 with fail
        obtain ⟨X, hX⟩ : ∃ X, wr.alloc (.cells #[.int .i64 px, .float .f32 y] 35) = X := ⟨_, rfl⟩
        have t1 : X.cell? ⟨wr.heap.size, 1, none⟩ = some (.float .f32 y) := by rw [← hX]; simp
        have hwr := Nat.lt_of_lt_of_le hR1.lt (Nat.le_refl _)
        have hBX : Below wr.heap.size wr X := by rw [← hX]; exact (Below.refl _ _).alloc (Nat.le_refl _) _
        have hBw : Below w.heap.size w X := hB.trans (hBX.mono hB.size)
        have hX0 := hR0.later hBX
        have hX1 := hR1.later hBX
        rw [hX]
        clear hX hB hR0 hR1 s0 s1 hBX
        obtain ⟨-, -, -, -, c4, c5⟩ := hX1.cells
        have f4 := hX1.frozen 4
        have hY1 := hX1.setL lo'
        have hY0 := hX0.other (p := ⟨w.heap.size + 1, 4, none⟩) (by simp) (.float .f32 lo')
        have hBY := hBw.setCell (p := ⟨w.heap.size + 1, 4, none⟩) (Nat.le_succ _) (.float .f32 lo')
        obtain ⟨Y, hY⟩ : ∃ Y, X.setCell ⟨w.heap.size + 1, 4, none⟩ (.float .f32 lo') = Y := ⟨_, rfl⟩
        have t2 : Y.cell? ⟨wr.heap.size, 1, none⟩ = some (.float .f32 y) := by rw [← hY, World.cell?_setCell_other _ _ _ _ (by intro e; injection e with e; omega)]; exact t1
        rw [hY] at hY1 hY0 hBY
        have d5 := hY1.cells.2.2.2.2.2
        have f5 := hY1.frozen 5
        have hZ1 := hY1.setG hi'
        have hZ0 := hY0.other (p := ⟨w.heap.size + 1, 5, none⟩) (by simp) (.float .f32 hi')
        have hBZ := hBY.setCell (p := ⟨w.heap.size + 1, 5, none⟩) (Nat.le_succ _) (.float .f32 hi')
        clear hX0 hX1 hBw hY0 hY1 hBY
        have cd4 : X.drew.cell? ⟨w.heap.size + 1, 4, none⟩ = some (.float .f32 lo) := c4
        go_region
        go_wp2
        go_roundw
        case rel => exact ⟨k + 1, by omega, by go_num, hZ0, by rw [← nl.out, ← ng.out]; exact hZ1, hBZ.drew⟩
        case measure => simp [intOf]; omega
      · obtain rfl : k = D.length := by omega
        have hlt' : ¬ (D.length : Int) < (D.length : Int) := by omega
        go_wp2_with (first | (refine wpList_load_row rfl 65 _ rfl (w.heap.size + 1) rfl 65 _ (0, 0) _ hR1 Try.underlying65 rfl info_frame ?_) | (refine wpList_store_row rfl 65 _ _ rfl w.heap.size _ rfl rfl 65 _ hR0 info_frame rfl (frV_one _ _ _ _ _ _) ?_))
        refine bodyPost_ret (v := frV wide high x0 x1 (loP D D.length) (hiP D D.length)) ?_ ?_ ⟨?_, ?_⟩
        · exact results_cell_row Try.results31 _ _ w.heap.size 65 _ (0, 0) _ rfl (setRow_heap _ _ _ _ _ _ hR0) Try.underlying65 rfl info_frame
        · rfl
        · rw [hx0.out, hx1.out, hnH.out, Nat.add_sub_cancel]
        · exact below_setRow hB (Nat.le_refl _) _
end Go.Proofs.Yteefieidfgpijaa.CF

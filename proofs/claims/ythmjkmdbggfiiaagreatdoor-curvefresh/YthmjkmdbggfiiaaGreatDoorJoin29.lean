import Derived.Test.YthmjkmdbggfiiaaGreatDoorJoin28
import Derived.Laws.Rows
import Derived.Deep.WholeRow
import Derived.Deep.MidRow
namespace Go.Proofs.YthmjkmdbggfiiaaGreatDoor.CF
open Go.RowKit
attribute [local go_sem] run_store_float

/-- A picture in memory: R tells each byte. -/
def Pic (w : World) (b : Nat) (R : Nat → Nat) : Prop := ∃ A : Array Value, w.heap[b]? = some (.cells A 98 (0, 0)) ∧ A.size = 2880 ∧ ∀ j, j < 2880 → A[j]? = some (.int .u8 (R j : Int))
theorem Pic.cell {w : World} {b : Nat} {R : Nat → Nat} (h : Pic w b R) {j : Nat} (hj : j < 2880) : w.cell? ⟨b, j, none⟩ = some (.int .u8 (R j : Int)) := by
  obtain ⟨A, h1, h2, h3⟩ := h
  rw [cell_of_row w b j A _ _ h1]
  exact h3 j hj
theorem Pic.frozen {w : World} {b : Nat} {R : Nat → Nat} (h : Pic w b R) (j : Nat) : w.frozen? ⟨b, j, none⟩ = false := by
  obtain ⟨A, h1, h2, h3⟩ := h
  exact frozen_of_row w b j A _ h1
theorem Pic.set {w : World} {b : Nat} {R : Nat → Nat} (h : Pic w b R) {k : Nat} (hk : k < 2880) (c : Nat) : Pic (w.setCell ⟨b, k, none⟩ (.int .u8 (c : Int))) b (fun j => if j = k then c else R j) := by
  obtain ⟨A, h1, h2, h3⟩ := h
  refine ⟨_, heap_setCell_same w b k A _ _ h1, by simp [h2], fun j hj => ?_⟩
  rw [Array.getElem?_setIfInBounds]
  by_cases e : k = j
  · subst e
    rw [if_pos rfl, if_pos (by omega)]
    show _ = some (Value.int .u8 (((if k = k then c else R k : Nat)) : Int))
    rw [if_pos rfl]
  · rw [if_neg e]
    show _ = some (Value.int .u8 (((if j = k then c else R j : Nat)) : Int))
    rw [if_neg (fun e2 : j = k => e e2.symm)]
    exact h3 j hj
theorem Pic.congr {w : World} {b : Nat} {R R' : Nat → Nat} (h : Pic w b R) (he : ∀ j, j < 2880 → R' j = R j) : Pic w b R' := by
  obtain ⟨A, h1, h2, h3⟩ := h
  exact ⟨A, h1, h2, fun j hj => by rw [he j hj]; exact h3 j hj⟩
theorem Pic.lt {w : World} {b : Nat} {R : Nat → Nat} (h : Pic w b R) : b < w.heap.size := by
  obtain ⟨A, h1, h2, h3⟩ := h
  exact (Array.getElem?_eq_some_iff.1 h1).1
theorem Pic.later {w w' : World} {b : Nat} {R : Nat → Nat} (h : Pic w b R) (hb : Below w.heap.size w w') : Pic w' b R := by
  have hl := h.lt
  obtain ⟨A, h1, h2, h3⟩ := h
  exact ⟨A, (hb.block b hl).trans h1, h2, h3⟩
/-- A row that is filled as far as k. -/
def fillR (R : Nat → Nat) (r k c : Nat) : Nat → Nat := fun j => if r * 72 ≤ j ∧ j < r * 72 + k then c else R j
theorem fillR_succ (R : Nat → Nat) (r k c : Nat) (j : Nat) : fillR R r (k + 1) c j = if j = r * 72 + k then c else fillR R r k c j := by
  unfold fillR
  by_cases h1 : j = r * 72 + k
  · rw [if_pos h1, if_pos (by omega)]
  · rw [if_neg h1]
    by_cases h2 : r * 72 ≤ j ∧ j < r * 72 + k
    · rw [if_pos h2, if_pos (by omega)]
    · rw [if_neg h2, if_neg (by omega)]
set_option maxHeartbeats 1000000 in
theorem fill_any (wide : Nat) (high x0 x1 : Int) (l g : Nat) (hw : wide ≤ 72) (b r c : Nat) (R : Nat → Nat) (hr : r < 40) (w : World) (h : Pic w b R) : Calls Tryz.prog 85 #[frV (wide : Int) high x0 x1 l g, .pointer (some ⟨b, r * 72, none⟩), .int .u8 (c : Int)] w fun e w' => e = .returned (.tuple #[]) ∧ Pic w' b (fillR R r wide c) ∧ Below b w w' := by
  have hbl := h.lt
  have hB : Below b w (w.alloc (.cells #[.int .i64 (wide : Int), .int .i64 high, .int .i64 x0, .int .i64 x1, .float .f32 l, .float .f32 g] 92)) := (Below.refl _ _).alloc (by omega) _
  have hP : Pic (w.alloc (.cells #[.int .i64 (wide : Int), .int .i64 high, .int .i64 x0, .int .i64 x1, .float .f32 l, .float .f32 g] 92)) b R := h.later ((Below.refl _ _).alloc (Nat.le_refl _) _)
  go_enter Tryz.func85, Tryz.ntmps85
  go_wp2
  go_loopw [9] (fun v wr => ∃ k : Nat, k ≤ wide ∧ v = .int .i64 (k : Int) ∧ Pic wr b (fillR R r k c) ∧ Below b w wr) (fun v _ => wide - (intOf v).toNat)
  case atStart => exact ⟨0, by omega, rfl, hP.congr (fun j _ => by unfold fillR; rw [if_neg (by omega)]), hB⟩
  case round =>
    clear hP hB
    obtain ⟨k, hk, rfl, hP, hB⟩ := hrel
    by_cases hlt : k < wide
    · have hlt' : (k : Int) < (wide : Int) := by omega
      have hk0 : (0 : Int) ≤ (k : Int) := by omega
      have hk72 : (k : Int) < 72 := by omega
      have c0 := hP.cell (j := r * 72 + k) (by omega)
      have f0 := hP.frozen (r * 72 + k)
      have hP2 := (hP.set (k := r * 72 + k) (by omega) c).congr (R' := fillR R r (k + 1) c) (fun j _ => fillR_succ R r k c j)
      have hB2 := hB.setCell (p := ⟨b, r * 72 + k, none⟩) (Nat.le_refl _) (.int .u8 (c : Int))
      generalize ((fillR R r k c (r * 72 + k) : Nat) : Int) = old at *
      go_wp2
      go_roundw
      case rel => exact ⟨k + 1, by omega, by go_num, hP2, hB2⟩
      case measure => simp [intOf]; omega
    · obtain rfl : k = wide := by omega
      have hlt' : ¬ (k : Int) < (k : Int) := by omega
      go_wp2
      exact bodyPost_end (v := .tuple #[]) (by simp [results, Tryz.results85, go_sem]) rfl ⟨rfl, hP, hB⟩
end Go.Proofs.YthmjkmdbggfiiaaGreatDoor.CF


namespace Go.Proofs.YthmjkmdbggfiiaaGreatDoor.CF
open Go.RowKit
attribute [local go_sem] run_store_float

def pX (D : Dots) (k : Nat) : Int := (D.getD k (0, 0)).1
/-- The frame of points. -/
def FrP (D : Dots) (wide high : Int) (w : World) (e : Ending) (w' : World) : Prop := e = .returned (frV wide high (pX D 0) (pX D (D.length - 1)) (loP D D.length) (hiP D D.length)) ∧ Below w.heap.size w w'
theorem lo_fin {D : Dots} (hD : Ok D) (hio : inO D = true) (h0 : 0 < D.length) {k : Nat} (hk : k ≤ D.length) : (loP D k < 4294967296 ∧ loP D k % 2147483648 < 2139095040) ∧ (hiP D k < 4294967296 ∧ hiP D k % 2147483648 < 2139095040) := by
  have hj : ∀ j, j < D.length → hgt D j < 4294967296 ∧ hgt D j % 2147483648 < 2139095040 := fun j hj => ⟨(hD.getD j).2, (gB_parts (inO_true.1 hio j hj)).1.2⟩
  obtain ⟨j1, a1, e1⟩ := loP_in D k
  obtain ⟨j2, a2, e2⟩ := hiP_in D k
  rw [e1, e2]
  exact ⟨hj j1 (by omega), hj j2 (by omega)⟩
theorem below_setRow {B : Nat} {a w : World} (h : Below B a w) {g : Nat} (hg : B ≤ g) (cs : Array Value) : Below B a (w.setRow g cs) := ⟨h.os, h.tape, h.output, by rw [size_setRow]; exact h.size, fun k hk => (setRow_other w g k cs (by omega)).trans (h.block k hk)⟩
theorem frV_one (wide high x0 x1 : Int) (l g : Nat) : (#[Value.int .i64 wide, .int .i64 high, .int .i64 x0, .int .i64 x1, .float .f32 l, .float .f32 g]).all (·.oneCell') = true := by simp [Value.oneCell']
theorem info_frame : (Tryz.prog.info? 92).map (·.size) = some 6 := by kernel_rfl
/-- The frame's row, and the row of what is answered. -/
def FrR (w : World) (b : Nat) (wide high x0 x1 : Int) (l g : Nat) : Prop := w.heap[b]? = some (.cells #[.int .i64 wide, .int .i64 high, .int .i64 x0, .int .i64 x1, .float .f32 l, .float .f32 g] 92 (0, 0))
theorem FrR.cells {w : World} {b : Nat} {wide high x0 x1 : Int} {l g : Nat} (h : FrR w b wide high x0 x1 l g) : w.cell? ⟨b, 0, none⟩ = some (.int .i64 wide) ∧ w.cell? ⟨b, 1, none⟩ = some (.int .i64 high) ∧ w.cell? ⟨b, 2, none⟩ = some (.int .i64 x0) ∧ w.cell? ⟨b, 3, none⟩ = some (.int .i64 x1) ∧ w.cell? ⟨b, 4, none⟩ = some (.float .f32 l) ∧ w.cell? ⟨b, 5, none⟩ = some (.float .f32 g) :=
  ⟨by rw [cell_of_row w b 0 _ _ _ h]; rfl, by rw [cell_of_row w b 1 _ _ _ h]; rfl, by rw [cell_of_row w b 2 _ _ _ h]; rfl, by rw [cell_of_row w b 3 _ _ _ h]; rfl, by rw [cell_of_row w b 4 _ _ _ h]; rfl, by rw [cell_of_row w b 5 _ _ _ h]; rfl⟩
theorem FrR.frozen {w : World} {b : Nat} {wide high x0 x1 : Int} {l g : Nat} (h : FrR w b wide high x0 x1 l g) (j : Nat) : w.frozen? ⟨b, j, none⟩ = false := frozen_of_row w b j _ _ h
theorem FrR.setL {w : World} {b : Nat} {wide high x0 x1 : Int} {l g : Nat} (h : FrR w b wide high x0 x1 l g) (z : Nat) : FrR (w.setCell ⟨b, 4, none⟩ (.float .f32 z)) b wide high x0 x1 z g := heap_setCell_same w b 4 _ _ _ h
theorem FrR.setG {w : World} {b : Nat} {wide high x0 x1 : Int} {l g : Nat} (h : FrR w b wide high x0 x1 l g) (z : Nat) : FrR (w.setCell ⟨b, 5, none⟩ (.float .f32 z)) b wide high x0 x1 l z := heap_setCell_same w b 5 _ _ _ h
theorem FrR.lt {w : World} {b : Nat} {wide high x0 x1 : Int} {l g : Nat} (h : FrR w b wide high x0 x1 l g) : b < w.heap.size := (Array.getElem?_eq_some_iff.1 h).1
theorem FrR.later {w w' : World} {b : Nat} {wide high x0 x1 : Int} {l g : Nat} (h : FrR w b wide high x0 x1 l g) (hb : Below w.heap.size w w') : FrR w' b wide high x0 x1 l g := (hb.block b h.lt).trans h
theorem FrR.other {w : World} {b : Nat} {wide high x0 x1 : Int} {l g : Nat} (h : FrR w b wide high x0 x1 l g) {p : Addr} (hp : b ≠ p.block) (v : Value) : FrR (w.setCell p v) b wide high x0 x1 l g := (heap_setCell_other w p b v hp).trans h
set_option maxRecDepth 8000 in
set_option maxHeartbeats 2000000 in
theorem frameOf_any (D : Dots) (hD : Ok D) (hio : inO D = true) (hl : D.length ≤ 9223372036854775806) (wide high : Int) (a : Option Addr) (c : Nat) (w : World) (h : PtAt w a D) : Calls Tryz.prog 52 #[.slice a D.length c, .int .i64 wide, .int .i64 high] w (FrP D wide high w) := by
  by_cases h0 : D.length = 0
  · obtain rfl : D = [] := List.eq_nil_of_length_eq_zero h0
    have hB : Below w.heap.size w ((w.alloc (.cells #[.int .i64 wide, .int .i64 high, .int .i64 0, .int .i64 0, .float .f32 0, .float .f32 0] 92)).alloc (.cells #[.int .i64 wide, .int .i64 high, .int .i64 0, .int .i64 0, .float .f32 0, .float .f32 0] 92)) := ((Below.refl _ _).alloc (Nat.le_refl _) _).alloc (by simp) _
    clear h hl hD hio
    go_enter Tryz.func52, Tryz.ntmps52
    go_wp2
    exact bodyPost_ret (v := frV wide high 0 0 0 0) (by simp [results, Tryz.results52, go_sem]) rfl ⟨rfl, hB⟩
  · obtain ⟨n, hn⟩ : ∃ n, D.length = n + 1 := ⟨D.length - 1, by omega⟩
    have h0' : ((D.length : Int) == 0) = false := beq_eq_false_iff_ne.2 (by omega)
    obtain ⟨b, off, rfl, hc⟩ := h.cells (k := 0) (by omega)
    have hbl : b < w.heap.size := World.block_lt_of_cell? _ _ (hc 0 (by omega)).1
    obtain ⟨p0, q0⟩ := hc 0 (by omega)
    obtain ⟨pn, -⟩ := hc n (by omega)
    rw [Nat.zero_mul, Nat.add_zero] at p0 q0
    have e1 : (D.length : Int) - 1 = (n : Int) := by omega
    have e1' : IntKind.i64.wrap ((D.length : Int) - 1) = (n : Int) := by rw [IntKind.wrap_i64]; omega
    have e2 : (n : Int) < (D.length : Int) := by omega
    have e3 : (0 : Int) ≤ (n : Int) := by omega
    have e4 : (0 : Int) < (D.length : Int) := by omega
    have hne1 : b ≠ w.heap.size := by omega
    have hne2 : b ≠ w.heap.size + 1 := by omega
    change w.cell? _ = some (.int .i64 (pX D 0)) at p0
    change w.cell? _ = some (.int .i64 (pX D n)) at pn
    change w.cell? _ = some (.float .f32 (loP D 0)) at q0
    have hcH := Hid.mk hc
    have hnH := Hid.mk hn
    have hlo : Hid (loP D 0 = hiP D 0) := ⟨rfl⟩
    clear hc hn
    obtain ⟨x0, hx0⟩ : ∃ x, x = pX D 0 := ⟨_, rfl⟩
    obtain ⟨x1, hx1⟩ : ∃ x, x = pX D n := ⟨_, rfl⟩
    obtain ⟨y0, hy0⟩ : ∃ x, x = loP D 0 := ⟨_, rfl⟩
    rw [← hx0] at p0
    rw [← hx1] at pn
    rw [← hy0] at q0
    replace hx0 := Hid.mk hx0
    replace hx1 := Hid.mk hx1
    replace hy0 := Hid.mk hy0
    go_enter Tryz.func52, Tryz.ntmps52
    go_upto_region 4 with fail
    go_region
    go_wp2_with fail
    go_region
    go_wp2_with fail
    have hRes : (w.alloc (.cells #[.int .i64 0, .int .i64 0, .int .i64 0, .int .i64 0, .float .f32 0, .float .f32 0] 92)).heap.size = w.heap.size + 1 := by simp
    go_loopw [42] (fun v wr => ∃ k : Nat, k ≤ D.length ∧ v = .int .i64 (k : Int) ∧ FrR wr w.heap.size 0 0 0 0 0 0 ∧ FrR wr (w.heap.size + 1) wide high x0 x1 (loP D k) (hiP D k) ∧ Below w.heap.size w wr) (fun v _ => D.length - (intOf v).toNat)
    case atStart =>
      refine ⟨0, by omega, rfl, ?_, ?_, ?_⟩
      · exact heap_alloc2_old _ _ _
      · rw [← hlo.out, ← hy0.out]
        exact heap_alloc2_new _ _ _
      · exact below_drewN (((Below.refl _ _).alloc (Nat.le_refl _) _).alloc (by simp) _) 2
    case round =>
      obtain ⟨k, hk, rfl, hR0, hR1, hB⟩ := hrel
      by_cases hlt : k < D.length
      · have hlt' : (k : Int) < (D.length : Int) := by omega
        have hk0 : (0 : Int) ≤ (k : Int) := by omega
        obtain ⟨r0, r1⟩ := hcH.out k hlt
        have s0 := (hB.cell (p := ⟨b, off + k * 2, none⟩) hbl).trans r0
        have s1 := (hB.cell (p := ⟨b, off + k * 2 + 1, none⟩) hbl).trans r1
        obtain ⟨⟨l1, l2⟩, g1, g2⟩ := lo_fin hD hio (by omega) hk
        have yy := (hD.getD k).2
        have yf := (gB_parts (inO_true.1 hio k hlt)).1.2
        have mi := run_min_f32 l1 yy (by omega) (by omega)
        have ma := run_max_f32 g1 yy (by omega) (by omega)
        have nl : Hid (minN (loP D k) (D.getD k (0, 0)).2 = loP D (k + 1)) := ⟨rfl⟩
        have ng : Hid (maxN (hiP D k) (D.getD k (0, 0)).2 = hiP D (k + 1)) := ⟨rfl⟩
        generalize (D.getD k (0, 0)).1 = px at *
        generalize (D.getD k (0, 0)).2 = y at *
        generalize minN (loP D k) y = lo' at *
        generalize maxN (hiP D k) y = hi' at *
        generalize loP D k = lo at *
        generalize hiP D k = hi at *
        clear r0 r1 l1 l2 g1 g2 yy yf hio hD h
        go_upto_region 9 with fail
        obtain ⟨X, hX⟩ : ∃ X, wr.alloc (.cells #[.int .i64 px, .float .f32 y] 64) = X := ⟨_, rfl⟩
        have t1 : X.cell? ⟨wr.heap.size, 1, none⟩ = some (.float .f32 y) := by rw [← hX]; simp
        have hwr := Nat.lt_of_lt_of_le hR1.lt (Nat.le_refl _)
        have hBX : Below wr.heap.size wr X := by rw [← hX]; exact (Below.refl _ _).alloc (Nat.le_refl _) _
        have hBw : Below w.heap.size w X := hB.trans (hBX.mono hB.size)
        have hX0 := hR0.later hBX
        have hX1 := hR1.later hBX
        rw [hX]
        clear hX hB hR0 hR1 s0 s1 hBX
        obtain ⟨-, -, -, -, c4, c5⟩ := hX1.cells
        have f4 := hX1.frozen 4
        have hY1 := hX1.setL lo'
        have hY0 := hX0.other (p := ⟨w.heap.size + 1, 4, none⟩) (by simp) (.float .f32 lo')
        have hBY := hBw.setCell (p := ⟨w.heap.size + 1, 4, none⟩) (Nat.le_succ _) (.float .f32 lo')
        obtain ⟨Y, hY⟩ : ∃ Y, X.setCell ⟨w.heap.size + 1, 4, none⟩ (.float .f32 lo') = Y := ⟨_, rfl⟩
        have t2 : Y.cell? ⟨wr.heap.size, 1, none⟩ = some (.float .f32 y) := by rw [← hY, World.cell?_setCell_other _ _ _ _ (by intro e; injection e with e; omega)]; exact t1
        rw [hY] at hY1 hY0 hBY
        have d5 := hY1.cells.2.2.2.2.2
        have f5 := hY1.frozen 5
        have hZ1 := hY1.setG hi'
        have hZ0 := hY0.other (p := ⟨w.heap.size + 1, 5, none⟩) (by simp) (.float .f32 hi')
        have hBZ := hBY.setCell (p := ⟨w.heap.size + 1, 5, none⟩) (Nat.le_succ _) (.float .f32 hi')
        clear hX0 hX1 hBw hY0 hY1 hBY
        have cd4 : X.drew.cell? ⟨w.heap.size + 1, 4, none⟩ = some (.float .f32 lo) := c4
        go_region
        go_wp2
        go_roundw
        case rel => exact ⟨k + 1, by omega, by go_num, hZ0, by rw [← nl.out, ← ng.out]; exact hZ1, hBZ.drew⟩
        case measure => simp [intOf]; omega
      · obtain rfl : k = D.length := by omega
        have hlt' : ¬ (D.length : Int) < (D.length : Int) := by omega
        go_wp2_with (first | (refine wpList_load_row rfl 92 _ rfl (w.heap.size + 1) rfl 92 _ (0, 0) _ hR1 Tryz.underlying92 rfl info_frame ?_) | (refine wpList_store_row rfl 92 _ _ rfl w.heap.size _ rfl rfl 92 _ hR0 info_frame rfl (frV_one _ _ _ _ _ _) ?_))
        refine bodyPost_ret (v := frV wide high x0 x1 (loP D D.length) (hiP D D.length)) ?_ ?_ ⟨?_, ?_⟩
        · exact results_cell_row Tryz.results52 _ _ w.heap.size 92 _ (0, 0) _ rfl (setRow_heap _ _ _ _ _ _ hR0) Tryz.underlying92 rfl info_frame
        · rfl
        · rw [hx0.out, hx1.out, hnH.out, Nat.add_sub_cancel]
        · exact below_setRow hB (Nat.le_refl _) _
end Go.Proofs.YthmjkmdbggfiiaaGreatDoor.CF


namespace Go.Proofs.YthmjkmdbggfiiaaGreatDoor.CF
open Go.RowKit

def rowK (D : Dots) (n k : Nat) : Nat := rowN (hgt D k) (loP D D.length) (hiP D D.length) n
def colK (D : Dots) (wide : Nat) (k : Nat) : Nat := (colN (pX D 0) (pX D (D.length - 1)) (wide : Int) (pX D k)).toNat
/-- A star stands there, by the first m points. -/
def star (D : Dots) (n wide m r c : Nat) : Bool := (List.range m).any fun k => rowK D n k == r && colK D wide k == c
theorem star_succ (D : Dots) (n wide m r c : Nat) : star D n wide (m + 1) r c = (star D n wide m r c || (rowK D n m == r && colK D wide m == c)) := by
  unfold star
  rw [List.range_succ, List.any_append]
  simp
/-- The row of height 0, where there is one. -/
def zerR (D : Dots) (n : Nat) : Option Nat := if 0 < D.length ∧ ordN (loP D D.length) ≤ 0 ∧ 0 ≤ ordN (hiP D D.length) then some (rowN 0 (loP D D.length) (hiP D D.length) n) else none
/-- P17.9: what stands at a row and a column. -/
def markN (D : Dots) (n wide r c : Nat) : Nat := if star D n wide D.length r c = true then 42 else if zerR D n = some r then 45 else 32
def base (wide k : Nat) : Nat → Nat := fun j => if j / 72 < k ∧ j % 72 < wide then 32 else 0
def dash (wide n : Nat) (z : Option Nat) : Nat → Nat := fun j => if z = some (j / 72) ∧ j % 72 < wide then 45 else base wide (n + 1) j
def starR (D : Dots) (n wide m : Nat) : Nat → Nat := fun j => if star D n wide m (j / 72) (j % 72) = true then 42 else dash wide n (zerR D n) j
theorem fill_base (wide k : Nat) (hw : wide ≤ 72) (j : Nat) : base wide (k + 1) j = fillR (base wide k) k wide 32 j := by
  unfold fillR base
  by_cases h1 : k * 72 ≤ j ∧ j < k * 72 + wide
  · rw [if_pos h1, if_pos (by omega)]
  · rw [if_neg h1]
    by_cases h2 : j / 72 < k ∧ j % 72 < wide
    · rw [if_pos h2, if_pos (by omega)]
    · rw [if_neg h2, if_neg (by omega)]
theorem fill_dash (wide n r : Nat) (hw : wide ≤ 72) (j : Nat) : dash wide n (some r) j = fillR (base wide (n + 1)) r wide 45 j := by
  unfold fillR dash
  by_cases h1 : r * 72 ≤ j ∧ j < r * 72 + wide
  · rw [if_pos h1, if_pos ⟨by rw [show j / 72 = r by omega], by omega⟩]
  · rw [if_neg h1, if_neg]
    rintro ⟨h2, h3⟩
    injection h2 with h2
    omega
theorem dash_none (wide n j : Nat) : dash wide n none j = base wide (n + 1) j := by
  unfold dash
  rw [if_neg (fun h => by cases h.1)]
theorem starR_zero (D : Dots) (n wide j : Nat) : starR D n wide 0 j = dash wide n (zerR D n) j := by
  unfold starR star
  simp
theorem starR_succ (D : Dots) (n wide m : Nat) (hc : colK D wide m < 72) (j : Nat) : starR D n wide (m + 1) j = if j = rowK D n m * 72 + colK D wide m then 42 else starR D n wide m j := by
  unfold starR
  rw [star_succ]
  by_cases h1 : j = rowK D n m * 72 + colK D wide m
  · rw [if_pos h1, if_pos]
    have e1 : rowK D n m = j / 72 := by omega
    have e2 : colK D wide m = j % 72 := by omega
    rw [e1, e2]
    simp
  · rw [if_neg h1]
    have e : (rowK D n m == j / 72 && colK D wide m == j % 72) = false := by
      by_cases e1 : rowK D n m = j / 72
      · by_cases e2 : colK D wide m = j % 72
        · omega
        · simp [e2]
      · simp [e1]
    rw [e, Bool.or_false]
/-- What the picture holds in the end. -/
theorem starR_mark (D : Dots) (n wide : Nat) (hw : wide ≤ 72) {r c : Nat} (hr : r < n + 1) (hc : c < wide) : starR D n wide D.length (r * 72 + c) = markN D n wide r c := by
  unfold starR markN dash base
  rw [show (r * 72 + c) / 72 = r by omega, show (r * 72 + c) % 72 = c by omega]
  split
  · rfl
  · by_cases h : zerR D n = some r
    · rw [if_pos ⟨h, hc⟩, if_pos h]
    · rw [if_neg (fun e => h e.1), if_neg h, if_pos ⟨hr, hc⟩]
/-- What is asked of the points of a picture. -/
structure Draws (D : Dots) : Prop where
  ok : Ok D
  io : inO D = true
  df : subN (hiP D D.length) (loP D D.length) % 2147483648 < 2139095040
theorem Draws.btw {D : Dots} (h : Draws D) {k : Nat} (hk : k < D.length) : Btw (hgt D k) (loP D D.length) (hiP D D.length) := by
  obtain ⟨⟨l1, l2⟩, g1, g2⟩ := lo_fin h.ok h.io (by omega) (Nat.le_refl _)
  exact ⟨(h.ok.getD k).2, l1, g1, (gB_parts (inO_true.1 h.io k hk)).1.2, l2, g2, loP_le D _ k hk, hiP_le D _ k hk, h.df⟩
theorem Draws.btw0 {D : Dots} (h : Draws D) (h0 : 0 < D.length) (h1 : ordN (loP D D.length) ≤ 0) (h2 : 0 ≤ ordN (hiP D D.length)) : Btw 0 (loP D D.length) (hiP D D.length) := by
  obtain ⟨⟨l1, l2⟩, g1, g2⟩ := lo_fin h.ok h.io h0 (Nat.le_refl _)
  have e0 : ordN 0 = 0 := rfl
  exact ⟨by decide, l1, g1, by decide, l2, g2, by rw [e0]; exact h1, by rw [e0]; exact h2, h.df⟩
theorem Btw.row_le {y l g n : Nat} (h : Btw y l g) (hn : n < 40) : rowN y l g n ≤ n := by
  by_cases h3 : ordN l = ordN g
  · have e : rowN y l g n = 0 := if_pos h3
    omega
  · exact (row_parts h.y1 h.l1 h.g1 h.yf h.lf h.gf h.ly h.yg h3 h.df hn).2.2.2.2.2
/-- The places rise. -/
theorem inO_mono {D : Dots} (h : inO D = true) : ∀ {i j : Nat}, i ≤ j → j < D.length → pX D i ≤ pX D j := by
  intro i j hij
  induction j with
  | zero => intro _; obtain rfl : i = 0 := by omega
            exact Int.le_refl _
  | succ j ih =>
    intro hj
    by_cases e : i = j + 1
    · subst e; exact Int.le_refl _
    · have h1 := ih (by omega) (by omega)
      have h2 := (gB_parts (inO_true.1 h (j + 1) hj)).2
      rw [Nat.add_sub_cancel] at h2
      unfold pX at *
      omega
theorem inO_lt {D : Dots} (h : inO D = true) {i j : Nat} (hij : i < j) (hj : j < D.length) : pX D i < pX D j := by
  have h1 := inO_mono h (i := i) (j := j - 1) (by omega) (by omega)
  have h2 := (gB_parts (inO_true.1 h j hj)).2
  unfold pX at *
  omega
theorem inO_bd {D : Dots} (h : inO D = true) {j : Nat} (hj : j < D.length) : -9999999999999 ≤ pX D j ∧ pX D j ≤ 9999999999999 := (gB_parts (inO_true.1 h j hj)).1.1
theorem colK_eq {D : Dots} (h : inO D = true) {wide k : Nat} (hk : k < D.length) (hw : 1 ≤ wide) : ((colK D wide k : Nat) : Int) = colN (pX D 0) (pX D (D.length - 1)) (wide : Int) (pX D k) ∧ colK D wide k < wide := by
  have hb := colN_b (x0 := pX D 0) (x1 := pX D (D.length - 1)) (wide := (wide : Int)) (x := pX D k) (inO_mono h (by omega) hk) (inO_mono h (by omega) (by omega)) (by omega)
  unfold colK
  generalize colN (pX D 0) (pX D (D.length - 1)) (wide : Int) (pX D k) = z at *
  omega
end Go.Proofs.YthmjkmdbggfiiaaGreatDoor.CF

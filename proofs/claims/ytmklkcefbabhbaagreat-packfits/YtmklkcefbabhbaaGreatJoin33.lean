import Derived.Test.YtmklkcefbabhbaaGreatJoin32
import Derived.Test.YtmklkcefbabhbaaGreatJoin28
import Derived.Deep.RegionLaw
import Derived.BigQuiet
/- Kinds that are alike. -/
namespace Go.Proofs.YtmklkcefbabhbaaGreat.R6
open Go.RowKit

set_option maxRecDepth 20000 in
set_option maxHeartbeats 4000000 in
theorem alike_days (l : List Kd) (a : Option Addr) (c : Nat) (y : Int) (hy : ∀ h : 0 < l.length, (l[0]).1 = y) (W : World) (hR : RowR eKd W AnyB l a) (hl : l.length ≤ 1000) : Calls Tryz.prog 106 #[.slice a l.length c, .bool true] W (Lk (.int .i64 (alF true y l 0)) W) := by
  obtain ⟨N, hN⟩ : ∃ N, alF true y l 0 = N := ⟨_, rfl⟩
  rw [hN]
  have hN0 : Hid (alF true y (l.drop 0) 0 = N) := ⟨hN⟩
  clear hN
  have hl' : (l.length : Int) ≤ 1000 := by omega
  have hRX : Hid (∀ w, Below W.heap.size W w → RowR eKd w AnyB l a) := ⟨fun w hw => row_bel hR hw (Nat.le_refl _)⟩
  clear hR
  go_enter Tryz.func106, Tryz.ntmps106
  go_wp2
  go_loopw [5] (fun iv wr => ∃ i : Nat, iv = .int .i64 (i : Int) ∧ i ≤ l.length ∧ Below W.heap.size W wr ∧ Hid (alF true y (l.drop i) i = N)) (fun iv _ => l.length - (intOf iv).toNat)
  case atStart => exact ⟨0, rfl, Nat.zero_le _, Below.refl _ _, hN0⟩
  case round =>
    clear hN0
    obtain ⟨i, rfl, hi, hbw, hst⟩ := hrel
    by_cases hlt : i < l.length
    · have hlt' : (i : Int) < (l.length : Int) := by omega
      have hi0 : (0 : Int) ≤ (i : Int) := by omega
      have hp0 : (0 : Int) < (l.length : Int) := by omega
      replace hst := hst.out
      rw [al_step true y l hlt] at hst
      have hR := hRX.out _ hbw
      obtain ⟨ge, oe, rfl⟩ := hR.some hlt
      have k0 : wr.cell? ⟨ge, oe + i * 2, none⟩ = some (.int .i64 (l[i]).1) := by
        obtain ⟨cs, -, -, rfl, hcs⟩ := hR.item hlt
        exact hcs 0 (by decide)
      have kz : wr.cell? ⟨ge, oe, none⟩ = some (.int .i64 y) := by
        have h0 : 0 < l.length := by omega
        obtain ⟨cs, -, -, rfl, hcs⟩ := hR.item h0
        have := hcs 0 (by decide)
        rw [show oe + 0 * eKd.k + 0 = oe by show oe + 0 * 2 + 0 = oe; omega, hy h0] at this
        exact this
      generalize (l[i]).1 = z at k0 hst
      replace hst := Hid.mk hst
      clear hR
      have hbq := Hid.mk (fun n => belT hbw (drew_below wr n))
      by_cases z1 : z = 1
      · have u1 : (z == 1) = true := by simp; omega
        by_cases he : z = y
        · have ez : (z != y) = false := by simp; omega
          have hnx : Hid (alF true y (l.drop (i + 1)) (i + 1) = N) := ⟨by have := hst.out; rw [if_pos ⟨.inl z1, he⟩] at this; exact this⟩
          clear hst he z1
          go_upto_region 5 with fail
          go_quiet (fail)
          have hbn := hbq.out nq
          clear hbq
          go_wp2
          exact ⟨⟨i + 1, rfl, hlt, hbn, hnx⟩, by simp only [intOf]; omega⟩
        · have ez : (z != y) = true := by simp; omega
          have hfi : (i : Int) = N := by have := hst.out; rw [if_neg (fun h => he h.2)] at this; exact this
          subst hfi
          clear hst he z1
          go_upto_region 5 with fail
          go_quiet (fail)
          have hbn := hbq.out nq
          clear hbq
          go_wp2
          go_ret
          exact ⟨rfl, hbn⟩
      by_cases z2 : z = 2
      · have u1 : (z == 1) = false := by simp; omega
        have u2 : (z == 2) = true := by simp; omega
        by_cases he : z = y
        · have ez : (z != y) = false := by simp; omega
          have hnx : Hid (alF true y (l.drop (i + 1)) (i + 1) = N) := ⟨by have := hst.out; rw [if_pos ⟨.inr (.inl z2), he⟩] at this; exact this⟩
          clear hst he z1 z2
          go_upto_region 5 with fail
          go_quiet (fail)
          have hbn := hbq.out nq
          clear hbq
          go_wp2
          exact ⟨⟨i + 1, rfl, hlt, hbn, hnx⟩, by simp only [intOf]; omega⟩
        · have ez : (z != y) = true := by simp; omega
          have hfi : (i : Int) = N := by have := hst.out; rw [if_neg (fun h => he h.2)] at this; exact this
          subst hfi
          clear hst he z1 z2
          go_upto_region 5 with fail
          go_quiet (fail)
          have hbn := hbq.out nq
          clear hbq
          go_wp2
          go_ret
          exact ⟨rfl, hbn⟩
      have u1 : (z == 1) = false := by simp; omega
      have u2 : (z == 2) = false := by simp; omega
      by_cases z4 : z = 4
      · have u4 : (z == 4) = true := by simp; omega
        by_cases he : z = y
        · have ez : (z != y) = false := by simp; omega
          have hnx : Hid (alF true y (l.drop (i + 1)) (i + 1) = N) := ⟨by have := hst.out; rw [if_pos ⟨.inr (.inr ⟨rfl, z4⟩), he⟩] at this; exact this⟩
          clear hst he z1 z2 z4
          go_upto_region 5 with fail
          go_quiet (fail)
          have hbn := hbq.out nq
          clear hbq
          go_wp2
          exact ⟨⟨i + 1, rfl, hlt, hbn, hnx⟩, by simp only [intOf]; omega⟩
        · have ez : (z != y) = true := by simp; omega
          have hfi : (i : Int) = N := by have := hst.out; rw [if_neg (fun h => he h.2)] at this; exact this
          subst hfi
          clear hst he z1 z2 z4
          go_upto_region 5 with fail
          go_quiet (fail)
          have hbn := hbq.out nq
          clear hbq
          go_wp2
          go_ret
          exact ⟨rfl, hbn⟩
      have u4 : (z == 4) = false := by simp; omega
      have hfi : (i : Int) = N := by have := hst.out; rw [if_neg (fun h => by have := h.1; simp at this; omega)] at this; exact this
      subst hfi
      clear hst z1 z2 z4
      go_upto_region 5 with fail
      go_quiet (fail)
      have hbn := hbq.out nq
      clear hbq
      go_wp2
      go_ret
      exact ⟨rfl, hbn⟩

    · have hlt' : ¬ (i : Int) < (l.length : Int) := by omega
      obtain rfl : i = l.length := by omega
      have hfi : -1 = N := by rw [← hst.out, al_end]
      subst hfi
      clear hst
      go_wp2
      go_ret
      exact ⟨rfl, hbw⟩
set_option maxRecDepth 20000 in
set_option maxHeartbeats 4000000 in
theorem alike_none (l : List Kd) (a : Option Addr) (c : Nat) (y : Int) (hy : ∀ h : 0 < l.length, (l[0]).1 = y) (W : World) (hR : RowR eKd W AnyB l a) (hl : l.length ≤ 1000) : Calls Tryz.prog 106 #[.slice a l.length c, .bool false] W (Lk (.int .i64 (alF false y l 0)) W) := by
  obtain ⟨N, hN⟩ : ∃ N, alF false y l 0 = N := ⟨_, rfl⟩
  rw [hN]
  have hN0 : Hid (alF false y (l.drop 0) 0 = N) := ⟨hN⟩
  clear hN
  have hl' : (l.length : Int) ≤ 1000 := by omega
  have hRX : Hid (∀ w, Below W.heap.size W w → RowR eKd w AnyB l a) := ⟨fun w hw => row_bel hR hw (Nat.le_refl _)⟩
  clear hR
  go_enter Tryz.func106, Tryz.ntmps106
  go_wp2
  go_loopw [5] (fun iv wr => ∃ i : Nat, iv = .int .i64 (i : Int) ∧ i ≤ l.length ∧ Below W.heap.size W wr ∧ Hid (alF false y (l.drop i) i = N)) (fun iv _ => l.length - (intOf iv).toNat)
  case atStart => exact ⟨0, rfl, Nat.zero_le _, Below.refl _ _, hN0⟩
  case round =>
    clear hN0
    obtain ⟨i, rfl, hi, hbw, hst⟩ := hrel
    by_cases hlt : i < l.length
    · have hlt' : (i : Int) < (l.length : Int) := by omega
      have hi0 : (0 : Int) ≤ (i : Int) := by omega
      have hp0 : (0 : Int) < (l.length : Int) := by omega
      replace hst := hst.out
      rw [al_step false y l hlt] at hst
      have hR := hRX.out _ hbw
      obtain ⟨ge, oe, rfl⟩ := hR.some hlt
      have k0 : wr.cell? ⟨ge, oe + i * 2, none⟩ = some (.int .i64 (l[i]).1) := by
        obtain ⟨cs, -, -, rfl, hcs⟩ := hR.item hlt
        exact hcs 0 (by decide)
      have kz : wr.cell? ⟨ge, oe, none⟩ = some (.int .i64 y) := by
        have h0 : 0 < l.length := by omega
        obtain ⟨cs, -, -, rfl, hcs⟩ := hR.item h0
        have := hcs 0 (by decide)
        rw [show oe + 0 * eKd.k + 0 = oe by show oe + 0 * 2 + 0 = oe; omega, hy h0] at this
        exact this
      generalize (l[i]).1 = z at k0 hst
      replace hst := Hid.mk hst
      clear hR
      have hbq := Hid.mk (fun n => belT hbw (drew_below wr n))
      by_cases z1 : z = 1
      · have u1 : (z == 1) = true := by simp; omega
        by_cases he : z = y
        · have ez : (z != y) = false := by simp; omega
          have hnx : Hid (alF false y (l.drop (i + 1)) (i + 1) = N) := ⟨by have := hst.out; rw [if_pos ⟨.inl z1, he⟩] at this; exact this⟩
          clear hst he z1
          go_upto_region 5 with fail
          go_quiet (fail)
          have hbn := hbq.out nq
          clear hbq
          go_wp2
          exact ⟨⟨i + 1, rfl, hlt, hbn, hnx⟩, by simp only [intOf]; omega⟩
        · have ez : (z != y) = true := by simp; omega
          have hfi : (i : Int) = N := by have := hst.out; rw [if_neg (fun h => he h.2)] at this; exact this
          subst hfi
          clear hst he z1
          go_upto_region 5 with fail
          go_quiet (fail)
          have hbn := hbq.out nq
          clear hbq
          go_wp2
          go_ret
          exact ⟨rfl, hbn⟩
      by_cases z2 : z = 2
      · have u1 : (z == 1) = false := by simp; omega
        have u2 : (z == 2) = true := by simp; omega
        by_cases he : z = y
        · have ez : (z != y) = false := by simp; omega
          have hnx : Hid (alF false y (l.drop (i + 1)) (i + 1) = N) := ⟨by have := hst.out; rw [if_pos ⟨.inr (.inl z2), he⟩] at this; exact this⟩
          clear hst he z1 z2
          go_upto_region 5 with fail
          go_quiet (fail)
          have hbn := hbq.out nq
          clear hbq
          go_wp2
          exact ⟨⟨i + 1, rfl, hlt, hbn, hnx⟩, by simp only [intOf]; omega⟩
        · have ez : (z != y) = true := by simp; omega
          have hfi : (i : Int) = N := by have := hst.out; rw [if_neg (fun h => he h.2)] at this; exact this
          subst hfi
          clear hst he z1 z2
          go_upto_region 5 with fail
          go_quiet (fail)
          have hbn := hbq.out nq
          clear hbq
          go_wp2
          go_ret
          exact ⟨rfl, hbn⟩
      have u1 : (z == 1) = false := by simp; omega
      have u2 : (z == 2) = false := by simp; omega
      have hfi : (i : Int) = N := by have := hst.out; rw [if_neg (fun h => by have := h.1; simp at this; omega)] at this; exact this
      subst hfi
      clear hst z1 z2
      go_upto_region 5 with fail
      go_quiet (fail)
      have hbn := hbq.out nq
      clear hbq
      go_wp2
      go_ret
      exact ⟨rfl, hbn⟩

    · have hlt' : ¬ (i : Int) < (l.length : Int) := by omega
      obtain rfl : i = l.length := by omega
      have hfi : -1 = N := by rw [← hst.out, al_end]
      subst hfi
      clear hst
      go_wp2
      go_ret
      exact ⟨rfl, hbw⟩
end Go.Proofs.YtmklkcefbabhbaaGreat.R6


/- A leaf. -/
namespace Go.Proofs.YtmklkcefbabhbaaGreat.R6
open Go.RowKit

def lnZ (p : Pk) (n : Int) : Ln := (lnO p n).getD ⟨[], false, false, 0, 0, 0, []⟩
theorem line_z {p : Pk} {n : Int} {W W' : World} {e : Ending} (h : LnP p n W e W') : Below W.heap.size W W' ∧ ∃ la lc, e = .returned (.tuple #[.agg #[.string ⟨(lnZ p n).name.toArray⟩, .bool (lnZ p n).input, .bool (lnZ p n).must, .int .i64 (lnZ p n).type, .int .i64 (lnZ p n).opts, .int .i64 (lnZ p n).group, .slice la (lnZ p n).cls.length lc], .bool (lnOk p n)]) := by
  obtain ⟨hb, h⟩ := h
  refine ⟨hb, ?_⟩
  unfold lnZ lnOk
  cases hl : lnO p n with
  | none =>
    rw [hl] at h
    exact ⟨none, 0, h⟩
  | some l =>
    rw [hl] at h
    exact h
theorem bx_bel {W W' : World} {b n : Nat} {vs : List Value} (h : Bx W b vs) (hB : Below n W W') (hb : b < n) : Bx W' b vs := ⟨Nat.lt_of_lt_of_le h.1 hB.size, fun j hj => (bel_cell hB hb j).trans (h.2.1 j hj), fun j => (World.frozen?_of_block (a := ⟨b, j, none⟩) (hB.block b hb)).trans (h.2.2 j)⟩
def LfP (p : Pk) (n : Int) (X : World) (lb : Nat) (wx : World) : Prop := ∃ la lc, lb < wx.heap.size ∧ X.heap.size ≤ lb ∧ wx.cell? ⟨lb, 0, none⟩ = some (.string ⟨(lnZ p n).name.toArray⟩) ∧ wx.cell? ⟨lb, 1, none⟩ = some (.bool (lnZ p n).input) ∧ wx.cell? ⟨lb, 2, none⟩ = some (.bool (lnZ p n).must) ∧ wx.cell? ⟨lb, 3, none⟩ = some (.int .i64 (lnZ p n).type) ∧ wx.cell? ⟨lb, 4, none⟩ = some (.int .i64 (lnZ p n).opts) ∧ wx.cell? ⟨lb, 5, none⟩ = some (.int .i64 (lnZ p n).group) ∧ wx.cell? ⟨lb, 6, none⟩ = some (.slice la (lnZ p n).cls.length lc) ∧ Below X.heap.size X wx
theorem lf_new (p : Pk) (n : Int) (la : Option Addr) (lc : Nat) {X w : World} (hB : Below X.heap.size X w) : LfP p n X w.heap.size (w.alloc (.cells #[.string ⟨(lnZ p n).name.toArray⟩, .bool (lnZ p n).input, .bool (lnZ p n).must, .int .i64 (lnZ p n).type, .int .i64 (lnZ p n).opts, .int .i64 (lnZ p n).group, .slice la (lnZ p n).cls.length lc] 55)) := ⟨la, lc, by simp, hB.size, by simp, by simp, by simp, by simp, by simp, by simp, by simp, hB.alloc hB.size _⟩
theorem lf_set (p : Pk) (n : Int) (la : Option Addr) (lc : Nat) {X w : World} (hx : Bx w X.heap.size (#[.string ⟨#[]⟩, .bool false, .bool false, .int .i64 0, .int .i64 0, .int .i64 0, .slice none 0 0] : Array Value).toList) (hB : Below X.heap.size X w) : LfP p n X X.heap.size (((((((w.setCell ⟨X.heap.size, 0, none⟩ (.string ⟨(lnZ p n).name.toArray⟩)).setCell ⟨X.heap.size, 1, none⟩ (.bool (lnZ p n).input)).setCell ⟨X.heap.size, 2, none⟩ (.bool (lnZ p n).must)).setCell ⟨X.heap.size, 3, none⟩ (.int .i64 (lnZ p n).type)).setCell ⟨X.heap.size, 4, none⟩ (.int .i64 (lnZ p n).opts)).setCell ⟨X.heap.size, 5, none⟩ (.int .i64 (lnZ p n).group)).setCell ⟨X.heap.size, 6, none⟩ (.slice la (lnZ p n).cls.length lc)) := by
  have h := (((((((hx.set 0 (.string ⟨(lnZ p n).name.toArray⟩)).set 1 (.bool (lnZ p n).input)).set 2 (.bool (lnZ p n).must)).set 3 (.int .i64 (lnZ p n).type)).set 4 (.int .i64 (lnZ p n).opts)).set 5 (.int .i64 (lnZ p n).group)).set 6 (.slice la (lnZ p n).cls.length lc))
  exact ⟨la, lc, h.1, Nat.le_refl _, (h.2.1 0 (by simp)).trans rfl, (h.2.1 1 (by simp)).trans rfl, (h.2.1 2 (by simp)).trans rfl, (h.2.1 3 (by simp)).trans rfl, (h.2.1 4 (by simp)).trans rfl, (h.2.1 5 (by simp)).trans rfl, (h.2.1 6 (by simp)).trans rfl, ((((((hB.setCell (p := ⟨X.heap.size, 0, none⟩) (Nat.le_refl _) _).setCell (p := ⟨X.heap.size, 1, none⟩) (Nat.le_refl _) _).setCell (p := ⟨X.heap.size, 2, none⟩) (Nat.le_refl _) _).setCell (p := ⟨X.heap.size, 3, none⟩) (Nat.le_refl _) _).setCell (p := ⟨X.heap.size, 4, none⟩) (Nat.le_refl _) _).setCell (p := ⟨X.heap.size, 5, none⟩) (Nat.le_refl _) _).setCell (p := ⟨X.heap.size, 6, none⟩) (Nat.le_refl _) _⟩
theorem results_cellK {P : Program} {fn : Func} {q u : Tmp} {ty : TypeId} (h : fn.results = #[.cell q ty, .tmp u]) (tmps : Array Value) (w : World) (b : Nat) (t : TypeId) (cs : Array Value) (fr : Nat × Nat) (d : TypeDesc)
    (hp : tmps.getD q undef = .pointer (some ⟨b, 0, none⟩)) (hg : w.heap[b]? = some (.cells cs t fr)) (hu : P.underlying ty = some d) (hd : (match d with | .struct _ | .array _ _ => true | _ => false) = true) (hi : (P.info? ty).map (·.size) = some cs.size) :
    (results fn tmps).run P w = .ok (.tuple #[.agg cs, tmps.getD u undef]) w := by
  rw [results_cell_tmp h, hp]
  simp [asAddr, run_loadVar_row w b t ty cs fr d hg hu hd hi]
theorem info_kd : (Tryz.prog.info? 88).map (·.size) = some 2 := by kernel_rfl
theorem row_two {w : World} {b : Nat} {u0 u1 : Value} {t : TypeId} (h : w.heap[b]? = some (.cells #[u0, u1] t (0, 0))) (v0 v1 : Value) : ((w.setCell ⟨b, 0, none⟩ v0).setCell ⟨b, 1, none⟩ v1).heap[b]? = some (.cells #[v0, v1] t (0, 0)) := by
  have h1 := heap_setCell_same w b 0 _ _ v0 h
  have h2 := heap_setCell_same _ b 1 _ _ v1 h1
  exact h2
theorem bel_two {X w : World} {b n : Nat} (h : Below n X w) (hb : n ≤ b) (v0 v1 : Value) : Below n X ((w.setCell ⟨b, 0, none⟩ v0).setCell ⟨b, 1, none⟩ v1) := (h.setCell (p := ⟨b, 0, none⟩) hb v0).setCell (p := ⟨b, 1, none⟩) hb v1
end Go.Proofs.YtmklkcefbabhbaaGreat.R6


/- A node. -/
namespace Go.Proofs.YtmklkcefbabhbaaGreat.R6
open Go.RowKit

def NdP (W : World) (r : Kd × Int) : Ending → World → Prop := Lk (.tuple #[.agg #[.int .i64 r.1.1, .int .i64 r.1.2], .int .i64 r.2]) W
theorem row_in1 (X : World) (v : Int) (t : TypeId) : RowR eIn (X.alloc (.cells #[.int .i64 v] t)) AnyB [v] (some ⟨X.heap.size, 0, none⟩) :=
  .inr ⟨X.heap.size, 0, [.int .i64 v], rfl, trivial, by simp, fun j hj => by simp, (Elems.nil eIn _ AnyB).snoc (x := v) (cx := [.int .i64 v]) rfl⟩
theorem row_in2 (X : World) (v u : Int) (t : TypeId) : RowR eIn (X.alloc (.cells #[.int .i64 v, .int .i64 u] t)) AnyB [v, u] (some ⟨X.heap.size, 0, none⟩) :=
  .inr ⟨X.heap.size, 0, [.int .i64 v, .int .i64 u], rfl, trivial, by simp, fun j hj => by simp, ((Elems.nil eIn _ AnyB).snoc (x := v) (cx := [.int .i64 v]) rfl).snoc (x := u) (cx := [.int .i64 u]) rfl⟩
theorem kd_cells {w : World} {l : List Kd} {ge oe : Nat} (h : RowR eKd w AnyB l (some ⟨ge, oe, none⟩)) {i : Nat} (hi : i < l.length) : w.cell? ⟨ge, oe + i * 2, none⟩ = some (.int .i64 (l.getD i (0, 0)).1) ∧ w.cell? ⟨ge, oe + i * 2 + 1, none⟩ = some (.int .i64 (l.getD i (0, 0)).2) := by
  obtain ⟨cs, -, -, rfl, hcs⟩ := h.item hi
  rw [List.getD_eq_getElem?_getD, List.getElem?_eq_getElem hi, Option.getD_some]
  exact ⟨hcs 0 (by decide), hcs 1 (by decide)⟩
theorem row_lt {α : Type} {D : Elt α} {W : World} {xs : List α} {g o : Nat} (h : RowR D W AnyB xs (some ⟨g, o, none⟩)) (hn : 0 < xs.length) : g < W.heap.size := by
  rcases h with rfl | ⟨g', o', cs, e, -, h, -⟩
  · cases hn
  · cases e
    exact h
end Go.Proofs.YtmklkcefbabhbaaGreat.R6


/- A node. -/
namespace Go.Proofs.YtmklkcefbabhbaaGreat.R6
open Go.RowKit

set_option maxRecDepth 20000 in
set_option maxHeartbeats 4000000 in
theorem nd_36 (l : List Kd) (a : Option Addr) (c : Nat) (W : World) (hR : RowR eKd W AnyB l a) (hl : l.length ≤ 1000) (h1 : 2 ≤ l.length) : Calls Tryz.prog 100 #[.int .i64 36, .slice a l.length c] W (NdP W (ndK 36 l)) := by
  have hf : ndK 36 l = (l.getD 0 (0, 0), if l.getD 0 (0, 0) ≠ l.getD 1 (0, 0) then 1 else -1) := rfl
  rw [hf]
  clear hf
  obtain ⟨ge, oe, rfl⟩ := hR.some (show 0 < l.length by omega)
  have hge := row_lt hR (by omega)
  obtain ⟨X, hXe⟩ : ∃ X, W.alloc (.cells #[.int .i64 0, .int .i64 0] 88) = X := ⟨_, rfl⟩
  have hb0 : Below W.heap.size W X := by rw [← hXe]; exact (Below.refl _ _).alloc (Nat.le_refl _) _
  have hXl : W.heap.size < X.heap.size := by rw [← hXe]; simp
  have hK : Hid (∀ w, Below X.heap.size X w → w.heap[W.heap.size]? = some (.cells #[.int .i64 0, .int .i64 0] 88 (0, 0))) := ⟨fun w hb => (hb.block _ hXl).trans (by rw [← hXe]; exact heap_alloc_new _ _)⟩
  have hRX : Hid (∀ w, Below X.heap.size X w → RowR eKd w AnyB l (some ⟨ge, oe, none⟩)) := ⟨fun w hw => row_bel (row_bel hR hb0 (Nat.le_refl _)) hw (Nat.le_refl _)⟩
  have rk := hK.out _ (Below.refl _ _)
  have fk0 := frozen_of_row _ _ 0 _ _ rk
  have fk1 := frozen_of_row _ _ 1 _ _ rk
  have ck0 : X.cell? ⟨W.heap.size, 0, none⟩ = some (.int .i64 0) := cell_of_row _ _ 0 _ _ _ rk
  have ck1 : X.cell? ⟨W.heap.size, 1, none⟩ = some (.int .i64 0) := cell_of_row _ _ 1 _ _ _ rk
  have hC : Hid (∀ w, Below X.heap.size X w → w.cell? ⟨ge, oe, none⟩ = some (.int .i64 (l.getD 0 (0, 0)).1) ∧ w.cell? ⟨ge, oe + 1, none⟩ = some (.int .i64 (l.getD 0 (0, 0)).2) ∧ w.cell? ⟨ge, oe + 2, none⟩ = some (.int .i64 (l.getD 1 (0, 0)).1) ∧ w.cell? ⟨ge, oe + 3, none⟩ = some (.int .i64 (l.getD 1 (0, 0)).2)) := ⟨fun w hw => by
    have h := hRX.out w hw
    exact ⟨(kd_cells h (i := 0) (by omega)).1, (kd_cells h (i := 0) (by omega)).2, (kd_cells h (i := 1) (by omega)).1, (kd_cells h (i := 1) (by omega)).2⟩⟩
  have hp0 : (0 : Int) < (l.length : Int) := by omega
  have hp1 : (1 : Int) < (l.length : Int) := by omega
  generalize l.getD 0 (0, 0) = k0 at *
  generalize l.getD 1 (0, 0) = k1 at *
  have hKn := Hid.mk (fun n => hK.out _ (drew_below X n))
  have hCn := Hid.mk (fun n => hC.out _ (drew_below X n))
  have hBn := Hid.mk (fun n => belT hb0 (drew_below X n))
  obtain ⟨i0, i1, i2, i3⟩ := hC.out _ (Below.refl _ _)
  clear hR h1
  by_cases q0 : k0.1 = k1.1
  · have e0 : (k0.1 != k1.1) = false := by simp; omega
    by_cases q1 : k0.2 = k1.2
    · have heq : k0 = k1 := Prod.ext q0 q1
      have e1 : (k0.2 != k1.2) = false := by simp; omega
      rw [show (if k0 ≠ k1 then (1 : Int) else -1) = (-1) by rw [if_neg (fun h => h heq)]]
      clear q0 q1 heq
      go_enter Tryz.func100, Tryz.ntmps100
      go_upto_region 43 with fail
      go_quiet (fail)
      have r3 := hKn.out nq
      have fq0 := frozen_of_row _ _ 0 _ _ r3
      have fq1 := frozen_of_row _ _ 1 _ _ r3
      obtain ⟨n0, n1, n2, n3⟩ := hCn.out nq
      have hbn := hBn.out nq
      go_wp2
      refine bodyPost_ret (v := .tuple #[.agg #[.int .i64 k0.1, .int .i64 k0.2], .int .i64 (-1)]) (results_cellK Tryz.results100 _ _ W.heap.size 88 _ (0, 0) _ rfl (row_two r3 _ _) Tryz.underlying88 rfl info_kd) rfl ?_
      exact ⟨rfl, bel_two hbn (Nat.le_refl _) _ _⟩
    · have hne : k0 ≠ k1 := fun h => q1 (by rw [h])
      have e1 : (k0.2 != k1.2) = true := by simp; omega
      rw [show (if k0 ≠ k1 then (1 : Int) else -1) = 1 by rw [if_pos hne]]
      clear q0 q1 hne
      go_enter Tryz.func100, Tryz.ntmps100
      go_upto_region 43 with fail
      go_quiet (fail)
      have r3 := hKn.out nq
      have fq0 := frozen_of_row _ _ 0 _ _ r3
      have fq1 := frozen_of_row _ _ 1 _ _ r3
      obtain ⟨n0, n1, n2, n3⟩ := hCn.out nq
      have hbn := hBn.out nq
      go_wp2
      refine bodyPost_ret (v := .tuple #[.agg #[.int .i64 k0.1, .int .i64 k0.2], .int .i64 1]) (results_cellK Tryz.results100 _ _ W.heap.size 88 _ (0, 0) _ rfl (row_two r3 _ _) Tryz.underlying88 rfl info_kd) rfl ?_
      exact ⟨rfl, bel_two hbn (Nat.le_refl _) _ _⟩
  · have hne : k0 ≠ k1 := fun h => q0 (by rw [h])
    have e0 : (k0.1 != k1.1) = true := by simp; omega
    rw [show (if k0 ≠ k1 then (1 : Int) else -1) = 1 by rw [if_pos hne]]
    clear q0 hne
    go_enter Tryz.func100, Tryz.ntmps100
    go_upto_region 43 with fail
    go_quiet (fail)
    have r3 := hKn.out nq
    have fq0 := frozen_of_row _ _ 0 _ _ r3
    have fq1 := frozen_of_row _ _ 1 _ _ r3
    obtain ⟨n0, n1, n2, n3⟩ := hCn.out nq
    have hbn := hBn.out nq
    go_wp2
    refine bodyPost_ret (v := .tuple #[.agg #[.int .i64 k0.1, .int .i64 k0.2], .int .i64 1]) (results_cellK Tryz.results100 _ _ W.heap.size 88 _ (0, 0) _ rfl (row_two r3 _ _) Tryz.underlying88 rfl info_kd) rfl ?_
    exact ⟨rfl, bel_two hbn (Nat.le_refl _) _ _⟩
set_option maxRecDepth 20000 in
set_option maxHeartbeats 4000000 in
theorem nd_34 (l : List Kd) (a : Option Addr) (c : Nat) (W : World) (hR : RowR eKd W AnyB l a) (hl : l.length ≤ 1000) (h1 : 3 ≤ l.length) : Calls Tryz.prog 100 #[.int .i64 34, .slice a l.length c] W (NdP W (ndK 34 l)) := by
  have hf : ndK 34 l = (l.getD 1 (0, 0), if (l.getD 0 (0, 0)).1 ≠ 3 then 0 else if l.getD 1 (0, 0) ≠ l.getD 2 (0, 0) then 2 else -1) := rfl
  rw [hf]
  clear hf
  obtain ⟨ge, oe, rfl⟩ := hR.some (show 0 < l.length by omega)
  have hge := row_lt hR (by omega)
  obtain ⟨X, hXe⟩ : ∃ X, W.alloc (.cells #[.int .i64 0, .int .i64 0] 88) = X := ⟨_, rfl⟩
  have hb0 : Below W.heap.size W X := by rw [← hXe]; exact (Below.refl _ _).alloc (Nat.le_refl _) _
  have hXl : W.heap.size < X.heap.size := by rw [← hXe]; simp
  have hK : Hid (∀ w, Below X.heap.size X w → w.heap[W.heap.size]? = some (.cells #[.int .i64 0, .int .i64 0] 88 (0, 0))) := ⟨fun w hb => (hb.block _ hXl).trans (by rw [← hXe]; exact heap_alloc_new _ _)⟩
  have hRX : Hid (∀ w, Below X.heap.size X w → RowR eKd w AnyB l (some ⟨ge, oe, none⟩)) := ⟨fun w hw => row_bel (row_bel hR hb0 (Nat.le_refl _)) hw (Nat.le_refl _)⟩
  have rk := hK.out _ (Below.refl _ _)
  have fk0 := frozen_of_row _ _ 0 _ _ rk
  have fk1 := frozen_of_row _ _ 1 _ _ rk
  have ck0 : X.cell? ⟨W.heap.size, 0, none⟩ = some (.int .i64 0) := cell_of_row _ _ 0 _ _ _ rk
  have ck1 : X.cell? ⟨W.heap.size, 1, none⟩ = some (.int .i64 0) := cell_of_row _ _ 1 _ _ _ rk
  have hC : Hid (∀ w, Below X.heap.size X w → w.cell? ⟨ge, oe, none⟩ = some (.int .i64 (l.getD 0 (0, 0)).1) ∧ w.cell? ⟨ge, oe + 1, none⟩ = some (.int .i64 (l.getD 0 (0, 0)).2) ∧ w.cell? ⟨ge, oe + 2, none⟩ = some (.int .i64 (l.getD 1 (0, 0)).1) ∧ w.cell? ⟨ge, oe + 3, none⟩ = some (.int .i64 (l.getD 1 (0, 0)).2) ∧ w.cell? ⟨ge, oe + 4, none⟩ = some (.int .i64 (l.getD 2 (0, 0)).1) ∧ w.cell? ⟨ge, oe + 5, none⟩ = some (.int .i64 (l.getD 2 (0, 0)).2)) := ⟨fun w hw => by
    have h := hRX.out w hw
    exact ⟨(kd_cells h (i := 0) (by omega)).1, (kd_cells h (i := 0) (by omega)).2, (kd_cells h (i := 1) (by omega)).1, (kd_cells h (i := 1) (by omega)).2, (kd_cells h (i := 2) (by omega)).1, (kd_cells h (i := 2) (by omega)).2⟩⟩
  have hp0 : (0 : Int) < (l.length : Int) := by omega
  have hp1 : (1 : Int) < (l.length : Int) := by omega
  have hp2 : (2 : Int) < (l.length : Int) := by omega
  generalize l.getD 0 (0, 0) = k0 at *
  generalize l.getD 1 (0, 0) = k1 at *
  generalize l.getD 2 (0, 0) = k2 at *
  have hKn := Hid.mk (fun n => hK.out _ (drew_below X n))
  have hCn := Hid.mk (fun n => hC.out _ (drew_below X n))
  have hBn := Hid.mk (fun n => belT hb0 (drew_below X n))
  obtain ⟨i0, i1, i2, i3, i4, i5⟩ := hC.out _ (Below.refl _ _)
  clear hR h1
  by_cases p0 : k0.1 = 3
  rotate_left
  · have e9 : (k0.1 != 3) = true := by simp; omega
    rw [show (if k0.1 ≠ 3 then (0 : Int) else if k1 ≠ k2 then 2 else -1) = 0 by rw [if_pos p0]]
    clear p0
    go_enter Tryz.func100, Tryz.ntmps100
    go_wp2
    refine bodyPost_ret (v := .tuple #[.agg #[.int .i64 k1.1, .int .i64 k1.2], .int .i64 0]) (results_cellK Tryz.results100 _ _ W.heap.size 88 _ (0, 0) _ rfl (row_two rk _ _) Tryz.underlying88 rfl info_kd) rfl ?_
    exact ⟨rfl, bel_two hb0 (Nat.le_refl _) _ _⟩
  have e9 : (k0.1 != 3) = false := by simp; omega
  by_cases q0 : k1.1 = k2.1
  · have e0 : (k1.1 != k2.1) = false := by simp; omega
    by_cases q1 : k1.2 = k2.2
    · have heq : k1 = k2 := Prod.ext q0 q1
      have e1 : (k1.2 != k2.2) = false := by simp; omega
      rw [show (if k0.1 ≠ 3 then (0 : Int) else if k1 ≠ k2 then 2 else -1) = (-1) by rw [if_neg (fun h => h p0), if_neg (fun h => h heq)]]
      clear q0 q1 heq p0
      go_enter Tryz.func100, Tryz.ntmps100
      go_upto_region 40 with fail
      go_quiet (fail)
      have r3 := hKn.out nq
      have fq0 := frozen_of_row _ _ 0 _ _ r3
      have fq1 := frozen_of_row _ _ 1 _ _ r3
      obtain ⟨n0, n1, n2, n3, n4, n5⟩ := hCn.out nq
      have hbn := hBn.out nq
      go_wp2
      refine bodyPost_ret (v := .tuple #[.agg #[.int .i64 k1.1, .int .i64 k1.2], .int .i64 (-1)]) (results_cellK Tryz.results100 _ _ W.heap.size 88 _ (0, 0) _ rfl (row_two r3 _ _) Tryz.underlying88 rfl info_kd) rfl ?_
      exact ⟨rfl, bel_two hbn (Nat.le_refl _) _ _⟩
    · have hne : k1 ≠ k2 := fun h => q1 (by rw [h])
      have e1 : (k1.2 != k2.2) = true := by simp; omega
      rw [show (if k0.1 ≠ 3 then (0 : Int) else if k1 ≠ k2 then 2 else -1) = 2 by rw [if_neg (fun h => h p0), if_pos hne]]
      clear q0 q1 hne p0
      go_enter Tryz.func100, Tryz.ntmps100
      go_upto_region 40 with fail
      go_quiet (fail)
      have r3 := hKn.out nq
      have fq0 := frozen_of_row _ _ 0 _ _ r3
      have fq1 := frozen_of_row _ _ 1 _ _ r3
      obtain ⟨n0, n1, n2, n3, n4, n5⟩ := hCn.out nq
      have hbn := hBn.out nq
      go_wp2
      refine bodyPost_ret (v := .tuple #[.agg #[.int .i64 k1.1, .int .i64 k1.2], .int .i64 2]) (results_cellK Tryz.results100 _ _ W.heap.size 88 _ (0, 0) _ rfl (row_two r3 _ _) Tryz.underlying88 rfl info_kd) rfl ?_
      exact ⟨rfl, bel_two hbn (Nat.le_refl _) _ _⟩
  · have hne : k1 ≠ k2 := fun h => q0 (by rw [h])
    have e0 : (k1.1 != k2.1) = true := by simp; omega
    rw [show (if k0.1 ≠ 3 then (0 : Int) else if k1 ≠ k2 then 2 else -1) = 2 by rw [if_neg (fun h => h p0), if_pos hne]]
    clear q0 hne p0
    go_enter Tryz.func100, Tryz.ntmps100
    go_upto_region 40 with fail
    go_quiet (fail)
    have r3 := hKn.out nq
    have fq0 := frozen_of_row _ _ 0 _ _ r3
    have fq1 := frozen_of_row _ _ 1 _ _ r3
    obtain ⟨n0, n1, n2, n3, n4, n5⟩ := hCn.out nq
    have hbn := hBn.out nq
    go_wp2
    refine bodyPost_ret (v := .tuple #[.agg #[.int .i64 k1.1, .int .i64 k1.2], .int .i64 2]) (results_cellK Tryz.results100 _ _ W.heap.size 88 _ (0, 0) _ rfl (row_two r3 _ _) Tryz.underlying88 rfl info_kd) rfl ?_
    exact ⟨rfl, bel_two hbn (Nat.le_refl _) _ _⟩
end Go.Proofs.YtmklkcefbabhbaaGreat.R6

import Derived.Test.YthnmjafoplfikaaGreatDoorTurnYN1
namespace Go.Proofs.YthnmjafoplfikaaGreatDoor
open Go.RowKit

theorem Fr.setN {lb : Nat} {W X : World} {p q : Value} (h : Fr lb W p X q) {b : Nat} (hb : W.heap.size ≤ b) (i : Nat) (v : Value) : Fr lb W p (X.setCell ⟨b, i, none⟩ v) q :=
  let k := gr_set X b i v
  ⟨k.os.trans h.os, k.tape.trans h.tape, k.output.trans h.output, Nat.le_trans h.size k.size, fun c hc h1 h2 => (k.block c (Nat.lt_of_lt_of_le hc h.size) (by intro e; injection e with e; omega)).trans (h.blk c hc h1 h2), h.new⟩
theorem LkS.setN {p : Pk} {sv : List Value} {lb s : Nat} {W : World} {n : Nat} {path : List Nat} {pv : Value} (h : LkS p sv lb s W n path pv) {b : Nat} (hb : pB lb s ≤ b) (hne : some b ≠ pv.ownBlock) (i : Nat) (v : Value) : LkS p sv lb s (W.setCell ⟨b, i, none⟩ v) n path pv := by
  have hb1 := Nat.le_trans (pB_lb lb s) hb
  have hb2 := Nat.le_trans (pB_s lb s) hb
  have hg := gr_set W b i v
  have k := fun j => gr_cell hg h.lt (by intro e; injection e with e; omega) j
  have hlo := h.lo
  exact ⟨fun j hj => (k j).trans (h.sc j hj), (k 8).trans h.c8, (k 9).trans h.c9, (k 10).trans h.c10, fun j => by rw [World.frozen?_setCell]; exact h.fz j, h.own.kept hg (by cases hv : pv.ownBlock with
    | none => exact .inl rfl
    | some g => exact .inr (by rw [hv] at hne; exact fun e => hne e.symm)), h.ops.kept (fun c _ hlt => hg.block c (by have := h.ops.1; omega) (by intro e; injection e with e; omega)) hg.size, h.lo, pke_fr h.pk hg.size (fun c hc hlt => hg.block c hlt (by intro e; injection e with e; omega))⟩
theorem ptC_snoc (path : List Nat) (i : Nat) : ptC path ++ [.int .i64 (i : Int)] = ptC (path ++ [i]) := by unfold ptC; rw [List.map_append, List.map_singleton]
theorem ptC_take (path : List Nat) (m : Nat) : (ptC path).take m = ptC (path.take m) := by unfold ptC; rw [List.map_take]
/-- Behind an append to the path. -/
theorem LkS.push {p : Pk} {sv : List Value} {lb s : Nat} {w1 w4 : World} {n : Nat} {path : List Nat} {pv v4 : Value} {i : Nat} (h : LkS p sv lb s w1 n path pv) (hg : (w1.alloc (.cells #[.int .i64 (i : Int)] 3)).grownBy w4 pv.ownBlock) (ho : w4.ownsRow (pB lb s) 3 1 v4 (path.length + 1) (ptC path ++ [.int .i64 (i : Int)])) (hat : v4.ownBlock = pv.ownBlock ∨ v4.ownBlock = some (w1.alloc (.cells #[.int .i64 (i : Int)] 3)).heap.size) : LkS p sv lb s (w4.setCell ⟨lb, 10, none⟩ v4) n (path ++ [i]) v4 ∧ Fr lb w1 pv (w4.setCell ⟨lb, 10, none⟩ v4) v4 ∧ (∃ u, w4.cell? ⟨lb, 10, none⟩ = some u) ∧ w4.frozen? ⟨lb, 10, none⟩ = false := by
  have hB : Below w1.heap.size w1 (w1.alloc (.cells #[.int .i64 (i : Int)] 3)) := (Below.refl _ _).alloc (Nat.le_refl _) _
  have h1 := (h.bel hB).set10 hg (pv2 := v4) (path2 := path ++ [i]) (by rw [List.length_append, List.length_singleton, ← ptC_snoc]; exact ho)
  refine ⟨h1.1, ?_, h1.2⟩
  exact ((Fr.bel hB pv).trans (Fr.grow hg hat)).trans (Fr.set w4 v4 v4 10 v4 rfl)
set_option maxRecDepth 20000 in
set_option maxHeartbeats 4000000 in
theorem worth_bad (p : Pk) (g : Int) (x : Ex) (ks : List Kd) (a3 a4 a5 a6 a7 : Option Addr) (c3 c4 c5 c6 c7 : Nat) (ax : Option Addr) (cx : Nat) (ak : Option Addr) (ck : Nat) (num den mode : Int × Int) (least most only k1 k2 : Int) (l2 : Nat) (fv tv : Value) (lb s : Nat) (W : World) (n : Nat) (path : List Nat) (pv : Value) (h : LkS p (scG p a3 a4 a5 a6 a7 c3 c4 c5 c6 c7 g) lb s W n path pv) (hpl : path.length ≤ 8) (hl : ks.length ≤ 6) (hR : RowR eKd W AnyB ks ak) (hk : ∀ k ∈ ks, isK k.1 = true) (hl2 : l2 ≤ 1) (i : Nat) (hb : blameF (k1, 0) (k2, (l2 : Int)) ks ks 0 = some i) : Calls Tryz.prog 118 #[.pointer (some ⟨lb, 0, none⟩), .agg #[.int .i64 num.1, .int .i64 num.2, .int .i64 den.1, .int .i64 den.2, .int .i64 mode.1, .int .i64 mode.2, .int .i64 least, .int .i64 most, .int .i64 only, .int .i64 k1, .int .i64 0, .int .i64 k2, .int .i64 (l2 : Int), fv, tv], .agg #[.int .i64 x.op, .int .i64 x.num, .int .i64 x.den, .int .i64 x.mode, .slice ax x.args.len cx], .slice ak ks.length ck] W (NdP p (scG p a3 a4 a5 a6 a7 c3 c4 c5 c6 c7 g) lb s path pv n (.error ([i], 69)) W) := by
  obtain ⟨W3, hW3⟩ : ∃ W3, W3 = (((W.alloc (.cells #[.int .i64 num.1, .int .i64 num.2, .int .i64 den.1, .int .i64 den.2, .int .i64 mode.1, .int .i64 mode.2, .int .i64 least, .int .i64 most, .int .i64 only, .int .i64 k1, .int .i64 0, .int .i64 k2, .int .i64 (l2 : Int), fv, tv] 179)).alloc (.cells #[.int .i64 x.op, .int .i64 x.num, .int .i64 x.den, .int .i64 x.mode, .slice ax x.args.len cx] 73)).alloc (.cells #[.int .i64 0, .int .i64 0] 163)) := ⟨_, rfl⟩
  have hB0 : Below W.heap.size W W3 := by rw [hW3]; exact bel3 _ _ _ _
  have hbl := blamed_any k1 k2 l2 ks ak ck W3 hl (row_bel hR hB0 (Nat.le_refl _)) hk hl2
  rw [hb] at hbl
  have hbl : Calls Tryz.prog 130 #[.slice ak ks.length ck, .agg #[.int .i64 k1, .int .i64 0, .int .i64 k2, .int .i64 (l2 : Int)]] W3 (Lk (.int .i64 (i : Int)) W3) := hbl
  have hi0 : ¬ (i : Int) < 0 := by omega
  have hs3 : W3.heap.size = W.heap.size + 1 + 1 + 1 := by rw [hW3]; simp
  have hq := bx_new ((W.alloc (.cells #[.int .i64 num.1, .int .i64 num.2, .int .i64 den.1, .int .i64 den.2, .int .i64 mode.1, .int .i64 mode.2, .int .i64 least, .int .i64 most, .int .i64 only, .int .i64 k1, .int .i64 0, .int .i64 k2, .int .i64 (l2 : Int), fv, tv] 179)).alloc (.cells #[.int .i64 x.op, .int .i64 x.num, .int .i64 x.den, .int .i64 x.mode, .slice ax x.args.len cx] 73)) #[.int .i64 0, .int .i64 0] 163
  rw [← hW3, show ((W.alloc (.cells #[.int .i64 num.1, .int .i64 num.2, .int .i64 den.1, .int .i64 den.2, .int .i64 mode.1, .int .i64 mode.2, .int .i64 least, .int .i64 most, .int .i64 only, .int .i64 k1, .int .i64 0, .int .i64 k2, .int .i64 (l2 : Int), fv, tv] 179)).alloc (.cells #[.int .i64 x.op, .int .i64 x.num, .int .i64 x.den, .int .i64 x.mode, .slice ax x.args.len cx] 73)).heap.size = W.heap.size + 1 + 1 by simp] at hq
  obtain ⟨pa, pcap, rfl, hpa, hpc⟩ := own_int h.own
  obtain ⟨i0, hi1, hz0, hz1, hz2⟩ := info_parts infoInt
  have hC : ∀ w1, Below W3.heap.size W3 w1 → LkS p (scG p a3 a4 a5 a6 a7 c3 c4 c5 c6 c7 g) lb s w1 n path (.slice pa path.length pcap) ∧ Fr lb W (.slice pa path.length pcap) w1 (.slice pa path.length pcap) ∧ lb < w1.heap.size := fun w1 h1 => by
    have h2 := bthr hB0 h1 (Nat.le_refl _)
    have h3 := h.bel h2
    exact ⟨h3, Fr.bel h2 _, h3.lt⟩
  have hlb := h.lt
  have hE : ∀ w1 w4 v4, Below W3.heap.size W3 w1 → (w1.alloc (.cells #[.int .i64 (i : Int)] 3)).grownBy w4 (Value.slice pa path.length pcap).ownBlock → w4.ownsRow (pB lb s) 3 1 v4 (path.length + 1) (ptC path ++ [.int .i64 (i : Int)]) → (v4.ownBlock = (Value.slice pa path.length pcap).ownBlock ∨ v4.ownBlock = some (w1.alloc (.cells #[.int .i64 (i : Int)] 3)).heap.size) → NdP p (scG p a3 a4 a5 a6 a7 c3 c4 c5 c6 c7 g) lb s path (.slice pa path.length pcap) n (.error ([i], 69)) W (.returned (resV (.error ([i], 69)))) (w4.setCell ⟨lb, 10, none⟩ v4) ∧ (∃ u, w4.cell? ⟨lb, 10, none⟩ = some u) ∧ w4.frozen? ⟨lb, 10, none⟩ = false ∧ Bx (w4.setCell ⟨lb, 10, none⟩ v4) (W.heap.size + 1 + 1) [.int .i64 0, .int .i64 0] := fun w1 w4 v4 h1 hg ho hat => by
    obtain ⟨g1, g2, g3⟩ := hC w1 h1
    obtain ⟨k1, k2, k3, k4⟩ := g1.push hg ho hat
    have hbx : Bx w1 (W.heap.size + 1 + 1) [.int .i64 0, .int .i64 0] := ⟨by have := h1.size; omega, fun j hj => (bel_cell h1 (by omega) j).trans (hq.2.1 j hj), fun j => (World.frozen?_of_block (a := ⟨W.heap.size + 1 + 1, j, none⟩) (h1.block _ (by simp; omega))).trans (hq.2.2 j)⟩
    have hne : some (W.heap.size + 1 + 1) ≠ (Value.slice pa path.length pcap).ownBlock := fun e => by
      have := (h.pg _ e.symm).2
      omega
    have hbx2 := ((hbx.kept (World.grownBy_alloc w1 (.cells #[.int .i64 (i : Int)] 3) none) (by simp)).kept hg hne).kept (gr_set w4 lb 10 v4) (by intro e; injection e with e; omega)
    exact ⟨⟨rfl, v4, k1, g2.trans k2⟩, k3, k4, hbx2⟩
  have hc10 : ∀ w1, Below W3.heap.size W3 w1 → w1.cell? ⟨lb, 10, none⟩ = some (.slice pa path.length pcap) ∧ (w1.alloc (.cells #[.int .i64 (i : Int)] 3)).ownsRow (pB lb s) 3 1 (.slice pa path.length pcap) path.length (ptC path) ∧ pB lb s ≤ (w1.alloc (.cells #[.int .i64 (i : Int)] 3)).heap.size := fun w1 h1 => by
    obtain ⟨g1, g2, g3⟩ := hC w1 h1
    exact ⟨g1.c10, g1.own.alloc _, Nat.le_trans g1.base (by simp)⟩
  have hE := Hid.mk hE
  clear hb hR hk hC hq hB0 hs3 h
  subst hW3
  go_enter Tryz.func118, Tryz.ntmps118
  go_wp2_with (first | (go_at_call 130; refine hbl.mono ?_; clear hbl; rintro e w1 ⟨rfl, hb1⟩; obtain ⟨q10, qo, qb⟩ := hc10 w1 hb1) | (at_builtin; refine wpList_append_own_at _ rfl _ _ 103 rfl (pB lb s) 3 i0 (.int .i64 0) 1 8 Tryz.underlying103 hi1 hz0 hz1 hz2 rfl (by decide) _ _ _ rfl qo ⟨w1.heap.size, 0, none⟩ 1 1 [.int .i64 (i : Int)] rfl rfl (cell_one_new _ _ _) (by simp [Value.oneCell']) (by unfold maxLen; omega) (by omega) qb ?_; intro v4 w4 hown4 hgrow4 _ hat4; obtain ⟨hfin, ⟨u4, hu4⟩, hz4, hbx⟩ := hE.out w1 w4 v4 hb1 hgrow4 hown4 hat4; obtain ⟨p4, cap4, rfl, -, -⟩ := own_int hown4; have b0 := hbx.2.1 0 (by simp); have b1 := hbx.2.1 1 (by simp); have z0 := hbx.2.2 0; have z1 := hbx.2.2 1; have i0 := set_id b0; have i1 := set_id b1; clear hgrow4 hown4 hat4 hbx))
  exact bodyPost_ret (v := .tuple #[.agg #[.int .i64 0, .int .i64 0], .int .i64 69]) (by simp at b0 b1; simp [results, Tryz.results118, go_sem, b0, b1]) rfl hfin
end Go.Proofs.YthnmjafoplfikaaGreatDoor

import Derived.Test.YthnmjafoplfikaaGreatDoorTurnRmLines
import Derived.Test.YthnmjafoplfikaaGreatDoorTurnRmChecks
import Derived.Test.YthnmjafoplfikaaGreatDoorTurnRmOptions
import Derived.Test.YthnmjafoplfikaaGreatDoorTurnRmTables
import Derived.Test.YthnmjafoplfikaaGreatDoorTurnRmGroups
namespace Go.Proofs.YthnmjafoplfikaaGreatDoor
open Go.RowKit

/-- A pack whose lists are not too long. -/
structure SzR (p : Pk) : Prop where
  o1 : p.opts.length ≤ 1000000
  o2 : ∀ x ∈ p.opts, x.2.length ≤ 1000000
  t1 : p.tabs.length ≤ 1000000
  t2 : ∀ x ∈ p.tabs, x.2.length ≤ 1000000
  g1 : p.grps.length ≤ 1000000
  l1 : p.lns.length ≤ 1000000
  l2 : ∀ x ∈ p.lns, x.cls.length ≤ 1000000
  l3 : cLn p.lns ≤ 1000000
  k1 : p.cks.length ≤ 1000000
  k2 : cK p.cks ≤ 1000000
def cP (p : Pk) : Nat := cO p.opts + 1 + (cO p.tabs + 1) + 1 + (cLn p.lns + 1) + (cK p.cks + 1)
/-- What the copy of a pack is. -/
def RmPk (R lo : Nat) (K : Nat → Value) (V : Nat → List Value) (N' : Nat) (p : Pk) (W : World) (e : Ending) (W' : World) : Prop := ∃ g0 g1 g2 g3 g4 K' V', e = .returned (.agg #[.string ⟨p.name.toArray⟩, .int .i64 (p.year), .slice (some ⟨g0, 0, none⟩) p.opts.length (p.opts.length + 40), .slice (some ⟨g1, 0, none⟩) p.tabs.length (p.tabs.length + 40), .slice (some ⟨g2, 0, none⟩) p.grps.length (p.grps.length + 40), .slice (some ⟨g3, 0, none⟩) p.lns.length (p.lns.length + 40), .slice (some ⟨g4, 0, none⟩) p.cks.length (p.cks.length + 40)]) ∧ RmAt W' R lo K' V' N' ∧ RmStep R K V K' V' W W' ∧ RowR eO W' (SnR W.heap.size R K' W') p.opts (some ⟨g0, 0, none⟩) ∧ RowR eT W' (SnR W.heap.size R K' W') p.tabs (some ⟨g1, 0, none⟩) ∧ RowR eG W' (SnR W.heap.size R K' W') p.grps (some ⟨g2, 0, none⟩) ∧ RowR eL W' (SnR W.heap.size R K' W') p.lns (some ⟨g3, 0, none⟩) ∧ RowR eK W' (SnR W.heap.size R K' W') p.cks (some ⟨g4, 0, none⟩)
theorem row_step {α : Type} {D : Elt α} {n R : Nat} {K K' : Nat → Value} {V V' : Nat → List Value} {W W' : World} {xs : List α} {a : Option Addr} (h : RowR D W (SnR n R K W) xs a) (hs : RmStep R K V K' V' W W') : RowR D W' (SnR n R K' W') xs a :=
  (h.fr hs.fm.size (fun b hb hlt => hs.fm.block b hlt hb.2.2.1 hb.2.2.2)).mo (fun _ _ hb => sn_step hb hs)
theorem row_set {α : Type} {D : Elt α} {n R b i : Nat} {K : Nat → Value} {W : World} {xs : List α} {a : Option Addr} {u : Value} (h : RowR D W (SnR n R K W) xs a) (hb : b < n) : RowR D (W.setCell ⟨b, i, none⟩ u) (SnR n R K (W.setCell ⟨b, i, none⟩ u)) xs a :=
  (h.fr (gr_set W b i u).size (fun c hc hlt => (gr_set W b i u).block c hlt (fun e => by have := Option.some.inj e; have := hc.1; omega))).mo (fun c _ hc => ⟨hc.1, Nat.lt_of_lt_of_le hc.2.1 (gr_set W b i u).size, hc.2.2⟩)
theorem row_low {α : Type} {D : Elt α} {n n' R : Nat} {K : Nat → Value} {W : World} {xs : List α} {a : Option Addr} (h : RowR D W (SnR n R K W) xs a) (hn : n' ≤ n) : RowR D W (SnR n' R K W) xs a := h.mo (fun _ _ hb => ⟨Nat.le_trans hn hb.1, hb.2⟩)
/-- A world on the way: the room, the two boxes. -/
structure PkW (R lo : Nat) (K0 : Nat → Value) (V0 : Nat → List Value) (W X : World) (N : Nat) (K : Nat → Value) (V : Nat → List Value) (A B : Array Value) (Y : World) : Prop where
  at_ : RmAt Y R lo K V N
  st : RmStep R K0 V0 K V W Y
  o0 : W.heap.size ≠ R ∧ (∀ j, j < 21 → (K j).ownBlock ≠ some W.heap.size) ∧ ∀ j, j < 21 → ∀ v ∈ V j, v.ownBlock ≠ some W.heap.size
  o1 : W.heap.size + 1 ≠ R ∧ (∀ j, j < 21 → (K j).ownBlock ≠ some (W.heap.size + 1)) ∧ ∀ j, j < 21 → ∀ v ∈ V j, v.ownBlock ≠ some (W.heap.size + 1)
  b0 : Y.heap[W.heap.size]? = some (.cells A 28 (0, 0))
  b1 : Y.heap[W.heap.size + 1]? = some (.cells B 28 (0, 0))
  sz : X.heap.size ≤ Y.heap.size
theorem off_call {R b : Nat} {K K' : Nat → Value} {V V' : Nat → List Value} {Y Y' : World} (h : b ≠ R ∧ (∀ j, j < 21 → (K j).ownBlock ≠ some b) ∧ ∀ j, j < 21 → ∀ v ∈ V j, v.ownBlock ≠ some b) (hs : RmStep R K V K' V' Y Y') (hb : b < Y.heap.size) : b ≠ R ∧ (∀ j, j < 21 → (K' j).ownBlock ≠ some b) ∧ ∀ j, j < 21 → ∀ v ∈ V' j, v.ownBlock ≠ some b := by
  refine ⟨h.1, fun j hj e => ?_, fun j hj v hv e => ?_⟩
  · rcases hs.ks j hj with e' | ⟨g, e', hg⟩
    · exact h.2.1 j hj (e'.symm.trans e)
    · rw [e'] at e
      have := Option.some.inj e
      omega
  · rcases hs.vs j hj v hv with e' | ⟨g, e', hg⟩
    · exact h.2.2 j hj v e' e
    · rw [e'] at e
      have := Option.some.inj e
      omega
theorem PkW.call {R lo : Nat} {K0 : Nat → Value} {V0 : Nat → List Value} {W X : World} {N N' : Nat} {K K' : Nat → Value} {V V' : Nat → List Value} {A B : Array Value} {Y Y' : World} (h : PkW R lo K0 V0 W X N K V A B Y) (h1 : RmAt Y' R lo K' V' N') (h2 : RmStep R K V K' V' Y Y') : PkW R lo K0 V0 W X N' K' V' A B Y' := by
  have l0 := (Array.getElem?_eq_some_iff.1 h.b0).1
  have l1 := (Array.getElem?_eq_some_iff.1 h.b1).1
  exact ⟨h1, h.st.trans h2, off_call h.o0 h2 l0, off_call h.o1 h2 l1, (h2.fm.block _ l0 h.o0.1 h.o0.2.1).trans h.b0, (h2.fm.block _ l1 h.o1.1 h.o1.2.1).trans h.b1, Nat.le_trans h.sz h2.fm.size⟩
theorem PkW.set0 {R lo : Nat} {K0 : Nat → Value} {V0 : Nat → List Value} {W X : World} {N : Nat} {K : Nat → Value} {V : Nat → List Value} {A B : Array Value} {Y : World} (h : PkW R lo K0 V0 W X N K V A B Y) (i : Nat) (u : Value) : PkW R lo K0 V0 W X N K V (A.setIfInBounds i u) B (Y.setCell ⟨W.heap.size, i, none⟩ u) := by
  have g := gr_set Y W.heap.size i u
  exact ⟨rm_set h.at_ h.o0 i u, h.st.after g (fun k e => by rw [← Option.some.inj e]; exact Nat.le_refl _), h.o0, h.o1, heap_setCell_same Y W.heap.size i _ _ u h.b0, (g.block _ (Array.getElem?_eq_some_iff.1 h.b1).1 (fun e => by have := Option.some.inj e; omega)).trans h.b1, Nat.le_trans h.sz g.size⟩
theorem PkW.set1 {R lo : Nat} {K0 : Nat → Value} {V0 : Nat → List Value} {W X : World} {N : Nat} {K : Nat → Value} {V : Nat → List Value} {A B : Array Value} {Y : World} (h : PkW R lo K0 V0 W X N K V A B Y) (i : Nat) (u : Value) : PkW R lo K0 V0 W X N K V A (B.setIfInBounds i u) (Y.setCell ⟨W.heap.size + 1, i, none⟩ u) := by
  have g := gr_set Y (W.heap.size + 1) i u
  exact ⟨rm_set h.at_ h.o1 i u, h.st.after g (fun k e => by rw [← Option.some.inj e]; exact Nat.le_succ _), h.o0, h.o1, (g.block _ (Array.getElem?_eq_some_iff.1 h.b0).1 (fun e => by have := Option.some.inj e; omega)).trans h.b0, heap_setCell_same Y (W.heap.size + 1) i _ _ u h.b1, Nat.le_trans h.sz g.size⟩

set_option maxRecDepth 4000 in
set_option maxHeartbeats 4000000 in
theorem pack_rm (p : Pk) (R lo N : Nat) (K : Nat → Value) (V : Nat → List Value) (a3 a4 a5 a6 a7 : Option Addr) (c3 c4 c5 c6 c7 : Nat) (W : World) (hz : SzR p) (hN : N + cP p ≤ 1000000000) (hR : RmAt W R lo K V N) (h0 : RowR eO W (fun b => b < lo) p.opts a3) (h1 : RowR eT W (fun b => b < lo) p.tabs a4) (h2 : RowR eG W (fun b => b < lo) p.grps a5) (h3 : RowR eL W (fun b => b < lo) p.lns a6) (h4 : RowR eK W (fun b => b < lo) p.cks a7) :
    Calls Tryz.prog 5 #[.pointer (some ⟨R, 0, none⟩), .agg #[.string ⟨p.name.toArray⟩, .int .i64 (p.year), .slice a3 p.opts.length c3, .slice a4 p.tabs.length c4, .slice a5 p.grps.length c5, .slice a6 p.lns.length c6, .slice a7 p.cks.length c7]] W (RmPk R lo K V (N + cP p) p W) := by
  obtain ⟨A, hA⟩ : ∃ A, A = Obj.cells #[.string ⟨p.name.toArray⟩, .int .i64 (p.year), .slice a3 p.opts.length c3, .slice a4 p.tabs.length c4, .slice a5 p.grps.length c5, .slice a6 p.lns.length c6, .slice a7 p.cks.length c7] 28 := ⟨_, rfl⟩
  obtain ⟨B, hB⟩ : ∃ B, B = Obj.cells #[.string ⟨#[]⟩, .int .i64 (0), .slice none 0 0, .slice none 0 0, .slice none 0 0, .slice none 0 0, .slice none 0 0] 28 := ⟨_, rfl⟩
  have hb1 := bel_alloc W A
  have hb2 := bel_alloc (W.alloc A) B
  have hs1 : (W.alloc A).heap.size = W.heap.size + 1 := by simp
  have hs2 : ((W.alloc A).alloc B).heap.size = W.heap.size + 1 + 1 := by simp
  obtain ⟨X, hX⟩ : ∃ X, X = (W.alloc A).alloc B := ⟨_, rfl⟩
  have hr0 : X.heap[W.heap.size]? = some A := by rw [hX]; exact bel_cells hb2 (by omega) (heap_alloc_new W A)
  have hr1 : X.heap[W.heap.size + 1]? = some B := by rw [hX, ← hs1]; exact heap_alloc_new (W.alloc A) B
  have hWX : Below W.heap.size W X := by rw [hX]; exact hb1.trans (hb2.mono hb1.size)
  have hXs : Hid (X.heap.size = W.heap.size + 1 + 1) := ⟨by rw [hX]; exact hs2⟩
  have hRX := hR.new hWX
  have hle : lo ≤ W.heap.size := by have := hR.lt; have := hR.low; omega
  have hsX : RmStep R K V K V W X := (RmStep.refl R K V W).after (r := none) ⟨hWX.os, hWX.tape, hWX.output, hWX.size, fun k hk _ => hWX.block k hk⟩ (fun _ e => by cases e)
  have hXe : (W.alloc (.cells #[.string ⟨p.name.toArray⟩, .int .i64 (p.year), .slice a3 p.opts.length c3, .slice a4 p.tabs.length c4, .slice a5 p.grps.length c5, .slice a6 p.lns.length c6, .slice a7 p.cks.length c7] 28)).alloc (.cells #[.string ⟨#[]⟩, .int .i64 (0), .slice none 0 0, .slice none 0 0, .slice none 0 0, .slice none 0 0, .slice none 0 0] 28) = X := by rw [hX, hA, hB]
  rw [hA] at hr0
  rw [hB] at hr1
  have hK0 : ∀ b, W.heap.size ≤ b → b ≠ R ∧ (∀ j, j < 21 → (K j).ownBlock ≠ some b) ∧ ∀ j, j < 21 → ∀ v ∈ V j, v.ownBlock ≠ some b := fun b hb => ⟨by have := hR.lt; omega, fun j hj e => by have := ((hR.own j hj).lt b e).2; omega, fun j hj v hv e => by have := (hR.mks j hj v hv).lt e; omega⟩
  have P0 : PkW R lo K V W X N K V #[.string ⟨p.name.toArray⟩, .int .i64 (p.year), .slice a3 p.opts.length c3, .slice a4 p.tabs.length c4, .slice a5 p.grps.length c5, .slice a6 p.lns.length c6, .slice a7 p.cks.length c7] #[.string ⟨#[]⟩, .int .i64 (0), .slice none 0 0, .slice none 0 0, .slice none 0 0, .slice none 0 0, .slice none 0 0] X := ⟨hRX, hsX, hK0 _ (Nat.le_refl _), hK0 _ (Nat.le_succ _), hr0, hr1, Nat.le_refl _⟩
  have hsrc : Hid (∀ Y, Below lo W Y → RowR eO Y (fun b => b < lo) p.opts a3 ∧ RowR eT Y (fun b => b < lo) p.tabs a4 ∧ RowR eG Y (fun b => b < lo) p.grps a5 ∧ RowR eL Y (fun b => b < lo) p.lns a6 ∧ RowR eK Y (fun b => b < lo) p.cks a7) := ⟨fun Y hY => ⟨h0.fr hY.size (fun b hb _ => hY.block b hb), h1.fr hY.size (fun b hb _ => hY.block b hb), h2.fr hY.size (fun b hb _ => hY.block b hb), h3.fr hY.size (fun b hb _ => hY.block b hb), h4.fr hY.size (fun b hb _ => hY.block b hb)⟩⟩
  have hNP : Hid (N + cP p ≤ 1000000000) := ⟨hN⟩
  have hzH := Hid.mk hz
  unfold cP at hN
  have x2 : X.cell? ⟨W.heap.size, 2, none⟩ = some (.slice a3 p.opts.length c3) := cell_of_row _ _ 2 _ _ _ hr0
  have hRH := Hid.mk hR
  clear hX hA hB hb1 hb2 hs1 hs2 hRX hsX hr0 hr1 hK0 hWX h0 h1 h2 h3 h4 hle hR
  go_enter Tryz.func5, Tryz.ntmps5
  have hB0 : Below lo W X := RmStep.below hRH.out P0.st
  have src0 := hsrc.out _ hB0
  have call0 := options_rm R lo (N) K V p.opts a3 c3 X hzH.out.o1 hzH.out.o2 (by omega) P0.at_ src0.1
  clear src0 hB0
  go_wp2_with (go_at_call 18; fail)
  clear hXe
  refine call0.mono ?_
  rintro e w1 ⟨g0, K1, V1, rfl, at1, st1, row0⟩
  clear call0 x2
  have P1 := P0.call at1 st1
  have c1 : w1.cell? ⟨W.heap.size, 2, none⟩ = some (.slice a3 p.opts.length c3) := cell_of_row _ _ 2 _ _ _ P1.b0
  have f1 := frozen_of_row _ _ 2 _ _ P1.b0
  have S1 := P1.set0 2 (.slice (some ⟨g0, 0, none⟩) p.opts.length (p.opts.length + 40))
  have row0 := row_low row0 (n' := X.heap.size) P0.sz
  have row0 := row_set (b := W.heap.size) (i := 2) (u := .slice (some ⟨g0, 0, none⟩) p.opts.length (p.opts.length + 40)) row0 (by have := hXs.out; omega)
  obtain ⟨Y1, e1⟩ : ∃ Y, w1.setCell ⟨W.heap.size, 2, none⟩ (.slice (some ⟨g0, 0, none⟩) p.opts.length (p.opts.length + 40)) = Y := ⟨_, rfl⟩
  rw [e1] at S1 row0
  have x3 : Y1.cell? ⟨W.heap.size, 3, none⟩ = some (.slice a4 p.tabs.length c4) := cell_of_row _ _ 3 _ _ _ S1.b0
  clear P1 at1 st1
  have hB1 : Below lo W Y1 := RmStep.below hRH.out S1.st
  have src1 := hsrc.out _ hB1
  have call1 := tables_rm R lo (N + (cO p.opts + 1)) K1 V1 p.tabs a4 c4 Y1 hzH.out.t1 hzH.out.t2 (by omega) S1.at_ src1.2.1
  clear src1 hB1
  go_wp2_with (go_at_call 19; fail)
  skip
  refine call1.mono ?_
  rintro e w2 ⟨g1, K2, V2, rfl, at2, st2, row1⟩
  clear call1 x3
  have P2 := S1.call at2 st2
  have row0 := row_step row0 st2
  have c2 : w2.cell? ⟨W.heap.size, 3, none⟩ = some (.slice a4 p.tabs.length c4) := cell_of_row _ _ 3 _ _ _ P2.b0
  have f2 := frozen_of_row _ _ 3 _ _ P2.b0
  have S2 := P2.set0 3 (.slice (some ⟨g1, 0, none⟩) p.tabs.length (p.tabs.length + 40))
  have row1 := row_low row1 (n' := X.heap.size) S1.sz
  have row0 := row_set (b := W.heap.size) (i := 3) (u := .slice (some ⟨g1, 0, none⟩) p.tabs.length (p.tabs.length + 40)) row0 (by have := hXs.out; omega)
  have row1 := row_set (b := W.heap.size) (i := 3) (u := .slice (some ⟨g1, 0, none⟩) p.tabs.length (p.tabs.length + 40)) row1 (by have := hXs.out; omega)
  obtain ⟨Y2, e2⟩ : ∃ Y, w2.setCell ⟨W.heap.size, 3, none⟩ (.slice (some ⟨g1, 0, none⟩) p.tabs.length (p.tabs.length + 40)) = Y := ⟨_, rfl⟩
  rw [e2] at S2 row0 row1
  have x4 : Y2.cell? ⟨W.heap.size, 4, none⟩ = some (.slice a5 p.grps.length c5) := cell_of_row _ _ 4 _ _ _ S2.b0
  clear P2 S1 at2 st2
  have hB2 : Below lo W Y2 := RmStep.below hRH.out S2.st
  have src2 := hsrc.out _ hB2
  have call2 := groups_rm R lo (N + (cO p.opts + 1) + (cO p.tabs + 1)) K2 V2 p.grps a5 c5 Y2 hzH.out.g1 (by omega) S2.at_ src2.2.2.1
  clear src2 hB2
  go_wp2_with (go_at_call 20; fail)
  skip
  refine call2.mono ?_
  rintro e w3 ⟨g2, K3, V3, rfl, at3, st3, row2⟩
  clear call2 x4
  have P3 := S2.call at3 st3
  have row0 := row_step row0 st3
  have row1 := row_step row1 st3
  have c3 : w3.cell? ⟨W.heap.size, 4, none⟩ = some (.slice a5 p.grps.length c5) := cell_of_row _ _ 4 _ _ _ P3.b0
  have f3 := frozen_of_row _ _ 4 _ _ P3.b0
  have S3 := P3.set0 4 (.slice (some ⟨g2, 0, none⟩) p.grps.length (p.grps.length + 40))
  have row2 := row_low row2 (n' := X.heap.size) S2.sz
  have row0 := row_set (b := W.heap.size) (i := 4) (u := .slice (some ⟨g2, 0, none⟩) p.grps.length (p.grps.length + 40)) row0 (by have := hXs.out; omega)
  have row1 := row_set (b := W.heap.size) (i := 4) (u := .slice (some ⟨g2, 0, none⟩) p.grps.length (p.grps.length + 40)) row1 (by have := hXs.out; omega)
  have row2 := row_set (b := W.heap.size) (i := 4) (u := .slice (some ⟨g2, 0, none⟩) p.grps.length (p.grps.length + 40)) row2 (by have := hXs.out; omega)
  obtain ⟨Y3, e3⟩ : ∃ Y, w3.setCell ⟨W.heap.size, 4, none⟩ (.slice (some ⟨g2, 0, none⟩) p.grps.length (p.grps.length + 40)) = Y := ⟨_, rfl⟩
  rw [e3] at S3 row0 row1 row2
  have x5 : Y3.cell? ⟨W.heap.size, 5, none⟩ = some (.slice a6 p.lns.length c6) := cell_of_row _ _ 5 _ _ _ S3.b0
  clear P3 S2 at3 st3
  have hB3 : Below lo W Y3 := RmStep.below hRH.out S3.st
  have src3 := hsrc.out _ hB3
  have call3 := lines_rm R lo (N + (cO p.opts + 1) + (cO p.tabs + 1) + 1) K3 V3 p.lns a6 c6 Y3 hzH.out.l1 hzH.out.l2 hzH.out.l3 (by omega) S3.at_ src3.2.2.2.1
  clear src3 hB3
  go_wp2_with (go_at_call 21; fail)
  skip
  refine call3.mono ?_
  rintro e w4 ⟨g3, K4, V4, rfl, at4, st4, row3⟩
  clear call3 x5
  have P4 := S3.call at4 st4
  have row0 := row_step row0 st4
  have row1 := row_step row1 st4
  have row2 := row_step row2 st4
  have c4 : w4.cell? ⟨W.heap.size, 5, none⟩ = some (.slice a6 p.lns.length c6) := cell_of_row _ _ 5 _ _ _ P4.b0
  have f4 := frozen_of_row _ _ 5 _ _ P4.b0
  have S4 := P4.set0 5 (.slice (some ⟨g3, 0, none⟩) p.lns.length (p.lns.length + 40))
  have row3 := row_low row3 (n' := X.heap.size) S3.sz
  have row0 := row_set (b := W.heap.size) (i := 5) (u := .slice (some ⟨g3, 0, none⟩) p.lns.length (p.lns.length + 40)) row0 (by have := hXs.out; omega)
  have row1 := row_set (b := W.heap.size) (i := 5) (u := .slice (some ⟨g3, 0, none⟩) p.lns.length (p.lns.length + 40)) row1 (by have := hXs.out; omega)
  have row2 := row_set (b := W.heap.size) (i := 5) (u := .slice (some ⟨g3, 0, none⟩) p.lns.length (p.lns.length + 40)) row2 (by have := hXs.out; omega)
  have row3 := row_set (b := W.heap.size) (i := 5) (u := .slice (some ⟨g3, 0, none⟩) p.lns.length (p.lns.length + 40)) row3 (by have := hXs.out; omega)
  obtain ⟨Y4, e4⟩ : ∃ Y, w4.setCell ⟨W.heap.size, 5, none⟩ (.slice (some ⟨g3, 0, none⟩) p.lns.length (p.lns.length + 40)) = Y := ⟨_, rfl⟩
  rw [e4] at S4 row0 row1 row2 row3
  have x6 : Y4.cell? ⟨W.heap.size, 6, none⟩ = some (.slice a7 p.cks.length c7) := cell_of_row _ _ 6 _ _ _ S4.b0
  clear P4 S3 at4 st4
  have hB4 : Below lo W Y4 := RmStep.below hRH.out S4.st
  have src4 := hsrc.out _ hB4
  have call4 := checks_rm R lo (N + (cO p.opts + 1) + (cO p.tabs + 1) + 1 + (cLn p.lns + 1)) K4 V4 p.cks a7 c7 Y4 hzH.out.k1 hzH.out.k2 (by omega) S4.at_ src4.2.2.2.2
  clear src4 hB4
  go_wp2_with (go_at_call 22; fail)
  skip
  refine call4.mono ?_
  rintro e w5 ⟨g4, K5, V5, rfl, at5, st5, row4⟩
  clear call4 x6
  have P5 := S4.call at5 st5
  have row0 := row_step row0 st5
  have row1 := row_step row1 st5
  have row2 := row_step row2 st5
  have row3 := row_step row3 st5
  have c5 : w5.cell? ⟨W.heap.size, 6, none⟩ = some (.slice a7 p.cks.length c7) := cell_of_row _ _ 6 _ _ _ P5.b0
  have f5 := frozen_of_row _ _ 6 _ _ P5.b0
  have S5 := P5.set0 6 (.slice (some ⟨g4, 0, none⟩) p.cks.length (p.cks.length + 40))
  have row4 := row_low row4 (n' := X.heap.size) S4.sz
  have row0 := row_set (b := W.heap.size) (i := 6) (u := .slice (some ⟨g4, 0, none⟩) p.cks.length (p.cks.length + 40)) row0 (by have := hXs.out; omega)
  have row1 := row_set (b := W.heap.size) (i := 6) (u := .slice (some ⟨g4, 0, none⟩) p.cks.length (p.cks.length + 40)) row1 (by have := hXs.out; omega)
  have row2 := row_set (b := W.heap.size) (i := 6) (u := .slice (some ⟨g4, 0, none⟩) p.cks.length (p.cks.length + 40)) row2 (by have := hXs.out; omega)
  have row3 := row_set (b := W.heap.size) (i := 6) (u := .slice (some ⟨g4, 0, none⟩) p.cks.length (p.cks.length + 40)) row3 (by have := hXs.out; omega)
  have row4 := row_set (b := W.heap.size) (i := 6) (u := .slice (some ⟨g4, 0, none⟩) p.cks.length (p.cks.length + 40)) row4 (by have := hXs.out; omega)
  obtain ⟨Y5, e5⟩ : ∃ Y, w5.setCell ⟨W.heap.size, 6, none⟩ (.slice (some ⟨g4, 0, none⟩) p.cks.length (p.cks.length + 40)) = Y := ⟨_, rfl⟩
  rw [e5] at S5 row0 row1 row2 row3 row4
  clear P5 S4 at5 st5
  have y0 : Y5.cell? ⟨W.heap.size, 0, none⟩ = some (.string ⟨p.name.toArray⟩) := cell_of_row _ _ 0 _ _ _ S5.b0
  have y1 : Y5.cell? ⟨W.heap.size, 1, none⟩ = some (.int .i64 (p.year)) := cell_of_row _ _ 1 _ _ _ S5.b0
  have y2 : Y5.cell? ⟨W.heap.size, 2, none⟩ = some (.slice (some ⟨g0, 0, none⟩) p.opts.length (p.opts.length + 40)) := cell_of_row _ _ 2 _ _ _ S5.b0
  have y3 : Y5.cell? ⟨W.heap.size, 3, none⟩ = some (.slice (some ⟨g1, 0, none⟩) p.tabs.length (p.tabs.length + 40)) := cell_of_row _ _ 3 _ _ _ S5.b0
  have y4 : Y5.cell? ⟨W.heap.size, 4, none⟩ = some (.slice (some ⟨g2, 0, none⟩) p.grps.length (p.grps.length + 40)) := cell_of_row _ _ 4 _ _ _ S5.b0
  have y5 : Y5.cell? ⟨W.heap.size, 5, none⟩ = some (.slice (some ⟨g3, 0, none⟩) p.lns.length (p.lns.length + 40)) := cell_of_row _ _ 5 _ _ _ S5.b0
  have y6 : Y5.cell? ⟨W.heap.size, 6, none⟩ = some (.slice (some ⟨g4, 0, none⟩) p.cks.length (p.cks.length + 40)) := cell_of_row _ _ 6 _ _ _ S5.b0
  have hne : W.heap.size + 1 ≠ W.heap.size := by omega
  have m0 : Y5.cell? ⟨W.heap.size + 1, 0, none⟩ = some (.string ⟨#[]⟩) := cell_of_row _ _ 0 _ _ _ S5.b1
  have n0 := frozen_of_row _ _ 0 _ _ S5.b1
  have Q1 := S5.set1 0 (.string ⟨p.name.toArray⟩)
  have row0 := row_set (b := W.heap.size + 1) (i := 0) (u := .string ⟨p.name.toArray⟩) row0 (by have := hXs.out; omega)
  have row1 := row_set (b := W.heap.size + 1) (i := 0) (u := .string ⟨p.name.toArray⟩) row1 (by have := hXs.out; omega)
  have row2 := row_set (b := W.heap.size + 1) (i := 0) (u := .string ⟨p.name.toArray⟩) row2 (by have := hXs.out; omega)
  have row3 := row_set (b := W.heap.size + 1) (i := 0) (u := .string ⟨p.name.toArray⟩) row3 (by have := hXs.out; omega)
  have row4 := row_set (b := W.heap.size + 1) (i := 0) (u := .string ⟨p.name.toArray⟩) row4 (by have := hXs.out; omega)
  obtain ⟨Z1, z1⟩ : ∃ Y, Y5.setCell ⟨W.heap.size + 1, 0, none⟩ (.string ⟨p.name.toArray⟩) = Y := ⟨_, rfl⟩
  rw [z1] at Q1 row0 row1 row2 row3 row4
  clear S5
  have m1 : Z1.cell? ⟨W.heap.size + 1, 1, none⟩ = some (.int .i64 (0)) := cell_of_row _ _ 1 _ _ _ Q1.b1
  have n1 := frozen_of_row _ _ 1 _ _ Q1.b1
  have Q2 := Q1.set1 1 (.int .i64 (p.year))
  have row0 := row_set (b := W.heap.size + 1) (i := 1) (u := .int .i64 (p.year)) row0 (by have := hXs.out; omega)
  have row1 := row_set (b := W.heap.size + 1) (i := 1) (u := .int .i64 (p.year)) row1 (by have := hXs.out; omega)
  have row2 := row_set (b := W.heap.size + 1) (i := 1) (u := .int .i64 (p.year)) row2 (by have := hXs.out; omega)
  have row3 := row_set (b := W.heap.size + 1) (i := 1) (u := .int .i64 (p.year)) row3 (by have := hXs.out; omega)
  have row4 := row_set (b := W.heap.size + 1) (i := 1) (u := .int .i64 (p.year)) row4 (by have := hXs.out; omega)
  obtain ⟨Z2, z2⟩ : ∃ Y, Z1.setCell ⟨W.heap.size + 1, 1, none⟩ (.int .i64 (p.year)) = Y := ⟨_, rfl⟩
  rw [z2] at Q2 row0 row1 row2 row3 row4
  clear Q1
  have m2 : Z2.cell? ⟨W.heap.size + 1, 2, none⟩ = some (.slice none 0 0) := cell_of_row _ _ 2 _ _ _ Q2.b1
  have n2 := frozen_of_row _ _ 2 _ _ Q2.b1
  have Q3 := Q2.set1 2 (.slice (some ⟨g0, 0, none⟩) p.opts.length (p.opts.length + 40))
  have row0 := row_set (b := W.heap.size + 1) (i := 2) (u := .slice (some ⟨g0, 0, none⟩) p.opts.length (p.opts.length + 40)) row0 (by have := hXs.out; omega)
  have row1 := row_set (b := W.heap.size + 1) (i := 2) (u := .slice (some ⟨g0, 0, none⟩) p.opts.length (p.opts.length + 40)) row1 (by have := hXs.out; omega)
  have row2 := row_set (b := W.heap.size + 1) (i := 2) (u := .slice (some ⟨g0, 0, none⟩) p.opts.length (p.opts.length + 40)) row2 (by have := hXs.out; omega)
  have row3 := row_set (b := W.heap.size + 1) (i := 2) (u := .slice (some ⟨g0, 0, none⟩) p.opts.length (p.opts.length + 40)) row3 (by have := hXs.out; omega)
  have row4 := row_set (b := W.heap.size + 1) (i := 2) (u := .slice (some ⟨g0, 0, none⟩) p.opts.length (p.opts.length + 40)) row4 (by have := hXs.out; omega)
  obtain ⟨Z3, z3⟩ : ∃ Y, Z2.setCell ⟨W.heap.size + 1, 2, none⟩ (.slice (some ⟨g0, 0, none⟩) p.opts.length (p.opts.length + 40)) = Y := ⟨_, rfl⟩
  rw [z3] at Q3 row0 row1 row2 row3 row4
  clear Q2
  have m3 : Z3.cell? ⟨W.heap.size + 1, 3, none⟩ = some (.slice none 0 0) := cell_of_row _ _ 3 _ _ _ Q3.b1
  have n3 := frozen_of_row _ _ 3 _ _ Q3.b1
  have Q4 := Q3.set1 3 (.slice (some ⟨g1, 0, none⟩) p.tabs.length (p.tabs.length + 40))
  have row0 := row_set (b := W.heap.size + 1) (i := 3) (u := .slice (some ⟨g1, 0, none⟩) p.tabs.length (p.tabs.length + 40)) row0 (by have := hXs.out; omega)
  have row1 := row_set (b := W.heap.size + 1) (i := 3) (u := .slice (some ⟨g1, 0, none⟩) p.tabs.length (p.tabs.length + 40)) row1 (by have := hXs.out; omega)
  have row2 := row_set (b := W.heap.size + 1) (i := 3) (u := .slice (some ⟨g1, 0, none⟩) p.tabs.length (p.tabs.length + 40)) row2 (by have := hXs.out; omega)
  have row3 := row_set (b := W.heap.size + 1) (i := 3) (u := .slice (some ⟨g1, 0, none⟩) p.tabs.length (p.tabs.length + 40)) row3 (by have := hXs.out; omega)
  have row4 := row_set (b := W.heap.size + 1) (i := 3) (u := .slice (some ⟨g1, 0, none⟩) p.tabs.length (p.tabs.length + 40)) row4 (by have := hXs.out; omega)
  obtain ⟨Z4, z4⟩ : ∃ Y, Z3.setCell ⟨W.heap.size + 1, 3, none⟩ (.slice (some ⟨g1, 0, none⟩) p.tabs.length (p.tabs.length + 40)) = Y := ⟨_, rfl⟩
  rw [z4] at Q4 row0 row1 row2 row3 row4
  clear Q3
  have m4 : Z4.cell? ⟨W.heap.size + 1, 4, none⟩ = some (.slice none 0 0) := cell_of_row _ _ 4 _ _ _ Q4.b1
  have n4 := frozen_of_row _ _ 4 _ _ Q4.b1
  have Q5 := Q4.set1 4 (.slice (some ⟨g2, 0, none⟩) p.grps.length (p.grps.length + 40))
  have row0 := row_set (b := W.heap.size + 1) (i := 4) (u := .slice (some ⟨g2, 0, none⟩) p.grps.length (p.grps.length + 40)) row0 (by have := hXs.out; omega)
  have row1 := row_set (b := W.heap.size + 1) (i := 4) (u := .slice (some ⟨g2, 0, none⟩) p.grps.length (p.grps.length + 40)) row1 (by have := hXs.out; omega)
  have row2 := row_set (b := W.heap.size + 1) (i := 4) (u := .slice (some ⟨g2, 0, none⟩) p.grps.length (p.grps.length + 40)) row2 (by have := hXs.out; omega)
  have row3 := row_set (b := W.heap.size + 1) (i := 4) (u := .slice (some ⟨g2, 0, none⟩) p.grps.length (p.grps.length + 40)) row3 (by have := hXs.out; omega)
  have row4 := row_set (b := W.heap.size + 1) (i := 4) (u := .slice (some ⟨g2, 0, none⟩) p.grps.length (p.grps.length + 40)) row4 (by have := hXs.out; omega)
  obtain ⟨Z5, z5⟩ : ∃ Y, Z4.setCell ⟨W.heap.size + 1, 4, none⟩ (.slice (some ⟨g2, 0, none⟩) p.grps.length (p.grps.length + 40)) = Y := ⟨_, rfl⟩
  rw [z5] at Q5 row0 row1 row2 row3 row4
  clear Q4
  have m5 : Z5.cell? ⟨W.heap.size + 1, 5, none⟩ = some (.slice none 0 0) := cell_of_row _ _ 5 _ _ _ Q5.b1
  have n5 := frozen_of_row _ _ 5 _ _ Q5.b1
  have Q6 := Q5.set1 5 (.slice (some ⟨g3, 0, none⟩) p.lns.length (p.lns.length + 40))
  have row0 := row_set (b := W.heap.size + 1) (i := 5) (u := .slice (some ⟨g3, 0, none⟩) p.lns.length (p.lns.length + 40)) row0 (by have := hXs.out; omega)
  have row1 := row_set (b := W.heap.size + 1) (i := 5) (u := .slice (some ⟨g3, 0, none⟩) p.lns.length (p.lns.length + 40)) row1 (by have := hXs.out; omega)
  have row2 := row_set (b := W.heap.size + 1) (i := 5) (u := .slice (some ⟨g3, 0, none⟩) p.lns.length (p.lns.length + 40)) row2 (by have := hXs.out; omega)
  have row3 := row_set (b := W.heap.size + 1) (i := 5) (u := .slice (some ⟨g3, 0, none⟩) p.lns.length (p.lns.length + 40)) row3 (by have := hXs.out; omega)
  have row4 := row_set (b := W.heap.size + 1) (i := 5) (u := .slice (some ⟨g3, 0, none⟩) p.lns.length (p.lns.length + 40)) row4 (by have := hXs.out; omega)
  obtain ⟨Z6, z6⟩ : ∃ Y, Z5.setCell ⟨W.heap.size + 1, 5, none⟩ (.slice (some ⟨g3, 0, none⟩) p.lns.length (p.lns.length + 40)) = Y := ⟨_, rfl⟩
  rw [z6] at Q6 row0 row1 row2 row3 row4
  clear Q5
  have m6 : Z6.cell? ⟨W.heap.size + 1, 6, none⟩ = some (.slice none 0 0) := cell_of_row _ _ 6 _ _ _ Q6.b1
  have n6 := frozen_of_row _ _ 6 _ _ Q6.b1
  have Q7 := Q6.set1 6 (.slice (some ⟨g4, 0, none⟩) p.cks.length (p.cks.length + 40))
  have row0 := row_set (b := W.heap.size + 1) (i := 6) (u := .slice (some ⟨g4, 0, none⟩) p.cks.length (p.cks.length + 40)) row0 (by have := hXs.out; omega)
  have row1 := row_set (b := W.heap.size + 1) (i := 6) (u := .slice (some ⟨g4, 0, none⟩) p.cks.length (p.cks.length + 40)) row1 (by have := hXs.out; omega)
  have row2 := row_set (b := W.heap.size + 1) (i := 6) (u := .slice (some ⟨g4, 0, none⟩) p.cks.length (p.cks.length + 40)) row2 (by have := hXs.out; omega)
  have row3 := row_set (b := W.heap.size + 1) (i := 6) (u := .slice (some ⟨g4, 0, none⟩) p.cks.length (p.cks.length + 40)) row3 (by have := hXs.out; omega)
  have row4 := row_set (b := W.heap.size + 1) (i := 6) (u := .slice (some ⟨g4, 0, none⟩) p.cks.length (p.cks.length + 40)) row4 (by have := hXs.out; omega)
  obtain ⟨Z7, z7⟩ : ∃ Y, Z6.setCell ⟨W.heap.size + 1, 6, none⟩ (.slice (some ⟨g4, 0, none⟩) p.cks.length (p.cks.length + 40)) = Y := ⟨_, rfl⟩
  rw [z7] at Q7 row0 row1 row2 row3 row4
  clear Q6
  have row0 := row_low row0 (n' := W.heap.size) (by have := hXs.out; omega)
  have row1 := row_low row1 (n' := W.heap.size) (by have := hXs.out; omega)
  have row2 := row_low row2 (n' := W.heap.size) (by have := hXs.out; omega)
  have row3 := row_low row3 (n' := W.heap.size) (by have := hXs.out; omega)
  have row4 := row_low row4 (n' := W.heap.size) (by have := hXs.out; omega)
  have hP := Hid.mk Q7
  have hrows := Hid.mk (And.intro row0 (And.intro row1 (And.intro row2 (And.intro row3 row4))))
  go_wp2
  have hP := hP.out
  have hXs := hXs.out
  have d0 : Z7.cell? ⟨W.heap.size + 1, 0, none⟩ = some (.string ⟨p.name.toArray⟩) := cell_of_row _ _ 0 _ _ _ hP.b1
  have d1 : Z7.cell? ⟨W.heap.size + 1, 1, none⟩ = some (.int .i64 (p.year)) := cell_of_row _ _ 1 _ _ _ hP.b1
  have d2 : Z7.cell? ⟨W.heap.size + 1, 2, none⟩ = some (.slice (some ⟨g0, 0, none⟩) p.opts.length (p.opts.length + 40)) := cell_of_row _ _ 2 _ _ _ hP.b1
  have d3 : Z7.cell? ⟨W.heap.size + 1, 3, none⟩ = some (.slice (some ⟨g1, 0, none⟩) p.tabs.length (p.tabs.length + 40)) := cell_of_row _ _ 3 _ _ _ hP.b1
  have d4 : Z7.cell? ⟨W.heap.size + 1, 4, none⟩ = some (.slice (some ⟨g2, 0, none⟩) p.grps.length (p.grps.length + 40)) := cell_of_row _ _ 4 _ _ _ hP.b1
  have d5 : Z7.cell? ⟨W.heap.size + 1, 5, none⟩ = some (.slice (some ⟨g3, 0, none⟩) p.lns.length (p.lns.length + 40)) := cell_of_row _ _ 5 _ _ _ hP.b1
  have d6 : Z7.cell? ⟨W.heap.size + 1, 6, none⟩ = some (.slice (some ⟨g4, 0, none⟩) p.cks.length (p.cks.length + 40)) := cell_of_row _ _ 6 _ _ _ hP.b1
  refine bodyPost_ret (v := .agg #[.string ⟨p.name.toArray⟩, .int .i64 (p.year), .slice (some ⟨g0, 0, none⟩) p.opts.length (p.opts.length + 40), .slice (some ⟨g1, 0, none⟩) p.tabs.length (p.tabs.length + 40), .slice (some ⟨g2, 0, none⟩) p.grps.length (p.grps.length + 40), .slice (some ⟨g3, 0, none⟩) p.lns.length (p.lns.length + 40), .slice (some ⟨g4, 0, none⟩) p.cks.length (p.cks.length + 40)]) ?_ rfl ⟨g0, g1, g2, g3, g4, K5, V5, rfl, ?_, hP.st, hrows.out.1, hrows.out.2.1, hrows.out.2.2.1, hrows.out.2.2.2.1, hrows.out.2.2.2.2⟩
  · simp [results, Tryz.results5, go_sem, d0, d1, d2, d3, d4, d5, d6]
  · exact hP.at_.mono (by unfold cP; omega)

end Go.Proofs.YthnmjafoplfikaaGreatDoor

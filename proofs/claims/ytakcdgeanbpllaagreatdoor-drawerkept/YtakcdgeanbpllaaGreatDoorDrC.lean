import Derived.Test.YtakcdgeanbpllaaGreatDoorDrD
import Derived.Deep.RegionLaw
import Derived.Laws.AppendOwn
/- journalIn. -/
namespace Go.Proofs.YtakcdgeanbpllaaGreatDoor.DJ
open Go.RowKit

theorem info_journal : (Tryz.prog.info? 123).map (·.size) = some 4 := by kernel_rfl
theorem row4 {X : World} {b : Nat} {t : TypeId} {x0 x1 x2 x3 : Value} (h : X.heap[b]? = some (.cells #[x0, x1, x2, x3] t (0, 0))) (v0 v1 v2 v3 : Value) : ((((X.setCell ⟨b, 0, none⟩ v0).setCell ⟨b, 1, none⟩ v1).setCell ⟨b, 2, none⟩ v2).setCell ⟨b, 3, none⟩ v3).heap[b]? = some (.cells #[v0, v1, v2, v3] t (0, 0)) :=
  heap_setCell_same _ _ 3 _ _ _ (heap_setCell_same _ _ 2 _ _ _ (heap_setCell_same _ _ 1 _ _ _ (heap_setCell_same _ _ 0 _ _ _ h)))
def cellN (w : World) (b o : Nat) : Nat := match w.cell? ⟨b, o, none⟩ with | some (.int _ n) => n.toNat | _ => 0

set_option maxRecDepth 4000 in
set_option maxHeartbeats 1000000 in
theorem journalIn_no (a : Option Addr) (cap : Nat) (bs : List Nat) (hcap : bs.length ≤ cap) (hl : bs.length ≤ 2097152) (w : World) (h : Byts w a bs) (hw : whole bs 0 = none) :
    Calls Tryz.prog 108 #[.slice a bs.length cap] w (JnP bs w) := by
  have b0 := (Below.refl w.heap.size w).alloc (Nat.le_refl _) (.cells #[.int .u32 0, .slice none 0 0, .slice none 0 0, .int .i64 0] 123)
  have r0 := heap_new w (.cells #[.int .u32 0, .slice none 0 0, .slice none 0 0, .int .i64 0] 123)
  obtain ⟨W1, hW1⟩ : ∃ W1, w.alloc (.cells #[.int .u32 0, .slice none 0 0, .slice none 0 0, .int .i64 0] 123) = W1 := ⟨_, rfl⟩
  rw [hW1] at b0 r0
  have hP := pieceAt_any a cap bs hcap (by omega) 0 (by decide) W1 (h.later b0)
  rw [show ((0 : Nat) : Int) = 0 from rfl] at hP
  have hlt1 : w.heap.size < W1.heap.size := (Array.getElem?_eq_some_iff.1 r0).1
  have FA : ∀ X, Below w.heap.size w X → JnP bs w (.returned (.tuple #[.agg #[.int .u32 0, .slice none 0 0, .slice none 0 0, .int .i64 0], .bool false])) X := fun X hX => ⟨hX, by rw [hw]⟩
  replace FA := Hid.mk FA
  go_enter Tryz.func108, Tryz.ntmps108
  go_wp2_with (go_at_call 139; refine hP.mono ?_; rintro e w2 ⟨hb2, hm⟩; rw [hw] at hm; subst hm; have r2 := ((hb2.alloc hb2.size (.cells #[.int .u32 0, .int .u8 0, .slice none 0 0] 82)).block _ hlt1).trans r0; have d0 := cell_of_row _ _ 0 _ _ _ r2; have d1 := cell_of_row _ _ 1 _ _ _ r2; have d2 := cell_of_row _ _ 2 _ _ _ r2; have d3 := cell_of_row _ _ 3 _ _ _ r2; simp only [List.getElem?_toArray, List.getElem?_cons_zero, List.getElem?_cons_succ] at d0 d1 d2 d3; have f0 := frozen_of_row _ w.heap.size 0 _ _ r2; have f1 := frozen_of_row _ w.heap.size 1 _ _ r2; have f2 := frozen_of_row _ w.heap.size 2 _ _ r2; have f3 := frozen_of_row _ w.heap.size 3 _ _ r2)
  exact bodyPost_ret (v := .tuple #[.agg #[.int .u32 0, .slice none 0 0, .slice none 0 0, .int .i64 0], .bool false]) (results_cell2 Tryz.results108 _ _ w.heap.size 123 _ (0, 0) _ rfl (row4 r2 _ _ _ _) Tryz.underlying123 rfl info_journal) rfl (FA.out _ (bset (bset (bset (bset (b0.trans ((hb2.alloc hb2.size _).mono b0.size)) (Nat.le_refl _) _ _) (Nat.le_refl _) _ _) (Nat.le_refl _) _ _) (Nat.le_refl _) _ _))

theorem own_off {W X : World} {base n jb : Nat} {v : Value} {xs : List Value} {cs : Array Value} {t : TypeId} (ho : W.ownsRow base 5 1 v n xs) (hG : GrS (fun k => k = jb) W X) (hj : W.heap[jb]? = some (.cells cs t (0, 0))) (ht : t ≠ 5) : X.ownsRow base 5 1 v n xs := hG.own ho (fun g e e' => by
  obtain ⟨-, cs', r⟩ := own_rowT ho e
  rw [e', hj] at r
  injection r with r
  injection r with _ r _
  exact ht r)
theorem own_later {W X : World} {base n size : Nat} {e : TypeId} {v : Value} {xs : List Value} (ho : W.ownsRow base e size v n xs) (hb : Below W.heap.size W X) : X.ownsRow base e size v n xs := (GrS.of_below (S := fun _ => False) hb).own ho (fun _ _ h => h)
theorem grS_set4 (X : World) (b : Nat) (v0 v1 v2 v3 : Value) : GrS (fun k => k = b) X ((((X.setCell ⟨b, 0, none⟩ v0).setCell ⟨b, 1, none⟩ v1).setCell ⟨b, 2, none⟩ v2).setCell ⟨b, 3, none⟩ v3) := (((grS_set _ b 0 v0).trans (grS_set _ b 1 v1)).trans (grS_set _ b 2 v2)).trans (grS_set _ b 3 v3)
theorem js_start {w W3 X : World} {s pb jb : Nat} {bd : List Nat} {sv y0 y1 y2 : Value} (b3 : Below w.heap.size w W3) (r3 : W3.heap[w.heap.size]? = some (.cells #[.int .u32 0, .slice none 0 0, .slice none 0 0, .int .i64 0] 123 (0, 0))) (p3 : W3.heap[pb]? = some (.cells #[y0, y1, y2] 82 (0, 0))) (hpl : w.heap.size ≤ pb) (hX : Below W3.heap.size W3 X) (hj : W3.heap.size ≤ jb) (hjr : X.heap[jb]? = some (.cells #[.int .u32 (s : Int), sv, .slice none 0 0, .int .i64 (18 + (bd.length : Int))] 123 (0, 0))) (ho : X.ownsRow W3.heap.size 5 1 sv bd.length (bysV bd)) : JS w s bd [] (18 + bd.length) w.heap.size pb jb sv (.slice none 0 0) X where
  bel := b3.trans (hX.mono b3.size)
  rlo := Nat.le_refl _
  plo := hpl
  jlo := Nat.le_trans b3.size hj
  rj := by
    have := (Array.getElem?_eq_some_iff.1 r3).1
    omega
  rrow := (hX.block _ (Array.getElem?_eq_some_iff.1 r3).1).trans r3
  prow := ⟨_, _, _, (hX.block _ (Array.getElem?_eq_some_iff.1 p3).1).trans p3⟩
  jrow := by
    rw [hjr, jRow]
    rfl
  sum := ho.mono b3.size
  recs := .nil _ _

theorem whole_body {bs : List Nat} {num s k : Nat} {bd : List Nat} (h : whole bs num = some (s, k, bd)) : (bs.drop 14).take bd.length = bd := by
  obtain ⟨rest, rfl, -, -⟩ := whole_some h
  rw [drop_piece14]
  exact List.take_left' rfl
theorem byts_body {W : World} {b off : Nat} {bs : List Nat} {num s k : Nat} {bd : List Nat} (h : Byts W (some ⟨b, off, none⟩) bs) (hw : whole bs num = some (s, k, bd)) : Byts W (some ⟨b, off + 14, none⟩) bd := by
  obtain ⟨b', o', e, h'⟩ := byts_drop h 14 (by have := (whole_len hw).1; omega)
  cases e
  have := byts_take h' bd.length
  rwa [whole_body hw] at this

theorem JS.cells3 {w : World} {s : Nat} {bd : List Nat} {R : List Rec} {sz rb pb jb : Nat} {sv rv : Value} {wr : World} (h : JS w s bd R sz rb pb jb sv rv wr) : wr.cell? ⟨jb, 0, none⟩ = some (.int .u32 (s : Int)) ∧ wr.cell? ⟨jb, 2, none⟩ = some rv ∧ wr.cell? ⟨jb, 3, none⟩ = some (.int .i64 (sz : Int)) := ⟨h.jcells.1, h.jcells.2.2⟩
theorem grS_set3 (X : World) (b : Nat) (v0 v1 v2 : Value) : GrS (fun k => k = b) X (((X.setCell ⟨b, 0, none⟩ v0).setCell ⟨b, 1, none⟩ v1).setCell ⟨b, 2, none⟩ v2) := ((grS_set _ b 0 v0).trans (grS_set _ b 1 v1)).trans (grS_set _ b 2 v2)
theorem JS.set3 {w : World} {s : Nat} {bd : List Nat} {R : List Rec} {sz rb pb jb : Nat} {sv rv : Value} {wr : World} (h : JS w s bd R sz rb pb jb sv rv wr) (v0 v1 v2 : Value) : JS w s bd R sz rb pb jb sv rv (((wr.setCell ⟨pb, 0, none⟩ v0).setCell ⟨pb, 1, none⟩ v1).setCell ⟨pb, 2, none⟩ v2) := by
  obtain ⟨x0, x1, x2, hp⟩ := h.prow
  exact h.piece (grS_set3 wr pb v0 v1 v2) (row3 hp v0 v1 v2)
theorem JS.pf {w : World} {s : Nat} {bd : List Nat} {R : List Rec} {sz rb pb jb : Nat} {sv rv : Value} {wr : World} (h : JS w s bd R sz rb pb jb sv rv wr) : wr.frozen? ⟨pb, 0, none⟩ = false ∧ wr.frozen? ⟨pb, 1, none⟩ = false ∧ wr.frozen? ⟨pb, 2, none⟩ = false := by
  obtain ⟨x0, x1, x2, hp⟩ := h.prow
  exact ⟨frozen_of_row _ _ 0 _ _ hp, frozen_of_row _ _ 1 _ _ hp, frozen_of_row _ _ 2 _ _ hp⟩

theorem JS.rcells {w : World} {s : Nat} {bd : List Nat} {R : List Rec} {sz rb pb jb : Nat} {sv rv : Value} {wr : World} (h : JS w s bd R sz rb pb jb sv rv wr) : wr.cell? ⟨rb, 0, none⟩ = some (.int .u32 0) ∧ wr.cell? ⟨rb, 1, none⟩ = some (.slice none 0 0) ∧ wr.cell? ⟨rb, 2, none⟩ = some (.slice none 0 0) ∧ wr.cell? ⟨rb, 3, none⟩ = some (.int .i64 0) ∧ wr.frozen? ⟨rb, 0, none⟩ = false ∧ wr.frozen? ⟨rb, 1, none⟩ = false ∧ wr.frozen? ⟨rb, 2, none⟩ = false ∧ wr.frozen? ⟨rb, 3, none⟩ = false :=
  ⟨cell_of_row _ _ 0 _ _ _ h.rrow, cell_of_row _ _ 1 _ _ _ h.rrow, cell_of_row _ _ 2 _ _ _ h.rrow, cell_of_row _ _ 3 _ _ _ h.rrow, frozen_of_row _ _ 0 _ _ h.rrow, frozen_of_row _ _ 1 _ _ h.rrow, frozen_of_row _ _ 2 _ _ h.rrow, frozen_of_row _ _ 3 _ _ h.rrow⟩
theorem jn_end {bs : List Nat} {w : World} {s k0 : Nat} {bd : List Nat} (hw : whole bs 0 = some (s, k0, bd)) {R : List Rec} {sz rb pb jb : Nat} {sv rv : Value} {X : World} (h : JS w s bd R sz rb pb jb sv rv X) (hp : Jp bs s bd R sz) (hs : ∀ kd b', whole (bs.drop sz) (R.length + 1) ≠ some (s, kd, b')) (tmps : Array Value) (h2 : tmps.getD 2 undef = .pointer (some ⟨rb, 0, none⟩)) (h3 : tmps.getD 3 undef = .bool true) :
    bodyPost Tryz.prog Tryz.f108 (JnP bs w) Exit.ret { tmps := tmps, defers := [] } ((((X.setCell ⟨rb, 0, none⟩ (.int .u32 (s : Int))).setCell ⟨rb, 1, none⟩ sv).setCell ⟨rb, 2, none⟩ rv).setCell ⟨rb, 3, none⟩ (.int .i64 (sz : Int))) := by
  have hg := grS_set4 X rb (.int .u32 (s : Int)) sv rv (.int .i64 (sz : Int))
  have hr := row4 h.rrow (.int .u32 (s : Int)) sv rv (.int .i64 (sz : Int))
  have hres := results_cell2 (P := Tryz.prog) Tryz.results108 tmps _ rb 123 _ (0, 0) _ h2 hr Tryz.underlying123 rfl info_journal
  rw [h3] at hres
  obtain ⟨e1, e2⟩ := hp.stop hs
  refine bodyPost_ret (v := .tuple #[.agg #[.int .u32 (s : Int), sv, rv, .int .i64 (sz : Int)], .bool true]) hres rfl ⟨h.bel.trans (hg.below h.bel.size (fun k e => e ▸ h.rlo)), ?_⟩
  rw [hw]
  refine ⟨sv, rv, ?_, own_off h.sum hg h.rrow (by decide), ?_⟩
  · simp only [e2]
  · simp only [e1]
    exact h.recs.grS hg (fun g cs t _ hc ht e => by
      have := h.rrow
      rw [e, this] at hc
      rcases ht with rfl | rfl <;> simp at hc)

theorem step_append_own {P : Program} {ops : Array Oper} {o : Oper} {a : Act} (w : World) {K : Act → World → Prop} {Q : Exit → Act → World → Prop} {E : Prop}
    (hg : o.guard = none) (s x : Operand) (t : TypeId) (ho : o.op = .call { callee := .builtin .append, args := #[s, x], argTypes := #[t, t] })
    (base : Nat) (e : TypeId) (i : TypeInfo) (z : Value) (size bytes : Nat) (ht : P.underlying t = some (.slice e)) (hi : P.info? e = some i) (hz : i.zero = some z)
    (hsize : i.size = size) (hby : i.bytes = bytes) (hzs : z.cells.size = size) (hsz : 0 < size)
    (v : Value) (n : Nat) (xs : List Value) (hs : a.eval s = v) (hown : w.ownsRow base e size v n xs)
    (ad : Addr) (m c : Nat) (news : List Value) (hx : a.eval x = .slice (some ad) m c) (hl : news.length = m * size) (hnews : ∀ j u, news[j]? = some u → w.cell? (ad.add j) = some u) (h1 : ∀ u ∈ news, u.oneCell' = true)
    (h63 : n + m ≤ maxLen) (hbytes : (n + m) * bytes ≤ 140737488355328) (hbase : base ≤ w.heap.size)
    (h : ∀ v' w', w'.ownsRow base e size v' (n + m) (xs ++ news) → w.grownBy w' v.ownBlock → K (a.put o.dst v') w') : if Region.wanted o (yielded ops a.tmps) = true then Oper.wp P o a w K Q else E := by
  rw [if_pos (by simp [Region.wanted, hg])]
  exact wp_append_own w s x t ho base e i z size bytes ht hi hz hsize hby hzs hsz v n xs hs hown ad m c news hx hl hnews h1 h63 hbytes hbase (fun v' w' h1 h2 _ => h v' w' h1 h2)

theorem infoRc : (Tryz.prog.info? 38).map (fun i => (i.zero, i.size, i.bytes)) = some (some (.agg #[.int .u8 0, .slice none 0 0]), 2, 32) := by kernel_rfl
theorem lit_at (W : World) (cs : List Value) (t : TypeId) : ∀ j u, cs[j]? = some u → (W.alloc (.cells cs.toArray t)).cell? ((⟨W.heap.size, 0, none⟩ : Addr).add j) = some u := fun j u h => by
  have e : ((⟨W.heap.size, 0, none⟩ : Addr).add j) = ⟨W.heap.size, j, none⟩ := by rw [Go.WideShapes.add_plain, Nat.zero_add]
  rw [e]
  simpa using h
/-- The records' row has grown. -/
theorem JS.push {w : World} {s : Nat} {bd : List Nat} {R R' : List Rec} {sz rb pb jb : Nat} {sv rv v' : Value} {X X' : World} (h : JS w s bd R sz rb pb jb sv rv X) (hg : X.grownBy X' rv.ownBlock) (hr : RcO X' w.heap.size v' R') : X'.heap[jb]? = some (jRow s sv rv sz) ∧ X'.heap[pb]? = X.heap[pb]? ∧ JS w s bd R' sz rb pb jb sv v' (X'.setCell ⟨jb, 2, none⟩ v') := by
  obtain ⟨L, hL, hoL, hbL⟩ := h.recs
  have hG : GrS (fun k => rv.ownBlock = some k) X X' := .of_grown' hg (fun k e => e)
  have tag : ∀ g cs t, X.heap[g]? = some (.cells cs t (0, 0)) → t ≠ 38 → ¬ rv.ownBlock = some g := fun g cs t hc ht e => by
    obtain ⟨-, cs', r⟩ := own_rowT hoL e
    rw [hc] at r
    injection r with r
    injection r with _ r _
    exact ht r
  have hjX : X.heap[jb]? = some (.cells #[.int .u32 (s : Int), sv, rv, .int .i64 (sz : Int)] 123 (0, 0)) := h.jrow
  have hj : X'.heap[jb]? = some (.cells #[.int .u32 (s : Int), sv, rv, .int .i64 (sz : Int)] 123 (0, 0)) := (hG.block jb (Array.getElem?_eq_some_iff.1 hjX).1 (tag _ _ _ hjX (by decide))).trans hjX
  obtain ⟨x0, x1, x2, hp⟩ := h.prow
  have hp' : X'.heap[pb]? = X.heap[pb]? := hG.block pb (Array.getElem?_eq_some_iff.1 hp).1 (tag _ _ _ hp (by decide))
  have hs := grS_set X' jb 2 v'
  have hB : Below w.heap.size w X' := h.bel.grown hg h.bel.size (fun k hk => (own_rowT hoL hk).1)
  refine ⟨hj, hp', ⟨hB.trans (hs.below hB.size (fun k e => e ▸ h.jlo)), h.rlo, h.plo, h.jlo, h.rj, ?_, ⟨x0, x1, x2, ?_⟩, ?_, ?_, ?_⟩⟩
  · have h1 := (hG.block rb (Array.getElem?_eq_some_iff.1 h.rrow).1 (tag _ _ _ h.rrow (by decide))).trans h.rrow
    exact (hs.block rb (Array.getElem?_eq_some_iff.1 h1).1 h.rj).trans h1
  · have h1 := hp'.trans hp
    exact (hs.block pb (Array.getElem?_eq_some_iff.1 h1).1 h.pj.1).trans h1
  · exact heap_setCell_same _ _ 2 _ _ _ hj
  · refine own_off (hG.own h.sum (fun g e => ?_)) hs hj (by decide)
    obtain ⟨-, cs, r⟩ := own_rowT h.sum e
    exact tag _ _ _ r (by decide)
  · exact hr.grS hs (fun g cs t _ hc ht e => by
      rw [e, hj] at hc
      rcases ht with rfl | rfl <;> simp at hc)
theorem JS.size {w : World} {s : Nat} {bd : List Nat} {R : List Rec} {sz rb pb jb : Nat} {sv rv : Value} {X : World} (h : JS w s bd R sz rb pb jb sv rv X) (sz' : Nat) : JS w s bd R sz' rb pb jb sv rv (X.setCell ⟨jb, 3, none⟩ (.int .i64 (sz' : Int))) :=
  h.jour (grS_set X jb 3 _) (heap_setCell_same _ _ 3 _ _ _ h.jrow) (h.keep (grS_set X jb 3 _))

set_option maxRecDepth 4000 in
set_option maxHeartbeats 4000000 in
theorem journalIn_any (a : Option Addr) (cap : Nat) (bs : List Nat) (hcap : bs.length ≤ cap) (hl : bs.length ≤ 2097152) (w : World) (h : Byts w a bs) :
    Calls Tryz.prog 108 #[.slice a bs.length cap] w (JnP bs w) := by
  cases hw : whole bs 0 with
  | none => exact journalIn_no a cap bs hcap hl w h hw
  | some t =>
    obtain ⟨s, k0, bd⟩ := t
    have hwl := whole_len hw
    have b0 := (Below.refl w.heap.size w).alloc (Nat.le_refl _) (.cells #[.int .u32 0, .slice none 0 0, .slice none 0 0, .int .i64 0] 123)
    have r0 := heap_new w (.cells #[.int .u32 0, .slice none 0 0, .slice none 0 0, .int .i64 0] 123)
    obtain ⟨W1, hW1⟩ : ∃ W1, w.alloc (.cells #[.int .u32 0, .slice none 0 0, .slice none 0 0, .int .i64 0] 123) = W1 := ⟨_, rfl⟩
    rw [hW1] at b0 r0
    have hP := pieceAt_any a cap bs hcap (by omega) 0 (by decide) W1 (h.later b0)
    rw [show ((0 : Nat) : Int) = 0 from rfl] at hP
    have hlt1 : w.heap.size < W1.heap.size := (Array.getElem?_eq_some_iff.1 r0).1
    have FA : ∀ sv rv X, Below w.heap.size w X → X.ownsRow w.heap.size 5 1 sv bd.length (bysV bd) → RcO X w.heap.size rv (recs s (bs.drop (18 + bd.length)) 1).1 → JnP bs w (.returned (.tuple #[.agg #[.int .u32 (s : Int), sv, rv, .int .i64 ((18 + bd.length + (recs s (bs.drop (18 + bd.length)) 1).2 : Nat) : Int)], .bool true])) X := fun sv rv X hX h1 h2 => ⟨hX, by rw [hw]; exact ⟨sv, rv, rfl, h1, h2⟩⟩
    replace FA := Hid.mk FA
    go_enter Tryz.func108, Tryz.ntmps108
    go_upto_region 4 with (go_at_call 139; refine hP.mono ?_; rintro e w2 ⟨hb2, hm⟩; rw [hw] at hm; obtain ⟨b, off, c0, rfl, rfl, hc0⟩ := hm)
    have p3 := heap_new w2 (.cells #[.int .u32 (s : Int), .int .u8 (k0 : Int), .slice (some ⟨b, off + 14, none⟩) bd.length c0] 82)
    have b3 := b0.trans ((hb2.alloc hb2.size (.cells #[.int .u32 (s : Int), .int .u8 (k0 : Int), .slice (some ⟨b, off + 14, none⟩) bd.length c0] 82)).mono b0.size)
    have r3 := ((hb2.alloc hb2.size (.cells #[.int .u32 (s : Int), .int .u8 (k0 : Int), .slice (some ⟨b, off + 14, none⟩) bd.length c0] 82)).block _ hlt1).trans r0
    obtain ⟨W3, hW3⟩ : ∃ W3, w2.alloc (.cells #[.int .u32 (s : Int), .int .u8 (k0 : Int), .slice (some ⟨b, off + 14, none⟩) bd.length c0] 82) = W3 := ⟨_, rfl⟩
    rw [hW3] at p3 b3 r3 ⊢
    have hpl : w.heap.size ≤ w2.heap.size := Nat.le_trans b0.size hb2.size
    obtain ⟨pb, hpb⟩ : ∃ pb, w2.heap.size = pb := ⟨_, rfl⟩
    rw [hpb] at p3 hpl ⊢
    clear hpb hW3 hb2 hP r0 b0 hW1 hlt1
    go_cut [6] (fun v wx => ∃ jb sv, v = .pointer (some ⟨jb, 0, none⟩) ∧ JS w s bd [] (18 + bd.length) w.heap.size pb jb sv (.slice none 0 0) wx)
    case first =>
      have q0 := cell_of_row _ _ 0 _ _ _ p3
      have q1 := cell_of_row _ _ 1 _ _ _ p3
      have q2 := cell_of_row _ _ 2 _ _ _ p3
      simp only [List.getElem?_toArray, List.getElem?_cons_zero, List.getElem?_cons_succ] at q0 q1 q2
      have hpl3 : pb < W3.heap.size := (Array.getElem?_eq_some_iff.1 p3).1
      have hS : ∀ X, Below W3.heap.size W3 X → X.cell? ⟨pb, 0, none⟩ = some (.int .u32 (s : Int)) ∧ X.cell? ⟨pb, 1, none⟩ = some (.int .u8 (k0 : Int)) ∧ X.cell? ⟨pb, 2, none⟩ = some (.slice (some ⟨b, off + 14, none⟩) bd.length c0) := fun X hX => ⟨(hX.cell (p := ⟨pb, 0, none⟩) hpl3).trans q0, (hX.cell (p := ⟨pb, 1, none⟩) hpl3).trans q1, (hX.cell (p := ⟨pb, 2, none⟩) hpl3).trans q2⟩
      have hBd : Byts w (some ⟨b, off + 14, none⟩) bd := byts_body h hw
      have hC := fun X (hX : Below W3.heap.size W3 X) => bclone_any (some ⟨b, off + 14, none⟩) c0 (fun e => by cases e) bd (by omega) X (hBd.later (b3.trans (hX.mono b3.size)))
      have hZ := fun X => psize_any (s : Int) (k0 : Int) (some ⟨b, off + 14, none⟩) bd.length c0 (by omega) X
      have B3 : Below W3.heap.size W3 W3.drew := (Below.refl _ _).drew
      have S3 := hS _ B3
      have BA : Below W3.heap.size W3 ((W3.alloc (.cells #[.int .u32 0, .slice none 0 0, .slice none 0 0, .int .i64 0] 123)).drew) := ((Below.refl _ _).alloc (Nat.le_refl _) _).drew
      have zA : ∀ Y, Below ((W3.alloc (.cells #[.int .u32 0, .slice none 0 0, .slice none 0 0, .int .i64 0] 123)).drew).heap.size ((W3.alloc (.cells #[.int .u32 0, .slice none 0 0, .slice none 0 0, .int .i64 0] 123)).drew) Y → Below W3.heap.size W3 Y ∧ Y.heap[W3.heap.size]? = some (.cells #[.int .u32 0, .slice none 0 0, .slice none 0 0, .int .i64 0] 123 (0, 0)) := fun Y hY => ⟨BA.trans (hY.mono BA.size), (hY.block _ (by simp)).trans (heap_new W3 _)⟩
      have zB : ∀ Y, Below W3.drew.heap.size W3.drew Y → Below W3.heap.size W3 Y := fun Y hY => B3.trans (hY.mono B3.size)
      have zC : ∀ X Y, Below W3.heap.size W3 X → Below (X.alloc (.cells #[.int .u32 0, .slice none 0 0, .slice none 0 0, .int .i64 0] 123)).heap.size (X.alloc (.cells #[.int .u32 0, .slice none 0 0, .slice none 0 0, .int .i64 0] 123)) Y → Below W3.heap.size W3 Y ∧ Y.heap[X.heap.size]? = some (.cells #[.int .u32 0, .slice none 0 0, .slice none 0 0, .int .i64 0] 123 (0, 0)) := fun X Y hX hY => ⟨(hX.alloc hX.size _).trans (hY.mono (hX.alloc hX.size _).size), (hY.block _ (by simp)).trans (heap_new X _)⟩
      replace zA := Hid.mk zA
      replace zB := Hid.mk zB
      replace zC := Hid.mk zC
      replace hS := Hid.mk hS
      replace hC := Hid.mk hC
      replace hZ := Hid.mk hZ
      go_region_held3 (fun X => X.cell? ⟨pb, 0, none⟩ = some (.int .u32 (s : Int)) ∧ X.cell? ⟨pb, 1, none⟩ = some (.int .u8 (k0 : Int)) ∧ X.cell? ⟨pb, 2, none⟩ = some (.slice (some ⟨b, off + 14, none⟩) bd.length c0)) (first | (with_reducible assumption) | (with_reducible exact hS.out _ BA) | (with_reducible exact hS.out _ (Below.alloc hx5 hx5.size _)) | (with_reducible exact hS.out _ (Below.alloc hx4 hx4.size _)) | (with_reducible exact hS.out _ (bset (bset (bset (bset hx5 hx4.size _ _) hx4.size _ _) hx4.size _ _) hx4.size _ _)) | (with_reducible exact hS.out _ (bset (bset (bset (bset hx5 (Nat.le_refl _) _ _) (Nat.le_refl _) _ _) (Nat.le_refl _) _ _) (Nat.le_refl _) _ _))) (first | (go_at_call 35; refine (hC.out _ (by first | (with_reducible exact B3) | (with_reducible exact BA))).mono ?_; rintro e w4 ⟨p4, c4, rfl, ho4, hb4⟩; have hx4 : Below W3.heap.size W3 w4 := (by first | (with_reducible exact zB.out w4 hb4) | (with_reducible exact (zA.out w4 hb4).1)); have S4 := hS.out w4 hx4; (first | (have z4 := (zA.out w4 hb4).2) | skip)) | (go_at_call 57; refine (hZ.out _).mono ?_; rintro e w5 ⟨rfl, hb5⟩; have hx5 : Below W3.heap.size W3 w5 := (by first | (with_reducible exact hx4.trans (hb5.mono hx4.size)) | (with_reducible exact (zC.out w4 w5 hx4 hb5).1)); have S5 := hS.out w5 hx5; (first | (have z5 := (zC.out w4 w5 hx4 hb5).2; have y0 := cell_of_row _ _ 0 _ _ _ z5; have y1 := cell_of_row _ _ 1 _ _ _ z5; have y2 := cell_of_row _ _ 2 _ _ _ z5; have y3 := cell_of_row _ _ 3 _ _ _ z5; have y4 := frozen_of_row _ w4.heap.size 0 _ _ z5; have y5 := frozen_of_row _ w4.heap.size 1 _ _ z5; have y6 := frozen_of_row _ w4.heap.size 2 _ _ z5; have y7 := frozen_of_row _ w4.heap.size 3 _ _ z5; simp only [List.getElem?_toArray, List.getElem?_cons_zero, List.getElem?_cons_succ] at y0 y1 y2 y3) | (have z5 := (hb5.block _ (Array.getElem?_eq_some_iff.1 z4).1).trans z4; have y0 := cell_of_row _ _ 0 _ _ _ z5; have y1 := cell_of_row _ _ 1 _ _ _ z5; have y2 := cell_of_row _ _ 2 _ _ _ z5; have y3 := cell_of_row _ _ 3 _ _ _ z5; have y4 := frozen_of_row _ W3.heap.size 0 _ _ z5; have y5 := frozen_of_row _ W3.heap.size 1 _ _ z5; have y6 := frozen_of_row _ W3.heap.size 2 _ _ z5; have y7 := frozen_of_row _ W3.heap.size 3 _ _ z5; simp only [List.getElem?_toArray, List.getElem?_cons_zero, List.getElem?_cons_succ] at y0 y1 y2 y3) | skip)))
      all_goals first | go_meet | (go_wp2; go_meet)
      all_goals first
        | exact ⟨_, _, rfl, js_start b3 r3 p3 hpl (hx5.alloc hx5.size _) hx5.size (heap_new w5 _) (own_later (own_later (ho4.mono (by simp)) hb5) ((Below.refl _ _).alloc (Nat.le_refl _) _))⟩
        | exact ⟨_, _, rfl, js_start b3 r3 p3 hpl (bset (bset (bset (bset hx5 hx4.size _ _) hx4.size _ _) hx4.size _ _) hx4.size _ _) hx4.size (row4 z5 _ _ _ _) (own_off (own_later (own_later (ho4.mono (by simp)) ((Below.refl _ _).alloc (Nat.le_refl _) _)) hb5) (grS_set4 _ _ _ _ _ _) z5 (by decide))⟩
        | exact ⟨_, _, rfl, js_start b3 r3 p3 hpl (bset (bset (bset (bset hx5 (Nat.le_refl _) _ _) (Nat.le_refl _) _ _) (Nat.le_refl _) _ _) (Nat.le_refl _) _ _) (Nat.le_refl _) (row4 z5 _ _ _ _) (own_off (own_later (ho4.mono (by simp)) hb5) (grS_set4 _ _ _ _ _ _) z5 (by decide))⟩
    case rest =>
      obtain ⟨jb, sv, rfl, hJ⟩ := hcut
      obtain ⟨sa, sc, rfl⟩ := own_lenB hJ.sum
      have hp0 : Jp bs s bd [] (18 + bd.length) := .start hwl.1
      clear p3 b3 r3 hpl
      go_wp2_with fail
      go_loopg [5] (bs.length - (18 + bd.length)) (fun k _ wr => ∃ R sz rv, JS w s bd R sz w.heap.size pb jb (.slice sa bd.length sc) rv wr ∧ Jp bs s bd R sz ∧ k = bs.length - sz)
      case atStart => exact ⟨[], _, _, hJ, hp0, rfl⟩
      case round =>
        clear hJ hp0
        obtain ⟨R, sz, rv, hJ, hp, hgk⟩ := hrel
        replace hgk := Hid.mk hgk
        obtain ⟨ad, cp, hsl, hcp, hby⟩ := slice_from b off cap bs sz hp.le hcap
        obtain ⟨ra, rc, rfl, hra, hrc, hrb⟩ := hJ.recs.len
        have S0 := hJ.cells3
        have hTl : (bs.drop sz).length ≤ 2097152 := by rw [List.length_drop]; omega
        obtain ⟨T, hT⟩ : ∃ T, bs.drop sz = T := ⟨_, rfl⟩
        rw [hT] at hsl hcp hby hTl
        have hRn : R.length ≤ 2097152 := Nat.le_trans hp.cnt (Nat.le_trans hp.le hl)
        have hRi : (R.length : Int) ≤ 2097152 := by omega
        have hR0 : (0 : Int) ≤ (R.length : Int) := by omega
        have hP5 := fun X (hX : Below wr.heap.size wr X) => pieceAt_any ad cp T hcp (by omega) (R.length + 1) (by omega) X (hby X (h.later ((hJ.later hX).bel)))
        rw [show ((R.length + 1 : Nat) : Int) = (R.length : Int) + 1 by omega] at hP5
        have B5 : Below wr.heap.size wr wr.drew := (Below.refl _ _).drew
        have S5 := (hJ.later B5).cells3
        replace hP5 := Hid.mk hP5
        replace hby := Hid.mk hby
        replace hT := Hid.mk hT
        replace hp := Hid.mk hp
        replace hJ := Hid.mk hJ
        have hwr : IntKind.i64.wrap ((R.length : Int) + 1) = (R.length : Int) + 1 := by rw [IntKind.wrap_i64]; omega
        cases hwh : whole T (R.length + 1) with
        | none =>
          replace hwh := Hid.mk hwh
          go_wp2_with fail
          go_region_held3 (fun X => X.cell? ⟨jb, 0, none⟩ = some (.int .u32 (s : Int)) ∧ X.cell? ⟨jb, 2, none⟩ = some (.slice ra R.length rc) ∧ X.cell? ⟨jb, 3, none⟩ = some (.int .i64 (sz : Int))) (first | (with_reducible assumption) | (with_reducible exact K6.out _ _ _)) ((go_at_call 139; refine (hP5.out _ B5).mono ?_; rintro e w6 ⟨hb6, hm⟩; rw [hwh.out] at hm; subst hm; have J6 := hJ.out.later (B5.trans (hb6.mono B5.size)); obtain ⟨⟨x0, d0⟩, ⟨x1, d1⟩, ⟨x2, d2⟩⟩ := J6.pcells; obtain ⟨f0, f1, f2⟩ := J6.pf; have S6 := J6.cells3; have K6 := Hid.mk (fun v0 v1 v2 => (J6.set3 v0 v1 v2).cells3); replace J6 := Hid.mk J6))
          have hE := jn_end (X := ((w6.setCell ⟨pb, 0, none⟩ (.int .u32 0)).setCell ⟨pb, 1, none⟩ (.int .u8 0)).setCell ⟨pb, 2, none⟩ (.slice none 0 0)) hw (J6.out.set3 _ _ _) hp.out (fun kd b' => by rw [hT.out, hwh.out]; simp)
          have J7 := J6.out.set3 (.int .u32 0) (.int .u8 0) (.slice none 0 0)
          obtain ⟨W7, hW7⟩ : ∃ W7, ((w6.setCell ⟨pb, 0, none⟩ (.int .u32 0)).setCell ⟨pb, 1, none⟩ (.int .u8 0)).setCell ⟨pb, 2, none⟩ (.slice none 0 0) = W7 := ⟨_, rfl⟩
          rw [hW7] at hE J7 ⊢
          obtain ⟨y0, y1, y2, y3, y4, y5, y6, y7⟩ := J7.rcells
          obtain ⟨g0, g1, g2, g3⟩ := J7.jcells
          replace hE := Hid.mk hE
          clear hW7 J7 S6 K6 f0 f1 f2 d0 d1 d2 J6
          go_wp2
          refine hE.out _ ?_ ?_
          · rfl
          · rfl
        | some t =>
          obtain ⟨s', kd, b'⟩ := t
          replace hwh := Hid.mk hwh
          go_wp2_with fail
          go_region_held3 (fun X => X.cell? ⟨jb, 0, none⟩ = some (.int .u32 (s : Int)) ∧ X.cell? ⟨jb, 2, none⟩ = some (.slice ra R.length rc) ∧ X.cell? ⟨jb, 3, none⟩ = some (.int .i64 (sz : Int))) (first | (with_reducible assumption) | (with_reducible exact K6.out _ _ _)) ((go_at_call 139; refine (hP5.out _ B5).mono ?_; rintro e w6 ⟨hb6, hm⟩; rw [hwh.out] at hm; obtain ⟨b1, o1, c6, rfl, rfl, hc6⟩ := hm; have J6 := hJ.out.later (B5.trans (hb6.mono B5.size)); obtain ⟨⟨x0, d0⟩, ⟨x1, d1⟩, ⟨x2, d2⟩⟩ := J6.pcells; obtain ⟨f0, f1, f2⟩ := J6.pf; have S6 := J6.cells3; have K6 := Hid.mk (fun v0 v1 v2 => (J6.set3 v0 v1 v2).cells3); replace J6 := Hid.mk J6))
          have J7 := J6.out.set3 (.int .u32 (s' : Int)) (.int .u8 (kd : Int)) (.slice (some ⟨b1, o1 + 14, none⟩) b'.length c6)
          have P7 : (((w6.setCell ⟨pb, 0, none⟩ (.int .u32 (s' : Int))).setCell ⟨pb, 1, none⟩ (.int .u8 (kd : Int))).setCell ⟨pb, 2, none⟩ (.slice (some ⟨b1, o1 + 14, none⟩) b'.length c6)).heap[pb]? = some (.cells #[.int .u32 (s' : Int), .int .u8 (kd : Int), .slice (some ⟨b1, o1 + 14, none⟩) b'.length c6] 82 (0, 0)) := by
            obtain ⟨z0, z1, z2, hp6⟩ := J6.out.prow
            exact row3 hp6 _ _ _
          obtain ⟨W7, hW7⟩ : ∃ W7, ((w6.setCell ⟨pb, 0, none⟩ (.int .u32 (s' : Int))).setCell ⟨pb, 1, none⟩ (.int .u8 (kd : Int))).setCell ⟨pb, 2, none⟩ (.slice (some ⟨b1, o1 + 14, none⟩) b'.length c6) = W7 := ⟨_, rfl⟩
          rw [hW7] at J7 P7 ⊢
          clear hW7 S6 K6 f0 f1 f2 d0 d1 d2 J6
          obtain ⟨g0, g1, g2, g3⟩ := J7.jcells
          have pc0 := cell_of_row _ _ 0 _ _ _ P7
          have pc1 := cell_of_row _ _ 1 _ _ _ P7
          have pc2 := cell_of_row _ _ 2 _ _ _ P7
          simp only [List.getElem?_toArray, List.getElem?_cons_zero, List.getElem?_cons_succ] at pc0 pc1 pc2
          by_cases hss : s' = s
          case neg =>
            have hss' : ((s' : Int) != (s : Int)) = true := by rw [bne_iff_ne]; omega
            have hE := jn_end hw J7 hp.out (fun kd b' => by rw [hT.out, hwh.out]; intro e; injection e with e; injection e with e; exact hss e)
            obtain ⟨y0, y1, y2, y3, y4, y5, y6, y7⟩ := J7.rcells
            replace hE := Hid.mk hE
            clear J7 P7 hss
            go_wp2
            refine hE.out _ ?_ ?_
            · rfl
            · rfl
          subst hss
          have hss' : ((s' : Int) != (s' : Int)) = false := by simp
          have hp2 := Hid.mk (hp.out.more (by rw [hT.out]; exact hwh.out))
          have hmeas : Hid (bs.length - (sz + (18 + b'.length)) < gk) := ⟨by have := hp2.out.le; rw [hgk.out]; omega⟩
          have hwl2 := whole_len hwh.out
          have hBd2 : Byts w (some ⟨b1, o1 + 14, none⟩) b' := byts_body (hby.out w h) hwh.out
          have hC8 := fun X (hX : Below w.heap.size w X) => bclone_any (some ⟨b1, o1 + 14, none⟩) c6 (fun e => by cases e) b' (by omega) X (hBd2.later hX)
          have hZ8 := fun X => psize_any (s' : Int) (kd : Int) (some ⟨b1, o1 + 14, none⟩) b'.length c6 (by omega) X
          obtain ⟨i0, hi, hz0, hz1, hz2⟩ := info_parts infoRc
          have hB7 : Below w.heap.size w W7.drew := J7.bel.drew
          have D7 : Below W7.heap.size W7 W7.drew := (Below.refl _ _).drew
          have hkd : kd < 256 := by
            obtain ⟨rest, e, -, -⟩ := whole_some hwh.out
            have h13 := get_piece13 (R.length + 1) s' kd b' rest
            rw [← e, List.getD_eq_getElem?_getD, List.getElem?_eq_getElem (by omega)] at h13
            have := (hby.out w h).1 _ (List.getElem_mem (l := T) (n := 13) (by omega))
            simp only [Option.getD_some] at h13
            omega
          have hb'8 : ∀ y ∈ b', y < 256 := hBd2.1
          replace hC8 := Hid.mk hC8
          replace hZ8 := Hid.mk hZ8
          replace hwl2 := Hid.mk hwl2
          replace J7 := Hid.mk J7
          have hpj : ¬ pb = jb := J7.out.pj.1
          have hPP := Hid.mk (fun X (hX : Below W7.heap.size W7 X) => (hX.block pb (Array.getElem?_eq_some_iff.1 P7).1).trans P7)
          clear P7
          replace hBd2 := Hid.mk hBd2
          replace hb'8 := Hid.mk hb'8
          go_upto_region 8 with fail
          clear hsl S0 S5 hwr g0 g1 g3 pc0 hss' hP5 B5 hcap hcp hra hrc hrb hc6 hc0 hwl FA hwh hby hBd2 hT hp hJ
          go_cut [5] from 23 to 61 (fun _ wx => ∃ rv', JS w s' bd (R ++ [(kd, b')]) sz w.heap.size pb jb (.slice sa bd.length sc) rv' wx ∧ wx.heap[pb]? = some (.cells #[.int .u32 (s' : Int), .int .u8 (kd : Int), .slice (some ⟨b1, o1 + 14, none⟩) b'.length c6] 82 (0, 0)))
          case first =>
            clear hZ8
            go_region_law (first | (go_simp; go_at_call 35; refine (hC8.out _ hB7).mono ?_; rintro e w8 ⟨p8, c8, rfl, ho8, hb8⟩; have Q8 := D7.trans (hb8.mono D7.size); have J8 := Hid.mk (J7.out.later Q8); have u1 := J8.out.jcells.2.2.1; have u2 := (Q8.cell (p := ⟨pb, 1, none⟩) (World.block_lt_of_cell? _ _ pc1)).trans pc1; have A8 : Below w8.heap.size w8 (w8.alloc (.cells #[.int .u8 (kd : Int), .slice p8 b'.length c8] 38)) := (Below.refl _ _).alloc (Nat.le_refl _) _; have J9 := Hid.mk (J8.out.later A8); have u9 := J9.out.jcells.2.2.1; obtain ⟨L, hL, hoL, hbL⟩ := J9.out.recs; have hR8 := Hid.mk (RcB.mk (x := ((kd, b'), .slice p8 b'.length c8)) hkd hb'8.out (own_later (ho8.mono hB7.size) A8)); replace hbL := Hid.mk hbL; replace hL := Hid.mk hL) | (refine step_append_own (P := Tryz.prog) _ rfl _ _ 29 rfl w.heap.size 38 i0 _ 2 32 Tryz.underlying29 hi hz0 hz1 hz2 rfl (by decide) _ R.length (rcV L) rfl hoL ⟨w8.heap.size, 0, none⟩ 1 1 [.int .u8 (kd : Int), .slice p8 b'.length c8] rfl rfl (lit_at w8 _ _) (by simp [Value.oneCell']) (by unfold maxLen; omega) (by omega) J9.out.bel.size ?_; intro v' w9 hown' hgrow; have hl9 : L.length = R.length := (by rw [← hL.out, List.length_map]); have hrc9 := Hid.mk (rc_snoc (by rw [hl9]; exact hoL) hbL.out hR8.out hgrow (by rw [hl9]; exact hown')); obtain ⟨q9, k9, e9, -, -, -⟩ := hrc9.out.len; obtain ⟨m1, m2, m3⟩ := J9.out.push hgrow hrc9.out; have m4 := cell_of_row _ _ 2 _ _ _ m1; have m5 := frozen_of_row _ jb 2 _ _ m1))
            all_goals (refine Met.intro ?_; go_step; go_meet)
            all_goals
              have e10 : v' = .slice q9 (R.length + 1) k9 := by rw [e9, hL.out, List.length_append, List.length_singleton]
              rw [hL.out, e10] at m3
              have m6 := m2.trans (hPP.out _ (Q8.trans (A8.mono Q8.size)))
              exact ⟨_, m3, ((grS_set w9 jb 2 _).block pb (Array.getElem?_eq_some_iff.1 m6).1 hpj).trans m6⟩
          case rest =>
            obtain ⟨rv', JB, PB⟩ := hcut
            obtain ⟨y0, y1, y2, y3⟩ := JB.jcells
            have z0 := cell_of_row _ _ 0 _ _ _ PB
            have z1 := cell_of_row _ _ 1 _ _ _ PB
            have z2 := cell_of_row _ _ 2 _ _ _ PB
            simp only [List.getElem?_toArray, List.getElem?_cons_zero, List.getElem?_cons_succ] at z0 z1 z2
            have hsn := hp2.out.le
            have hwz : IntKind.i64.wrap ((sz : Int) + (18 + (b'.length : Int))) = (sz : Int) + (18 + (b'.length : Int)) := by rw [IntKind.wrap_i64]; omega
            have DB : Below wc.heap.size wc wc.drew := (Below.refl _ _).drew
            have f3 := frozen_of_row _ jb 3 _ _ JB.jrow
            have JBH := Hid.mk JB
            clear JB PB hC8 hsn hPP J7
            go_wp2_with fail
            go_region_law ((go_simp; go_at_call 57; refine (hZ8.out _).mono ?_; rintro e w10 ⟨rfl, hb10⟩; have Q10 := DB.trans (hb10.mono DB.size); have JC := JBH.out.later Q10; have y10 := JC.jcells.2.2.2; have f10 := frozen_of_row _ jb 3 _ _ JC.jrow))
            all_goals
              have JD := JC.size (sz + (18 + b'.length))
              rw [show ((sz + (18 + b'.length) : Nat) : Int) = (sz : Int) + (18 + (b'.length : Int)) by omega] at JD
              replace JD := Hid.mk JD
              clear JC JBH hZ8 y0 y1 y2 y3 z0 z1 z2 f3 DB hwz Q10 y10 f10
              go_wp2
              go_roundg (bs.length - (sz + (18 + b'.length)))
            all_goals first | exact hmeas.out | exact ⟨_, _, _, JD.out, hp2.out, rfl⟩
end Go.Proofs.YtakcdgeanbpllaaGreatDoor.DJ

import Derived.Test.YthnmjafoplfikaaGreatDoorJoin41
import Derived.Test.YthnmjafoplfikaaGreatDoorTurnYN5
import Derived.Deep.RegionHeld3
import Derived.Test.YthnmjafoplfikaaGreatDoorTurnYN1
import Derived.BigQuiet
namespace Go.Proofs.YthnmjafoplfikaaGreatDoor
open Go.RowKit

def IxP (l : List (List UInt8)) (v : List UInt8) (W : World) (e : Ending) (W' : World) : Prop := (∃ n : Int, e = .returned (.int .i64 n) ∧ decide (0 ≤ n) = l.contains v) ∧ W = W'
set_option maxRecDepth 20000 in
set_option maxHeartbeats 1000000 in
theorem slIndex_any (l : List (List UInt8)) (a : Option Addr) (c : Nat) (v : List UInt8) (W : World) (hR : RowR eS W AnyB l a) (hl : l.length ≤ 9223372036854775807) : Calls Tryz.prog 26 #[.slice a l.length c, .string ⟨v.toArray⟩] W (IxP l v W) := by
  have hl' : (l.length : Int) ≤ 9223372036854775807 := by omega
  go_enter Tryz.func26, Tryz.ntmps26
  go_wp2
  go_loopw [8] (fun iv wr => ∃ i : Nat, iv = .int .i64 (i : Int) ∧ i ≤ l.length ∧ wr = W ∧ Hid (∀ j (h : j < l.length), j < i → v ≠ l[j])) (fun iv _ => l.length - (intOf iv).toNat)
  case atStart => exact ⟨0, rfl, Nat.zero_le _, rfl, ⟨fun j _ h => absurd h (Nat.not_lt_zero _)⟩⟩
  case round =>
    obtain ⟨i, rfl, hi, rfl, hall⟩ := hrel
    by_cases hlt : i < l.length
    · have hlt' : (i : Int) < (l.length : Int) := by omega
      have hi0 : (0 : Int) ≤ (i : Int) := by omega
      obtain ⟨ge, oe, rfl⟩ := hR.some hlt
      obtain ⟨cs, -, -, rfl, hcs⟩ := hR.item hlt
      have k0 : wr.cell? ⟨ge, oe + i, none⟩ = some (.string ⟨(l[i]).toArray⟩) := by
        have := hcs 0 (by decide)
        rw [show oe + i * eS.k + 0 = oe + i by show oe + i * 1 + 0 = oe + i; omega] at this
        exact this
      by_cases hv : v = l[i]
      · have hd : IxP l v wr (.returned (.int .i64 (i : Int))) wr := ⟨⟨i, rfl, by rw [decide_eq_true hi0, List.contains_iff_mem.2 (by rw [hv]; exact List.getElem_mem hlt)]⟩, rfl⟩
        rw [← hv] at k0
        clear hall hcs hv
        go_wp2
        go_ret
        exact hd
      · have hst : Hid (∀ j (h : j < l.length), j < i + 1 → v ≠ l[j]) := ⟨fun j h hj => by
          by_cases hji : j < i
          · exact hall.out j h hji
          · obtain rfl : j = i := by omega
            exact hv⟩
        have hne : (v == l[i]) = false := beq_eq_false_iff_ne.2 hv
        generalize l[i] = y at k0 hne
        clear hall hcs hv
        go_wp2
        exact ⟨⟨i + 1, rfl, hlt, (by first | rfl | trivial), hst⟩, by simp only [intOf]; omega⟩
    · have hlt' : ¬ (i : Int) < (l.length : Int) := by omega
      have hd : IxP l v wr (.returned (.int .i64 (-1))) wr := ⟨⟨-1, rfl, by
        symm
        rw [decide_eq_false (by decide)]
        cases hq : l.contains v with
        | false => rfl
        | true =>
          obtain ⟨j, hj, e⟩ := List.mem_iff_getElem.1 (List.contains_iff_mem.1 hq)
          exact absurd e.symm (hall.out j hj (by omega))⟩, rfl⟩
      clear hall
      go_wp2
      go_ret
      exact hd
set_option maxRecDepth 20000 in
theorem slContains_any (l : List (List UInt8)) (a : Option Addr) (c : Nat) (v : List UInt8) (W : World) (hR : RowR eS W AnyB l a) (hl : l.length ≤ 9223372036854775807) : Calls Tryz.prog 126 #[.slice a l.length c, .string ⟨v.toArray⟩] W fun e W' => e = .returned (.bool (l.contains v)) ∧ W = W' := by
  have h := slIndex_any l a c v W hR hl
  obtain ⟨b, hb⟩ : ∃ b, l.contains v = b := ⟨_, rfl⟩
  rw [hb]
  go_enter Tryz.func126, Tryz.ntmps126
  go_wp2_with (go_at_call 26; refine h.mono ?_; rintro e w1 ⟨⟨n, rfl, hn⟩, rfl⟩; have hnH := Hid.mk hn; clear hn)
  have hn := hnH.out
  rw [hb] at hn
  clear hb hnH
  subst hn
  exact bodyPost_ret (v := .bool (decide (0 ≤ n))) (by simp [results, Tryz.results126, go_sem]) rfl ⟨rfl, rfl⟩
set_option maxRecDepth 20000 in
theorem newName_any (s : List UInt8) (l : List (List UInt8)) (a : Option Addr) (c : Nat) (W : World) (hR : RowR eS W AnyB l a) (hl : l.length ≤ 9223372036854775807) : Calls Tryz.prog 101 #[.string ⟨s.toArray⟩, .slice a l.length c] W (Lk (.int .i64 (nwN s l : Int)) W) := by
  have hn := isName_any s W
  have hc := fun w (h : Below W.heap.size W w) => slContains_any l a c s w (row_bel hR h (Nat.le_refl _)) hl
  cases h1 : nmB s with
  | false =>
    rw [h1] at hn
    have hf : ∀ w, Below W.heap.size W w → Lk (.int .i64 (nwN s l : Int)) W (.returned (.int .i64 61)) w := fun w hw => ⟨by unfold nwN; rw [h1]; rfl, hw⟩
    go_enter Tryz.func101, Tryz.ntmps101
    go_wp2_with (go_at_call 97; refine hn.mono ?_; rintro e w1 ⟨rfl, hb1⟩)
    go_ret
    exact hf _ hb1
  | true =>
    rw [h1] at hn
    cases h2 : l.contains s with
    | true =>
      rw [h2] at hc
      have hf : ∀ w, Below W.heap.size W w → Lk (.int .i64 (nwN s l : Int)) W (.returned (.int .i64 62)) w := fun w hw => ⟨by unfold nwN; rw [h1, h2]; rfl, hw⟩
      have hcH := Hid.mk hc
      clear hc
      go_enter Tryz.func101, Tryz.ntmps101
      go_wp2_with (first | (go_at_call 97; refine hn.mono ?_; rintro e w1 ⟨rfl, hb1⟩) | (go_at_call 126; refine (hcH.out _ hb1).mono ?_; rintro e w2 ⟨rfl, rfl⟩))
      go_ret
      exact hf _ hb1
    | false =>
      rw [h2] at hc
      have hf : ∀ w, Below W.heap.size W w → Lk (.int .i64 (nwN s l : Int)) W (.returned (.int .i64 0)) w := fun w hw => ⟨by unfold nwN; rw [h1, h2]; rfl, hw⟩
      have hcH := Hid.mk hc
      clear hc
      go_enter Tryz.func101, Tryz.ntmps101
      go_wp2_with (first | (go_at_call 97; refine hn.mono ?_; rintro e w1 ⟨rfl, hb1⟩) | (go_at_call 126; refine (hcH.out _ hb1).mono ?_; rintro e w2 ⟨rfl, rfl⟩))
      go_ret
      exact hf _ hb1
end Go.Proofs.YthnmjafoplfikaaGreatDoor


namespace Go.Proofs.YthnmjafoplfikaaGreatDoor
open Go.RowKit

def stC (l : Sn) : List Value := l.map (fun s => Value.string ⟨s.toArray⟩)
theorem stC_snoc (l : Sn) (s : List UInt8) : stC l ++ [.string ⟨s.toArray⟩] = stC (l ++ [s]) := by unfold stC; rw [List.map_append, List.map_singleton]
theorem elems_st (W : World) (S : Nat → Prop) : ∀ l : Sn, Elems eS W S l (stC l)
  | [] => Elems.nil _ _ _
  | s :: l => Elems.cons' (D := eS) (cx := [.string ⟨s.toArray⟩]) rfl (elems_st W S l)
theorem st_row {W : World} {base : Nat} {v : Value} {l : Sn} (h : W.ownsRow base 9 1 v l.length (stC l)) : ∃ a c, v = .slice a l.length c ∧ RowR eS W AnyB l a := by
  have hlt := h.lt
  have h' := h
  obtain ⟨hl, ⟨rfl, h0⟩ | ⟨g, cap, cur, rfl, hg, hc, h1⟩⟩ := h
  · have : l = [] := List.eq_nil_of_length_eq_zero h0
    subst this
    exact ⟨none, 0, rfl, .inl rfl⟩
  · refine ⟨_, cap, rfl, .inr ⟨g, 0, stC l, rfl, trivial, (hlt g rfl).2, fun j hj => ?_, elems_st _ _ _⟩⟩
    rw [Nat.zero_add]
    exact h'.cellAt j (by rw [← hl]; exact hj)
/-- Options and lines, whose lists have at least the room that they fill. -/
def eOc : Elt (List UInt8 × List (List UInt8)) where
  k := 2
  E := fun W S o cs => ∃ a cap, cs = [.string ⟨o.1.toArray⟩, .slice a o.2.length cap] ∧ RowR eS W S o.2 a ∧ o.2.length ≤ cap
  len := fun ⟨_, _, h, _⟩ => by rw [h]; rfl
  fr := fun ⟨a, cap, h, hR, hc⟩ hs hb => ⟨a, cap, h, hR.fr hs hb, hc⟩
  mo := fun ⟨a, cap, h, hR, hc⟩ hb => ⟨a, cap, h, hR.mo hb, hc⟩
def eLc : Elt Ln where
  k := 7
  E := fun W S x cs => ∃ a c, cs = [.string ⟨x.name.toArray⟩, .bool x.input, .bool x.must, .int .i64 x.type, .int .i64 x.opts, .int .i64 x.group, .slice a x.cls.length c] ∧ (Rg x.type ∧ Rg x.opts ∧ Rg x.group) ∧ RowR eC W S x.cls a ∧ x.cls.length ≤ c
  len := fun ⟨_, _, h, _⟩ => by rw [h]; rfl
  fr := fun ⟨a, c, h, hr, hF, hc⟩ hs hb => ⟨a, c, h, hr, hF.fr hs hb, hc⟩
  mo := fun ⟨a, c, h, hr, hF, hc⟩ hb => ⟨a, c, h, hr, hF.mo hb, hc⟩
def PkC (W : World) (S : Nat → Prop) (p : Pk) (pc : List Value) : Prop := ∃ a3 c3 a6 c6, pc[2]? = some (.slice a3 p.opts.length c3) ∧ pc[5]? = some (.slice a6 p.lns.length c6) ∧ RowR eOc W S p.opts a3 ∧ RowR eLc W S p.lns a6
theorem pkc_fr {W W' : World} {S : Nat → Prop} {p : Pk} {cs : List Value} (h : PkC W S p cs) (hs : W.heap.size ≤ W'.heap.size) (hb : ∀ b, S b → b < W.heap.size → W'.heap[b]? = W.heap[b]?) : PkC W' S p cs := by
  obtain ⟨a3, c3, a6, c6, h3, h6, r3, r6⟩ := h
  exact ⟨a3, c3, a6, c6, h3, h6, r3.fr hs hb, r6.fr hs hb⟩
theorem pkc_mo {W : World} {S S' : Nat → Prop} {p : Pk} {cs : List Value} (h : PkC W S p cs) (hb : ∀ b, b < W.heap.size → S b → S' b) : PkC W S' p cs := by
  obtain ⟨a3, c3, a6, c6, h3, h6, r3, r6⟩ := h
  exact ⟨a3, c3, a6, c6, h3, h6, r3.mo hb, r6.mo hb⟩
/-- The checker's own block: the pack, the table, the names so far. -/
structure CkS (p : Pk) (pc : List Value) (cb s : Nat) (W : World) (seen : Sn) (sv : Value) : Prop where
  ce : ∀ j, j < 7 → W.cell? ⟨cb, j, none⟩ = pc[j]?
  c7 : W.cell? ⟨cb, 7, none⟩ = some (.slice (some ⟨s + 29, 0, none⟩) 42 42)
  c8 : W.cell? ⟨cb, 8, none⟩ = some sv
  fz : ∀ j, W.frozen? ⟨cb, j, none⟩ = false
  own : W.ownsRow (cb + 1) 9 1 sv seen.length (stC seen)
  ops : OpsAt W s
  lo : s + 30 ≤ cb
  pk : PkE W (fun b => b < cb) p pc
  rc : PkC W (fun b => b < cb) p pc
theorem CkS.lt {p : Pk} {pc : List Value} {cb s : Nat} {W : World} {seen : Sn} {sv : Value} (h : CkS p pc cb s W seen sv) : cb < W.heap.size := World.block_lt_of_cell? _ _ h.c7
theorem CkS.pg {p : Pk} {pc : List Value} {cb s : Nat} {W : World} {seen : Sn} {sv : Value} (h : CkS p pc cb s W seen sv) : ∀ g, sv.ownBlock = some g → cb + 1 ≤ g ∧ g < W.heap.size := fun g hg => h.own.lt g hg
/-- What lies behind, and is not the names' row, may change. -/
theorem CkS.gr {p : Pk} {pc : List Value} {cb s : Nat} {W X : World} {seen : Sn} {sv : Value} {r : Option Nat} (h : CkS p pc cb s W seen sv) (hg : W.grownBy X r) (hr : ∀ b, r = some b → cb + 1 ≤ b) (hne : ∀ b, r = some b → some b ≠ sv.ownBlock) : CkS p pc cb s X seen sv := by
  have nb : ∀ c, c < cb + 1 → some c ≠ r := fun c hc e => by
    have := hr c e.symm
    omega
  have k := fun j => gr_cell hg h.lt (nb cb (by omega)) j
  have hlo := h.lo
  have hlt := h.lt
  exact ⟨fun j hj => (k j).trans (h.ce j hj), (k 7).trans h.c7, (k 8).trans h.c8, fun j => (gr_frozen hg h.lt (nb cb (by omega)) j).trans (h.fz j), h.own.kept hg (by cases hv : sv.ownBlock with
    | none => exact .inl rfl
    | some g => exact .inr (fun e => hne g e.symm hv.symm)), h.ops.kept (fun c _ hl => hg.block c (by omega) (nb c (by omega))) hg.size, h.lo, pke_fr h.pk hg.size (fun c hc hl => hg.block c hl (nb c (by omega))), pkc_fr h.rc hg.size (fun c hc hl => hg.block c hl (nb c (by omega)))⟩
theorem CkS.bel {p : Pk} {pc : List Value} {cb s : Nat} {W X : World} {seen : Sn} {sv : Value} (h : CkS p pc cb s W seen sv) (hB : Below W.heap.size W X) : CkS p pc cb s X seen sv := h.gr (gr_of_bel hB) (fun _ e => by cases e) (fun _ e => by cases e)
/-- A name more. -/
theorem CkS.push {p : Pk} {pc : List Value} {cb s : Nat} {w1 w4 : World} {seen : Sn} {sv v4 : Value} {nm : List UInt8} (h : CkS p pc cb s w1 seen sv) (hg : (w1.alloc (.cells #[.string ⟨nm.toArray⟩] 9)).grownBy w4 sv.ownBlock) (ho : w4.ownsRow (cb + 1) 9 1 v4 (seen.length + 1) (stC seen ++ [.string ⟨nm.toArray⟩])) (hat : v4.ownBlock = sv.ownBlock ∨ v4.ownBlock = some (w1.alloc (.cells #[.string ⟨nm.toArray⟩] 9)).heap.size) : CkS p pc cb s (w4.setCell ⟨cb, 8, none⟩ v4) (seen ++ [nm]) v4 ∧ Fr cb w1 sv (w4.setCell ⟨cb, 8, none⟩ v4) v4 ∧ (∃ u, w4.cell? ⟨cb, 8, none⟩ = some u) ∧ w4.frozen? ⟨cb, 8, none⟩ = false := by
  have hB : Below w1.heap.size w1 (w1.alloc (.cells #[.string ⟨nm.toArray⟩] 9)) := (Below.refl _ _).alloc (Nat.le_refl _) _
  have h1 := h.bel hB
  have hne : some cb ≠ sv.ownBlock := fun e => by
    have := (h.pg cb e.symm).1
    omega
  have k := fun j => gr_cell hg h1.lt hne j
  have hg2 := gr_set w4 cb 8 v4
  have o : ∀ j, j ≠ 8 → (w4.setCell ⟨cb, 8, none⟩ v4).cell? ⟨cb, j, none⟩ = (w1.alloc (.cells #[.string ⟨nm.toArray⟩] 9)).cell? ⟨cb, j, none⟩ := fun j hj => (World.cell?_setCell_other _ _ _ _ (fun e => hj (by cases e; rfl))).trans (k j)
  have hlo := h.lo
  have hlt := h1.lt
  have hb : ∀ b, b < cb → (w4.setCell ⟨cb, 8, none⟩ v4).heap[b]? = (w1.alloc (.cells #[.string ⟨nm.toArray⟩] 9)).heap[b]? := fun b hb => (hg2.block b (by have := hg.size; omega) (by intro e; injection e with e; omega)).trans (hg.block b (by omega) (fun e => by have := (h.pg b e.symm).1; omega))
  refine ⟨⟨fun j hj => (o j (by omega)).trans (h1.ce j hj), (o 7 (by decide)).trans h1.c7, World.cell?_setCell_same _ _ _ ((k 8).trans h1.c8), fun j => by rw [World.frozen?_setCell]; exact (gr_frozen hg h1.lt hne j).trans (h1.fz j), ?_, h1.ops.kept (fun b _ hl => hb b (by omega)) (Nat.le_trans hg.size hg2.size), h.lo, pke_fr h1.pk (Nat.le_trans hg.size hg2.size) (fun b hb' _ => hb b hb'), pkc_fr h1.rc (Nat.le_trans hg.size hg2.size) (fun b hb' _ => hb b hb')⟩, ((Fr.bel hB sv).trans (Fr.grow hg hat)).trans (Fr.set w4 v4 v4 8 v4 rfl), ⟨_, (k 8).trans h1.c8⟩, (gr_frozen hg h1.lt hne 8).trans (h1.fz 8)⟩
  rw [List.length_append, List.length_singleton, ← stC_snoc]
  refine ho.kept hg2 ?_
  cases hv : v4.ownBlock with
  | none => exact .inl rfl
  | some g =>
    right
    intro e
    have := (ho.lt g hv).1
    injection e with e
    omega
/-- What a look at an item answers. -/
def NmP (p : Pk) (pc : List Value) (cb s : Nat) (sv : Value) (r : Sn × Nat) (W : World) (e : Ending) (W' : World) : Prop := e = .returned (.int .i64 (r.2 : Int)) ∧ ∃ sv', CkS p pc cb s W' r.1 sv' ∧ Fr cb W sv W' sv'
theorem infoStr : (Tryz.prog.info? 9).map (fun i => (i.zero, i.size, i.bytes)) = some (some (.string ⟨#[]⟩), 1, 16) := by kernel_rfl
set_option maxRecDepth 20000 in
set_option maxHeartbeats 1000000 in
theorem name_any (p : Pk) (pc : List Value) (cb s : Nat) (nm : List UInt8) (W : World) (seen : Sn) (sv : Value) (h : CkS p pc cb s W seen sv) (hl : seen.length ≤ 1000000) : Calls Tryz.prog 100 #[.pointer (some ⟨cb, 0, none⟩), .string ⟨nm.toArray⟩] W (NmP p pc cb s sv (seen ++ [nm], nwN nm seen) W) := by
  obtain ⟨a, c, rfl, hR⟩ := st_row h.own
  have hnn := newName_any nm seen a c W hR (by omega)
  obtain ⟨i0, hi1, hz0, hz1, hz2⟩ := info_parts infoStr
  obtain ⟨r, hr⟩ : ∃ r, nwN nm seen = r := ⟨_, rfl⟩
  rw [hr] at hnn ⊢
  have hl' : seen.length + 1 ≤ maxLen := by unfold maxLen; omega
  have hC : Hid (∀ w1, Below W.heap.size W w1 → CkS p pc cb s w1 seen (.slice a seen.length c) ∧ w1.cell? ⟨cb, 8, none⟩ = some (.slice a seen.length c) ∧ (w1.alloc (.cells #[.string ⟨nm.toArray⟩] 9)).ownsRow (cb + 1) 9 1 (.slice a seen.length c) seen.length (stC seen) ∧ cb + 1 ≤ (w1.alloc (.cells #[.string ⟨nm.toArray⟩] 9)).heap.size) := ⟨fun w1 hb => by
    have h1 := h.bel hb
    exact ⟨h1, h1.c8, h1.own.alloc _, by have := h1.lt; simp; omega⟩⟩
  have q8 := h.c8
  have hlt := h.lt
  clear hR hr
  go_enter Tryz.func100, Tryz.ntmps100
  go_wp2_with (first | (go_at_call 101; refine hnn.mono ?_; clear hnn; rintro e w1 ⟨rfl, hb1⟩; obtain ⟨hk1, q1, qo, qb⟩ := hC.out w1 hb1) | (at_builtin; refine wpList_append_own_at _ rfl _ _ 64 rfl (cb + 1) 9 i0 (.string ⟨#[]⟩) 1 16 Tryz.underlying64 hi1 hz0 hz1 hz2 rfl (by decide) _ _ _ rfl qo ⟨w1.heap.size, 0, none⟩ 1 1 [.string ⟨nm.toArray⟩] rfl rfl (cell_one_new _ _ _) (by simp [Value.oneCell']) hl' (by omega) qb ?_; intro v4 w4 hown4 hgrow4 _ hat4; obtain ⟨hk4, hF4, ⟨u4, hu4⟩, hz4⟩ := hk1.push hgrow4 hown4 hat4; obtain ⟨p4, cap4, rfl, -⟩ := st_row (l := seen ++ [nm]) (by rw [List.length_append, List.length_singleton, ← stC_snoc]; exact hown4)))
  have hls : (seen ++ [nm]).length = seen.length + 1 := by rw [List.length_append, List.length_singleton]
  rw [hls] at hk4 hF4
  go_ret
  exact ⟨rfl, _, hk4, (Fr.bel hb1 _).trans hF4⟩
end Go.Proofs.YthnmjafoplfikaaGreatDoor


namespace Go.Proofs.YthnmjafoplfikaaGreatDoor
open Go.RowKit

theorem CkS.cells {p : Pk} {a3 a4 a5 a6 a7 : Option Addr} {c3 c4 c5 c6 c7 : Nat} {cb s : Nat} {W : World} {seen : Sn} {sv : Value} (h : CkS p (scP p a3 a4 a5 a6 a7 c3 c4 c5 c6 c7) cb s W seen sv) : W.cell? ⟨cb, 0, none⟩ = some (.string ⟨p.name.toArray⟩) ∧ W.cell? ⟨cb, 1, none⟩ = some (.int .i64 p.year) ∧ W.cell? ⟨cb, 2, none⟩ = some (.slice a3 p.opts.length c3) ∧ W.cell? ⟨cb, 3, none⟩ = some (.slice a4 p.tabs.length c4) ∧ W.cell? ⟨cb, 4, none⟩ = some (.slice a5 p.grps.length c5) ∧ W.cell? ⟨cb, 5, none⟩ = some (.slice a6 p.lns.length c6) ∧ W.cell? ⟨cb, 6, none⟩ = some (.slice a7 p.cks.length c7) := ⟨h.ce 0 (by decide), h.ce 1 (by decide), h.ce 2 (by decide), h.ce 3 (by decide), h.ce 4 (by decide), h.ce 5 (by decide), h.ce 6 (by decide)⟩
set_option maxRecDepth 20000 in
set_option maxHeartbeats 1000000 in
theorem inGroup_any (p : Pk) (a3 a4 a5 a6 a7 : Option Addr) (c3 c4 c5 c6 c7 : Nat) (cb s : Nat) (g : Int) (W : World) (seen : Sn) (sv : Value) (h : CkS p (scP p a3 a4 a5 a6 a7 c3 c4 c5 c6 c7) cb s W seen sv) : Calls Tryz.prog 111 #[.pointer (some ⟨cb, 0, none⟩), .int .i64 g] W (Lk (.bool (inG p g)) W) := by
  obtain ⟨q0, q1, q2, q3, q4, q5, q6⟩ := h.cells
  have hhas := has_grp a5 p.grps.length c5 g W
  by_cases hg : g = -1
  · have hr : inG p g = true := by unfold inG; rw [decide_eq_true hg]; rfl
    rw [hr]
    subst hg
    clear h hhas
    go_enter Tryz.func111, Tryz.ntmps111
    go_wp2
    go_ret
    exact ⟨rfl, Below.refl _ _⟩
  · have hr : inG p g = (decide (0 ≤ g) && decide (g < p.grps.length)) := by unfold inG; rw [decide_eq_false hg]; rfl
    rw [← hr] at hhas
    generalize inG p g = r at hhas
    have hg' : (g == -1) = false := beq_eq_false_iff_ne.2 hg
    clear hr h
    go_enter Tryz.func111, Tryz.ntmps111
    go_wp2_with (go_at_call 70; refine hhas.mono ?_; clear hhas; rintro e w1 ⟨rfl, hb1⟩)
    go_ret
    exact ⟨rfl, hb1⟩
set_option maxRecDepth 20000 in
set_option maxHeartbeats 1000000 in
theorem isTyped_any (p : Pk) (a3 a4 a5 a6 a7 : Option Addr) (c3 c4 c5 c6 c7 : Nat) (cb s : Nat) (l : Ln) (al : Option Addr) (cl : Nat) (W : World) (seen : Sn) (sv : Value) (h : CkS p (scP p a3 a4 a5 a6 a7 c3 c4 c5 c6 c7) cb s W seen sv) : Calls Tryz.prog 127 #[.pointer (some ⟨cb, 0, none⟩), .agg #[.string ⟨l.name.toArray⟩, .bool l.input, .bool l.must, .int .i64 l.type, .int .i64 l.opts, .int .i64 l.group, .slice al l.cls.length cl]] W (Lk (.bool (tyB p l)) W) := by
  have hb := h.lt
  obtain ⟨name, input, must, type, opts, group, cls⟩ := l
  simp only
  have hty : tyB p ⟨name, input, must, type, opts, group, cls⟩ = (if type = 5 then decide (0 ≤ opts) && decide (opts < p.opts.length) else isK type && decide (opts = -1)) := rfl
  rw [hty]
  clear hty
  have hB1 : Below W.heap.size W (W.alloc (.cells #[.string ⟨name.toArray⟩, .bool input, .bool must, .int .i64 type, .int .i64 opts, .int .i64 group, .slice al cls.length cl] 78)) := (Below.refl _ _).alloc (Nat.le_refl _) _
  by_cases ht : type = 5
  · rw [if_pos ht]
    subst ht
    obtain ⟨W1, hW1⟩ : ∃ W1, W1 = W.alloc (.cells #[.string ⟨name.toArray⟩, .bool input, .bool must, .int .i64 5, .int .i64 opts, .int .i64 group, .slice al cls.length cl] 78) := ⟨_, rfl⟩
    have hq : Bx W1 W.heap.size [.string ⟨name.toArray⟩, .bool input, .bool must, .int .i64 5, .int .i64 opts, .int .i64 group, .slice al cls.length cl] := by rw [hW1]; exact bx_new _ _ _
    rw [← hW1] at hB1
    have hk1 := h.bel hB1
    have hS : Hid (∀ Y, Below W1.heap.size W1 Y → Y.cell? ⟨cb, 2, none⟩ = some (.slice a3 p.opts.length c3) ∧ Y.cell? ⟨W.heap.size, 4, none⟩ = some (.int .i64 opts)) := ⟨fun Y hY => ⟨(hk1.bel hY).ce 2 (by decide), (hq.bel hY hq.1).2.1 4 (by simp)⟩⟩
    have hbd : Below W1.heap.size W1 W1.drew := (Below.refl _ _).drew
    have hS0 := hS.out _ hbd
    have q3 := hq.2.1 3 (by simp)
    have hhas := has_opt a3 p.opts.length c3 opts W1.drew
    generalize (decide (0 ≤ opts) && decide (opts < p.opts.length)) = r at hhas ⊢
    have hW1H := Hid.mk hW1
    clear hW1 hq hk1 h
    go_enter Tryz.func127, Tryz.ntmps127
    go_wp2_with fail
    rw [← hW1H.out]
    go_region_held3 (fun Y => Y.cell? ⟨cb, 2, none⟩ = some (.slice a3 p.opts.length c3) ∧ Y.cell? ⟨W.heap.size, 4, none⟩ = some (.int .i64 opts)) (assumption)
      (first | (go_at_call 25; refine hhas.mono ?_; clear hhas; rintro e w2 ⟨rfl, hb2⟩; have hS2 := hS.out w2 (bthr hbd hb2 (Nat.le_refl _))))
    have hb3 := bthr hB1 (bthr hbd hb2 (Nat.le_refl _)) (Nat.le_refl _)
    go_wp2
    go_ret
    exact ⟨rfl, hb3⟩
  · rw [if_neg ht]
    have ht' : (type == 5) = false := beq_eq_false_iff_ne.2 ht
    have hik := isKind_any type
    clear h
    cases hk : isK type with
    | false =>
      rw [hk] at hik
      go_enter Tryz.func127, Tryz.ntmps127
      go_wp2_with (go_at_call 28; refine (hik _).mono ?_; rintro e w2 ⟨rfl, rfl⟩)
      go_ret
      exact ⟨rfl, hB1⟩
    | true =>
      rw [hk] at hik
      clear hk
      have hR : Lk (.bool (true && decide (opts = -1))) W (.returned (.bool (opts == -1))) (W.alloc (.cells #[.string ⟨name.toArray⟩, .bool input, .bool must, .int .i64 type, .int .i64 opts, .int .i64 group, .slice al cls.length cl] 78)) := ⟨by rw [Bool.true_and]; rfl, hB1⟩
      go_enter Tryz.func127, Tryz.ntmps127
      go_wp2_with (go_at_call 28; refine (hik _).mono ?_; rintro e w2 ⟨rfl, rfl⟩)
      go_ret
      exact hR
end Go.Proofs.YthnmjafoplfikaaGreatDoor


namespace Go.Proofs.YthnmjafoplfikaaGreatDoor
open Go.RowKit

set_option maxRecDepth 20000 in
set_option maxHeartbeats 2000000 in
theorem chk1_any (p : Pk) (a3 a4 a5 a6 a7 : Option Addr) (c3 c4 c5 c6 c7 : Nat) (cb s xb : Nat) (k : Ck) (an : Option Addr) (cn : Nat) (W : World) (seen : Sn) (sv : Value) (h : CkS p (scP p a3 a4 a5 a6 a7 c3 c4 c5 c6 c7) cb s W seen sv) (hl : seen.length ≤ 1000000) (hx : W.cell? ⟨xb, 0, none⟩ = some (.pointer (some ⟨cb, 0, none⟩))) (hxn : xb ≠ cb) (hxs : some xb ≠ sv.ownBlock) : Calls Tryz.prog 110 #[.agg #[.string ⟨k.name.toArray⟩, .bool k.hard, .int .i64 k.group, .int .i64 k.when_.op, .int .i64 k.when_.num, .int .i64 k.when_.den, .int .i64 k.when_.mode, .slice an k.when_.args.len cn, .string ⟨k.text.toArray⟩], .pointer (some ⟨xb, 0, none⟩)] W (NmP p (scP p a3 a4 a5 a6 a7 c3 c4 c5 c6 c7) cb s sv (ckF p k seen) W) := by
  obtain ⟨W1, hW1⟩ : ∃ W1, W1 = W.alloc (.cells #[.string ⟨k.name.toArray⟩, .bool k.hard, .int .i64 k.group, .int .i64 k.when_.op, .int .i64 k.when_.num, .int .i64 k.when_.den, .int .i64 k.when_.mode, .slice an k.when_.args.len cn, .string ⟨k.text.toArray⟩] 75) := ⟨_, rfl⟩
  have hB1 : Below W.heap.size W W1 := by rw [hW1]; exact (Below.refl _ _).alloc (Nat.le_refl _) _
  have hbx : Bx W1 W.heap.size [.string ⟨k.name.toArray⟩, .bool k.hard, .int .i64 k.group, .int .i64 k.when_.op, .int .i64 k.when_.num, .int .i64 k.when_.den, .int .i64 k.when_.mode, .slice an k.when_.args.len cn, .string ⟨k.text.toArray⟩] := by rw [hW1]; exact bx_new _ _ _
  have hk1 := h.bel hB1
  have hxl := World.block_lt_of_cell? _ _ hx
  have x1 := (bel_cell hB1 hxl 0).trans hx
  have b0 := hbx.2.1 0 (by simp)
  have hnm := name_any p (scP p a3 a4 a5 a6 a7 c3 c4 c5 c6 c7) cb s k.name W1 seen sv hk1 hl
  have hcb := h.lt
  have hne1 : W.heap.size ≠ cb := by omega
  have hne2 : some W.heap.size ≠ sv.ownBlock := fun e => by
    have := (h.pg _ e.symm).2
    omega
  have hrf : ckF p k seen = (seen ++ [k.name], (ckF p k seen).2) := rfl
  obtain ⟨r, hr⟩ : ∃ r, (ckF p k seen).2 = r := ⟨_, rfl⟩
  rw [hr] at hrf
  rw [hrf]
  clear hrf
  have hra : ∀ n0 : Nat, nwN k.name seen = n0 → r = (match n0 with
    | 0 => if inG p k.group then (if txB k.text then 0 else 61) else 64
    | e + 1 => e + 1) := by
    rintro _ rfl
    exact hr.symm
  obtain ⟨n0, hn0⟩ : ∃ n0, nwN k.name seen = n0 := ⟨_, rfl⟩
  have hrr := hra n0 hn0
  rw [hn0] at hnm
  clear hra
  have hW1H := Hid.mk hW1
  have hrH := Hid.mk hrr
  have hbxH := Hid.mk hbx
  clear hW1 hr hn0 hrr hbx
  go_enter Tryz.func110, Tryz.ntmps110
  go_wp2_with fail
  rw [← hW1H.out]
  clear hW1H
  cases n0 with
  | succ n1 =>
    have hr1 := hrH.out
    simp only at hr1
    subst hr1
    have hs1 : (((n1 + 1 : Nat) : Int) != 0) = true := by simp; omega
    go_wp2_with (go_at_call 100; refine hnm.mono ?_; clear hnm; rintro e w2 ⟨rfl, sv2, hk2, hF2⟩; have hff : NmP p (scP p a3 a4 a5 a6 a7 c3 c4 c5 c6 c7) cb s sv (seen ++ [k.name], n1 + 1) W (.returned (.int .i64 ((n1 + 1 : Nat) : Int))) w2 := ⟨rfl, sv2, hk2, (Fr.bel hB1 _).trans hF2⟩)
    go_ret
    exact hff
  | zero =>
    have hr1 := hrH.out
    simp only at hr1
    have hr1H := Hid.mk hr1
    clear hr1 hrH
    have hIn : Hid (∀ w2 sv2, CkS p (scP p a3 a4 a5 a6 a7 c3 c4 c5 c6 c7) cb s w2 (seen ++ [k.name]) sv2 → Calls Tryz.prog 111 #[.pointer (some ⟨cb, 0, none⟩), .int .i64 k.group] w2 (Lk (.bool (inG p k.group)) w2)) := ⟨fun w2 sv2 hk2 => inGroup_any p a3 a4 a5 a6 a7 c3 c4 c5 c6 c7 cb s k.group w2 _ sv2 hk2⟩
    have hTx : Hid (∀ w3, Calls Tryz.prog 112 #[.string ⟨k.text.toArray⟩] w3 (Lk (.bool (txB k.text)) w3)) := ⟨fun w3 => isText_any k.text w3⟩
    have hr2 := hr1H.out
    obtain ⟨gb, hgb⟩ : ∃ gb, inG p k.group = gb := ⟨_, rfl⟩
    obtain ⟨tb, htb⟩ : ∃ tb, txB k.text = tb := ⟨_, rfl⟩
    rw [hgb] at hIn hr2
    rw [htb] at hTx hr2
    clear hgb htb hr1H
    cases gb with
    | false =>
      simp only [Bool.false_eq_true, if_false] at hr2
      have hr2H := Hid.mk hr2
      clear hr2
      go_wp2_with (first | (go_at_call 100; refine hnm.mono ?_; clear hnm; rintro e w2 ⟨rfl, sv2, hk2, hF2⟩; have hbx2 := hF2.box hbxH.out hne1 hne2; have b2 := hbx2.2.1 2 (by simp); have x2 := (World.cell?_of_block (a := ⟨xb, 0, none⟩) (hF2.blk xb (Nat.lt_of_lt_of_le hxl hB1.size) hxn hxs)).trans x1; have hfin : Hid (∀ w3, Below w2.heap.size w2 w3 → NmP p (scP p a3 a4 a5 a6 a7 c3 c4 c5 c6 c7) cb s sv (seen ++ [k.name], r) W (.returned (.int .i64 (r : Int))) w3) := ⟨fun w3 h3 => ⟨rfl, sv2, hk2.bel h3, ((Fr.bel hB1 _).trans hF2).trans (Fr.bel h3 _)⟩⟩) | (go_at_call 111; refine (hIn.out w2 sv2 hk2).mono ?_; rintro e w3 ⟨rfl, hb3⟩; skip))
      have hff := hfin.out w3 hb3
      rw [hr2H.out] at hff ⊢
      go_ret
      exact hff
    | true =>
      simp only [if_true] at hr2
      cases tb with
      | false =>
        simp only [Bool.false_eq_true, if_false] at hr2
        have hr2H := Hid.mk hr2
        clear hr2
        go_wp2_with (first | (go_at_call 100; refine hnm.mono ?_; clear hnm; rintro e w2 ⟨rfl, sv2, hk2, hF2⟩; have hbx2 := hF2.box hbxH.out hne1 hne2; have b2 := hbx2.2.1 2 (by simp); have x2 := (World.cell?_of_block (a := ⟨xb, 0, none⟩) (hF2.blk xb (Nat.lt_of_lt_of_le hxl hB1.size) hxn hxs)).trans x1; have hfin : Hid (∀ w3, Below w2.heap.size w2 w3 → NmP p (scP p a3 a4 a5 a6 a7 c3 c4 c5 c6 c7) cb s sv (seen ++ [k.name], r) W (.returned (.int .i64 (r : Int))) w3) := ⟨fun w3 h3 => ⟨rfl, sv2, hk2.bel h3, ((Fr.bel hB1 _).trans hF2).trans (Fr.bel h3 _)⟩⟩) | (go_at_call 111; refine (hIn.out w2 sv2 hk2).mono ?_; rintro e w3 ⟨rfl, hb3⟩; have b9 := (hbx2.bel hb3 hbx2.1).2.1 8 (by simp)) | (go_at_call 112; refine (hTx.out w3).mono ?_; rintro e w4 ⟨rfl, hb4⟩))
        have hff := hfin.out w4 (bthr hb3 hb4 (Nat.le_refl _))
        rw [hr2H.out] at hff ⊢
        go_ret
        exact hff
      | true =>
        simp only [if_true] at hr2
        have hr2H := Hid.mk hr2
        clear hr2
        go_wp2_with (first | (go_at_call 100; refine hnm.mono ?_; clear hnm; rintro e w2 ⟨rfl, sv2, hk2, hF2⟩; have hbx2 := hF2.box hbxH.out hne1 hne2; have b2 := hbx2.2.1 2 (by simp); have x2 := (World.cell?_of_block (a := ⟨xb, 0, none⟩) (hF2.blk xb (Nat.lt_of_lt_of_le hxl hB1.size) hxn hxs)).trans x1; have hfin : Hid (∀ w3, Below w2.heap.size w2 w3 → NmP p (scP p a3 a4 a5 a6 a7 c3 c4 c5 c6 c7) cb s sv (seen ++ [k.name], r) W (.returned (.int .i64 (r : Int))) w3) := ⟨fun w3 h3 => ⟨rfl, sv2, hk2.bel h3, ((Fr.bel hB1 _).trans hF2).trans (Fr.bel h3 _)⟩⟩) | (go_at_call 111; refine (hIn.out w2 sv2 hk2).mono ?_; rintro e w3 ⟨rfl, hb3⟩; have b9 := (hbx2.bel hb3 hbx2.1).2.1 8 (by simp)) | (go_at_call 112; refine (hTx.out w3).mono ?_; rintro e w4 ⟨rfl, hb4⟩))
        have hff := hfin.out w4 (bthr hb3 hb4 (Nat.le_refl _))
        rw [hr2H.out] at hff ⊢
        go_ret
        exact hff
end Go.Proofs.YthnmjafoplfikaaGreatDoor


namespace Go.Proofs.YthnmjafoplfikaaGreatDoor
open Go.RowKit

theorem rs_step (l : List (Int × Int)) {i : Nat} (h : i < l.length) : rsF l (l.drop i) i = (bdB l i l[i] && rsF l (l.drop (i + 1)) (i + 1)) := by
  rw [List.drop_eq_getElem_cons h]
  rfl
set_option maxRecDepth 20000 in
set_option maxHeartbeats 2000000 in
theorem rising_any (l : List (Int × Int)) (a : Option Addr) (c : Nat) (W : World) (hR : RowR eBd W AnyB l a) (hl : l.length ≤ 1000000) : Calls Tryz.prog 104 #[.slice a l.length c] W (Lk (.bool (rsF l l 0)) W) := by
  obtain ⟨R, hRe⟩ : ∃ R, R = rsF l l 0 := ⟨_, rfl⟩
  rw [← hRe]
  have hst : Hid (rsF l (l.drop 0) 0 = R) := ⟨by rw [hRe]; rfl⟩
  clear hRe
  go_enter Tryz.func104, Tryz.ntmps104
  go_wp2
  go_loopw [7] (fun iv wr => ∃ i : Nat, iv = .int .i64 (i : Int) ∧ i ≤ l.length ∧ Below W.heap.size W wr ∧ Hid (rsF l (l.drop i) i = R)) (fun iv _ => l.length - (intOf iv).toNat)
  case atStart => exact ⟨0, rfl, Nat.zero_le _, Below.refl _ _, hst⟩
  case round =>
    obtain ⟨i, rfl, hi, hBr, hinv⟩ := hrel
    by_cases hlt : i < l.length
    · have hlt' : (i : Int) < (l.length : Int) := by omega
      have hi0 : (0 : Int) ≤ (i : Int) := by omega
      have hRr := row_bel hR hBr (Nat.le_refl _)
      obtain ⟨ge, oe, rfl⟩ := hRr.some hlt
      obtain ⟨cs, -, -, ⟨rfl, -⟩, hcs⟩ := hRr.item hlt
      have k0 : wr.cell? ⟨ge, oe + i * 2, none⟩ = some (.int .i64 (l[i]).1) := hcs 0 (by decide)
      have k1 : wr.cell? ⟨ge, oe + i * 2 + 1, none⟩ = some (.int .i64 (l[i]).2) := hcs 1 (by decide)
      have hinv2 := hinv.out
      rw [rs_step l hlt] at hinv2
      have hBa : ∀ y : Int × Int, Below W.heap.size W (wr.alloc (.cells #[.int .i64 y.1, .int .i64 y.2] 121)) := fun y => hBr.alloc hBr.size _
      have hbd : bdB l i l[i] = ((if i = 0 then decide ((l[i]).1 = 0) else decide ((l.getD (i - 1) (0, 0)).1 < (l[i]).1)) && decide ((l[i]).1 ≤ 9999999999999) && decide (0 ≤ (l[i]).2) && decide ((l[i]).2 ≤ 1000000)) := rfl
      by_cases h0 : i = 0
      · rw [if_pos h0] at hbd
        subst h0
        have m0 : wr.cell? ⟨ge, oe, none⟩ = some (.int .i64 (l[0]).1) := by simpa using k0
        have m1 : wr.cell? ⟨ge, oe + 1, none⟩ = some (.int .i64 (l[0]).2) := by simpa using k1
        clear k0 k1
        generalize l[0] = y at m0 m1 hinv2 hbd
        have hb := hbd
        clear hbd hcs hRr
        by_cases hz : y.1 = 0
        rotate_left
        · have hz' : (y.1 != 0) = true := by simp; exact hz
          have hf : R = false := by
            rw [← hinv2, hb, decide_eq_false hz]
            simp
          subst hf
          clear hinv2 hb hinv hz
          go_wp2
          go_quiet (fail)
          have hb4 : Below (wr.alloc (.cells #[.int .i64 y.1, .int .i64 y.2] 121)).heap.size (wr.alloc (.cells #[.int .i64 y.1, .int .i64 y.2] 121)) (World.drewN (wr.alloc (.cells #[.int .i64 y.1, .int .i64 y.2] 121)) nq) := bel_drewN _ _ _
          have hx4 := (bx_new wr #[.int .i64 y.1, .int .i64 y.2] 121).bel hb4 (bx_new wr #[.int .i64 y.1, .int .i64 y.2] 121).1
          have hBx := bthr (hBa y) hb4 (Nat.le_refl _)
          obtain ⟨X4, hX4⟩ : ∃ X4, X4 = World.drewN (wr.alloc (.cells #[.int .i64 y.1, .int .i64 y.2] 121)) nq := ⟨_, rfl⟩
          rw [← hX4] at hx4 hBx ⊢
          clear hX4 hb4
          have f1 := hx4.2.1 1 (by simp)
          go_wp2
          go_ret
          exact ⟨rfl, hBx⟩
        have hz' : (y.1 != 0) = false := by simp; exact hz
        have hM : y.1 ≤ 9999999999999 := by omega
        have hM' : ¬ (9999999999999 : Int) < y.1 := by omega
        have hzd : decide (y.1 = 0) = true := decide_eq_true hz
        have hzH := Hid.mk hzd
        clear hz hzd
        by_cases r1 : 0 ≤ y.2
        rotate_left
        · have r1' : y.2 < 0 := by omega
          have hf : R = false := by
            rw [← hinv2, hb, decide_eq_false r1]
            simp
          subst hf
          clear hinv2 hb hinv
          go_wp2
          go_quiet (fail)
          have hb4 : Below (wr.alloc (.cells #[.int .i64 y.1, .int .i64 y.2] 121)).heap.size (wr.alloc (.cells #[.int .i64 y.1, .int .i64 y.2] 121)) (World.drewN (wr.alloc (.cells #[.int .i64 y.1, .int .i64 y.2] 121)) nq) := bel_drewN _ _ _
          have hx4 := (bx_new wr #[.int .i64 y.1, .int .i64 y.2] 121).bel hb4 (bx_new wr #[.int .i64 y.1, .int .i64 y.2] 121).1
          have hBx := bthr (hBa y) hb4 (Nat.le_refl _)
          obtain ⟨X4, hX4⟩ : ∃ X4, X4 = World.drewN (wr.alloc (.cells #[.int .i64 y.1, .int .i64 y.2] 121)) nq := ⟨_, rfl⟩
          rw [← hX4] at hx4 hBx ⊢
          clear hX4 hb4
          have f1 := hx4.2.1 1 (by simp)
          go_wp2
          go_ret
          exact ⟨rfl, hBx⟩
        have r1' : ¬ y.2 < 0 := by omega
        by_cases r2 : y.2 ≤ 1000000
        rotate_left
        · have r2' : 1000000 < y.2 := by omega
          have hf : R = false := by
            rw [← hinv2, hb, decide_eq_false r2]
            simp
          subst hf
          clear hinv2 hb hinv
          go_wp2
          go_quiet (fail)
          have hb4 : Below (wr.alloc (.cells #[.int .i64 y.1, .int .i64 y.2] 121)).heap.size (wr.alloc (.cells #[.int .i64 y.1, .int .i64 y.2] 121)) (World.drewN (wr.alloc (.cells #[.int .i64 y.1, .int .i64 y.2] 121)) nq) := bel_drewN _ _ _
          have hx4 := (bx_new wr #[.int .i64 y.1, .int .i64 y.2] 121).bel hb4 (bx_new wr #[.int .i64 y.1, .int .i64 y.2] 121).1
          have hBx := bthr (hBa y) hb4 (Nat.le_refl _)
          obtain ⟨X4, hX4⟩ : ∃ X4, X4 = World.drewN (wr.alloc (.cells #[.int .i64 y.1, .int .i64 y.2] 121)) nq := ⟨_, rfl⟩
          rw [← hX4] at hx4 hBx ⊢
          clear hX4 hb4
          have f1 := hx4.2.1 1 (by simp)
          go_wp2
          go_ret
          exact ⟨rfl, hBx⟩
        have r2' : ¬ 1000000 < y.2 := by omega
        have hok : Hid (rsF l (l.drop (0 + 1)) (0 + 1) = R) := ⟨by
          rw [← hinv2, hb, hzH.out, decide_eq_true hM, decide_eq_true r1, decide_eq_true r2]
          rfl⟩
        clear hinv2 hb hinv
        go_wp2
        go_quiet (fail)
        have hb4 : Below (wr.alloc (.cells #[.int .i64 y.1, .int .i64 y.2] 121)).heap.size (wr.alloc (.cells #[.int .i64 y.1, .int .i64 y.2] 121)) (World.drewN (wr.alloc (.cells #[.int .i64 y.1, .int .i64 y.2] 121)) nq) := bel_drewN _ _ _
        have hx4 := (bx_new wr #[.int .i64 y.1, .int .i64 y.2] 121).bel hb4 (bx_new wr #[.int .i64 y.1, .int .i64 y.2] 121).1
        have hBx := bthr (hBa y) hb4 (Nat.le_refl _)
        obtain ⟨X4, hX4⟩ : ∃ X4, X4 = World.drewN (wr.alloc (.cells #[.int .i64 y.1, .int .i64 y.2] 121)) nq := ⟨_, rfl⟩
        rw [← hX4] at hx4 hBx ⊢
        clear hX4 hb4
        have f1 := hx4.2.1 1 (by simp)
        go_wp2
        exact ⟨⟨0 + 1, rfl, hlt, hBx, hok⟩, by simp only [intOf]; omega⟩
      · have h0' : ((i : Int) == 0) = false := by simp; omega
        have h0'' : ¬ (i : Int) = 0 := by omega
        have h0n : 0 < i := by omega
        obtain ⟨k, hk⟩ : ∃ k, i = k + 1 := ⟨i - 1, by omega⟩
        have hkl : k < l.length := by omega
        have hk1 : (i : Int) - 1 = (k : Int) := by omega
        have hk2 : (0 : Int) ≤ (k : Int) := by omega
        have hk3 : (k : Int) < (l.length : Int) := by omega
        obtain ⟨ds, -, -, ⟨rfl, -⟩, hds⟩ := hRr.item hkl
        have p0 : wr.cell? ⟨ge, oe + k * 2, none⟩ = some (.int .i64 (l[k]).1) := hds 0 (by decide)
        have hgd : l.getD (i - 1) (0, 0) = l[k] := by rw [show i - 1 = k by omega, List.getD_eq_getElem?_getD, List.getElem?_eq_getElem hkl]; rfl
        rw [if_neg h0, hgd] at hbd
        have hpl := World.block_lt_of_cell? _ _ p0
        generalize l[k] = z at p0 hbd
        generalize l[i] = y at k0 k1 hinv2 hbd
        have hb := hbd
        clear hbd hcs hds hRr h0 hgd hk
        by_cases hz : z.1 < y.1
        rotate_left
        · have hz' : y.1 ≤ z.1 := by omega
          have hf : R = false := by
            rw [← hinv2, hb, decide_eq_false hz]
            simp
          subst hf
          clear hinv2 hb hinv hz
          go_wp2
          go_quiet (fail)
          have hb4 : Below (wr.alloc (.cells #[.int .i64 y.1, .int .i64 y.2] 121)).heap.size (wr.alloc (.cells #[.int .i64 y.1, .int .i64 y.2] 121)) (World.drewN (wr.alloc (.cells #[.int .i64 y.1, .int .i64 y.2] 121)) nq) := bel_drewN _ _ _
          have hx4 := (bx_new wr #[.int .i64 y.1, .int .i64 y.2] 121).bel hb4 (bx_new wr #[.int .i64 y.1, .int .i64 y.2] 121).1
          have hBx := bthr (hBa y) hb4 (Nat.le_refl _)
          obtain ⟨X4, hX4⟩ : ∃ X4, X4 = World.drewN (wr.alloc (.cells #[.int .i64 y.1, .int .i64 y.2] 121)) nq := ⟨_, rfl⟩
          rw [← hX4] at hx4 hBx ⊢
          clear hX4 hb4
          have f1 := hx4.2.1 1 (by simp)
          go_wp2
          go_ret
          exact ⟨rfl, hBx⟩
        have hz' : decide (y.1 ≤ z.1) = false := decide_eq_false (by omega)
        by_cases hM : y.1 ≤ 9999999999999
        rotate_left
        · have hM' : (9999999999999 : Int) < y.1 := by omega
          have hf : R = false := by
            rw [← hinv2, hb, decide_eq_false hM]
            simp
          subst hf
          clear hinv2 hb hinv
          go_wp2
          go_quiet (fail)
          have hb4 : Below (wr.alloc (.cells #[.int .i64 y.1, .int .i64 y.2] 121)).heap.size (wr.alloc (.cells #[.int .i64 y.1, .int .i64 y.2] 121)) (World.drewN (wr.alloc (.cells #[.int .i64 y.1, .int .i64 y.2] 121)) nq) := bel_drewN _ _ _
          have hx4 := (bx_new wr #[.int .i64 y.1, .int .i64 y.2] 121).bel hb4 (bx_new wr #[.int .i64 y.1, .int .i64 y.2] 121).1
          have hBx := bthr (hBa y) hb4 (Nat.le_refl _)
          obtain ⟨X4, hX4⟩ : ∃ X4, X4 = World.drewN (wr.alloc (.cells #[.int .i64 y.1, .int .i64 y.2] 121)) nq := ⟨_, rfl⟩
          rw [← hX4] at hx4 hBx ⊢
          clear hX4 hb4
          have f1 := hx4.2.1 1 (by simp)
          go_wp2
          go_ret
          exact ⟨rfl, hBx⟩
        have hM' : ¬ (9999999999999 : Int) < y.1 := by omega
        have hzH := Hid.mk (decide_eq_true hz)
        clear hz
        by_cases r1 : 0 ≤ y.2
        rotate_left
        · have r1' : y.2 < 0 := by omega
          have hf : R = false := by
            rw [← hinv2, hb, decide_eq_false r1]
            simp
          subst hf
          clear hinv2 hb hinv
          go_wp2
          go_quiet (fail)
          have hb4 : Below (wr.alloc (.cells #[.int .i64 y.1, .int .i64 y.2] 121)).heap.size (wr.alloc (.cells #[.int .i64 y.1, .int .i64 y.2] 121)) (World.drewN (wr.alloc (.cells #[.int .i64 y.1, .int .i64 y.2] 121)) nq) := bel_drewN _ _ _
          have hx4 := (bx_new wr #[.int .i64 y.1, .int .i64 y.2] 121).bel hb4 (bx_new wr #[.int .i64 y.1, .int .i64 y.2] 121).1
          have hBx := bthr (hBa y) hb4 (Nat.le_refl _)
          obtain ⟨X4, hX4⟩ : ∃ X4, X4 = World.drewN (wr.alloc (.cells #[.int .i64 y.1, .int .i64 y.2] 121)) nq := ⟨_, rfl⟩
          rw [← hX4] at hx4 hBx ⊢
          clear hX4 hb4
          have f1 := hx4.2.1 1 (by simp)
          go_wp2
          go_ret
          exact ⟨rfl, hBx⟩
        have r1' : ¬ y.2 < 0 := by omega
        by_cases r2 : y.2 ≤ 1000000
        rotate_left
        · have r2' : 1000000 < y.2 := by omega
          have hf : R = false := by
            rw [← hinv2, hb, decide_eq_false r2]
            simp
          subst hf
          clear hinv2 hb hinv
          go_wp2
          go_quiet (fail)
          have hb4 : Below (wr.alloc (.cells #[.int .i64 y.1, .int .i64 y.2] 121)).heap.size (wr.alloc (.cells #[.int .i64 y.1, .int .i64 y.2] 121)) (World.drewN (wr.alloc (.cells #[.int .i64 y.1, .int .i64 y.2] 121)) nq) := bel_drewN _ _ _
          have hx4 := (bx_new wr #[.int .i64 y.1, .int .i64 y.2] 121).bel hb4 (bx_new wr #[.int .i64 y.1, .int .i64 y.2] 121).1
          have hBx := bthr (hBa y) hb4 (Nat.le_refl _)
          obtain ⟨X4, hX4⟩ : ∃ X4, X4 = World.drewN (wr.alloc (.cells #[.int .i64 y.1, .int .i64 y.2] 121)) nq := ⟨_, rfl⟩
          rw [← hX4] at hx4 hBx ⊢
          clear hX4 hb4
          have f1 := hx4.2.1 1 (by simp)
          go_wp2
          go_ret
          exact ⟨rfl, hBx⟩
        have r2' : ¬ 1000000 < y.2 := by omega
        have hok : Hid (rsF l (l.drop (i + 1)) (i + 1) = R) := ⟨by
          rw [← hinv2, hb, hzH.out, decide_eq_true hM, decide_eq_true r1, decide_eq_true r2]
          rfl⟩
        clear hinv2 hb hinv
        go_wp2
        go_quiet (fail)
        have hb4 : Below (wr.alloc (.cells #[.int .i64 y.1, .int .i64 y.2] 121)).heap.size (wr.alloc (.cells #[.int .i64 y.1, .int .i64 y.2] 121)) (World.drewN (wr.alloc (.cells #[.int .i64 y.1, .int .i64 y.2] 121)) nq) := bel_drewN _ _ _
        have hx4 := (bx_new wr #[.int .i64 y.1, .int .i64 y.2] 121).bel hb4 (bx_new wr #[.int .i64 y.1, .int .i64 y.2] 121).1
        have hBx := bthr (hBa y) hb4 (Nat.le_refl _)
        obtain ⟨X4, hX4⟩ : ∃ X4, X4 = World.drewN (wr.alloc (.cells #[.int .i64 y.1, .int .i64 y.2] 121)) nq := ⟨_, rfl⟩
        rw [← hX4] at hx4 hBx ⊢
        clear hX4 hb4
        have f1 := hx4.2.1 1 (by simp)
        go_wp2
        exact ⟨⟨i + 1, rfl, hlt, hBx, hok⟩, by simp only [intOf]; omega⟩
    · have hlt' : ¬ (i : Int) < (l.length : Int) := by omega
      have hf : R = true := by
        have := hinv.out
        rw [List.drop_eq_nil_of_le (by omega)] at this
        exact this.symm
      subst hf
      clear hinv
      go_wp2
      go_ret
      exact ⟨rfl, hBr⟩
end Go.Proofs.YthnmjafoplfikaaGreatDoor


namespace Go.Proofs.YthnmjafoplfikaaGreatDoor
open Go.RowKit

set_option maxRecDepth 20000 in
set_option maxHeartbeats 2000000 in
theorem tab1_any (p : Pk) (pc : List Value) (cb s xb : Nat) (nm : List UInt8) (ns : List (Int × Int)) (an : Option Addr) (cn : Nat) (W : World) (seen : Sn) (sv : Value) (h : CkS p pc cb s W seen sv) (hl : seen.length ≤ 1000000) (hx : W.cell? ⟨xb, 0, none⟩ = some (.pointer (some ⟨cb, 0, none⟩))) (hR : RowR eBd W (fun b => b < cb) ns an) : Calls Tryz.prog 103 #[.agg #[.string ⟨nm.toArray⟩, .slice an ns.length cn], .pointer (some ⟨xb, 0, none⟩)] W (NmP p pc cb s sv (tbF (nm, ns) seen) W) := by
  obtain ⟨W1, hW1⟩ : ∃ W1, W1 = W.alloc (.cells #[.string ⟨nm.toArray⟩, .slice an ns.length cn] 69) := ⟨_, rfl⟩
  have hB1 : Below W.heap.size W W1 := by rw [hW1]; exact (Below.refl _ _).alloc (Nat.le_refl _) _
  have hbx : Bx W1 W.heap.size [.string ⟨nm.toArray⟩, .slice an ns.length cn] := by rw [hW1]; exact bx_new _ _ _
  have hk1 := h.bel hB1
  have hxl := World.block_lt_of_cell? _ _ hx
  have x1 := (bel_cell hB1 hxl 0).trans hx
  have b0 := hbx.2.1 0 (by simp)
  have hnm := name_any p pc cb s nm W1 seen sv hk1 hl
  have hcb := h.lt
  have hne1 : W.heap.size ≠ cb := by omega
  have hne2 : some W.heap.size ≠ sv.ownBlock := fun e => by
    have := (h.pg _ e.symm).2
    omega
  have hrf : tbF (nm, ns) seen = (seen ++ [nm], (tbF (nm, ns) seen).2) := rfl
  obtain ⟨r, hr⟩ : ∃ r, (tbF (nm, ns) seen).2 = r := ⟨_, rfl⟩
  rw [hr] at hrf
  rw [hrf]
  clear hrf
  have hra : ∀ n0 : Nat, nwN nm seen = n0 → r = (match n0 with
    | 0 => if ns.length < 1 ∨ 8 < ns.length then 60 else if rsF ns ns 0 then 0 else 63
    | e + 1 => e + 1) := by
    rintro _ rfl
    exact hr.symm
  obtain ⟨n0, hn0⟩ : ∃ n0, nwN nm seen = n0 := ⟨_, rfl⟩
  have hrr := hra n0 hn0
  rw [hn0] at hnm
  clear hra
  have hW1H := Hid.mk hW1
  have hrH := Hid.mk hrr
  have hbxH := Hid.mk hbx
  clear hW1 hr hn0 hrr hbx
  go_enter Tryz.func103, Tryz.ntmps103
  go_wp2_with fail
  rw [← hW1H.out]
  clear hW1H
  cases n0 with
  | succ n1 =>
    have hr1 := hrH.out
    simp only at hr1
    subst hr1
    have hs1 : (((n1 + 1 : Nat) : Int) != 0) = true := by simp; omega
    go_wp2_with (go_at_call 100; refine hnm.mono ?_; clear hnm; rintro e w2 ⟨rfl, sv2, hk2, hF2⟩; have hff : NmP p pc cb s sv (seen ++ [nm], n1 + 1) W (.returned (.int .i64 ((n1 + 1 : Nat) : Int))) w2 := ⟨rfl, sv2, hk2, (Fr.bel hB1 _).trans hF2⟩)
    go_ret
    exact hff
  | zero =>
    have hr1 := hrH.out
    simp only at hr1
    have hr1H := Hid.mk hr1
    clear hr1 hrH
    by_cases hl1 : ns.length < 1
    · have hl1' : (ns.length : Int) < 1 := by omega
      have hr2 := hr1H.out
      rw [if_pos (.inl hl1)] at hr2
      have hr2H := Hid.mk hr2
      clear hr1H hr2
      go_wp2_with (go_at_call 100; refine hnm.mono ?_; clear hnm; rintro e w2 ⟨rfl, sv2, hk2, hF2⟩; have hbx2 := hF2.box hbxH.out hne1 hne2; have b1 := hbx2.2.1 1 (by simp); have hfin : Hid (∀ w3, Below w2.heap.size w2 w3 → NmP p pc cb s sv (seen ++ [nm], r) W (.returned (.int .i64 (r : Int))) w3) := ⟨fun w3 h3 => ⟨rfl, sv2, hk2.bel h3, ((Fr.bel hB1 _).trans hF2).trans (Fr.bel h3 _)⟩⟩)
      have hff := hfin.out w2 (Below.refl _ _)
      rw [hr2H.out] at hff ⊢
      go_ret
      exact hff
    have hl1' : ¬ (ns.length : Int) < 1 := by omega
    by_cases hl2 : 8 < ns.length
    · have hl2' : (8 : Int) < (ns.length : Int) := by omega
      have hr2 := hr1H.out
      rw [if_pos (.inr hl2)] at hr2
      have hr2H := Hid.mk hr2
      clear hr1H hr2
      go_wp2_with (go_at_call 100; refine hnm.mono ?_; clear hnm; rintro e w2 ⟨rfl, sv2, hk2, hF2⟩; have hbx2 := hF2.box hbxH.out hne1 hne2; have b1 := hbx2.2.1 1 (by simp); have hfin : Hid (∀ w3, Below w2.heap.size w2 w3 → NmP p pc cb s sv (seen ++ [nm], r) W (.returned (.int .i64 (r : Int))) w3) := ⟨fun w3 h3 => ⟨rfl, sv2, hk2.bel h3, ((Fr.bel hB1 _).trans hF2).trans (Fr.bel h3 _)⟩⟩)
      have hff := hfin.out w2 (Below.refl _ _)
      rw [hr2H.out] at hff ⊢
      go_ret
      exact hff
    have hl2' : ¬ (8 : Int) < (ns.length : Int) := by omega
    have hr2 := hr1H.out
    rw [if_neg (by omega)] at hr2
    have hRi : Hid (∀ w2 sv2, Fr cb W1 sv w2 sv2 → Calls Tryz.prog 104 #[.slice an ns.length cn] w2 (Lk (.bool (rsF ns ns 0)) w2)) := ⟨fun w2 sv2 hF2 => rising_any ns an cn w2 ((hR.fr (Nat.le_trans hB1.size hF2.size) (fun b hb hlt => (hF2.blk b (Nat.lt_of_lt_of_le hlt hB1.size) (by omega) (fun e => by have := (h.pg b e.symm).1; omega)).trans (hB1.block b hlt))).mo (fun _ _ _ => trivial)) (by omega)⟩
    obtain ⟨rb, hrb⟩ : ∃ rb, rsF ns ns 0 = rb := ⟨_, rfl⟩
    rw [hrb] at hRi hr2
    clear hrb hr1H
    cases rb with
    | true =>
      simp only [if_true] at hr2
      have hr2H := Hid.mk hr2
      clear hr2
      go_wp2_with (first | (go_at_call 100; refine hnm.mono ?_; clear hnm; rintro e w2 ⟨rfl, sv2, hk2, hF2⟩; have hbx2 := hF2.box hbxH.out hne1 hne2; have b1 := hbx2.2.1 1 (by simp); have hfin : Hid (∀ w3, Below w2.heap.size w2 w3 → NmP p pc cb s sv (seen ++ [nm], r) W (.returned (.int .i64 (r : Int))) w3) := ⟨fun w3 h3 => ⟨rfl, sv2, hk2.bel h3, ((Fr.bel hB1 _).trans hF2).trans (Fr.bel h3 _)⟩⟩; have hri := hRi.out w2 sv2 hF2) | (go_at_call 104; refine hri.mono ?_; clear hri; rintro e w3 ⟨rfl, hb3⟩))
      have hff := hfin.out w3 hb3
      rw [hr2H.out] at hff ⊢
      go_ret
      exact hff
    | false =>
      simp only [Bool.false_eq_true, if_false] at hr2
      have hr2H := Hid.mk hr2
      clear hr2
      go_wp2_with (first | (go_at_call 100; refine hnm.mono ?_; clear hnm; rintro e w2 ⟨rfl, sv2, hk2, hF2⟩; have hbx2 := hF2.box hbxH.out hne1 hne2; have b1 := hbx2.2.1 1 (by simp); have hfin : Hid (∀ w3, Below w2.heap.size w2 w3 → NmP p pc cb s sv (seen ++ [nm], r) W (.returned (.int .i64 (r : Int))) w3) := ⟨fun w3 h3 => ⟨rfl, sv2, hk2.bel h3, ((Fr.bel hB1 _).trans hF2).trans (Fr.bel h3 _)⟩⟩; have hri := hRi.out w2 sv2 hF2) | (go_at_call 104; refine hri.mono ?_; clear hri; rintro e w3 ⟨rfl, hb3⟩))
      have hff := hfin.out w3 hb3
      rw [hr2H.out] at hff ⊢
      go_ret
      exact hff
set_option maxRecDepth 20000 in
set_option maxHeartbeats 2000000 in
theorem grp1_any (p : Pk) (pc : List Value) (cb s xb : Nat) (nm : List UInt8) (rr : Int) (W : World) (seen : Sn) (sv : Value) (h : CkS p pc cb s W seen sv) (hl : seen.length ≤ 1000000) (hx : W.cell? ⟨xb, 0, none⟩ = some (.pointer (some ⟨cb, 0, none⟩)))  : Calls Tryz.prog 106 #[.agg #[.string ⟨nm.toArray⟩, .int .i64 rr], .pointer (some ⟨xb, 0, none⟩)] W (NmP p pc cb s sv (gpF (nm, rr) seen) W) := by
  obtain ⟨W1, hW1⟩ : ∃ W1, W1 = W.alloc (.cells #[.string ⟨nm.toArray⟩, .int .i64 rr] 96) := ⟨_, rfl⟩
  have hB1 : Below W.heap.size W W1 := by rw [hW1]; exact (Below.refl _ _).alloc (Nat.le_refl _) _
  have hbx : Bx W1 W.heap.size [.string ⟨nm.toArray⟩, .int .i64 rr] := by rw [hW1]; exact bx_new _ _ _
  have hk1 := h.bel hB1
  have hxl := World.block_lt_of_cell? _ _ hx
  have x1 := (bel_cell hB1 hxl 0).trans hx
  have b0 := hbx.2.1 0 (by simp)
  have hnm := name_any p pc cb s nm W1 seen sv hk1 hl
  have hcb := h.lt
  have hne1 : W.heap.size ≠ cb := by omega
  have hne2 : some W.heap.size ≠ sv.ownBlock := fun e => by
    have := (h.pg _ e.symm).2
    omega
  have hrf : gpF (nm, rr) seen = (seen ++ [nm], (gpF (nm, rr) seen).2) := rfl
  obtain ⟨r, hr⟩ : ∃ r, (gpF (nm, rr) seen).2 = r := ⟨_, rfl⟩
  rw [hr] at hrf
  rw [hrf]
  clear hrf
  have hra : ∀ n0 : Nat, nwN nm seen = n0 → r = (match n0 with
    | 0 => if rr < 1 ∨ 8 < rr then 64 else 0
    | e + 1 => e + 1) := by
    rintro _ rfl
    exact hr.symm
  obtain ⟨n0, hn0⟩ : ∃ n0, nwN nm seen = n0 := ⟨_, rfl⟩
  have hrr := hra n0 hn0
  rw [hn0] at hnm
  clear hra
  have hW1H := Hid.mk hW1
  have hrH := Hid.mk hrr
  have hbxH := Hid.mk hbx
  clear hW1 hr hn0 hrr hbx
  go_enter Tryz.func106, Tryz.ntmps106
  go_wp2_with fail
  rw [← hW1H.out]
  clear hW1H
  cases n0 with
  | succ n1 =>
    have hr1 := hrH.out
    simp only at hr1
    subst hr1
    have hs1 : (((n1 + 1 : Nat) : Int) != 0) = true := by simp; omega
    go_wp2_with (go_at_call 100; refine hnm.mono ?_; clear hnm; rintro e w2 ⟨rfl, sv2, hk2, hF2⟩; have hff : NmP p pc cb s sv (seen ++ [nm], n1 + 1) W (.returned (.int .i64 ((n1 + 1 : Nat) : Int))) w2 := ⟨rfl, sv2, hk2, (Fr.bel hB1 _).trans hF2⟩)
    go_ret
    exact hff
  | zero =>
    have hr1 := hrH.out
    simp only at hr1
    have hr1H := Hid.mk hr1
    clear hr1 hrH
    by_cases hl1 : rr < 1
    · have hr2 := hr1H.out
      rw [if_pos (.inl hl1)] at hr2
      have hr2H := Hid.mk hr2
      clear hr1H hr2
      go_wp2_with (go_at_call 100; refine hnm.mono ?_; clear hnm; rintro e w2 ⟨rfl, sv2, hk2, hF2⟩; have hbx2 := hF2.box hbxH.out hne1 hne2; have b1 := hbx2.2.1 1 (by simp); have hfin : Hid (∀ w3, Below w2.heap.size w2 w3 → NmP p pc cb s sv (seen ++ [nm], r) W (.returned (.int .i64 (r : Int))) w3) := ⟨fun w3 h3 => ⟨rfl, sv2, hk2.bel h3, ((Fr.bel hB1 _).trans hF2).trans (Fr.bel h3 _)⟩⟩)
      have hff := hfin.out w2 (Below.refl _ _)
      rw [hr2H.out] at hff ⊢
      go_ret
      exact hff
    by_cases hl2 : 8 < rr
    · have hr2 := hr1H.out
      rw [if_pos (.inr hl2)] at hr2
      have hr2H := Hid.mk hr2
      clear hr1H hr2
      go_wp2_with (go_at_call 100; refine hnm.mono ?_; clear hnm; rintro e w2 ⟨rfl, sv2, hk2, hF2⟩; have hbx2 := hF2.box hbxH.out hne1 hne2; have b1 := hbx2.2.1 1 (by simp); have hfin : Hid (∀ w3, Below w2.heap.size w2 w3 → NmP p pc cb s sv (seen ++ [nm], r) W (.returned (.int .i64 (r : Int))) w3) := ⟨fun w3 h3 => ⟨rfl, sv2, hk2.bel h3, ((Fr.bel hB1 _).trans hF2).trans (Fr.bel h3 _)⟩⟩)
      have hff := hfin.out w2 (Below.refl _ _)
      rw [hr2H.out] at hff ⊢
      go_ret
      exact hff
    have hr2 := hr1H.out
    rw [if_neg (by omega)] at hr2
    have hr2H := Hid.mk hr2
    clear hr1H hr2
    go_wp2_with (go_at_call 100; refine hnm.mono ?_; clear hnm; rintro e w2 ⟨rfl, sv2, hk2, hF2⟩; have hbx2 := hF2.box hbxH.out hne1 hne2; have b1 := hbx2.2.1 1 (by simp); have hfin : Hid (∀ w3, Below w2.heap.size w2 w3 → NmP p pc cb s sv (seen ++ [nm], r) W (.returned (.int .i64 (r : Int))) w3) := ⟨fun w3 h3 => ⟨rfl, sv2, hk2.bel h3, ((Fr.bel hB1 _).trans hF2).trans (Fr.bel h3 _)⟩⟩)
    have hff := hfin.out w2 (Below.refl _ _)
    rw [hr2H.out] at hff ⊢
    go_ret
    exact hff
end Go.Proofs.YthnmjafoplfikaaGreatDoor

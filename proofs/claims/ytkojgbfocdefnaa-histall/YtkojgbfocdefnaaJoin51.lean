import Derived.Test.YtkojgbfocdefnaaHFn4
import Derived.Test.YtkojgbfocdefnaaRfList
import Derived.Test.YtkojgbfocdefnaaRfEmp
import Derived.Deep.RegionLaw
import Derived.Deep.DeepCutAuto
import Derived.Maps.AppendAt
namespace Go.Proofs.Ytkojgbfocdefnaa
open Go.RowKit

/-- A history of the reference: its block. -/
def RB (W : World) (hb : Nat) (a : Option Addr) (n cap : Nat) (p : Int) : Prop := W.heap[hb]? = some (.cells #[.slice a n cap, .int .i64 p] 67 (0, 0))
/-- Only blocks of S may have changed. -/
structure GrS (S : Nat → Prop) (W W' : World) : Prop where
  os : W'.os = W.os
  tape : W'.tape = W.tape
  output : W'.output = W.output
  size : W.heap.size ≤ W'.heap.size
  block : ∀ k, k < W.heap.size → ¬ S k → W'.heap[k]? = W.heap[k]?
theorem GrS.of_grown {S : Nat → Prop} {W W' : World} {b : Nat} (h : W.grownBy W' (some b)) (hb : S b) : GrS S W W' := ⟨h.os, h.tape, h.output, h.size, fun k hk hn => h.block k hk (fun e => hn (by rw [Option.some.inj e]; exact hb))⟩
theorem GrS.of_below {S : Nat → Prop} {W W' : World} (h : Below W.heap.size W W') : GrS S W W' := ⟨h.os, h.tape, h.output, h.size, fun k hk _ => h.block k hk⟩
theorem GrS.refl (S : Nat → Prop) (W : World) : GrS S W W := .of_below (Below.refl _ _)
theorem GrS.trans {S : Nat → Prop} {W X Y : World} (h : GrS S W X) (h' : GrS S X Y) : GrS S W Y := ⟨h'.os.trans h.os, h'.tape.trans h.tape, h'.output.trans h.output, Nat.le_trans h.size h'.size, fun k hk hn => (h'.block k (Nat.lt_of_lt_of_le hk h.size) hn).trans (h.block k hk hn)⟩
theorem GrS.cell {S : Nat → Prop} {W W' : World} (h : GrS S W W') {b o : Nat} (hl : b < W.heap.size) (hn : ¬ S b) : W'.cell? ⟨b, o, none⟩ = W.cell? ⟨b, o, none⟩ := by
  have := h.block b hl hn
  simp only [World.cell?, this]
/-- A block of a history, the program's or the reference's. -/
def Hd (W : World) (x : Nat) : Prop := ∃ cs t, W.heap[x]? = some (.cells cs t (0, 0)) ∧ (t = 64 ∨ t = 67) ∧ ∃ a n c, cs[0]? = some (.slice a n c)
theorem HB.hd {W : World} {hb : Nat} {a : Option Addr} {n cap : Nat} {p : Int} (h : HB W hb a n cap p) : Hd W hb := ⟨_, _, h, .inl rfl, _, _, _, rfl⟩
theorem RB.hd {W : World} {hb : Nat} {a : Option Addr} {n cap : Nat} {p : Int} (h : RB W hb a n cap p) : Hd W hb := ⟨_, _, h, .inr rfl, _, _, _, rfl⟩
theorem Hd.ne_tag {W : World} {x b : Nat} {cs : Array Value} {t : TypeId} {f : Nat × Nat} (h : Hd W x) (hr : W.heap[b]? = some (.cells cs t f)) (h1 : t ≠ 64) (h2 : t ≠ 67) : b ≠ x := fun e => by
  subst e
  obtain ⟨cs', t', h3, h4, -⟩ := h
  rw [hr] at h3
  cases h3
  rcases h4 with h4 | h4
  · exact h1 h4
  · exact h2 h4
theorem Hd.ne_cell {W : World} {x b : Nat} {q : Option Addr} (h : Hd W x) (hc : W.cell? ⟨b, 0, none⟩ = some (.pointer q)) : b ≠ x := fun e => by
  subst e
  obtain ⟨cs', t', h3, h4, a, n, c, h5⟩ := h
  rw [cell_of_row _ _ 0 _ _ _ h3, h5] at hc
  simp at hc
theorem Lies.grS {S : Nat → Prop} {X Y : World} (hS : ∀ k, S k → Hd X k) (hg : GrS S X Y) : ∀ {t : Tr}, Lies X t → Lies Y t := by
  have hN : ∀ {b : Nat} {kv : Nat → Value} {sv : Value}, NodeAt X b kv sv → NodeAt Y b kv sv := fun h => (hg.block _ h.lt (fun e => (hS _ e).ne_tag h (by decide) (by decide) rfl)).trans h
  have hSh : ∀ {b : Nat} {th : Nat → Bool} {vk vn : Nat → Int}, ShelfAt X b th vk vn → ShelfAt Y b th vk vn := fun h => (hg.block _ h.lt (fun e => (hS _ e).ne_tag h (by decide) (by decide) rfl)).trans h
  intro t
  induction t with
  | nil => intro _; trivial
  | node b kids ih => intro h; exact ⟨hN h.1, fun i hi => ih i (h.2 i hi)⟩
  | leaf b s th vk vn => intro h; exact ⟨hN h.1, hSh h.2⟩
theorem MapE.grS {S : Nat → Prop} {X Y : World} {b : Nat} {L : Es} (hS : ∀ k, S k → Hd X k) (hg : GrS S X Y) (h : MapE X b L) : MapE Y b L := by
  obtain ⟨t, hm, he⟩ := h
  have hn : ¬ S b := fun e => by
    obtain ⟨u, hu⟩ := ptr_pointer t
    have h0 := hm.2.1
    rw [hu] at h0
    exact (hS _ e).ne_cell h0 rfl
  exact ⟨t, ⟨Nat.lt_of_lt_of_le hm.1 hg.size, (hg.cell hm.1 hn).trans hm.2.1, (hg.cell hm.1 hn).trans hm.2.2.1, hm.2.2.2.1.grS hS hg, hm.2.2.2.2⟩, he⟩
theorem HistAt.grS {S : Nat → Prop} {X Y : World} {hb : Nat} {Ls : List Es} {p : Nat} (hS : ∀ k, S k → Hd X k) (hg : GrS S X Y) (hn : ¬ S hb) (h : HistAt X hb Ls p) : HistAt Y hb Ls p := by
  obtain ⟨h1, h2, g, cap, vs, h3, h4, h5, h6⟩ := h
  have hgn : ¬ S g := fun e => (hS _ e).ne_cell ((h6.2 0 (by omega)).1) rfl
  exact ⟨h1, h2, g, cap, vs, (hg.block hb h3.lt hn).trans h3, h4, h5, Nat.lt_of_lt_of_le h6.1 hg.size, fun i hi => ⟨(hg.cell h6.1 hgn).trans (h6.2 i hi).1, (h6.2 i hi).2.1.grS hS hg, (h6.2 i hi).2.2⟩⟩
theorem own_grS {S : Nat → Prop} {X Y : World} {base k n : Nat} {t : TypeId} {v : Value} {xs : List Value} (hS : ∀ k, S k → Hd X k) (hg : GrS S X Y) (h1 : t ≠ 64) (h2 : t ≠ 67) (h : X.ownsRow base t k v n xs) : Y.ownsRow base t k v n xs := by
  obtain ⟨q1, q2 | ⟨g, cap, cur, e, hb, r, rest⟩⟩ := h
  · exact ⟨q1, .inl q2⟩
  · exact ⟨q1, .inr ⟨g, cap, cur, e, hb, (hg.block g (Array.getElem?_eq_some_iff.1 r).1 (fun e => (hS _ e).ne_tag r h1 h2 rfl)).trans r, rest⟩⟩
theorem RfAt.grS {S : Nat → Prop} {X Y : World} {b : Nat} {L : Es} (hS : ∀ k, S k → Hd X k) (hg : GrS S X Y) (h : RfAt X b L) : RfAt Y b L := by
  obtain ⟨vi, vv, vs, st, h1, h2, h3, h4, h5, h6⟩ := h
  exact ⟨vi, vv, vs, st, (hg.block b (Array.getElem?_eq_some_iff.1 h1).1 (fun e => (hS _ e).ne_tag h1 (by decide) (by decide) rfl)).trans h1, own_grS hS hg (by decide) (by decide) h2, own_grS hS hg (by decide) (by decide) h3, own_grS hS hg (by decide) (by decide) h4, h5, h6⟩
theorem RfAt.kept {W W' : World} {b hb : Nat} {L : Es} {a : Option Addr} {n cap : Nat} {p : Int} (h : RfAt W b L) (hH : RB W hb a n cap p) (hg : W.grownBy W' (some hb)) : RfAt W' b L :=
  h.grS (S := fun k => k = hb) (fun k e => by subst e; exact hH.hd) (.of_grown hg rfl)

/-- A row of maps. -/
def RMaps (W : World) (g off : Nat) (vs : Nat → Nat) (Ls : List Es) : Prop := g < W.heap.size ∧ ∀ i (h : i < Ls.length), W.cell? ⟨g, off + i, none⟩ = some (.pointer (some ⟨vs i, 0, none⟩)) ∧ RfAt W (vs i) Ls[i] ∧ Ls[i].length ≤ 200
theorem RMaps.later {W W' : World} {g off : Nat} {vs : Nat → Nat} {Ls : List Es} (h : RMaps W g off vs Ls) (hb : Below W.heap.size W W') : RMaps W' g off vs Ls :=
  ⟨Nat.lt_of_lt_of_le h.1 hb.size, fun i hi => ⟨(hb.cell (p := ⟨g, off + i, none⟩) h.1).trans (h.2 i hi).1, (h.2 i hi).2.1.later hb, (h.2 i hi).2.2⟩⟩
theorem RMaps.kept {W W' : World} {g off hb : Nat} {vs : Nat → Nat} {Ls : List Es} {a : Option Addr} {n cap : Nat} {p : Int} (h : RMaps W g off vs Ls) (hne : g ≠ hb) (hH : RB W hb a n cap p) (hg : W.grownBy W' (some hb)) : RMaps W' g off vs Ls :=
  ⟨Nat.lt_of_lt_of_le h.1 hg.size, fun i hi => ⟨(grown_cell hg h.1 (fun e => hne (Option.some.inj e).symm)).trans (h.2 i hi).1, (h.2 i hi).2.1.kept hH hg, (h.2 i hi).2.2⟩⟩

/-- A history: its versions' entries from the oldest on, the present one's place. -/
def RhAt (W : World) (hb : Nat) (Ls : List Es) (p : Nat) : Prop := p < Ls.length ∧ Ls.length ≤ 33 ∧ ∃ (g cap : Nat) (vs : Nat → Nat), RB W hb (some ⟨g, 0, none⟩) Ls.length cap (p : Int) ∧ Ls.length ≤ cap ∧ g ≠ hb ∧ RMaps W g 0 vs Ls
theorem RB.lt {W : World} {hb : Nat} {a : Option Addr} {n cap : Nat} {p : Int} (h : RB W hb a n cap p) : hb < W.heap.size := (Array.getElem?_eq_some_iff.1 h).1
theorem RB.later {W W' : World} {hb : Nat} {a : Option Addr} {n cap : Nat} {p : Int} (h : RB W hb a n cap p) (h' : Below W.heap.size W W') : RB W' hb a n cap p := (h'.block hb h.lt).trans h
theorem RhAt.later {W W' : World} {hb : Nat} {Ls : List Es} {p : Nat} (h : RhAt W hb Ls p) (h' : Below W.heap.size W W') : RhAt W' hb Ls p := by
  obtain ⟨h1, h2, g, cap, vs, h3, h4, h5, h6⟩ := h
  exact ⟨h1, h2, g, cap, vs, h3.later h', h4, h5, h6.later h'⟩
theorem RhAt.lt {W : World} {hb : Nat} {Ls : List Es} {p : Nat} (h : RhAt W hb Ls p) : hb < W.heap.size := by
  obtain ⟨h1, h2, g, cap, vs, h3, h4, h5, h6⟩ := h
  exact h3.lt
/-- Another history changes. -/
theorem RhAt.kept0 {W W' : World} {hb hb' : Nat} {Ls Ls' : List Es} {p p' : Nat} (h : RhAt W hb Ls p) (h' : RhAt W hb' Ls' p') (hne : hb ≠ hb') (hgr : W.grownBy W' (some hb')) : RhAt W' hb Ls p := by
  obtain ⟨h1, h2, g, cap, vs, h3, h4, h5, h6⟩ := h
  obtain ⟨-, -, g', cap', vs', k3, -, -, k6⟩ := h'
  refine ⟨h1, h2, g, cap, vs, (hgr.block hb h3.lt (fun e => hne (Option.some.inj e))).trans h3, h4, h5, h6.kept (fun e => ?_) k3 hgr⟩
  subst e
  have hc := (h6.2 0 (by omega)).1
  rw [cell_of_row _ _ 0 _ _ _ k3] at hc
  simp at hc
theorem RhAt.grS {S : Nat → Prop} {X Y : World} {hb : Nat} {Ls : List Es} {p : Nat} (hS : ∀ k, S k → Hd X k) (hg : GrS S X Y) (hn : ¬ S hb) (h : RhAt X hb Ls p) : RhAt Y hb Ls p := by
  obtain ⟨h1, h2, g, cap, vs, h3, h4, h5, h6⟩ := h
  have hgn : ¬ S g := fun e => (hS _ e).ne_cell ((h6.2 0 (by omega)).1) rfl
  exact ⟨h1, h2, g, cap, vs, (hg.block hb h3.lt hn).trans h3, h4, h5, Nat.lt_of_lt_of_le h6.1 hg.size, fun i hi => ⟨(hg.cell h6.1 hgn).trans (h6.2 i hi).1, (h6.2 i hi).2.1.grS hS hg, (h6.2 i hi).2.2⟩⟩
theorem RhAt.hd {W : World} {hb : Nat} {Ls : List Es} {p : Nat} (h : RhAt W hb Ls p) : Hd W hb := by
  obtain ⟨-, -, g, cap, vs, h3, -⟩ := h
  exact h3.hd
theorem HistAt.hd {W : World} {hb : Nat} {Ls : List Es} {p : Nat} (h : HistAt W hb Ls p) : Hd W hb := by
  obtain ⟨-, -, g, cap, vs, h3, -⟩ := h
  exact h3.hd
theorem Hd.grS {S : Nat → Prop} {W W' : World} {x : Nat} (h : Hd W x) (hg : GrS S W W') (hn : ¬ S x) : Hd W' x := by
  obtain ⟨cs, t, h1, h2⟩ := h
  exact ⟨cs, t, (hg.block x (Array.getElem?_eq_some_iff.1 h1).1 hn).trans h1, h2⟩

end Go.Proofs.Ytkojgbfocdefnaa


namespace Go.Proofs.Ytkojgbfocdefnaa
open Go.RowKit

theorem rinfoM : (Try.prog.info? 48).map (fun i => (i.zero, i.size, i.bytes)) = some (some (.pointer none), 1, 8) := by kernel_rfl
/-- What is read off a row of one's own. -/
theorem rown_ptr {w : World} {base g cap n : Nat} {vs : Nat → Nat} (h : w.ownsRow base 48 1 (.slice (some ⟨g, 0, none⟩) n cap) n (ptrs vs n)) : ∀ i, i < n → w.cell? ⟨g, 0 + i, none⟩ = some (.pointer (some ⟨vs i, 0, none⟩)) := fun i hi => by
  rw [Nat.zero_add]
  exact (h.cellAt i (by omega)).trans (ptrs_at vs n i hi)
theorem whole_some (mb : Nat) (w : World) : Calls Try.prog 42 #[.pointer (some ⟨mb, 0, none⟩)] w fun e w' => e = .returned (.pointer (some ⟨mb, 0, none⟩)) ∧ w' = w := by
  go_enter Try.func42, Try.ntmps42
  go_wp2
  go_ret
  exact ⟨rfl, rfl⟩
theorem whole_none (w : World) : Calls Try.prog 42 #[.pointer none] w fun e w' => e = .returned (.pointer (some ⟨w.heap.size, 0, none⟩)) ∧ RfAt w' w.heap.size [] ∧ Below w.heap.size w w' := by
  go_enter Try.func42, Try.ntmps42
  go_wp2_with (go_at_call 45; refine (empty_rf _).mono ?_; rintro e w1 ⟨rfl, hM1, hb1⟩)
  go_ret
  exact ⟨rfl, hM1, hb1⟩
/-- What is handed in: a map of the reference, or nil. -/
def Whl (w : World) (v : Value) (L : Es) : Prop := (∃ mb, v = .pointer (some ⟨mb, 0, none⟩) ∧ RfAt w mb L) ∨ (v = .pointer none ∧ L = [])
theorem Whl.later {w w' : World} {v : Value} {L : Es} (h : Whl w v L) (hb : Below w.heap.size w w') : Whl w' v L := by
  rcases h with ⟨mb, rfl, h⟩ | h
  · exact .inl ⟨mb, rfl, h.later hb⟩
  · exact .inr h
theorem whole_any (v : Value) (L : Es) (w : World) (h : Whl w v L) : Calls Try.prog 42 #[v] w fun e w' => ∃ mb, e = .returned (.pointer (some ⟨mb, 0, none⟩)) ∧ RfAt w' mb L ∧ Below w.heap.size w w' := by
  rcases h with ⟨mb, rfl, h⟩ | ⟨rfl, rfl⟩
  · refine (whole_some mb w).mono ?_
    rintro e w' ⟨rfl, rfl⟩
    exact ⟨mb, rfl, h, Below.refl _ _⟩
  · refine (whole_none w).mono ?_
    rintro e w' ⟨rfl, h1, h2⟩
    exact ⟨_, rfl, h1, h2⟩

set_option maxRecDepth 4000 in
set_option maxHeartbeats 1000000 in
theorem rnow_any (hb : Nat) (Ls : List Es) (p : Nat) (w : World) (h : RhAt w hb Ls p) : Calls Try.prog 26 #[.pointer (some ⟨hb, 0, none⟩)] w fun e w' => ∃ mb, e = .returned (.pointer (some ⟨mb, 0, none⟩)) ∧ RfAt w' mb (Ls.getD p []) ∧ (Ls.getD p []).length ≤ 200 ∧ Below w.heap.size w w' := by
  obtain ⟨hp, hl, g, cap, vs, hH, hcap, hne, hM⟩ := h
  have c0 : w.cell? ⟨hb, 0, none⟩ = some (.slice (some ⟨g, 0, none⟩) Ls.length cap) := cell_of_row _ _ 0 _ _ _ hH
  have c1 : w.cell? ⟨hb, 1, none⟩ = some (.int .i64 (p : Int)) := cell_of_row _ _ 1 _ _ _ hH
  have cp := (hM.2 p hp).1
  rw [Nat.zero_add] at cp
  have hp0 : (0 : Int) ≤ (p : Int) := by omega
  have hp1 : (p : Int) < (Ls.length : Int) := by omega
  have hQ : Hid (RfAt w (vs p) Ls[p] ∧ Ls[p].length ≤ 200) := (hM.2 p hp).2
  clear hM hH
  go_enter Try.func26, Try.ntmps26
  go_wp2
  go_quiet (fail)
  go_wp2
  go_ret
  have hb' := below_drewN (Below.refl w.heap.size w) nq
  refine ⟨vs p, rfl, ?_, ?_, hb'⟩
  · rw [getD_at hp]; exact hQ.out.1.later hb'
  · rw [getD_at hp]; exact hQ.out.2

set_option maxRecDepth 4000 in
set_option maxHeartbeats 1000000 in
theorem rdepth_any (hb : Nat) (Ls : List Es) (p : Nat) (r : Nat) (hr : p + 1 + r = Ls.length) (w : World) (h : RhAt w hb Ls p) : Calls Try.prog 33 #[.pointer (some ⟨hb, 0, none⟩)] w fun e w' => e = .returned (.tuple #[.int .i64 (p : Int), .int .i64 (r : Int)]) ∧ Below w.heap.size w w' := by
  obtain ⟨hp, hl, g, cap, vs, hH, hcap, hne, hM⟩ := h
  have c0 : w.cell? ⟨hb, 0, none⟩ = some (.slice (some ⟨g, 0, none⟩) Ls.length cap) := cell_of_row _ _ 0 _ _ _ hH
  have c1 : w.cell? ⟨hb, 1, none⟩ = some (.int .i64 (p : Int)) := cell_of_row _ _ 1 _ _ _ hH
  have w1 : IntKind.i64.wrap ((Ls.length : Int) - 1) = (Ls.length : Int) - 1 := by rw [IntKind.wrap_i64]; omega
  have w2 : IntKind.i64.wrap ((Ls.length : Int) - 1 - (p : Int)) = (r : Int) := by rw [IntKind.wrap_i64]; omega
  clear hM hH
  go_enter Try.func33, Try.ntmps33
  go_wp2
  go_quiet (fail)
  go_wp2
  go_ret2
  exact ⟨by first | rfl | simp [w1, w2], below_drewN (Below.refl w.heap.size w) nq⟩

/-- The present place is another one. -/
theorem rhist_move {w : World} {hb : Nat} {Ls : List Es} {p : Nat} (h : RhAt w hb Ls p) (q : Nat) (hq : q < Ls.length) : RhAt (w.setCell ⟨hb, 1, none⟩ (.int .i64 (q : Int))) hb Ls q ∧ w.grownBy (w.setCell ⟨hb, 1, none⟩ (.int .i64 (q : Int))) (some hb) := by
  obtain ⟨hp, hl, g, cap, vs, hH, hcap, hne, hM⟩ := h
  have hgr := grown_set w hb 1 (.int .i64 (q : Int))
  refine ⟨⟨hq, hl, g, cap, vs, ?_, hcap, hne, hM.kept hne hH hgr⟩, hgr⟩
  exact heap_setCell_same w hb 1 _ _ (.int .i64 (q : Int)) hH

theorem RhAt.cells {w : World} {hb : Nat} {Ls : List Es} {p : Nat} (h : RhAt w hb Ls p) : ∃ g cap, w.cell? ⟨hb, 0, none⟩ = some (.slice (some ⟨g, 0, none⟩) Ls.length cap) ∧ w.cell? ⟨hb, 1, none⟩ = some (.int .i64 (p : Int)) ∧ w.frozen? ⟨hb, 0, none⟩ = false ∧ w.frozen? ⟨hb, 1, none⟩ = false := by
  obtain ⟨hp, hl, g, cap, vs, hH, hcap, hne, hM⟩ := h
  exact ⟨g, cap, cell_of_row _ _ 0 _ _ _ hH, cell_of_row _ _ 1 _ _ _ hH, frozen_of_row hH 0, frozen_of_row hH 1⟩
/-- What Push leaves: the row's slice stored, then the place. -/
theorem rpush_end {w w10 : World} {hb mb g cap g10 cap10 p : Nat} {vs : Nat → Nat} {Ls : List Es} {L : Es} (hH : RB w hb (some ⟨g, 0, none⟩) Ls.length cap (p : Int)) (hM : RMaps w g 0 vs Ls) (hpl : p < Ls.length) (hL : L.length ≤ 200) (hm : RfAt w10 mb L) (hp : p < 32) (B10 : Below w.heap.size w w10) (hown : w10.ownsRow w.heap.size 48 1 (.slice (some ⟨g10, 0, none⟩) (p + 1 + 1) cap10) (p + 1 + 1) (ptrs vs (p + 1) ++ [.pointer (some ⟨mb, 0, none⟩)])) :
    (w10.setCell ⟨hb, 0, none⟩ (.slice (some ⟨g10, 0, none⟩) (p + 1 + 1) cap10)).cell? ⟨hb, 1, none⟩ = some (.int .i64 (p : Int)) ∧ (w10.setCell ⟨hb, 0, none⟩ (.slice (some ⟨g10, 0, none⟩) (p + 1 + 1) cap10)).frozen? ⟨hb, 1, none⟩ = false ∧
    RhAt ((w10.setCell ⟨hb, 0, none⟩ (.slice (some ⟨g10, 0, none⟩) (p + 1 + 1) cap10)).setCell ⟨hb, 1, none⟩ (.int .i64 ((p : Int) + 1))) hb (Ls.take (p + 1) ++ [L]) (p + 1) ∧ w.grownBy ((w10.setCell ⟨hb, 0, none⟩ (.slice (some ⟨g10, 0, none⟩) (p + 1 + 1) cap10)).setCell ⟨hb, 1, none⟩ (.int .i64 ((p : Int) + 1))) (some hb) := by
  have hH10 := hH.later B10
  have hbl := hH.lt
  have hS := heap_setCell_same w10 hb 0 _ _ (.slice (some ⟨g10, 0, none⟩) (p + 1 + 1) cap10) hH10
  have hgr1 := grown_set w10 hb 0 (.slice (some ⟨g10, 0, none⟩) (p + 1 + 1) cap10)
  rw [ptrs_snoc] at hown
  have hlen : (Ls.take (p + 1) ++ [L]).length = p + 1 + 1 := by simp; omega
  have hM10 : RMaps w10 g10 0 (fun i => if i = p + 1 then mb else vs i) (Ls.take (p + 1) ++ [L]) := by
    refine ⟨(hown.lt g10 rfl).2, fun i hi => ?_⟩
    rw [hlen] at hi
    refine ⟨rown_ptr hown i hi, ?_⟩
    by_cases e : i = p + 1
    · subst e
      simp only [if_true]
      rw [List.getElem_append_right (by simp; omega)]
      simp only [List.getElem_singleton]
      exact ⟨hm, hL⟩
    · simp only [if_neg e]
      rw [List.getElem_append_left (by simp; omega), List.getElem_take]
      exact ⟨(hM.2 i (by omega)).2.1.later B10, (hM.2 i (by omega)).2.2⟩
  have hne : g10 ≠ hb := fun e => by have := (hown.lt g10 rfl).1; omega
  generalize w10.setCell ⟨hb, 0, none⟩ (.slice (some ⟨g10, 0, none⟩) (p + 1 + 1) cap10) = X at *
  have hHX : RB X hb (some ⟨g10, 0, none⟩) (p + 1 + 1) cap10 (p : Int) := hS
  have hMX := hM10.kept hne hH10 hgr1
  have hgr2 := grown_set X hb 1 (.int .i64 ((p : Int) + 1))
  refine ⟨cell_of_row _ _ 1 _ _ _ hHX, frozen_of_row hHX 1, ⟨by rw [hlen]; omega, by rw [hlen]; omega, g10, cap10, _, ?_, ?_, hne, hMX.kept hne hHX hgr2⟩, ?_⟩
  · rw [hlen]
    exact heap_setCell_same X hb 1 _ _ (.int .i64 ((p : Int) + 1)) hHX
  · rw [hlen]
    exact own_cap hown
  · exact ((grown_of_below B10).trans hgr1).trans hgr2

theorem rrow_first (w : World) (v : Value) (t : TypeId) : (w.alloc (.cells #[v] t)).cell? ⟨w.heap.size, 0, none⟩ = some v := cell_of_row _ _ 0 _ _ _ (heap_alloc_last w _)

/-- A new history of one map. -/
theorem rnew_end (w : World) (mb : Nat) (L : Es) (hL : L.length ≤ 200) (hm : RfAt w mb L) : RhAt ((w.alloc (.cells #[.pointer (some ⟨mb, 0, none⟩)] 48)).alloc (.cells #[.slice (some ⟨w.heap.size, 0, none⟩) 1 1, .int .i64 0] 67)) (w.heap.size + 1) [L] 0 ∧ Below w.heap.size w ((w.alloc (.cells #[.pointer (some ⟨mb, 0, none⟩)] 48)).alloc (.cells #[.slice (some ⟨w.heap.size, 0, none⟩) 1 1, .int .i64 0] 67)) := by
  have hb1 := (Below.refl w.heap.size w).alloc (Nat.le_refl _) (.cells #[.pointer (some ⟨mb, 0, none⟩)] 48)
  have c0 := rrow_first w (.pointer (some ⟨mb, 0, none⟩)) 48
  have hs : (w.alloc (.cells #[.pointer (some ⟨mb, 0, none⟩)] 48)).heap.size = w.heap.size + 1 := by simp
  have hm1 := hm.later hb1
  generalize w.alloc (.cells #[.pointer (some ⟨mb, 0, none⟩)] 48) = X at *
  have hb2 := (Below.refl X.heap.size X).alloc (Nat.le_refl _) (.cells #[.slice (some ⟨w.heap.size, 0, none⟩) 1 1, .int .i64 0] 67)
  refine ⟨⟨by simp, by simp, w.heap.size, 1, fun _ => mb, ?_, by simp, by omega, ⟨by have := hb2.size; omega, fun i hi => ?_⟩⟩, below_step hb1 hb2⟩
  · rw [← hs]
    exact heap_alloc_last X _
  · obtain rfl : i = 0 := by simp at hi; omega
    exact ⟨(hb2.cell (p := ⟨w.heap.size, 0 + 0, none⟩) (by simp; omega)).trans c0, hm1.later hb2, hL⟩

theorem rmaps_drop {W : World} {g n : Nat} {vs : Nat → Nat} {Ls : List Es} (h : RMaps W g 0 vs Ls) (hn : n ≤ Ls.length) : RMaps W g n (fun i => vs (n + i)) (Ls.drop n) := by
  refine ⟨h.1, fun i hi => ?_⟩
  rw [List.length_drop] at hi
  have := h.2 (n + i) (by omega)
  rw [Nat.zero_add] at this
  refine ⟨this.1, ?_⟩
  rw [List.getElem_drop]
  exact this.2
/-- A copy of a row of maps. -/
theorem rmaps_copy {w w' : World} {g off g' cap' n : Nat} {vs : Nat → Nat} {Ls : List Es} (h : RMaps w g off vs Ls) (hn : n = Ls.length) (hb : Below w.heap.size w w') (ho : w'.ownsRow w.heap.size 48 1 (.slice (some ⟨g', 0, none⟩) n cap') n (ptrs vs n)) : RMaps w' g' 0 vs Ls := by
  subst hn
  exact ⟨(ho.lt g' rfl).2, fun i hi => ⟨rown_ptr ho i hi, (h.later hb).2 i hi |>.2⟩⟩

/-- What Forget leaves. -/
theorem rforget_end {w w5 : World} {hb g cap g5 cap5 p n m : Nat} {vs : Nat → Nat} {Ls : List Es} (hH : RB w hb (some ⟨g, 0, none⟩) Ls.length cap (p : Int)) (hM : RMaps w g 0 vs Ls) (hpl : p < Ls.length) (hl : Ls.length ≤ 33) (hn : n ≤ p) (hm : m = Ls.length - n) (B5 : Below w.heap.size w w5) (hown : w5.ownsRow w.heap.size 48 1 (.slice (some ⟨g5, 0, none⟩) m cap5) m (ptrs (fun i => vs (n + i)) m)) :
    (w5.setCell ⟨hb, 0, none⟩ (.slice (some ⟨g5, 0, none⟩) m cap5)).cell? ⟨hb, 1, none⟩ = some (.int .i64 (p : Int)) ∧ (w5.setCell ⟨hb, 0, none⟩ (.slice (some ⟨g5, 0, none⟩) m cap5)).frozen? ⟨hb, 1, none⟩ = false ∧
    RhAt ((w5.setCell ⟨hb, 0, none⟩ (.slice (some ⟨g5, 0, none⟩) m cap5)).setCell ⟨hb, 1, none⟩ (.int .i64 ((p - n : Nat) : Int))) hb (Ls.drop n) (p - n) ∧ w.grownBy ((w5.setCell ⟨hb, 0, none⟩ (.slice (some ⟨g5, 0, none⟩) m cap5)).setCell ⟨hb, 1, none⟩ (.int .i64 ((p - n : Nat) : Int))) (some hb) := by
  have hH10 := hH.later B5
  have hbl := hH.lt
  have hS := heap_setCell_same w5 hb 0 _ _ (.slice (some ⟨g5, 0, none⟩) m cap5) hH10
  have hgr1 := grown_set w5 hb 0 (.slice (some ⟨g5, 0, none⟩) m cap5)
  have hlen : (Ls.drop n).length = m := by rw [List.length_drop, hm]
  have hM10 : RMaps w5 g5 0 (fun i => vs (n + i)) (Ls.drop n) := rmaps_copy (rmaps_drop hM (by omega)) hlen.symm B5 hown
  have hne : g5 ≠ hb := fun e => by have := (hown.lt g5 rfl).1; omega
  generalize w5.setCell ⟨hb, 0, none⟩ (.slice (some ⟨g5, 0, none⟩) m cap5) = X at *
  have hHX : RB X hb (some ⟨g5, 0, none⟩) m cap5 (p : Int) := hS
  have hMX := hM10.kept hne hH10 hgr1
  have hgr2 := grown_set X hb 1 (.int .i64 ((p - n : Nat) : Int))
  refine ⟨cell_of_row _ _ 1 _ _ _ hHX, frozen_of_row hHX 1, ⟨by rw [hlen]; omega, by rw [hlen]; omega, g5, cap5, _, ?_, ?_, hne, hMX.kept hne hHX hgr2⟩, ?_⟩
  · rw [hlen]
    exact heap_setCell_same X hb 1 _ _ (.int .i64 ((p - n : Nat) : Int)) hHX
  · rw [hlen]
    exact own_cap hown
  · exact ((grown_of_below B5).trans hgr1).trans hgr2

/-- What a clone is. -/
theorem rclone_end {w w5 X : World} {g g5 cap5 p : Nat} {vs : Nat → Nat} {Ls : List Es} (hM : RMaps w g 0 vs Ls) (hpl : p < Ls.length) (hl : Ls.length ≤ 33) (B5 : Below w.heap.size w w5) (hown : w5.ownsRow w.heap.size 48 1 (.slice (some ⟨g5, 0, none⟩) Ls.length cap5) Ls.length (ptrs vs Ls.length)) (hX : X = w5.alloc (.cells #[.slice (some ⟨g5, 0, none⟩) Ls.length cap5, .int .i64 (p : Int)] 67)) :
    RhAt X w5.heap.size Ls p ∧ Below w.heap.size w X := by
  have hb2 : Below w5.heap.size w5 X := by rw [hX]; exact (Below.refl w5.heap.size w5).alloc (Nat.le_refl _) _
  have h1 := (hown.lt g5 rfl)
  refine ⟨⟨hpl, hl, g5, cap5, vs, ?_, own_cap hown, by omega, (rmaps_copy hM rfl B5 hown).later hb2⟩, below_step B5 hb2⟩
  rw [hX]
  exact heap_alloc_last w5 _

end Go.Proofs.Ytkojgbfocdefnaa

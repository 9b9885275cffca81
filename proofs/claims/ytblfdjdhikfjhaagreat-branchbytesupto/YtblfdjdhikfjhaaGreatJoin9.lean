import Derived.Test.YtblfdjdhikfjhaaGreatJoin8
namespace Go.Proofs.YtblfdjdhikfjhaaGreat
open Go.RowKit

theorem getD_at {Ls : List Es} {p : Nat} (h : p < Ls.length) : Ls.getD p [] = Ls[p] := by simp [List.getD, h]

theorem orEmpty_some (mb : Nat) (w : World) : Calls Tryz.prog 65 #[.pointer (some ⟨mb, 0, none⟩)] w fun e w' => e = .returned (.pointer (some ⟨mb, 0, none⟩)) ∧ w' = w := by
  go_enter Tryz.func65, Tryz.ntmps65
  go_wp2
  go_ret
  exact ⟨rfl, rfl⟩
theorem orEmpty_none (w : World) : Calls Tryz.prog 65 #[.pointer none] w fun e w' => e = .returned (.pointer (some ⟨w.heap.size, 0, none⟩)) ∧ MapE w' w.heap.size [] ∧ Below w.heap.size w w' := by
  go_enter Tryz.func65, Tryz.ntmps65
  go_wp2_with (go_at_call 14; refine (empty_any _).mono ?_; rintro e w1 ⟨rfl, hM1, hb1⟩)
  go_ret
  exact ⟨rfl, ⟨_, hM1, rfl⟩, hb1⟩

theorem addP (b o k : Nat) : (⟨b, o, none⟩ : Addr).add k = ⟨b, o + k, none⟩ := by
  simp only [Addr.add]
  split
  · simp_all
  · rfl
def ptrs (vs : Nat → Nat) (n : Nat) : List Value := (List.range n).map fun i => .pointer (some ⟨vs i, 0, none⟩)
theorem ptrs_len (vs : Nat → Nat) (n : Nat) : (ptrs vs n).length = n := by simp [ptrs]
theorem ptrs_at (vs : Nat → Nat) (n j : Nat) (h : j < n) : (ptrs vs n)[j]? = some (.pointer (some ⟨vs j, 0, none⟩)) := by simp [ptrs, h]
theorem infoM : (Tryz.prog.info? 40).map (fun i => (i.zero, i.size, i.bytes)) = some (some (.pointer none), 1, 8) := by kernel_rfl

set_option maxRecDepth 4000 in
set_option maxHeartbeats 1000000 in
/-- slices.Clone of a row of maps. -/
theorem sclone_any (g off n cap : Nat) (vs : Nat → Nat) (hn0 : 0 < n) (hn : n ≤ 33) (w : World) (hg : g < w.heap.size) (hc : ∀ i, i < n → w.cell? ⟨g, off + i, none⟩ = some (.pointer (some ⟨vs i, 0, none⟩))) :
    Calls Tryz.prog 57 #[.slice (some ⟨g, off, none⟩) n cap] w fun e w' => ∃ g' cap', e = .returned (.slice (some ⟨g', 0, none⟩) n cap') ∧ w'.ownsRow w.heap.size 40 1 (.slice (some ⟨g', 0, none⟩) n cap') n (ptrs vs n) ∧ Below w.heap.size w w' := by
  obtain ⟨i0, hi, hz0, hz1, hz2⟩ := info_parts infoM
  have hr0 : (w.alloc (.cells #[] 40)).ownsRow w.heap.size 40 1 (.slice (some ⟨w.heap.size, 0, none⟩) 0 0) 0 [] := by
    have := World.ownsRow_made (base := w.heap.size) (e := 40) (size := 1) w #[] 0 (Nat.le_refl _) (by unfold maxLen; omega) rfl
    exact this
  have hb0 := (Below.refl w.heap.size w).alloc (Nat.le_refl _) (.cells #[] 40)
  have hc' : ∀ j u, (ptrs vs n)[j]? = some u → (w.alloc (.cells #[] 40)).cell? ((⟨g, off, none⟩ : Addr).add j) = some u := fun j u hj => by
    have hjl : j < n := by have := (List.getElem?_eq_some_iff.1 hj).1; rwa [ptrs_len] at this
    rw [ptrs_at vs n j hjl] at hj
    have := (hb0.cell (p := ⟨g, off + j, none⟩) hg).trans (hc j hjl)
    rw [addP, this, hj]
  go_enter Tryz.func57, Tryz.ntmps57
  have hnil : ∀ W : World, (binOp BinOp.eql 111 (.slice (some ⟨g, off, none⟩) n cap) (.slice none 0 0)).run Tryz.prog W = .ok (.bool false) W := fun _ => rfl
  have tok1 : True := trivial
  go_wp2_with (at_builtin; go_loud (refine wpList_append_own (P := Tryz.prog) _ rfl _ _ 111 rfl w.heap.size 40 i0 _ 1 8 Tryz.underlying111 hi hz0 hz1 hz2 rfl (by decide) _ 0 [] rfl hr0 ⟨g, off, none⟩ n cap (ptrs vs n) rfl (by rw [ptrs_len]; omega) hc' (fun u hu => by { simp [ptrs] at hu; obtain ⟨_, _, rfl⟩ := hu; rfl }) (by unfold maxLen; omega) (by omega) (by simp) ?_); have _u := tok1; clear tok1; intro v1 w1 hown1 hgrow1 _h)
  simp only [Nat.zero_add, List.nil_append] at hown1
  obtain ⟨g1, cap1, rfl⟩ := own_some hown1 hn0
  go_wp2
  go_ret
  exact ⟨g1, cap1, rfl, hown1, hb0.grown hgrow1 (by simp) (fun j hj => (hr0.lt j hj).1)⟩

/-- What is read off a row of one's own. -/
theorem own_ptr {w : World} {base g cap n : Nat} {vs : Nat → Nat} (h : w.ownsRow base 40 1 (.slice (some ⟨g, 0, none⟩) n cap) n (ptrs vs n)) : ∀ i, i < n → w.cell? ⟨g, 0 + i, none⟩ = some (.pointer (some ⟨vs i, 0, none⟩)) := fun i hi => by
  rw [Nat.zero_add]
  exact (h.cellAt i (by omega)).trans (ptrs_at vs n i hi)
theorem own_cap {w : World} {base g cap n m : Nat} {e : TypeId} {size : Nat} {xs : List Value} (h : w.ownsRow base e size (.slice (some ⟨g, 0, none⟩) m cap) n xs) : m ≤ cap := by
  obtain ⟨_, ⟨h1, _⟩ | ⟨g', cap', cur, e1, _, _, h3, _⟩⟩ := h
  · cases h1
  · injection e1 with _ e2 e3
    subst e2 e3
    first | exact h3 | omega

set_option maxRecDepth 4000 in
set_option maxHeartbeats 1000000 in
theorem now_any (hb : Nat) (Ls : List Es) (p : Nat) (w : World) (h : HistAt w hb Ls p) : Calls Tryz.prog 39 #[.pointer (some ⟨hb, 0, none⟩)] w fun e w' => ∃ mb, e = .returned (.pointer (some ⟨mb, 0, none⟩)) ∧ MapE w' mb (Ls.getD p []) ∧ (Ls.getD p []).length ≤ 5000000000 ∧ Below w.heap.size w w' := by
  obtain ⟨hp, hl, g, cap, vs, hH, hcap, hne, hM⟩ := h
  have c0 : w.cell? ⟨hb, 0, none⟩ = some (.slice (some ⟨g, 0, none⟩) Ls.length cap) := cell_of_row _ _ 0 _ _ _ hH
  have c1 : w.cell? ⟨hb, 1, none⟩ = some (.int .i64 (p : Int)) := cell_of_row _ _ 1 _ _ _ hH
  have cp := (hM.2 p hp).1
  rw [Nat.zero_add] at cp
  have hp0 : (0 : Int) ≤ (p : Int) := by omega
  have hp1 : (p : Int) < (Ls.length : Int) := by omega
  have hQ : Hid (MapE w (vs p) Ls[p] ∧ Ls[p].length ≤ 5000000000) := (hM.2 p hp).2
  clear hM hH
  go_enter Tryz.func39, Tryz.ntmps39
  go_wp2
  go_quiet (fail)
  go_wp2
  go_ret
  have hb' := below_drewN (Below.refl w.heap.size w) nq
  refine ⟨vs p, rfl, ?_, ?_, hb'⟩
  · rw [getD_at hp]; exact hQ.out.1.later hb'
  · rw [getD_at hp]; exact hQ.out.2

set_option maxRecDepth 4000 in
set_option maxHeartbeats 1000000 in
theorem depth_any (hb : Nat) (Ls : List Es) (p : Nat) (r : Nat) (hr : p + 1 + r = Ls.length) (w : World) (h : HistAt w hb Ls p) : Calls Tryz.prog 71 #[.pointer (some ⟨hb, 0, none⟩)] w fun e w' => e = .returned (.tuple #[.int .i64 (p : Int), .int .i64 (r : Int)]) ∧ Below w.heap.size w w' := by
  obtain ⟨hp, hl, g, cap, vs, hH, hcap, hne, hM⟩ := h
  have c0 : w.cell? ⟨hb, 0, none⟩ = some (.slice (some ⟨g, 0, none⟩) Ls.length cap) := cell_of_row _ _ 0 _ _ _ hH
  have c1 : w.cell? ⟨hb, 1, none⟩ = some (.int .i64 (p : Int)) := cell_of_row _ _ 1 _ _ _ hH
  have w1 : IntKind.i64.wrap ((Ls.length : Int) - 1) = (Ls.length : Int) - 1 := by rw [IntKind.wrap_i64]; omega
  have w2 : IntKind.i64.wrap ((Ls.length : Int) - 1 - (p : Int)) = (r : Int) := by rw [IntKind.wrap_i64]; omega
  clear hM hH
  go_enter Tryz.func71, Tryz.ntmps71
  go_wp2
  go_quiet (fail)
  go_wp2
  go_ret2
  exact ⟨by first | rfl | simp [w1, w2], below_drewN (Below.refl w.heap.size w) nq⟩

end Go.Proofs.YtblfdjdhikfjhaaGreat


namespace Go.Proofs.YtblfdjdhikfjhaaGreat
open Go.RowKit

/-- The present place is another one. -/
theorem hist_move {w : World} {hb : Nat} {Ls : List Es} {p : Nat} (h : HistAt w hb Ls p) (q : Nat) (hq : q < Ls.length) : HistAt (w.setCell ⟨hb, 1, none⟩ (.int .i64 (q : Int))) hb Ls q ∧ w.grownBy (w.setCell ⟨hb, 1, none⟩ (.int .i64 (q : Int))) (some hb) := by
  obtain ⟨hp, hl, g, cap, vs, hH, hcap, hne, hM⟩ := h
  have hgr := grown_set w hb 1 (.int .i64 (q : Int))
  refine ⟨⟨hq, hl, g, cap, vs, ?_, hcap, hne, hM.kept hne hH hgr⟩, hgr⟩
  exact heap_setCell_same w hb 1 _ _ (.int .i64 (q : Int)) hH

theorem HistAt.cells {w : World} {hb : Nat} {Ls : List Es} {p : Nat} (h : HistAt w hb Ls p) : ∃ g cap, w.cell? ⟨hb, 0, none⟩ = some (.slice (some ⟨g, 0, none⟩) Ls.length cap) ∧ w.cell? ⟨hb, 1, none⟩ = some (.int .i64 (p : Int)) ∧ w.frozen? ⟨hb, 0, none⟩ = false ∧ w.frozen? ⟨hb, 1, none⟩ = false := by
  obtain ⟨hp, hl, g, cap, vs, hH, hcap, hne, hM⟩ := h
  exact ⟨g, cap, cell_of_row _ _ 0 _ _ _ hH, cell_of_row _ _ 1 _ _ _ hH, frozen_of_row hH 0, frozen_of_row hH 1⟩
theorem grown_laterB {W X Y : World} {r : Option Nat} (h : W.grownBy X r) (hb : Below X.heap.size X Y) : W.grownBy Y r := ⟨hb.os.trans h.os, hb.tape.trans h.tape, hb.output.trans h.output, Nat.le_trans h.size hb.size, fun k hk hne => (hb.block k (Nat.lt_of_lt_of_le hk h.size)).trans (h.block k hk hne)⟩
theorem grown_of_below {W X : World} {r : Option Nat} (hb : Below W.heap.size W X) : W.grownBy X r := ⟨hb.os, hb.tape, hb.output, hb.size, fun k hk _ => hb.block k hk⟩

set_option maxRecDepth 4000 in
set_option maxHeartbeats 1000000 in
theorem undo_none (hb : Nat) (Ls : List Es) (w : World) (h : HistAt w hb Ls 0) : Calls Tryz.prog 58 #[.pointer (some ⟨hb, 0, none⟩)] w fun e w' => e = .returned (.tuple #[.pointer none, .int .i64 111]) ∧ Below w.heap.size w w' := by
  have hl := h.1
  have hd := depth_any hb Ls 0 (Ls.length - 1) (by omega) w h
  rw [show (((0 : Nat)) : Int) = 0 from rfl] at hd
  go_enter Tryz.func58, Tryz.ntmps58
  go_wp2_with (go_at_call 71; refine hd.mono ?_; rintro e w1 ⟨rfl, hb1⟩)
  go_ret2
  exact ⟨rfl, hb1⟩

set_option maxRecDepth 4000 in
set_option maxHeartbeats 1000000 in
theorem undo_some (hb : Nat) (Ls : List Es) (p : Nat) (w : World) (h : HistAt w hb Ls (p + 1)) : Calls Tryz.prog 58 #[.pointer (some ⟨hb, 0, none⟩)] w fun e w' => ∃ mb, e = .returned (.tuple #[.pointer (some ⟨mb, 0, none⟩), .int .i64 0]) ∧ MapE w' mb (Ls.getD p []) ∧ (Ls.getD p []).length ≤ 5000000000 ∧ HistAt w' hb Ls p ∧ w.grownBy w' (some hb) := by
  have hl := h.1
  have hl2 := h.2.1
  have hd := depth_any hb Ls (p + 1) (Ls.length - 1 - (p + 1)) (by omega) w h
  generalize (((Ls.length - 1 - (p + 1) : Nat)) : Int) = r at hd
  rw [show (((p + 1 : Nat)) : Int) = (p : Int) + 1 from by omega] at hd
  have hz : ((p : Int) + 1 == 0) = false := by simp; omega
  have hwr : IntKind.i64.wrap ((p : Int) + 1 - 1) = (p : Int) := by rw [IntKind.wrap_i64]; omega
  have hwr2 : IntKind.i64.wrap (p : Int) = (p : Int) := by rw [IntKind.wrap_i64]; omega
  have hwr3 : wrap64 ((p : Int) + 1 - 1) = (p : Int) := by unfold wrap64; omega
  have hwr4 : wrap64 (p : Int) = (p : Int) := by unfold wrap64; omega
  have ha : (p : Int) + 1 - 1 = (p : Int) := by omega
  go_enter Tryz.func58, Tryz.ntmps58
  go_wp2_with (go_at_call 71; refine hd.mono ?_; rintro e w1 ⟨rfl, hb1⟩; have h1 := h.later hb1; obtain ⟨g, cap, c0, c1, f0, f1⟩ := h1.cells; rw [show (((p + 1 : Nat)) : Int) = (p : Int) + 1 from by omega] at c1; obtain ⟨h2, hg2⟩ := hist_move h1 p (by omega))
  refine (now_any hb Ls p _ h2).mono ?_
  rintro e w3 ⟨mb, rfl, hm3, hl3, hb3⟩
  go_wp2
  go_ret2
  exact ⟨mb, rfl, hm3, hl3, h2.later hb3, grown_laterB (((grown_of_below hb1).trans hg2)) hb3⟩

set_option maxRecDepth 4000 in
set_option maxHeartbeats 1000000 in
theorem redo_none (hb : Nat) (Ls : List Es) (p : Nat) (hp : p + 1 = Ls.length) (w : World) (h : HistAt w hb Ls p) : Calls Tryz.prog 59 #[.pointer (some ⟨hb, 0, none⟩)] w fun e w' => e = .returned (.tuple #[.pointer none, .int .i64 112]) ∧ Below w.heap.size w w' := by
  have hd := depth_any hb Ls p 0 (by omega) w h
  rw [show (((0 : Nat)) : Int) = 0 from rfl] at hd
  go_enter Tryz.func59, Tryz.ntmps59
  go_wp2_with (go_at_call 71; refine hd.mono ?_; rintro e w1 ⟨rfl, hb1⟩)
  go_ret2
  exact ⟨rfl, hb1⟩

set_option maxRecDepth 4000 in
set_option maxHeartbeats 1000000 in
theorem redo_some (hb : Nat) (Ls : List Es) (p : Nat) (hp : p + 1 < Ls.length) (w : World) (h : HistAt w hb Ls p) : Calls Tryz.prog 59 #[.pointer (some ⟨hb, 0, none⟩)] w fun e w' => ∃ mb, e = .returned (.tuple #[.pointer (some ⟨mb, 0, none⟩), .int .i64 0]) ∧ MapE w' mb (Ls.getD (p + 1) []) ∧ (Ls.getD (p + 1) []).length ≤ 5000000000 ∧ HistAt w' hb Ls (p + 1) ∧ w.grownBy w' (some hb) := by
  have hl2 := h.2.1
  obtain ⟨r, hr⟩ : ∃ r, p + 1 + (r + 1) = Ls.length := ⟨Ls.length - p - 2, by omega⟩
  have hd := depth_any hb Ls p (r + 1) hr w h
  rw [show (((r + 1 : Nat)) : Int) = (r : Int) + 1 from by omega] at hd
  have hz : ((r : Int) + 1 == 0) = false := by simp; omega
  have hwr : IntKind.i64.wrap ((p : Int) + 1) = (p : Int) + 1 := by rw [IntKind.wrap_i64]; omega
  have hwr3 : wrap64 ((p : Int) + 1) = (p : Int) + 1 := by unfold wrap64; omega
  go_enter Tryz.func59, Tryz.ntmps59
  go_wp2_with (go_at_call 71; refine hd.mono ?_; rintro e w1 ⟨rfl, hb1⟩; have h1 := h.later hb1; obtain ⟨g, cap, c0, c1, f0, f1⟩ := h1.cells; obtain ⟨h2, hg2⟩ := hist_move h1 (p + 1) hp; rw [show (((p + 1 : Nat)) : Int) = (p : Int) + 1 from by omega] at h2 hg2)
  refine (now_any hb Ls (p + 1) _ h2).mono ?_
  rintro e w3 ⟨mb, rfl, hm3, hl3, hb3⟩
  go_wp2
  go_ret2
  exact ⟨mb, rfl, hm3, hl3, h2.later hb3, grown_laterB (((grown_of_below hb1).trans hg2)) hb3⟩

end Go.Proofs.YtblfdjdhikfjhaaGreat

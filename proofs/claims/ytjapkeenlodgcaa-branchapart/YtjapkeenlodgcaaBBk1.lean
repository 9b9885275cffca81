import Derived.Test.YtjapkeenlodgcaaBBook
import Derived.BigQuiet
namespace Go.Proofs.Ytjapkeenlodgcaa
open Go.RowKit

theorem bkey : Go.Maps.Keyed Try.prog 9 := Go.Maps.string_keyed Try.underlying9
theorem bzero (w : World) : (zeroValue 61).run Try.prog w = .ok (.pointer none) w := by kernel_rfl
theorem bmapT : Try.prog.underlying 63 = some (.map 9 61) := by kernel_rfl
theorem bkeyOf {s : ByteArray} (hs : s.size ≤ maxLen) : keyOf Try.prog 9 (.string s) = some (kl s) := WideMaps.keyOf_string_mk Try.underlying9 hs

theorem look_here {w : World} {mb n : Nat} {D : DataW Nat} {Bs : List Br} (hown : w.ownsMap Try.prog 9 bR mb n D) (hT : Ties D Bs) {b : Br} (hb : b ∈ Bs) (hs : b.nm.size ≤ maxLen) :
    (Instr.lookup 63 (.map (some mb)) (.string b.nm) false).run Try.prog w = .ok (.pointer (some ⟨b.xb, 0, none⟩)) w := by
  obtain ⟨v, ps, hrun, hv⟩ := hown.lookup bkey bmapT (bzero w) (zd := .nil) (zp := []) rfl (bkeyOf hs)
  rw [hT.atK b hb] at hv
  rw [bR_held hv] at hrun
  exact hrun

set_option maxRecDepth 4000 in
set_option maxHeartbeats 1000000 in
theorem here_any (lo bb : Nat) (Bs : List Br) (c : Br) (hc : c ∈ Bs) (w : World) (h : BookAt w lo bb Bs c.nm) : Calls Try.prog 33 #[.pointer (some ⟨bb, 0, none⟩)] w fun e w' => e = .returned (.pointer (some ⟨c.xb, 0, none⟩)) ∧ Below w.heap.size w w' := by
  obtain ⟨-, -, mb, D, -, h1, h2, h3, h4, h5, h6⟩ := h
  have hs := (h4 c hc).2.2
  have c0 := cell_of_row _ _ 0 _ _ _ h1
  have c1 := cell_of_row _ _ 1 _ _ _ h1
  simp at c0 c1
  have hr : ∀ n, (Instr.lookup 63 (.map (some mb)) (.string c.nm) false).run Try.prog (w.drewN n) = .ok (.pointer (some ⟨c.xb, 0, none⟩)) (w.drewN n) := fun n => look_here (ownsMap_later h2 (below_drewN (Below.refl _ _) n)) h3 hc hs
  have hr0 := look_here h2 h3 hc hs
  clear h2 h3 h4 h5
  go_enter Try.func33, Try.ntmps33
  go_wp2
  go_quiet (fail)
  go_wp2
  go_ret
  exact ⟨rfl, below_drewN (Below.refl _ _) _⟩

theorem BookAt.br {w : World} {lo bb : Nat} {Bs : List Br} {cur : ByteArray} (h : BookAt w lo bb Bs cur) {b : Br} (hb : b ∈ Bs) : BrAt w b := by
  obtain ⟨-, -, mb, D, -, h1, h2, h3, h4, -⟩ := h
  exact h4 b hb
/-- The current branch. -/
theorem BookAt.here {w : World} {lo bb : Nat} {Bs : List Br} {cur : ByteArray} (h : BookAt w lo bb Bs cur) : ∃ c ∈ Bs, c.nm = cur := by
  obtain ⟨-, -, mb, D, -, h1, h2, h3, h4, h5, -⟩ := h
  exact h5
/-- A call on the current branch's history that turns it. -/
theorem BookAt.go {w w1 w2 : World} {lo bb : Nat} {Bs : List Br} {cur : ByteArray} {c : Br} {Ls : List Es} {p : Nat} (h : BookAt w lo bb Bs cur) (hc : c ∈ Bs) (hb1 : Below w.heap.size w w1) (hg : w1.grownBy w2 (some c.hb)) (hH : HistAt w2 c.hb Ls p) : BookAt w2 lo bb (turn Bs c.hb Ls p) cur ∧ Mv lo w w2 :=
  ⟨(h.later hb1).turned hc hg hH, Mv.after hb1 (h.2.1 c hc) (h.br hc).2.1.noU hg⟩

set_option maxRecDepth 4000 in
set_option maxHeartbeats 1000000 in
theorem inputs_any (lo bb : Nat) (Bs : List Br) (c : Br) (hc : c ∈ Bs) (w : World) (h : BookAt w lo bb Bs c.nm) : Calls Try.prog 14 #[.pointer (some ⟨bb, 0, none⟩)] w fun e w' => ∃ mb, e = .returned (.pointer (some ⟨mb, 0, none⟩)) ∧ MapE w' mb (c.Ls.getD c.p []) ∧ Below w.heap.size w w' := by
  have hB := h.br hc
  have hh := here_any lo bb Bs c hc w h
  go_enter Try.func14, Try.ntmps14
  go_wp2_with (first | (go_at_call 33; refine hh.mono ?_; rintro e w1 ⟨rfl, hb1⟩; obtain ⟨⟨g, x1, x2⟩, x3, x4⟩ := hB.later hb1; have c0 := cell_of_row _ _ 0 _ _ _ x1; simp at c0) | (go_at_call 28; refine (now_any _ _ _ _ x3).mono ?_; rintro e w2 ⟨m2, rfl, hm2, -, hb2⟩))
  go_ret
  exact ⟨m2, rfl, hm2, below_step hb1 hb2⟩

set_option maxRecDepth 4000 in
set_option maxHeartbeats 1000000 in
theorem bdepth_any (lo bb : Nat) (Bs : List Br) (c : Br) (hc : c ∈ Bs) (r : Nat) (hr : c.p + 1 + r = c.Ls.length) (w : World) (h : BookAt w lo bb Bs c.nm) : Calls Try.prog 15 #[.pointer (some ⟨bb, 0, none⟩)] w fun e w' => e = .returned (.tuple #[.int .i64 (c.p : Int), .int .i64 (r : Int)]) ∧ Below w.heap.size w w' := by
  have hB := h.br hc
  have hh := here_any lo bb Bs c hc w h
  go_enter Try.func15, Try.ntmps15
  go_wp2_with (first | (go_at_call 33; refine hh.mono ?_; rintro e w1 ⟨rfl, hb1⟩; obtain ⟨⟨g, x1, x2⟩, x3, x4⟩ := hB.later hb1; have c0 := cell_of_row _ _ 0 _ _ _ x1; simp at c0) | (go_at_call 34; refine (depth_any _ _ _ r hr _ x3).mono ?_; rintro e w2 ⟨rfl, hb2⟩))
  go_ret2
  exact ⟨rfl, below_step hb1 hb2⟩

set_option maxRecDepth 4000 in
set_option maxHeartbeats 1000000 in
theorem change_full (lo bb : Nat) (Bs : List Br) (c : Br) (hc : c ∈ Bs) (hp : c.p = 32) (mb : Nat) (w : World) (h : BookAt w lo bb Bs c.nm) : Calls Try.prog 16 #[.pointer (some ⟨bb, 0, none⟩), .pointer (some ⟨mb, 0, none⟩)] w fun e w' => e = .returned (.int .i64 110) ∧ Below w.heap.size w w' := by
  have hB := h.br hc
  have hh := here_any lo bb Bs c hc w h
  go_enter Try.func16, Try.ntmps16
  go_wp2_with (first | (go_at_call 33; refine hh.mono ?_; rintro e w1 ⟨rfl, hb1⟩; obtain ⟨⟨g, x1, x2⟩, x3, x4⟩ := hB.later hb1; have c0 := cell_of_row _ _ 0 _ _ _ x1; simp at c0) | (go_at_call 35; refine (push_full _ mb c.Ls _ (hp ▸ x3)).mono ?_; rintro e w2 ⟨rfl, hb2⟩))
  go_ret
  exact ⟨rfl, below_step hb1 hb2⟩

set_option maxRecDepth 4000 in
set_option maxHeartbeats 1000000 in
theorem change_some (lo bb : Nat) (Bs : List Br) (c : Br) (hc : c ∈ Bs) (hp : c.p < 32) (mb : Nat) (L : Es) (w : World) (h : BookAt w lo bb Bs c.nm) (hm : MapE w mb L) : Calls Try.prog 16 #[.pointer (some ⟨bb, 0, none⟩), .pointer (some ⟨mb, 0, none⟩)] w fun e w' => e = .returned (.int .i64 0) ∧ BookAt w' lo bb (turn Bs c.hb (c.Ls.take (c.p + 1) ++ [L]) (c.p + 1)) c.nm ∧ Mv lo w w' := by
  have hB := h.br hc
  have hh := here_any lo bb Bs c hc w h
  go_enter Try.func16, Try.ntmps16
  go_wp2_with (first | (go_at_call 33; refine hh.mono ?_; rintro e w1 ⟨rfl, hb1⟩; obtain ⟨⟨g, x1, x2⟩, x3, x4⟩ := hB.later hb1; have c0 := cell_of_row _ _ 0 _ _ _ x1; simp at c0) | (go_at_call 35; refine (push_some _ mb _ _ hp L (by have := hm.len; omega) _ x3 (hm.later hb1)).mono ?_; rintro e w2 ⟨rfl, hH2, hg2⟩))
  go_ret
  exact ⟨rfl, h.go hc hb1 hg2 hH2⟩

set_option maxRecDepth 4000 in
set_option maxHeartbeats 1000000 in
theorem bundo_none (lo bb : Nat) (Bs : List Br) (c : Br) (hc : c ∈ Bs) (hp : c.p = 0) (w : World) (h : BookAt w lo bb Bs c.nm) : Calls Try.prog 20 #[.pointer (some ⟨bb, 0, none⟩)] w fun e w' => e = .returned (.int .i64 111) ∧ Below w.heap.size w w' := by
  have hB := h.br hc
  have hh := here_any lo bb Bs c hc w h
  go_enter Try.func20, Try.ntmps20
  go_wp2_with (first | (go_at_call 33; refine hh.mono ?_; rintro e w1 ⟨rfl, hb1⟩; obtain ⟨⟨g, x1, x2⟩, x3, x4⟩ := hB.later hb1; have c0 := cell_of_row _ _ 0 _ _ _ x1; simp at c0) | (go_at_call 37; refine (undo_none _ c.Ls _ (hp ▸ x3)).mono ?_; rintro e w2 ⟨rfl, hb2⟩))
  go_ret
  exact ⟨rfl, below_step hb1 hb2⟩

set_option maxRecDepth 4000 in
set_option maxHeartbeats 1000000 in
theorem bundo_some (lo bb : Nat) (Bs : List Br) (c : Br) (hc : c ∈ Bs) (p : Nat) (hp : c.p = p + 1) (w : World) (h : BookAt w lo bb Bs c.nm) : Calls Try.prog 20 #[.pointer (some ⟨bb, 0, none⟩)] w fun e w' => e = .returned (.int .i64 0) ∧ BookAt w' lo bb (turn Bs c.hb c.Ls p) c.nm ∧ Mv lo w w' := by
  have hB := h.br hc
  have hh := here_any lo bb Bs c hc w h
  go_enter Try.func20, Try.ntmps20
  go_wp2_with (first | (go_at_call 33; refine hh.mono ?_; rintro e w1 ⟨rfl, hb1⟩; obtain ⟨⟨g, x1, x2⟩, x3, x4⟩ := hB.later hb1; have c0 := cell_of_row _ _ 0 _ _ _ x1; simp at c0) | (go_at_call 37; refine (undo_some _ c.Ls p _ (hp ▸ x3)).mono ?_; rintro e w2 ⟨m2, rfl, -, -, hH2, hg2⟩))
  go_ret
  exact ⟨rfl, h.go hc hb1 hg2 hH2⟩

set_option maxRecDepth 4000 in
set_option maxHeartbeats 1000000 in
theorem bredo_none (lo bb : Nat) (Bs : List Br) (c : Br) (hc : c ∈ Bs) (hp : c.p + 1 = c.Ls.length) (w : World) (h : BookAt w lo bb Bs c.nm) : Calls Try.prog 21 #[.pointer (some ⟨bb, 0, none⟩)] w fun e w' => e = .returned (.int .i64 112) ∧ Below w.heap.size w w' := by
  have hB := h.br hc
  have hh := here_any lo bb Bs c hc w h
  go_enter Try.func21, Try.ntmps21
  go_wp2_with (first | (go_at_call 33; refine hh.mono ?_; rintro e w1 ⟨rfl, hb1⟩; obtain ⟨⟨g, x1, x2⟩, x3, x4⟩ := hB.later hb1; have c0 := cell_of_row _ _ 0 _ _ _ x1; simp at c0) | (go_at_call 38; refine (redo_none _ c.Ls _ hp _ x3).mono ?_; rintro e w2 ⟨rfl, hb2⟩))
  go_ret
  exact ⟨rfl, below_step hb1 hb2⟩

set_option maxRecDepth 4000 in
set_option maxHeartbeats 1000000 in
theorem bredo_some (lo bb : Nat) (Bs : List Br) (c : Br) (hc : c ∈ Bs) (hp : c.p + 1 < c.Ls.length) (w : World) (h : BookAt w lo bb Bs c.nm) : Calls Try.prog 21 #[.pointer (some ⟨bb, 0, none⟩)] w fun e w' => e = .returned (.int .i64 0) ∧ BookAt w' lo bb (turn Bs c.hb c.Ls (c.p + 1)) c.nm ∧ Mv lo w w' := by
  have hB := h.br hc
  have hh := here_any lo bb Bs c hc w h
  go_enter Try.func21, Try.ntmps21
  go_wp2_with (first | (go_at_call 33; refine hh.mono ?_; rintro e w1 ⟨rfl, hb1⟩; obtain ⟨⟨g, x1, x2⟩, x3, x4⟩ := hB.later hb1; have c0 := cell_of_row _ _ 0 _ _ _ x1; simp at c0) | (go_at_call 38; refine (redo_some _ c.Ls _ hp _ x3).mono ?_; rintro e w2 ⟨m2, rfl, -, -, hH2, hg2⟩))
  go_ret
  exact ⟨rfl, h.go hc hb1 hg2 hH2⟩

set_option maxRecDepth 4000 in
set_option maxHeartbeats 1000000 in
theorem bforget_bad (lo bb : Nat) (Bs : List Br) (c : Br) (hc : c ∈ Bs) (n : Int) (hn : n < 0 ∨ (c.p : Int) < n) (w : World) (h : BookAt w lo bb Bs c.nm) : Calls Try.prog 30 #[.pointer (some ⟨bb, 0, none⟩), .int .i64 n] w fun e w' => e = .returned (.int .i64 113) ∧ Below w.heap.size w w' := by
  have hB := h.br hc
  have hh := here_any lo bb Bs c hc w h
  go_enter Try.func30, Try.ntmps30
  go_wp2_with (first | (go_at_call 33; refine hh.mono ?_; rintro e w1 ⟨rfl, hb1⟩; obtain ⟨⟨g, x1, x2⟩, x3, x4⟩ := hB.later hb1; have c0 := cell_of_row _ _ 0 _ _ _ x1; simp at c0) | (go_at_call 45; refine (forget_bad _ c.Ls _ n hn _ x3).mono ?_; rintro e w2 ⟨rfl, hb2⟩))
  go_ret
  exact ⟨rfl, below_step hb1 hb2⟩

set_option maxRecDepth 4000 in
set_option maxHeartbeats 1000000 in
theorem bforget_some (lo bb : Nat) (Bs : List Br) (c : Br) (hc : c ∈ Bs) (n : Nat) (hn : n ≤ c.p) (w : World) (h : BookAt w lo bb Bs c.nm) : Calls Try.prog 30 #[.pointer (some ⟨bb, 0, none⟩), .int .i64 (n : Int)] w fun e w' => e = .returned (.int .i64 0) ∧ BookAt w' lo bb (turn Bs c.hb (c.Ls.drop n) (c.p - n)) c.nm ∧ Mv lo w w' := by
  have hB := h.br hc
  have hh := here_any lo bb Bs c hc w h
  go_enter Try.func30, Try.ntmps30
  go_wp2_with (first | (go_at_call 33; refine hh.mono ?_; rintro e w1 ⟨rfl, hb1⟩; obtain ⟨⟨g, x1, x2⟩, x3, x4⟩ := hB.later hb1; have c0 := cell_of_row _ _ 0 _ _ _ x1; simp at c0) | (go_at_call 45; refine (forget_some _ c.Ls _ n hn _ x3).mono ?_; rintro e w2 ⟨rfl, hH2, hg2⟩))
  go_ret
  exact ⟨rfl, h.go hc hb1 hg2 hH2⟩

end Go.Proofs.Ytjapkeenlodgcaa

import Derived.Test.YtblfdjdhikfjhaaGreatTurnBBook
import Derived.BigQuiet
import Derived.Test.YtblfdjdhikfjhaaGreatJoin1
import Derived.Deep.RegionLaw
namespace Go.Proofs.YtblfdjdhikfjhaaGreat
open Go.RowKit

theorem bkey : Go.Maps.Keyed Tryz.prog 9 := Go.Maps.string_keyed Tryz.underlying9
theorem bzero (w : World) : (zeroValue 72).run Tryz.prog w = .ok (.pointer none) w := by kernel_rfl
theorem bmapT : Tryz.prog.underlying 69 = some (.map 9 72) := by kernel_rfl
theorem bkeyOf {s : ByteArray} (hs : s.size ≤ maxLen) : keyOf Tryz.prog 9 (.string s) = some (kl s) := WideMaps.keyOf_string_mk Tryz.underlying9 hs

theorem look_here {w : World} {mb n : Nat} {D : DataW Nat} {Bs : List Br} (hown : w.ownsMap Tryz.prog 9 bR mb n D) (hT : Ties D Bs) {b : Br} (hb : b ∈ Bs) (hs : b.nm.size ≤ maxLen) :
    (Instr.lookup 69 (.map (some mb)) (.string b.nm) false).run Tryz.prog w = .ok (.pointer (some ⟨b.xb, 0, none⟩)) w := by
  obtain ⟨v, ps, hrun, hv⟩ := hown.lookup bkey bmapT (bzero w) (zd := .nil) (zp := []) rfl (bkeyOf hs)
  rw [hT.atK b hb] at hv
  rw [bR_held hv] at hrun
  exact hrun

set_option maxRecDepth 4000 in
set_option maxHeartbeats 1000000 in
theorem here_any (lo bb : Nat) (Bs : List Br) (c : Br) (hc : c ∈ Bs) (w : World) (h : BookAt w lo bb Bs c.nm) : Calls Tryz.prog 37 #[.pointer (some ⟨bb, 0, none⟩)] w fun e w' => e = .returned (.pointer (some ⟨c.xb, 0, none⟩)) ∧ Below w.heap.size w w' := by
  obtain ⟨-, -, mb, D, -, h1, h2, h3, h4, h5, h6⟩ := h
  have hs := (h4 c hc).2.2
  have c0 := cell_of_row _ _ 0 _ _ _ h1
  have c1 := cell_of_row _ _ 1 _ _ _ h1
  simp at c0 c1
  have hr : ∀ n, (Instr.lookup 69 (.map (some mb)) (.string c.nm) false).run Tryz.prog (w.drewN n) = .ok (.pointer (some ⟨c.xb, 0, none⟩)) (w.drewN n) := fun n => look_here (ownsMap_later h2 (below_drewN (Below.refl _ _) n)) h3 hc hs
  have hr0 := look_here h2 h3 hc hs
  clear h2 h3 h4 h5
  go_enter Tryz.func37, Tryz.ntmps37
  go_wp2
  go_quiet (fail)
  go_wp2
  go_ret
  exact ⟨rfl, below_drewN (Below.refl _ _) _⟩

theorem BookAt.br {w : World} {lo bb : Nat} {Bs : List Br} {cur : ByteArray} (h : BookAt w lo bb Bs cur) {b : Br} (hb : b ∈ Bs) : BrAt w b := by
  obtain ⟨-, -, mb, D, -, h1, h2, h3, h4, -⟩ := h
  exact h4 b hb
/-- The current branch. -/
theorem BookAt.here {w : World} {lo bb : Nat} {Bs : List Br} {cur : ByteArray} (h : BookAt w lo bb Bs cur) : ∃ c ∈ Bs, c.nm = cur := by
  obtain ⟨-, -, mb, D, -, h1, h2, h3, h4, h5, -⟩ := h
  exact h5
/-- A call on the current branch's history that turns it. -/
theorem BookAt.go {w w1 w2 : World} {lo bb : Nat} {Bs : List Br} {cur : ByteArray} {c : Br} {Ls : List Es} {p : Nat} (h : BookAt w lo bb Bs cur) (hc : c ∈ Bs) (hb1 : Below w.heap.size w w1) (hg : w1.grownBy w2 (some c.hb)) (hH : HistAt w2 c.hb Ls p) : BookAt w2 lo bb (turn Bs c.hb Ls p) cur ∧ Mv lo w w2 :=
  ⟨(h.later hb1).turned hc hg hH, Mv.after hb1 (h.2.1 c hc) (h.br hc).2.1.noU hg⟩

set_option maxRecDepth 4000 in
set_option maxHeartbeats 1000000 in
theorem inputs_any (lo bb : Nat) (Bs : List Br) (c : Br) (hc : c ∈ Bs) (w : World) (h : BookAt w lo bb Bs c.nm) : Calls Tryz.prog 22 #[.pointer (some ⟨bb, 0, none⟩)] w fun e w' => ∃ mb, e = .returned (.pointer (some ⟨mb, 0, none⟩)) ∧ MapE w' mb (c.Ls.getD c.p []) ∧ Below w.heap.size w w' := by
  have hB := h.br hc
  have hh := here_any lo bb Bs c hc w h
  go_enter Tryz.func22, Tryz.ntmps22
  go_wp2_with (first | (go_at_call 37; refine hh.mono ?_; rintro e w1 ⟨rfl, hb1⟩; obtain ⟨⟨g, x1, x2⟩, x3, x4⟩ := hB.later hb1; have c0 := cell_of_row _ _ 0 _ _ _ x1; simp at c0) | (go_at_call 39; refine (now_any _ _ _ _ x3).mono ?_; rintro e w2 ⟨m2, rfl, hm2, -, hb2⟩))
  go_ret
  exact ⟨m2, rfl, hm2, below_step hb1 hb2⟩

set_option maxRecDepth 4000 in
set_option maxHeartbeats 1000000 in
theorem bdepth_any (lo bb : Nat) (Bs : List Br) (c : Br) (hc : c ∈ Bs) (r : Nat) (hr : c.p + 1 + r = c.Ls.length) (w : World) (h : BookAt w lo bb Bs c.nm) : Calls Tryz.prog 55 #[.pointer (some ⟨bb, 0, none⟩)] w fun e w' => e = .returned (.tuple #[.int .i64 (c.p : Int), .int .i64 (r : Int)]) ∧ Below w.heap.size w w' := by
  have hB := h.br hc
  have hh := here_any lo bb Bs c hc w h
  go_enter Tryz.func55, Tryz.ntmps55
  go_wp2_with (first | (go_at_call 37; refine hh.mono ?_; rintro e w1 ⟨rfl, hb1⟩; obtain ⟨⟨g, x1, x2⟩, x3, x4⟩ := hB.later hb1; have c0 := cell_of_row _ _ 0 _ _ _ x1; simp at c0) | (go_at_call 71; refine (depth_any _ _ _ r hr _ x3).mono ?_; rintro e w2 ⟨rfl, hb2⟩))
  go_ret2
  exact ⟨rfl, below_step hb1 hb2⟩

set_option maxRecDepth 4000 in
set_option maxHeartbeats 1000000 in
theorem change_full (lo bb : Nat) (Bs : List Br) (c : Br) (hc : c ∈ Bs) (hp : c.p = 32) (mb : Nat) (w : World) (h : BookAt w lo bb Bs c.nm) : Calls Tryz.prog 17 #[.pointer (some ⟨bb, 0, none⟩), .pointer (some ⟨mb, 0, none⟩)] w fun e w' => e = .returned (.int .i64 110) ∧ Below w.heap.size w w' := by
  have hB := h.br hc
  have hh := here_any lo bb Bs c hc w h
  go_enter Tryz.func17, Tryz.ntmps17
  go_wp2_with (first | (go_at_call 37; refine hh.mono ?_; rintro e w1 ⟨rfl, hb1⟩; obtain ⟨⟨g, x1, x2⟩, x3, x4⟩ := hB.later hb1; have c0 := cell_of_row _ _ 0 _ _ _ x1; simp at c0) | (go_at_call 38; refine (push_full _ mb c.Ls _ (hp ▸ x3)).mono ?_; rintro e w2 ⟨rfl, hb2⟩))
  go_ret
  exact ⟨rfl, below_step hb1 hb2⟩

set_option maxRecDepth 4000 in
set_option maxHeartbeats 1000000 in
theorem change_some (lo bb : Nat) (Bs : List Br) (c : Br) (hc : c ∈ Bs) (hp : c.p < 32) (mb : Nat) (L : Es) (w : World) (h : BookAt w lo bb Bs c.nm) (hm : MapE w mb L) : Calls Tryz.prog 17 #[.pointer (some ⟨bb, 0, none⟩), .pointer (some ⟨mb, 0, none⟩)] w fun e w' => e = .returned (.int .i64 0) ∧ BookAt w' lo bb (turn Bs c.hb (c.Ls.take (c.p + 1) ++ [L]) (c.p + 1)) c.nm ∧ Mv lo w w' := by
  have hB := h.br hc
  have hh := here_any lo bb Bs c hc w h
  go_enter Tryz.func17, Tryz.ntmps17
  go_wp2_with (first | (go_at_call 37; refine hh.mono ?_; rintro e w1 ⟨rfl, hb1⟩; obtain ⟨⟨g, x1, x2⟩, x3, x4⟩ := hB.later hb1; have c0 := cell_of_row _ _ 0 _ _ _ x1; simp at c0) | (go_at_call 38; refine (push_some _ mb _ _ hp L (by have := hm.len; omega) _ x3 (hm.later hb1)).mono ?_; rintro e w2 ⟨rfl, hH2, hg2⟩))
  go_ret
  exact ⟨rfl, h.go hc hb1 hg2 hH2⟩

set_option maxRecDepth 4000 in
set_option maxHeartbeats 1000000 in
theorem bundo_none (lo bb : Nat) (Bs : List Br) (c : Br) (hc : c ∈ Bs) (hp : c.p = 0) (w : World) (h : BookAt w lo bb Bs c.nm) : Calls Tryz.prog 30 #[.pointer (some ⟨bb, 0, none⟩)] w fun e w' => e = .returned (.int .i64 111) ∧ Below w.heap.size w w' := by
  have hB := h.br hc
  have hh := here_any lo bb Bs c hc w h
  go_enter Tryz.func30, Tryz.ntmps30
  go_wp2_with (first | (go_at_call 37; refine hh.mono ?_; rintro e w1 ⟨rfl, hb1⟩; obtain ⟨⟨g, x1, x2⟩, x3, x4⟩ := hB.later hb1; have c0 := cell_of_row _ _ 0 _ _ _ x1; simp at c0) | (go_at_call 58; refine (undo_none _ c.Ls _ (hp ▸ x3)).mono ?_; rintro e w2 ⟨rfl, hb2⟩))
  go_ret
  exact ⟨rfl, below_step hb1 hb2⟩

set_option maxRecDepth 4000 in
set_option maxHeartbeats 1000000 in
theorem bundo_some (lo bb : Nat) (Bs : List Br) (c : Br) (hc : c ∈ Bs) (p : Nat) (hp : c.p = p + 1) (w : World) (h : BookAt w lo bb Bs c.nm) : Calls Tryz.prog 30 #[.pointer (some ⟨bb, 0, none⟩)] w fun e w' => e = .returned (.int .i64 0) ∧ BookAt w' lo bb (turn Bs c.hb c.Ls p) c.nm ∧ Mv lo w w' := by
  have hB := h.br hc
  have hh := here_any lo bb Bs c hc w h
  go_enter Tryz.func30, Tryz.ntmps30
  go_wp2_with (first | (go_at_call 37; refine hh.mono ?_; rintro e w1 ⟨rfl, hb1⟩; obtain ⟨⟨g, x1, x2⟩, x3, x4⟩ := hB.later hb1; have c0 := cell_of_row _ _ 0 _ _ _ x1; simp at c0) | (go_at_call 58; refine (undo_some _ c.Ls p _ (hp ▸ x3)).mono ?_; rintro e w2 ⟨m2, rfl, -, -, hH2, hg2⟩))
  go_ret
  exact ⟨rfl, h.go hc hb1 hg2 hH2⟩

set_option maxRecDepth 4000 in
set_option maxHeartbeats 1000000 in
theorem bredo_none (lo bb : Nat) (Bs : List Br) (c : Br) (hc : c ∈ Bs) (hp : c.p + 1 = c.Ls.length) (w : World) (h : BookAt w lo bb Bs c.nm) : Calls Tryz.prog 31 #[.pointer (some ⟨bb, 0, none⟩)] w fun e w' => e = .returned (.int .i64 112) ∧ Below w.heap.size w w' := by
  have hB := h.br hc
  have hh := here_any lo bb Bs c hc w h
  go_enter Tryz.func31, Tryz.ntmps31
  go_wp2_with (first | (go_at_call 37; refine hh.mono ?_; rintro e w1 ⟨rfl, hb1⟩; obtain ⟨⟨g, x1, x2⟩, x3, x4⟩ := hB.later hb1; have c0 := cell_of_row _ _ 0 _ _ _ x1; simp at c0) | (go_at_call 59; refine (redo_none _ c.Ls _ hp _ x3).mono ?_; rintro e w2 ⟨rfl, hb2⟩))
  go_ret
  exact ⟨rfl, below_step hb1 hb2⟩

set_option maxRecDepth 4000 in
set_option maxHeartbeats 1000000 in
theorem bredo_some (lo bb : Nat) (Bs : List Br) (c : Br) (hc : c ∈ Bs) (hp : c.p + 1 < c.Ls.length) (w : World) (h : BookAt w lo bb Bs c.nm) : Calls Tryz.prog 31 #[.pointer (some ⟨bb, 0, none⟩)] w fun e w' => e = .returned (.int .i64 0) ∧ BookAt w' lo bb (turn Bs c.hb c.Ls (c.p + 1)) c.nm ∧ Mv lo w w' := by
  have hB := h.br hc
  have hh := here_any lo bb Bs c hc w h
  go_enter Tryz.func31, Tryz.ntmps31
  go_wp2_with (first | (go_at_call 37; refine hh.mono ?_; rintro e w1 ⟨rfl, hb1⟩; obtain ⟨⟨g, x1, x2⟩, x3, x4⟩ := hB.later hb1; have c0 := cell_of_row _ _ 0 _ _ _ x1; simp at c0) | (go_at_call 59; refine (redo_some _ c.Ls _ hp _ x3).mono ?_; rintro e w2 ⟨m2, rfl, -, -, hH2, hg2⟩))
  go_ret
  exact ⟨rfl, h.go hc hb1 hg2 hH2⟩

set_option maxRecDepth 4000 in
set_option maxHeartbeats 1000000 in
theorem bforget_bad (lo bb : Nat) (Bs : List Br) (c : Br) (hc : c ∈ Bs) (n : Int) (hn : n < 0 ∨ (c.p : Int) < n) (w : World) (h : BookAt w lo bb Bs c.nm) : Calls Tryz.prog 32 #[.pointer (some ⟨bb, 0, none⟩), .int .i64 n] w fun e w' => e = .returned (.int .i64 113) ∧ Below w.heap.size w w' := by
  have hB := h.br hc
  have hh := here_any lo bb Bs c hc w h
  go_enter Tryz.func32, Tryz.ntmps32
  go_wp2_with (first | (go_at_call 37; refine hh.mono ?_; rintro e w1 ⟨rfl, hb1⟩; obtain ⟨⟨g, x1, x2⟩, x3, x4⟩ := hB.later hb1; have c0 := cell_of_row _ _ 0 _ _ _ x1; simp at c0) | (go_at_call 60; refine (forget_bad _ c.Ls _ n hn _ x3).mono ?_; rintro e w2 ⟨rfl, hb2⟩))
  go_ret
  exact ⟨rfl, below_step hb1 hb2⟩

set_option maxRecDepth 4000 in
set_option maxHeartbeats 1000000 in
theorem bforget_some (lo bb : Nat) (Bs : List Br) (c : Br) (hc : c ∈ Bs) (n : Nat) (hn : n ≤ c.p) (w : World) (h : BookAt w lo bb Bs c.nm) : Calls Tryz.prog 32 #[.pointer (some ⟨bb, 0, none⟩), .int .i64 (n : Int)] w fun e w' => e = .returned (.int .i64 0) ∧ BookAt w' lo bb (turn Bs c.hb (c.Ls.drop n) (c.p - n)) c.nm ∧ Mv lo w w' := by
  have hB := h.br hc
  have hh := here_any lo bb Bs c hc w h
  go_enter Tryz.func32, Tryz.ntmps32
  go_wp2_with (first | (go_at_call 37; refine hh.mono ?_; rintro e w1 ⟨rfl, hb1⟩; obtain ⟨⟨g, x1, x2⟩, x3, x4⟩ := hB.later hb1; have c0 := cell_of_row _ _ 0 _ _ _ x1; simp at c0) | (go_at_call 60; refine (forget_some _ c.Ls _ n hn _ x3).mono ?_; rintro e w2 ⟨rfl, hH2, hg2⟩))
  go_ret
  exact ⟨rfl, h.go hc hb1 hg2 hH2⟩

end Go.Proofs.YtblfdjdhikfjhaaGreat


namespace Go.Proofs.YtblfdjdhikfjhaaGreat
open Go.RowKit

def sA : ByteArray := { data := #[97] }
def SomeB (s : ByteArray) (e : Ending) : Prop := ∃ o : Bool, e = .returned (.bool o) ∧ (o = true → 0 < s.size)
theorem five (k : Nat) : (k < 48 ∧ k < 97) ∨ (48 ≤ k ∧ k ≤ 57) ∨ (57 < k ∧ k < 97) ∨ (97 ≤ k ∧ k ≤ 122) ∨ (97 ≤ k ∧ 122 < k) := by omega
set_option maxRecDepth 4000 in
set_option maxHeartbeats 2000000 in
/-- isName answers. -/
theorem isName_some (s : ByteArray) (w : World) : Calls Tryz.prog 35 #[.string s] w fun e w' => SomeB s e ∧ Below w.heap.size w w' := by
  by_cases h0 : s.size = 0
  · have h0' : ((s.size : Int) == 0) = true := by rw [h0]; rfl
    go_enter Tryz.func35, Tryz.ntmps35
    go_wp2
    go_ret
    exact ⟨⟨false, rfl, fun e => by cases e⟩, Below.refl _ _⟩
  have h0' : ((s.size : Int) == 0) = false := by rw [beq_eq_false_iff_ne]; omega
  by_cases h8 : 8 < s.size
  · have h8' : (8 : Int) < (s.size : Int) := by omega
    go_enter Tryz.func35, Tryz.ntmps35
    go_wp2
    go_ret
    exact ⟨⟨_, rfl, fun _ => by omega⟩, Below.refl _ _⟩
  have h8' : ¬ (8 : Int) < (s.size : Int) := by omega
  go_enter Tryz.func35, Tryz.ntmps35
  go_wp2
  go_loopw [16] (fun x wr => ∃ j : Nat, j ≤ s.size ∧ x = .int .i64 j ∧ Below w.heap.size w wr) (fun x _ => s.size - (intOf x).toNat)
  case atStart => exact ⟨0, by omega, rfl, Below.refl _ _⟩
  case round =>
    obtain ⟨j, hj, rfl, hB⟩ := hrel
    by_cases hlt : j < s.size
    · have hlt' : (j : Int) < (s.size : Int) := by omega
      have hj0 : (0 : Int) ≤ (j : Int) := by omega
      by_cases hz : j = 0
      · subst hz
        rcases five s[0].toNat with ⟨h1, h2⟩ | ⟨h1, h2⟩ | ⟨h1, h2⟩ | ⟨h1, h2⟩ | ⟨h1, h2⟩
        · have q0 : ¬ (97 : Int) ≤ ((s[0].toNat : Nat) : Int) := by omega
          have q1 : ¬ (48 : Int) ≤ ((s[0].toNat : Nat) : Int) := by omega
          go_wp2
          go_ret
          exact ⟨⟨_, rfl, fun _ => by omega⟩, hB⟩
        · have q0 : ¬ (97 : Int) ≤ ((s[0].toNat : Nat) : Int) := by omega
          have q1 : (48 : Int) ≤ ((s[0].toNat : Nat) : Int) := by omega
          have q2 : ((s[0].toNat : Nat) : Int) ≤ 57 := by omega
          go_wp2
          go_ret
          exact ⟨⟨_, rfl, fun _ => by omega⟩, hB⟩
        · have q0 : ¬ (97 : Int) ≤ ((s[0].toNat : Nat) : Int) := by omega
          have q1 : (48 : Int) ≤ ((s[0].toNat : Nat) : Int) := by omega
          have q2 : ¬ ((s[0].toNat : Nat) : Int) ≤ 57 := by omega
          go_wp2
          go_ret
          exact ⟨⟨_, rfl, fun _ => by omega⟩, hB⟩
        · have q0 : (97 : Int) ≤ ((s[0].toNat : Nat) : Int) := by omega
          have q1 : ((s[0].toNat : Nat) : Int) ≤ 122 := by omega
          have q2 : (48 : Int) ≤ ((s[0].toNat : Nat) : Int) := by omega
          have q3 : ¬ ((s[0].toNat : Nat) : Int) ≤ 57 := by omega
          go_wp2
          go_roundw
          case rel => exact ⟨1, by omega, by first | rfl | go_num, hB⟩
          case measure => simp [intOf]; omega
        · have q0 : (97 : Int) ≤ ((s[0].toNat : Nat) : Int) := by omega
          have q1 : ¬ ((s[0].toNat : Nat) : Int) ≤ 122 := by omega
          have q2 : (48 : Int) ≤ ((s[0].toNat : Nat) : Int) := by omega
          have q3 : ¬ ((s[0].toNat : Nat) : Int) ≤ 57 := by omega
          go_wp2
          go_ret
          exact ⟨⟨_, rfl, fun _ => by omega⟩, hB⟩
      · have hz' : ((j : Int) == 0) = false := by simp; omega
        rcases five s[j].toNat with ⟨h1, h2⟩ | ⟨h1, h2⟩ | ⟨h1, h2⟩ | ⟨h1, h2⟩ | ⟨h1, h2⟩
        · have q0 : ¬ (97 : Int) ≤ ((s[j].toNat : Nat) : Int) := by omega
          have q1 : ¬ (48 : Int) ≤ ((s[j].toNat : Nat) : Int) := by omega
          go_wp2
          go_ret
          exact ⟨⟨_, rfl, fun _ => by omega⟩, hB⟩
        · have q0 : ¬ (97 : Int) ≤ ((s[j].toNat : Nat) : Int) := by omega
          have q1 : (48 : Int) ≤ ((s[j].toNat : Nat) : Int) := by omega
          have q2 : ((s[j].toNat : Nat) : Int) ≤ 57 := by omega
          go_wp2
          go_roundw
          case rel => exact ⟨j + 1, by omega, by first | rfl | go_num, hB⟩
          case measure => simp [intOf]; omega
        · have q0 : ¬ (97 : Int) ≤ ((s[j].toNat : Nat) : Int) := by omega
          have q1 : (48 : Int) ≤ ((s[j].toNat : Nat) : Int) := by omega
          have q2 : ¬ ((s[j].toNat : Nat) : Int) ≤ 57 := by omega
          go_wp2
          go_ret
          exact ⟨⟨_, rfl, fun _ => by omega⟩, hB⟩
        · have q0 : (97 : Int) ≤ ((s[j].toNat : Nat) : Int) := by omega
          have q1 : ((s[j].toNat : Nat) : Int) ≤ 122 := by omega
          have q2 : (48 : Int) ≤ ((s[j].toNat : Nat) : Int) := by omega
          have q3 : ¬ ((s[j].toNat : Nat) : Int) ≤ 57 := by omega
          go_wp2
          go_roundw
          case rel => exact ⟨j + 1, by omega, by first | rfl | go_num, hB⟩
          case measure => simp [intOf]; omega
        · have q0 : (97 : Int) ≤ ((s[j].toNat : Nat) : Int) := by omega
          have q1 : ¬ ((s[j].toNat : Nat) : Int) ≤ 122 := by omega
          have q2 : (48 : Int) ≤ ((s[j].toNat : Nat) : Int) := by omega
          have q3 : ¬ ((s[j].toNat : Nat) : Int) ≤ 57 := by omega
          go_wp2
          go_ret
          exact ⟨⟨_, rfl, fun _ => by omega⟩, hB⟩
    · have hlt' : ¬ (j : Int) < (s.size : Int) := by omega
      go_wp2
      go_ret
      exact ⟨⟨_, rfl, fun _ => by omega⟩, hB⟩

set_option maxRecDepth 4000 in
set_option maxHeartbeats 2000000 in
theorem isName_a (w : World) : Calls Tryz.prog 35 #[.string sA] w fun e w' => e = .returned (.bool true) ∧ w' = w := by
  unfold sA
  go_enter Tryz.func35, Tryz.ntmps35
  go_wp2
  refine wp_loop_rounds 2 ?_
  rw [rounds_succ]
  go_wp2
  rw [rounds_succ]
  go_wp2
  go_ret
  exact ⟨rfl, rfl⟩

theorem sclone (s : ByteArray) (hs : s.size ≤ 281474976710656) (w : World) : Calls Tryz.prog 36 #[.string s] w fun e w' => e = .returned (.string s) ∧ Below w.heap.size w w' := by
  have h := Tryz.stringslite_Clone s w hs
  go_enter Tryz.func36, Tryz.ntmps36
  go_wp2_with (go_at_call 64; refine h.mono ?_; rintro e w1 ⟨rfl, hb1⟩)
  go_ret
  exact ⟨rfl, hb1⟩

end Go.Proofs.YtblfdjdhikfjhaaGreat

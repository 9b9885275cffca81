import Derived.Test.YtblfdjdhikfjhaaGreatJoin12
import Derived.Test.YtblfdjdhikfjhaaGreatJoin1
namespace Go.Proofs.YtblfdjdhikfjhaaGreat
open Go.RowKit

theorem look_yes {w : World} {mb n : Nat} {D : DataW Nat} {Bs : List Br} (hown : w.ownsMap Tryz.prog 9 bR mb n D) (hT : Ties D Bs) {b : Br} (hb : b ∈ Bs) (hs : b.nm.size ≤ maxLen) :
    (Instr.lookup 69 (.map (some mb)) (.string b.nm) true).run Tryz.prog w = .ok (.tuple #[.pointer (some ⟨b.xb, 0, none⟩), .bool true]) w := by
  obtain ⟨v, ps, hrun, hv⟩ := hown.look_ok bkey bmapT (bzero w) (zd := .nil) (zp := []) rfl (bkeyOf hs)
  rw [hT.atK b hb] at hv
  rw [bR_held hv, (hT.hasK b.nm hs).2 ⟨b, hb, rfl⟩] at hrun
  exact hrun
theorem bR_nil {v : Value} {ps : List MemPlace} (h : bR v = some (.nil, ps)) : v = .pointer none := by
  unfold bR at h
  split at h
  · rfl
  · simp at h
  · cases h
theorem look_not {w : World} {mb n : Nat} {D : DataW Nat} {Bs : List Br} (hown : w.ownsMap Tryz.prog 9 bR mb n D) (hT : Ties D Bs) {s : ByteArray} (hb : ∀ b ∈ Bs, b.nm ≠ s) (hs : s.size ≤ maxLen) :
    (Instr.lookup 69 (.map (some mb)) (.string s) true).run Tryz.prog w = .ok (.tuple #[.pointer none, .bool false]) w := by
  obtain ⟨v, ps, hrun, hv⟩ := hown.look_ok bkey bmapT (bzero w) (zd := .nil) (zp := []) rfl (bkeyOf hs)
  have hn : Go.Maps.has D (kl s) = false := by
    cases e : Go.Maps.has D (kl s) with
    | false => rfl
    | true =>
      obtain ⟨b, h1, h2⟩ := (hT.hasK s hs).1 e
      exact absurd h2 (hb b h1)
  rw [Go.Maps.atKey_of_not_has hn] at hv
  rw [bR_nil hv, hn] at hrun
  exact hrun

/-- What a walk wants to know of a book. -/
theorem BookAt.cells {w : World} {lo bb : Nat} {Bs : List Br} {cur : ByteArray} (h : BookAt w lo bb Bs cur) : ∃ mb D, w.cell? ⟨bb, 0, none⟩ = some (.map (some mb)) ∧ w.cell? ⟨bb, 1, none⟩ = some (.string cur) ∧ w.frozen? ⟨bb, 1, none⟩ = false ∧ w.ownsMap Tryz.prog 9 bR mb Bs.length D ∧ Ties D Bs ∧ lo ≤ mb := by
  obtain ⟨l1, l2, mb, D, l3, h1, h2, h3, h4, h5, h6⟩ := h
  exact ⟨mb, D, cell_of_row _ _ 0 _ _ _ h1, cell_of_row _ _ 1 _ _ _ h1, frozen_of_row h1 1, h2, h3, l3⟩

set_option maxRecDepth 4000 in
set_option maxHeartbeats 1000000 in
theorem current_any (lo bb : Nat) (Bs : List Br) (cur : ByteArray) (w : World) (h : BookAt w lo bb Bs cur) : Calls Tryz.prog 21 #[.pointer (some ⟨bb, 0, none⟩)] w fun e w' => e = .returned (.string cur) ∧ w' = w := by
  obtain ⟨mb, D, c0, c1, -, -, -, -⟩ := h.cells
  clear h
  go_enter Tryz.func21, Tryz.ntmps21
  go_wp2
  go_ret
  exact ⟨rfl, rfl⟩

set_option maxRecDepth 4000 in
set_option maxHeartbeats 1000000 in
theorem of_none (lo bb : Nat) (Bs : List Br) (cur s : ByteArray) (hs : s.size ≤ maxLen) (hn : ∀ b ∈ Bs, b.nm ≠ s) (w : World) (h : BookAt w lo bb Bs cur) : Calls Tryz.prog 18 #[.pointer (some ⟨bb, 0, none⟩), .string s] w fun e w' => e = .returned (.tuple #[.pointer none, .bool false]) ∧ w' = w := by
  obtain ⟨mb, D, c0, c1, -, h2, h3, -⟩ := h.cells
  have hr := look_not h2 h3 hn hs
  clear h h2 h3
  go_enter Tryz.func18, Tryz.ntmps18
  go_wp2
  go_ret2
  exact ⟨rfl, rfl⟩

set_option maxRecDepth 4000 in
set_option maxHeartbeats 1000000 in
theorem of_some (lo bb : Nat) (Bs : List Br) (cur : ByteArray) (b : Br) (hb : b ∈ Bs) (w : World) (h : BookAt w lo bb Bs cur) : Calls Tryz.prog 18 #[.pointer (some ⟨bb, 0, none⟩), .string b.nm] w fun e w' => ∃ m, e = .returned (.tuple #[.pointer (some ⟨m, 0, none⟩), .bool true]) ∧ MapE w' m (b.Ls.getD b.p []) ∧ Below w.heap.size w w' := by
  obtain ⟨mb, D, c0, c1, -, h2, h3, -⟩ := h.cells
  obtain ⟨⟨g, x1, x2⟩, x3, x4⟩ := h.br hb
  have hr := look_yes h2 h3 hb x4
  have x0 := cell_of_row _ _ 0 _ _ _ x1
  simp at x0
  clear h h2 h3
  go_enter Tryz.func18, Tryz.ntmps18
  go_wp2_with (go_at_call 39; refine (now_any _ _ _ _ x3).mono ?_; rintro e w2 ⟨m2, rfl, hm2, -, hb2⟩)
  go_ret2
  exact ⟨m2, rfl, hm2, hb2⟩

set_option maxRecDepth 4000 in
set_option maxHeartbeats 1000000 in
theorem switch_none (lo bb : Nat) (Bs : List Br) (cur s : ByteArray) (hs : s.size ≤ maxLen) (hn : ∀ b ∈ Bs, b.nm ≠ s) (w : World) (h : BookAt w lo bb Bs cur) : Calls Tryz.prog 16 #[.pointer (some ⟨bb, 0, none⟩), .string s] w fun e w' => e = .returned (.int .i64 122) ∧ w' = w := by
  obtain ⟨mb, D, c0, c1, -, h2, h3, -⟩ := h.cells
  have hr := look_not h2 h3 hn hs
  clear h h2 h3
  go_enter Tryz.func16, Tryz.ntmps16
  go_wp2
  go_ret
  exact ⟨rfl, rfl⟩

/-- The current one is another one. -/
theorem BookAt.moved {w : World} {lo bb : Nat} {Bs : List Br} {cur : ByteArray} (h : BookAt w lo bb Bs cur) {b : Br} (hb : b ∈ Bs) : BookAt (w.setCell ⟨bb, 1, none⟩ (.string b.nm)) lo bb Bs b.nm ∧ w.grownBy (w.setCell ⟨bb, 1, none⟩ (.string b.nm)) (some bb) := by
  have hO := h.oddB
  have hg := grown_set w bb 1 (.string b.nm)
  obtain ⟨l1, l2, mb, D, l3, h1, h2, h3, h4, h5, h6⟩ := h
  have cB := cell_of_row _ _ 0 _ _ _ h1
  refine ⟨⟨l1, l2, mb, D, l3, ?_, h2.kept hg (fun e => map_ne_cells h2 cB (Option.some.inj e)), h3, fun x hx => (h4 x hx).keptO hO hg, ⟨b, hb, rfl⟩, h6⟩, hg⟩
  exact heap_setCell_same w bb 1 _ _ (.string b.nm) h1

set_option maxRecDepth 4000 in
set_option maxHeartbeats 1000000 in
theorem switch_some (lo bb : Nat) (Bs : List Br) (cur : ByteArray) (b : Br) (hb : b ∈ Bs) (hs : b.nm.size ≤ 281474976710656) (w : World) (h : BookAt w lo bb Bs cur) : Calls Tryz.prog 16 #[.pointer (some ⟨bb, 0, none⟩), .string b.nm] w fun e w' => e = .returned (.int .i64 0) ∧ BookAt w' lo bb Bs b.nm ∧ Mv lo w w' := by
  obtain ⟨mb, D, c0, c1, -, h2, h3, -⟩ := h.cells
  have hr := look_yes h2 h3 hb (h.br hb).2.2
  have hk := sclone b.nm hs w
  clear h2 h3
  go_enter Tryz.func16, Tryz.ntmps16
  go_wp2_with (go_at_call 36; refine hk.mono ?_; rintro e w1 ⟨rfl, hb1⟩; have h' := h.later hb1; obtain ⟨mb', D', -, d1, f1, -, -, -⟩ := h'.cells)
  go_ret
  obtain ⟨k1, k2⟩ := h'.moved hb
  exact ⟨rfl, k1, Mv.after hb1 h.1 h.noU k2⟩

set_option maxRecDepth 4000 in
set_option maxHeartbeats 1000000 in
theorem delete_none (lo bb : Nat) (Bs : List Br) (cur s : ByteArray) (hs : s.size ≤ maxLen) (hn : ∀ b ∈ Bs, b.nm ≠ s) (w : World) (h : BookAt w lo bb Bs cur) : Calls Tryz.prog 29 #[.pointer (some ⟨bb, 0, none⟩), .string s] w fun e w' => e = .returned (.int .i64 122) ∧ w' = w := by
  obtain ⟨mb, D, c0, c1, -, h2, h3, -⟩ := h.cells
  have hr := look_not h2 h3 hn hs
  clear h h2 h3
  go_enter Tryz.func29, Tryz.ntmps29
  go_wp2
  go_ret
  exact ⟨rfl, rfl⟩

theorem toL_inj {s t : ByteArray} (h : s.toList = t.toList) : s = t := by
  rw [Lib.toList_data, Lib.toList_data] at h
  exact ByteArray.ext (Array.toList_inj.1 h)
theorem toL_ne {s t : ByteArray} (h : s ≠ t) : (s.toList == t.toList) = false := beq_eq_false_iff_ne.2 fun e => h (toL_inj e)
def sMain : ByteArray := { data := #[109, 97, 105, 110] }
set_option maxRecDepth 4000 in
set_option maxHeartbeats 1000000 in
theorem delete_main (lo bb : Nat) (Bs : List Br) (cur : ByteArray) (b : Br) (hb : b ∈ Bs) (hm : b.nm = sMain) (w : World) (h : BookAt w lo bb Bs cur) : Calls Tryz.prog 29 #[.pointer (some ⟨bb, 0, none⟩), .string b.nm] w fun e w' => e = .returned (.int .i64 124) ∧ w' = w := by
  obtain ⟨mb, D, c0, c1, -, h2, h3, -⟩ := h.cells
  have hr := look_yes h2 h3 hb (h.br hb).2.2
  clear h h2 h3
  rw [hm] at hr ⊢
  unfold sMain at hr ⊢
  go_enter Tryz.func29, Tryz.ntmps29
  go_wp2
  go_ret
  exact ⟨rfl, rfl⟩

theorem filter_nm : ∀ {Bs : List Br}, Bs.Pairwise (fun a b => a.nm ≠ b.nm) → ∀ {b : Br}, b ∈ Bs → (Bs.filter fun x => decide (x.nm ≠ b.nm)).length + 1 = Bs.length
  | [], _, b, h => by simp at h
  | x :: Bs, hp, b, h => by
    rw [List.pairwise_cons] at hp
    by_cases e : x.nm = b.nm
    · have : Bs.filter (fun y => decide (y.nm ≠ b.nm)) = Bs := List.filter_eq_self.2 fun y hy => by simpa [← e] using (hp.1 y hy).symm
      rw [List.filter_cons_of_neg (by simp [e]), this]
      rfl
    · have hb : b ∈ Bs := by
        rcases List.mem_cons.1 h with rfl | h
        · exact absurd rfl e
        · exact h
      rw [List.filter_cons_of_pos (by simp [e]), List.length_cons, List.length_cons, filter_nm hp.2 hb]
theorem Ties.del {D : DataW Nat} {Bs : List Br} (h : Ties D Bs) {b : Br} (hb : b ∈ Bs) (hs : b.nm.size ≤ maxLen) : Ties (D.del (kl b.nm)) (Bs.filter fun x => decide (x.nm ≠ b.nm)) where
  tidy := h.tidy.del _
  size := by
    have h1 := Go.Maps.size_del (k := kl b.nm) h.tidy
    rw [(h.hasK b.nm hs).2 ⟨b, hb, rfl⟩, h.size, ← filter_nm h.nms hb] at h1
    simpa using h1
  hasK := fun s hs' => by
    by_cases e : s = b.nm
    · rw [e, Go.Maps.has_del_same]
      simp
    · rw [Go.Maps.has_del_other (kl_ne e), h.hasK s hs']
      constructor
      · rintro ⟨x, hx, rfl⟩
        exact ⟨x, List.mem_filter.2 ⟨hx, by simpa using e⟩, rfl⟩
      · rintro ⟨x, hx, rfl⟩
        exact ⟨x, (List.mem_filter.1 hx).1, rfl⟩
  atK := fun x hx => by
    obtain ⟨h1, h2⟩ := List.mem_filter.1 hx
    rw [Go.Maps.atKey_del_other (kl_ne (by simpa using h2)), h.atK x h1]
  nms := h.nms.filter _
  hbs := h.hbs.filter _
theorem owns_tight {H : Type} {P : Program} {k : TypeId} {R : Value → Option (DataW H × List MemPlace)} {b n : Nat} {D : DataW H} {W : World} (h : W.ownsMap P k R b n D) : W.ownsMap P k R b (Go.Maps.size D) D := by
  obtain ⟨es, clock, hb, F, hs, rfl⟩ := h
  exact ⟨es, clock, hb, F, by simp [Go.Maps.size, length_sorted], rfl⟩
/-- A branch is taken away. -/
theorem BookAt.gone {w w' : World} {lo bb mb : Nat} {D : DataW Nat} {Bs : List Br} {cur : ByteArray} (h : BookAt w lo bb Bs cur) (hc : w.cell? ⟨bb, 0, none⟩ = some (.map (some mb))) (hown : w.ownsMap Tryz.prog 9 bR mb Bs.length D) (hT : Ties D Bs) {b : Br} (hb : b ∈ Bs) (hne : b.nm ≠ cur)
    (hg : w.grownBy w' (some mb)) (hown' : w'.ownsMap Tryz.prog 9 bR mb Bs.length (D.del (kl b.nm))) : BookAt w' lo bb (Bs.filter fun x => decide (x.nm ≠ b.nm)) cur := by
  have hl := h.lt
  have hs := (h.br hb).2.2
  obtain ⟨l1, l2, mb', D', l3, h1, h2, h3, h4, ⟨c, hc', e'⟩, h6⟩ := h
  have cB := cell_of_row _ _ 0 _ _ _ h1
  rw [hc] at cB
  simp at cB
  subst cB
  have hO := odd_map hown
  have hT' := hT.del hb hs
  refine ⟨l1, fun x hx => l2 x (List.mem_filter.1 hx).1, mb, _, l3, (hg.block _ hl (fun e => map_ne_cells hown hc (Option.some.inj e).symm)).trans h1, ?_, hT', fun x hx => (h4 x (List.mem_filter.1 hx).1).keptO hO hg, ⟨c, List.mem_filter.2 ⟨hc', by rw [e']; simpa using hne.symm⟩, e'⟩, ?_⟩
  · rw [← hT'.size]
    exact owns_tight hown'
  · exact Nat.le_trans (List.length_filter_le _ _) h6

set_option maxRecDepth 4000 in
set_option maxHeartbeats 1000000 in
theorem delete_here (lo bb : Nat) (Bs : List Br) (b : Br) (hb : b ∈ Bs) (hm : b.nm ≠ sMain) (w : World) (h : BookAt w lo bb Bs b.nm) : Calls Tryz.prog 29 #[.pointer (some ⟨bb, 0, none⟩), .string b.nm] w fun e w' => e = .returned (.int .i64 125) ∧ w' = w := by
  obtain ⟨mb, D, c0, c1, -, h2, h3, -⟩ := h.cells
  have hr := look_yes h2 h3 hb (h.br hb).2.2
  have hm' : (b.nm.toList == [109, 97, 105, 110]) = false := by have := toL_ne hm; rwa [Lib.toList_data sMain] at this
  clear h h2 h3
  go_enter Tryz.func29, Tryz.ntmps29
  go_wp2
  go_ret
  exact ⟨rfl, rfl⟩

set_option maxRecDepth 4000 in
set_option maxHeartbeats 1000000 in
theorem delete_some (lo bb : Nat) (Bs : List Br) (cur : ByteArray) (b : Br) (hb : b ∈ Bs) (hm : b.nm ≠ sMain) (hc : b.nm ≠ cur) (w : World) (h : BookAt w lo bb Bs cur) : Calls Tryz.prog 29 #[.pointer (some ⟨bb, 0, none⟩), .string b.nm] w fun e w' => e = .returned (.int .i64 0) ∧ BookAt w' lo bb (Bs.filter fun x => decide (x.nm ≠ b.nm)) cur ∧ Mv lo w w' := by
  obtain ⟨mb, D, c0, c1, -, h2, h3, l3⟩ := h.cells
  have hs := (h.br hb).2.2
  have hr := look_yes h2 h3 hb hs
  have hm' : (b.nm.toList == [109, 97, 105, 110]) = false := by have := toL_ne hm; rwa [Lib.toList_data sMain] at this
  have hc' := toL_ne hc
  have hnu := map_noU h2
  have hG := fun {w'} => h.gone (w' := w') c0 h2 h3 hb hc
  clear h h3
  go_enter Tryz.func29, Tryz.ntmps29
  go_wp2_with (at_delete; refine wpList_delete_own _ rfl _ _ 69 9 rfl 72 bkey bmapT _ mb Bs.length D rfl h2 _ _ rfl (bkeyOf hs) ?_; intro w1 hown1 hturn1)
  go_ret
  exact ⟨rfl, hG hturn1.grown hown1, ⟨mb, l3, hnu, hturn1.grown⟩⟩

end Go.Proofs.YtblfdjdhikfjhaaGreat

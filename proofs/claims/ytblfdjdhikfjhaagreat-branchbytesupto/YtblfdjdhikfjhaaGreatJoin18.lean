import Derived.Test.YtblfdjdhikfjhaaGreatJoin17
import Derived.Test.YtblfdjdhikfjhaaGreatJoin14
import Derived.Test.YtblfdjdhikfjhaaGreatJoin1
namespace Go.Proofs.YtblfdjdhikfjhaaGreat
open Go.RowKit

def AnR (e : Ending) : Prop := ∃ n : Int, e = .returned (.int .i64 n)
/-- No name is empty. -/
def NE (Bs : List Br) : Prop := ∀ b ∈ Bs, 0 < b.nm.size
/-- A book behind a step: the branch that is kept is as it was, unless it is the current one and the step goes to the current one. -/
def DoP (lo bb : Nat) (keep : ByteArray) (tch : Prop) (Bs : List Br) (cur : ByteArray) (w w' : World) : Prop :=
  ∃ Bs' cur', BookAt w' lo bb Bs' cur' ∧ Mv lo w w' ∧ (∀ b ∈ Bs, b.nm = keep → (tch → b.nm ≠ cur) → ∃ b' ∈ Bs', b'.nm = b.nm ∧ b'.Ls = b.Ls ∧ b'.p = b.p ∧ b'.bs = b.bs) ∧ (NE Bs → NE Bs')
theorem DoP.same {lo bb : Nat} {keep : ByteArray} {tch : Prop} {Bs : List Br} {cur : ByteArray} {w w' : World} (h : BookAt w lo bb Bs cur) (hl : lo ≤ w.heap.size) (hb : Below w.heap.size w w') : DoP lo bb keep tch Bs cur w w' :=
  ⟨Bs, cur, h.later hb, Mv.of_below hb hl, fun b hb' _ _ => ⟨b, hb', rfl, rfl, rfl, rfl⟩, id⟩
theorem DoP.behind {lo bb : Nat} {keep : ByteArray} {tch : Prop} {Bs : List Br} {cur : ByteArray} {w v w' : World} (h : DoP lo bb keep tch Bs cur v w') (hb : Below w.heap.size w v) : DoP lo bb keep tch Bs cur w w' := by
  obtain ⟨Bs', cur', h1, h2, h3⟩ := h
  exact ⟨Bs', cur', h1, h2.behind hb, h3⟩
theorem pw_inj {α β : Type} {f : α → β} : ∀ {l : List α}, l.Pairwise (fun a b => f a ≠ f b) → ∀ {a b : α}, a ∈ l → b ∈ l → f a = f b → a = b
  | [], _, a, b, h, _, _ => by simp at h
  | x :: l, hp, a, b, ha, hb, e => by
    rw [List.pairwise_cons] at hp
    rcases List.mem_cons.1 ha with ea | ha2 <;> rcases List.mem_cons.1 hb with eb | hb2
    · rw [ea, eb]
    · rw [ea] at e; exact absurd e (hp.1 b hb2)
    · rw [eb] at e; exact absurd e.symm (hp.1 a ha2)
    · exact pw_inj hp.2 ha2 hb2 e
theorem BookAt.ties {w : World} {lo bb : Nat} {Bs : List Br} {cur : ByteArray} (h : BookAt w lo bb Bs cur) : Bs.Pairwise (fun a b => a.nm ≠ b.nm) ∧ Bs.Pairwise (fun a b => a.hb ≠ b.hb) := by
  obtain ⟨-, -, mb, D, -, h1, h2, h3, -⟩ := h
  exact ⟨h3.nms, h3.hbs⟩
theorem DoP.turn {lo bb : Nat} {keep : ByteArray} {tch : Prop} {Bs : List Br} {c : Br} {Ls : List Es} {p : Nat} {w w' : World} (hm : tch) (hc : c ∈ Bs) (h0 : BookAt w lo bb Bs c.nm) (h : BookAt w' lo bb (turn Bs c.hb Ls p) c.nm ∧ Mv lo w w') : DoP lo bb keep tch Bs c.nm w w' := by
  refine ⟨_, _, h.1, h.2, fun b hb _ hne => ?_, fun hN x hx => by obtain ⟨b, hb, e, -⟩ := mem_turn hx; rw [e]; exact hN b hb⟩
  have hd : b.hb ≠ c.hb := fun e => hne hm (by rw [pw_inj h0.ties.2 hb hc e])
  refine ⟨b, ?_, rfl, rfl, rfl, rfl⟩
  have := turn_mem (hb := c.hb) (Ls := Ls) (p := p) hb
  rwa [if_neg hd] at this

theorem fork_do (lo bb : Nat) (keep : ByteArray) (Bs : List Br) (cur s : ByteArray) (hs : s.size ≤ 140737488355328) (w : World) (hl : lo ≤ w.heap.size) (h : BookAt w lo bb Bs cur) :
    Calls Tryz.prog 15 #[.pointer (some ⟨bb, 0, none⟩), .string s] w fun e w' => AnR e ∧ DoP lo bb keep False Bs cur w w' := by
  obtain ⟨c, hc, rfl⟩ := h.here
  refine (fork_any (fun o => o = true → 0 < s.size) lo bb Bs c hc s (by omega) w hl h ((isName_some s w).mono ?_)).mono ?_
  · rintro e w' ⟨⟨o, rfl, ho⟩, hb⟩
    exact ⟨o, rfl, ho, hb⟩
  · rintro e w' (⟨n, -, rfl, hb, -⟩ | ⟨rfl, -, ⟨nb, hnb, -, -, -, hB⟩, hM, hpos⟩)
    · exact ⟨⟨n, rfl⟩, DoP.same h hl hb⟩
    · exact ⟨⟨0, rfl⟩, _, _, hB, hM, fun b hb _ _ => ⟨b, List.mem_cons_of_mem _ hb, rfl, rfl, rfl, rfl⟩, fun hN x hx => by { rcases List.mem_cons.1 hx with rfl | hx; { rw [hnb]; exact hpos rfl }; exact hN x hx }⟩
theorem le_max {n : Nat} (h : n ≤ 140737488355328) : n ≤ maxLen := Nat.le_trans h (by decide)
theorem switch_do (lo bb : Nat) (keep : ByteArray) (Bs : List Br) (cur s : ByteArray) (hs : s.size ≤ 140737488355328) (w : World) (hl : lo ≤ w.heap.size) (h : BookAt w lo bb Bs cur) :
    Calls Tryz.prog 16 #[.pointer (some ⟨bb, 0, none⟩), .string s] w fun e w' => AnR e ∧ DoP lo bb keep False Bs cur w w' := by
  by_cases hin : ∃ b ∈ Bs, b.nm = s
  · obtain ⟨b, hb, rfl⟩ := hin
    refine (switch_some lo bb Bs cur b hb (by omega) w h).mono ?_
    rintro e w' ⟨rfl, hB, hM⟩
    exact ⟨⟨0, rfl⟩, _, _, hB, hM, fun b hb _ _ => ⟨b, hb, rfl, rfl, rfl, rfl⟩, id⟩
  · refine (switch_none lo bb Bs cur s (le_max hs) (fun b hb e => hin ⟨b, hb, e⟩) w h).mono ?_
    rintro e w' ⟨rfl, rfl⟩
    exact ⟨⟨_, rfl⟩, DoP.same h hl (Below.refl _ _)⟩
theorem delete_do (lo bb : Nat) (keep : ByteArray) (Bs : List Br) (cur s : ByteArray) (hs : s.size ≤ 140737488355328) (hk : s ≠ keep) (w : World) (hl : lo ≤ w.heap.size) (h : BookAt w lo bb Bs cur) :
    Calls Tryz.prog 29 #[.pointer (some ⟨bb, 0, none⟩), .string s] w fun e w' => AnR e ∧ DoP lo bb keep False Bs cur w w' := by
  by_cases hin : ∃ b ∈ Bs, b.nm = s
  · obtain ⟨b, hb, rfl⟩ := hin
    by_cases hm : b.nm = sMain
    · refine (delete_main lo bb Bs cur b hb hm w h).mono ?_
      rintro e w' ⟨rfl, rfl⟩
      exact ⟨⟨_, rfl⟩, DoP.same h hl (Below.refl _ _)⟩
    by_cases hc : b.nm = cur
    · subst hc
      refine (delete_here lo bb Bs b hb hm w h).mono ?_
      rintro e w' ⟨rfl, rfl⟩
      exact ⟨⟨_, rfl⟩, DoP.same h hl (Below.refl _ _)⟩
    refine (delete_some lo bb Bs cur b hb hm hc w h).mono ?_
    rintro e w' ⟨rfl, hB, hM⟩
    exact ⟨⟨0, rfl⟩, _, _, hB, hM, fun x hx e _ => ⟨x, List.mem_filter.2 ⟨hx, by rw [e]; simpa using hk.symm⟩, rfl, rfl, rfl, rfl⟩, fun hN x hx => hN x (List.mem_filter.1 hx).1⟩
  · refine (delete_none lo bb Bs cur s (le_max hs) (fun b hb e => hin ⟨b, hb, e⟩) w h).mono ?_
    rintro e w' ⟨rfl, rfl⟩
    exact ⟨⟨_, rfl⟩, DoP.same h hl (Below.refl _ _)⟩
theorem change_do (lo bb : Nat) (keep : ByteArray) (Bs : List Br) (cur : ByteArray) (mb : Nat) (L : Es) (w : World) (hl : lo ≤ w.heap.size) (h : BookAt w lo bb Bs cur) (hm : MapE w mb L) :
    Calls Tryz.prog 17 #[.pointer (some ⟨bb, 0, none⟩), .pointer (some ⟨mb, 0, none⟩)] w fun e w' => AnR e ∧ DoP lo bb keep True Bs cur w w' := by
  obtain ⟨c, hc, rfl⟩ := h.here
  have hp : c.p < c.Ls.length ∧ c.Ls.length ≤ 33 := ⟨(h.br hc).2.1.1, (h.br hc).2.1.2.1⟩
  by_cases hf : c.p = 32
  · refine (change_full lo bb Bs c hc hf mb w h).mono ?_
    rintro e w' ⟨rfl, hb⟩
    exact ⟨⟨_, rfl⟩, DoP.same h hl hb⟩
  · refine (change_some lo bb Bs c hc (by omega) mb L w h hm).mono ?_
    rintro e w' ⟨rfl, hB⟩
    exact ⟨⟨_, rfl⟩, DoP.turn trivial hc h hB⟩
theorem undo_do (lo bb : Nat) (keep : ByteArray) (Bs : List Br) (cur : ByteArray) (w : World) (hl : lo ≤ w.heap.size) (h : BookAt w lo bb Bs cur) :
    Calls Tryz.prog 30 #[.pointer (some ⟨bb, 0, none⟩)] w fun e w' => AnR e ∧ DoP lo bb keep True Bs cur w w' := by
  obtain ⟨c, hc, rfl⟩ := h.here
  cases hp : c.p with
  | zero =>
    refine (bundo_none lo bb Bs c hc hp w h).mono ?_
    rintro e w' ⟨rfl, hb⟩
    exact ⟨⟨_, rfl⟩, DoP.same h hl hb⟩
  | succ p =>
    refine (bundo_some lo bb Bs c hc p hp w h).mono ?_
    rintro e w' ⟨rfl, hB⟩
    exact ⟨⟨_, rfl⟩, DoP.turn trivial hc h hB⟩
theorem redo_do (lo bb : Nat) (keep : ByteArray) (Bs : List Br) (cur : ByteArray) (w : World) (hl : lo ≤ w.heap.size) (h : BookAt w lo bb Bs cur) :
    Calls Tryz.prog 31 #[.pointer (some ⟨bb, 0, none⟩)] w fun e w' => AnR e ∧ DoP lo bb keep True Bs cur w w' := by
  obtain ⟨c, hc, rfl⟩ := h.here
  have hp : c.p < c.Ls.length := (h.br hc).2.1.1
  by_cases he : c.p + 1 = c.Ls.length
  · refine (bredo_none lo bb Bs c hc he w h).mono ?_
    rintro e w' ⟨rfl, hb⟩
    exact ⟨⟨_, rfl⟩, DoP.same h hl hb⟩
  · refine (bredo_some lo bb Bs c hc (by omega) w h).mono ?_
    rintro e w' ⟨rfl, hB⟩
    exact ⟨⟨_, rfl⟩, DoP.turn trivial hc h hB⟩
theorem forget_do (lo bb : Nat) (keep : ByteArray) (Bs : List Br) (cur : ByteArray) (n : Int) (w : World) (hl : lo ≤ w.heap.size) (h : BookAt w lo bb Bs cur) :
    Calls Tryz.prog 32 #[.pointer (some ⟨bb, 0, none⟩), .int .i64 n] w fun e w' => AnR e ∧ DoP lo bb keep True Bs cur w w' := by
  obtain ⟨c, hc, rfl⟩ := h.here
  by_cases hn : n < 0 ∨ (c.p : Int) < n
  · refine (bforget_bad lo bb Bs c hc n hn w h).mono ?_
    rintro e w' ⟨rfl, hb⟩
    exact ⟨⟨_, rfl⟩, DoP.same h hl hb⟩
  · obtain ⟨m, rfl⟩ : ∃ m : Nat, n = (m : Int) := ⟨n.toNat, by omega⟩
    refine (bforget_some lo bb Bs c hc m (by omega) w h).mono ?_
    rintro e w' ⟨rfl, hB⟩
    exact ⟨⟨_, rfl⟩, DoP.turn trivial hc h hB⟩

end Go.Proofs.YtblfdjdhikfjhaaGreat


namespace Go.Proofs.YtblfdjdhikfjhaaGreat
open Go.RowKit Go.Shelf

def nmsOf (Bs : List Br) : List (List UInt8) := Bs.map fun b => b.nm.data.toList
theorem names_perm {W : World} {mb n : Nat} {D : DataW Nat} {Bs : List Br} (hown : W.ownsMap Tryz.prog 9 bR mb n D) (hT : Ties D Bs) (hs : ∀ b ∈ Bs, b.nm.size ≤ maxLen) : (nmsOf Bs).Perm (strKeys D) := by
  obtain ⟨es, rfl, hp⟩ := hT.tidy
  obtain ⟨es', e', hk⟩ := hown.keysOf
  cases e'
  refine perm_strKeys hp (fun p hp' => ?_) ?_ (fun x => ?_)
  · obtain ⟨v, hv⟩ := hk p hp'
    obtain ⟨x, -, hx, -⟩ := Go.Maps.keyOf_str Tryz.underlying9 hv
    exact ⟨x, hx⟩
  · refine List.pairwise_map.2 (hT.nms.imp fun {a b} hab e => hab ?_)
    exact ByteArray.ext (Array.toList_inj.1 e)
  · constructor
    · intro hx
      obtain ⟨b, hb, rfl⟩ := List.mem_map.1 hx
      exact (hT.hasK b.nm (hs b hb)).2 ⟨b, hb, rfl⟩
    · intro hx
      obtain ⟨p, hp1, hp2⟩ := List.any_eq_true.1 hx
      have hpx := WideAt.sameKey_eq hp2
      obtain ⟨v, hv⟩ := hk p hp1
      obtain ⟨y, -, hy, hyl⟩ := Go.Maps.keyOf_str Tryz.underlying9 hv
      rw [hpx] at hy
      have hxy : x = y := by simpa using hy
      obtain ⟨b, hb, e⟩ := (hT.hasK ⟨x.toArray⟩ (by rw [hxy]; simpa [ByteArray.size] using hyl)).1 (by rw [kl]; simpa using hx)
      exact List.mem_map.2 ⟨b, hb, by rw [e]⟩

set_option maxRecDepth 4000 in
set_option maxHeartbeats 1000000 in
theorem names_any (lo bb : Nat) (Bs : List Br) (cur : ByteArray) (w : World) (h : BookAt w lo bb Bs cur) : Calls Tryz.prog 20 #[.pointer (some ⟨bb, 0, none⟩)] w fun e w' => ∃ v, e = .returned v ∧ w'.ownsRow w.heap.size 9 1 v Bs.length (((nmsOf Bs).mergeSort (fun x y => decide (x ≤ y))).map encStr) ∧ Below w.heap.size w w' := by
  obtain ⟨mb, D, c0, c1, -, h2, h3, -⟩ := h.cells
  have hP := names_perm h2 h3 (fun b hb => (h.br hb).2.2)
  have h6 : Bs.length ≤ 6 := by
    obtain ⟨-, -, mb, D, -, -, -, -, -, -, h6⟩ := h
    exact h6
  have hsz := h3.size
  have hK := callsIn_wide.1 (Tryz.maps_Keys_43 (some mb) w)
  have hS := callsIn_wide.1 (Tryz.slices_Sorted_keys_42_43 mb Bs.length D bR w h2 (by rw [hsz]; exact Nat.le_trans h6 (by decide)) (by rw [hsz]; omega))
  have hb0 : Below w.heap.size w (w.alloc (.cells #[.map (some mb)] 69)) := (Below.refl _ _).alloc (Nat.le_refl _) _
  clear h2 h3 h
  go_enter Tryz.func20, Tryz.ntmps20
  go_wp2_with (first
    | (go_at_call 43; refine hK.mono ?_; rintro e w1 ⟨rfl, rfl⟩)
    | (go_at_call 42; refine hS.mono ?_; rintro e w2 ⟨v, ss, rfl, hpm, hrow, -, hb2⟩))
  go_ret
  have hpm2 := hpm.trans hP.symm
  have hlen : ss.length = Bs.length := by rw [hpm2.length_eq]; simp [nmsOf]
  rw [hlen, mergeSort_of_perm hpm2] at hrow
  refine ⟨v, rfl, ?_, below_step hb0 hb2⟩
  obtain ⟨q1, q2⟩ := hrow
  refine ⟨q1, ?_⟩
  rcases q2 with q2 | ⟨g, cap, cur, e, hg, rest⟩
  · exact .inl q2
  · exact .inr ⟨g, cap, cur, e, Nat.le_trans hb0.size hg, rest⟩

theorem own_str {w : World} {base g cap n : Nat} {xs : List Value} {i : Nat} {x : Value} (h : w.ownsRow base 9 1 (.slice (some ⟨g, 0, none⟩) n cap) n xs) (hl : i < n) (hi : xs[i]? = some x) : w.cell? ⟨g, i, none⟩ = some x := (h.cellAt i (by omega)).trans hi
theorem nms_turn (Bs : List Br) (hb : Nat) (Ls : List Es) (p : Nat) : nmsOf (turn Bs hb Ls p) = nmsOf Bs := by
  simp only [nmsOf, turn, List.map_map]
  refine List.map_congr_left fun b _ => ?_
  simp only [Function.comp]
  split <;> rfl
theorem two_sorted : ([sA.data.toList, sMain.data.toList] : List (List UInt8)).mergeSort (fun x y => decide (x ≤ y)) = [sA.data.toList, sMain.data.toList] := List.mergeSort_of_pairwise (by simp [sA, sMain]; decide)

def KnownP (w : World) (e : Ending) (w' : World) : Prop := e = .returned (.bool true) ∧ Below w.heap.size w w'
theorem one_ent {w : World} : EntB (w.alloc (.cells #[.int .u32 3, .int .i64 1, .int .i64 4] 49)) (.slice (some ⟨w.heap.size, 0, none⟩) 1 1) [(3, (1, 4))] := by
  have h := heap_alloc_last w (.cells #[.int .u32 3, .int .i64 1, .int .i64 4] 49)
  refine ⟨⟨_, 1, rfl, .inr ⟨w.heap.size, 0, rfl, by simp, fun i hi => ?_⟩⟩, by simp, by simp⟩
  obtain rfl : i = 0 := by simp at hi; omega
  exact ⟨cell_of_row _ _ 0 _ _ _ h, cell_of_row _ _ 1 _ _ _ h, cell_of_row _ _ 2 _ _ _ h⟩

set_option maxRecDepth 4000 in
set_option maxHeartbeats 4000000 in
theorem known_any (w : World) : Calls Tryz.prog 5 #[] w (KnownP w) := by
  go_enter Tryz.func5, Tryz.ntmps5
  go_wp2_with (go_at_call 12; fail)
  refine (book_nil w).mono ?_
  rintro e w1 ⟨bb, b0, rfl, hB1, hn0, hL0, hp0, hs0, hb1⟩
  go_wp2_with (go_at_call 15; fail)
  have hF := fork_any (fun o => o = true) w.heap.size bb [b0] b0 (List.mem_singleton.2 rfl) sA (by decide) w1 hb1.size (hn0 ▸ hB1) ((isName_a w1).mono (by rintro e w' ⟨rfl, rfl⟩; exact ⟨true, rfl, rfl, Below.refl _ _⟩))
  refine hF.mono ?_
  clear hF
  rintro e w2 (⟨n, -, -, -, hbad⟩ | ⟨rfl, hnew, ⟨nb, e1, e2, e3, e4, hB2⟩, hM2, -⟩)
  · exfalso
    rcases hbad with h | ⟨b, h1, h2⟩ | h
    · cases h
    · rw [List.mem_singleton.1 h1, hn0] at h2
      exact absurd (congrArg ByteArray.size h2) (by decide)
    · simp at h
  rw [hn0] at hB2
  have hB2w := hM2.below hb1 (Nat.le_refl _)
  have hd : b0.hb ≠ nb.hb := by
    have := List.pairwise_cons.1 hB2.ties.2
    exact (this.1 b0 (List.mem_singleton.2 rfl)).symm
  go_wp2_with (go_at_call 16; fail)
  have hS := switch_some w.heap.size bb [nb, b0] sMain nb (by simp) (by rw [e1]; decide) w2 hB2
  rw [e1] at hS
  refine hS.mono ?_
  clear hS
  rintro e w3 ⟨rfl, hB3, hM3⟩
  have hB3w := hM3.below hB2w (Nat.le_refl _)
  go_wp2_with (go_at_call 14; fail)
  refine (empty_any _).mono ?_
  rintro e w4 ⟨rfl, hM4, hb4⟩
  have hm4 : MapE w4 w3.heap.size [] := ⟨_, hM4, rfl⟩
  clear hM4
  go_wp2_with (go_at_call 13; fail)
  have hb5 : Below w4.heap.size w4 (w4.alloc (.cells #[.int .u32 3, .int .i64 1, .int .i64 4] 49)) := (Below.refl _ _).alloc (Nat.le_refl _) _
  refine (mapOf_any _ [] _ [(3, (1, 4))] _ (hm4.later hb5) one_ent).mono ?_
  rintro e w6 ⟨m6, rfl, hm6, hb6⟩
  have hB36 := below_step (below_step hb4 hb5) hb6
  have hB6 := hB3.later hB36
  have hB6w := below_step hB3w hB36
  clear hm4
  go_wp2_with (go_at_call 17; fail)
  rw [← e1] at hB6
  refine (change_some w.heap.size bb [nb, b0] nb (by simp) (by rw [e3]; decide) m6 _ _ hB6 hm6).mono ?_
  rintro e w7 ⟨rfl, hB7, hM7⟩
  have hB7w := hM7.below hB6w (Nat.le_refl _)
  rw [e1] at hB7
  have hin0 : b0 ∈ turn [nb, b0] nb.hb (nb.Ls.take (nb.p + 1) ++ [putE [] [(3, (1, 4))]]) (nb.p + 1) := by
    have := turn_mem (hb := nb.hb) (Ls := nb.Ls.take (nb.p + 1) ++ [putE [] [(3, (1, 4))]]) (p := nb.p + 1) (Bs := [nb, b0]) (b := b0) (by simp)
    rwa [if_neg hd] at this
  have hin1 : ({ nb with Ls := nb.Ls.take (nb.p + 1) ++ [putE [] [(3, (1, 4))]], p := nb.p + 1 } : Br) ∈ turn [nb, b0] nb.hb (nb.Ls.take (nb.p + 1) ++ [putE [] [(3, (1, 4))]]) (nb.p + 1) := by
    have := turn_mem (hb := nb.hb) (Ls := nb.Ls.take (nb.p + 1) ++ [putE [] [(3, (1, 4))]]) (p := nb.p + 1) (Bs := [nb, b0]) (b := nb) (by simp)
    rwa [if_pos rfl] at this
  have hnm7 := nms_turn [nb, b0] nb.hb (nb.Ls.take (nb.p + 1) ++ [putE [] [(3, (1, 4))]]) (nb.p + 1)
  have hin1e : (nb.Ls.take (nb.p + 1) ++ [putE [] [(3, (1, 4))]]).getD (nb.p + 1) [] = [(3, (1, 4))] := by rw [e2, e3]; rfl
  have hlen7 : (turn [nb, b0] nb.hb (nb.Ls.take (nb.p + 1) ++ [putE [] [(3, (1, 4))]]) (nb.p + 1)).length = 2 := by rw [turn_len]; rfl
  generalize turn [nb, b0] nb.hb (nb.Ls.take (nb.p + 1) ++ [putE [] [(3, (1, 4))]]) (nb.p + 1) = B7 at *
  obtain ⟨c7, hc7, hc7n, hc7e⟩ : ∃ c ∈ B7, c.nm = sA ∧ c.Ls.getD c.p [] = [(3, (1, 4))] := ⟨_, hin1, e1, hin1e⟩
  have hnm : nmsOf B7 = [sA.data.toList, sMain.data.toList] := by rw [hnm7, nmsOf]; simp [e1, hn0]
  clear hin1 hin1e hnm7 hm6 hB6 hB3 hB2 hB1
  go_wp2_with (go_at_call 18; fail)
  have hOf := of_some w.heap.size bb B7 sA b0 hin0 w7 hB7
  rw [hn0] at hOf
  refine hOf.mono ?_
  clear hOf
  rintro e w8 ⟨m8, rfl, hm8, hb8⟩
  rw [hL0, hp0] at hm8
  have hB8 := hB7.later hb8
  have hB8w := below_step hB7w hb8
  go_wp2_with (go_at_call 19; fail)
  refine (list_any m8 [] 5 _ hm8).mono ?_
  rintro e w9 ⟨v9, rfl, hv9, hb9⟩
  rw [List.take_nil] at hv9
  obtain ⟨a9, cap9, rfl⟩ := hv9.len
  have hB9 := hB8.later hb9
  have hB9w := below_step hB8w hb9
  clear hm8 hB8 hB7
  go_wp2_with (go_at_call 20; fail)
  have hNm := names_any w.heap.size bb B7 sA _ hB9
  rw [hnm, two_sorted, hlen7] at hNm
  refine hNm.mono ?_
  clear hNm
  rintro e w10 ⟨v10, rfl, hv10, hb10⟩
  obtain ⟨g10, cap10, rfl⟩ := own_some hv10 (by omega)
  have hcm := own_str hv10 (i := 1) (x := encStr sMain.data.toList) (by omega) rfl
  have hg10 : g10 < w10.heap.size := (hv10.lt g10 rfl).2
  have hB10 := hB9.later hb10
  have hB10w := below_step hB9w hb10
  clear hv10 hB9
  go_wp2_with (go_at_call 21; fail)
  refine (current_any w.heap.size bb B7 sA _ hB10).mono ?_
  rintro e w11 ⟨rfl, rfl⟩
  unfold sA
  go_wp2_with (go_at_call 22; fail)
  have hIn := inputs_any w.heap.size bb B7 c7 hc7 w11 (by rw [hc7n]; exact hB10)
  refine hIn.mono ?_
  clear hIn
  rintro e w12 ⟨m12, rfl, hm12, hb12⟩
  rw [hc7e] at hm12
  go_wp2_with (go_at_call 19; fail)
  refine (list_any m12 _ 5 _ hm12).mono ?_
  rintro e w13 ⟨v13, rfl, hv13, hb13⟩
  obtain ⟨a13, cap13, rfl⟩ := hv13.len
  have hb1113 := below_step hb12 hb13
  have hcm13 := (hb1113.cell (p := ⟨g10, 1, none⟩) hg10).trans hcm
  have hl13 : (List.take (cnt 5) [((3 : Nat), ((1 : Int), (4 : Int)))]).length = 1 := rfl
  rw [hl13]
  simp only [encStr, sMain] at hcm13
  go_wp2
  go_ret
  exact ⟨rfl, below_step hB10w hb1113⟩

end Go.Proofs.YtblfdjdhikfjhaaGreat

import Derived.Test.YtjapkeenlodgcaaBBk3
import Derived.Carry
namespace Go.Proofs.Ytjapkeenlodgcaa
open Go.RowKit

set_option maxRecDepth 4000 in
set_option maxHeartbeats 1000000 in
theorem forked_end {w w1 w2 : World} {hb m2 : Nat} {nm : ByteArray} {L : Es} (hs : nm.size ≤ maxLen) (hb1 : Below w.heap.size w w1) (hH : HistAt w1 hb [L] 0) (hm : MapE w2 m2 ([L].getD 0 [])) (hb2 : Below w1.heap.size w1 w2) :
    BrAt (w2.alloc (.cells #[.pointer (some ⟨hb, 0, none⟩), .pointer (some ⟨m2, 0, none⟩)] 68)) ⟨nm, w2.heap.size, hb, [L], 0, L⟩ ∧ Below w.heap.size w (w2.alloc (.cells #[.pointer (some ⟨hb, 0, none⟩), .pointer (some ⟨m2, 0, none⟩)] 68)) ∧ w.heap.size ≤ w2.heap.size := by
  have hb3 := (Below.refl w2.heap.size w2).alloc (Nat.le_refl _) (.cells #[.pointer (some ⟨hb, 0, none⟩), .pointer (some ⟨m2, 0, none⟩)] 68)
  have hB := below_step hb1 hb2
  exact ⟨⟨⟨m2, heap_alloc_last w2 _, hm.later hb3⟩, (hH.later hb2).later hb3, hs⟩, below_step hB hb3, hB.size⟩

set_option maxRecDepth 4000 in
set_option maxHeartbeats 1000000 in
theorem forked_any (nm : ByteArray) (hs : nm.size ≤ maxLen) (mb : Nat) (L : Es) (w : World) (hm : MapE w mb L) : Calls Try.prog 39 #[.pointer (some ⟨mb, 0, none⟩)] w fun e w' => ∃ xb hb, e = .returned (.pointer (some ⟨xb, 0, none⟩)) ∧ BrAt w' ⟨nm, xb, hb, [L], 0, L⟩ ∧ w.heap.size ≤ xb ∧ w.heap.size ≤ hb ∧ Below w.heap.size w w' := by
  have hN := new_any mb L (by have := hm.len; omega) w hm
  go_enter Try.func39, Try.ntmps39
  go_wp2_with (first | (go_at_call 51; refine hN.mono ?_; rintro e w1 ⟨hb, rfl, hb0, hH, hb1⟩) | (go_at_call 28; refine (now_any _ _ _ _ hH).mono ?_; rintro e w2 ⟨m2, rfl, hm2, -, hb2⟩))
  go_ret
  obtain ⟨k1, k2, k3⟩ := forked_end hs hb1 hH hm2 hb2
  exact ⟨_, hb, rfl, k1, k3, hb0, k2⟩

set_option maxRecDepth 4000 in
set_option maxHeartbeats 1000000 in
theorem forked_nil (nm : ByteArray) (hs : nm.size ≤ maxLen) (w : World) : Calls Try.prog 39 #[.pointer none] w fun e w' => ∃ xb hb, e = .returned (.pointer (some ⟨xb, 0, none⟩)) ∧ BrAt w' ⟨nm, xb, hb, [[]], 0, []⟩ ∧ w.heap.size ≤ xb ∧ w.heap.size ≤ hb ∧ Below w.heap.size w w' := by
  have hN := new_nil w
  go_enter Try.func39, Try.ntmps39
  go_wp2_with (first | (go_at_call 51; refine hN.mono ?_; rintro e w1 ⟨hb, rfl, hb0, hH, hb1⟩) | (go_at_call 28; refine (now_any _ _ _ _ hH).mono ?_; rintro e w2 ⟨m2, rfl, hm2, -, hb2⟩))
  go_ret
  obtain ⟨k1, k2, k3⟩ := forked_end hs hb1 hH hm2 hb2
  exact ⟨_, hb, rfl, k1, k3, hb0, k2⟩

theorem kl_key (s : ByteArray) : WideAt.IsKeyLit (kl s) := trivial
theorem Ties.none : Ties (.map []) [] where
  tidy := Go.Maps.tidy_empty
  size := rfl
  hasK := fun s _ => by simp [Go.Maps.has_eq]
  atK := fun b hb => by simp at hb
  nms := List.Pairwise.nil
  hbs := List.Pairwise.nil
theorem Ties.put {D : DataW Nat} {Bs : List Br} (h : Ties D Bs) {nb : Br} (hs : nb.nm.size ≤ maxLen) (hn : ∀ b ∈ Bs, b.nm ≠ nb.nm) (hh : ∀ b ∈ Bs, b.hb ≠ nb.hb) : Ties (D.put (kl nb.nm) (.held nb.xb)) (nb :: Bs) where
  tidy := h.tidy.put (kl_key _) _
  size := by
    have hf : Go.Maps.has D (kl nb.nm) = false := by
      cases e : Go.Maps.has D (kl nb.nm) with
      | false => rfl
      | true =>
        obtain ⟨b, h1, h2⟩ := (h.hasK _ hs).1 e
        exact absurd h2 (hn b h1)
    rw [Go.Maps.size_put h.tidy, hf, h.size]
    rfl
  hasK := fun s hs' => by
    by_cases e : s = nb.nm
    · rw [e, Go.Maps.has_put_same h.tidy.isMap (kl_key _)]
      simp
    · rw [Go.Maps.has_put_other (kl_ne e), h.hasK s hs']
      constructor
      · rintro ⟨x, hx, rfl⟩
        exact ⟨x, List.mem_cons_of_mem _ hx, rfl⟩
      · rintro ⟨x, hx, rfl⟩
        rcases List.mem_cons.1 hx with rfl | hx
        · exact absurd rfl e
        · exact ⟨x, hx, rfl⟩
  atK := fun x hx => by
    rcases List.mem_cons.1 hx with rfl | hx
    · exact Go.Maps.atKey_put_same h.tidy.isMap (kl_key _) _ _
    · rw [Go.Maps.atKey_put_other (kl_ne (hn x hx)), h.atK x hx]
  nms := List.pairwise_cons.2 ⟨fun b hb => (hn b hb).symm, h.nms⟩
  hbs := List.pairwise_cons.2 ⟨fun b hb => (hh b hb).symm, h.hbs⟩

/-- A new book. -/
theorem book_new {w w1 w2 : World} {b : Br} (hs : b.nm.size ≤ maxLen) (hb1 : Below (w.alloc (.map #[] 0)).heap.size (w.alloc (.map #[] 0)) w1) (hB : BrAt w1 b) (hx : w.heap.size ≤ b.hb) (hg : w1.grownBy w2 (some w.heap.size)) (hown1 : w1.ownsMap Try.prog 9 bR w.heap.size 0 (.map [])) (hown : w2.ownsMap Try.prog 9 bR w.heap.size (0 + 1) ((DataW.map []).put (kl b.nm) (.held b.xb))) :
    BookAt (w2.alloc (.cells #[.map (some w.heap.size), .string b.nm] 65)) w.heap.size w2.heap.size [b] b.nm ∧ Below w.heap.size w (w2.alloc (.cells #[.map (some w.heap.size), .string b.nm] 65)) := by
  have hb3 := (Below.refl w2.heap.size w2).alloc (Nat.le_refl _) (.cells #[.map (some w.heap.size), .string b.nm] 65)
  have h0 : Below w.heap.size w (w.alloc (.map #[] 0)) := (Below.refl _ _).alloc (Nat.le_refl _) _
  have hB1 : Below w.heap.size w w1 := below_step h0 hb1
  have hB2 : Below w.heap.size w w2 := hB1.grown hg hB1.size (fun k hk => by cases hk; exact Nat.le_refl _)
  have hBr2 := hB.keptO (odd_map hown1) hg
  refine ⟨⟨hB2.size, fun x hx' => by rw [List.mem_singleton.1 hx']; exact hx, w.heap.size, _, Nat.le_refl _, heap_alloc_last w2 _, ownsMap_later hown hb3, Ties.none.put hs (fun b hb => by simp at hb) (fun b hb => by simp at hb), fun x hx' => by rw [List.mem_singleton.1 hx']; exact hBr2.later hb3, ⟨b, List.mem_singleton.2 rfl, rfl⟩, by simp⟩, below_step hB2 hb3⟩

set_option maxRecDepth 4000 in
set_option maxHeartbeats 1000000 in
theorem book_any (mb : Nat) (L : Es) (w : World) (hm : MapE w mb L) : Calls Try.prog 22 #[.pointer (some ⟨mb, 0, none⟩)] w fun e w' => ∃ bb b, e = .returned (.pointer (some ⟨bb, 0, none⟩)) ∧ BookAt w' w.heap.size bb [b] sMain ∧ b.nm = sMain ∧ b.Ls = [L] ∧ b.p = 0 ∧ b.bs = L ∧ Below w.heap.size w w' := by
  have hmm := @run_makeMap Try.prog
  have hs : sMain.size ≤ maxLen := by decide
  have h0 : Below w.heap.size w (w.alloc (.map #[] 0)) := (Below.refl _ _).alloc (Nat.le_refl _) _
  have hF := forked_any sMain hs mb L (w.alloc (.map #[] 0)) (hm.later h0)
  have ho := World.ownsMap_made w Try.prog 9 bR
  go_enter Try.func22, Try.ntmps22
  go_wp2_with (go_at_call 39; refine hF.mono ?_; rintro e w1 ⟨xb, hb, rfl, hB, hx, hh, hb1⟩; have ho1 := ownsMap_later ho hb1; obtain ⟨w2, hrun, ho2, hg2⟩ := ho1.update bkey bmapT (by decide) (bkeyOf hs) (show bR (.pointer (some ⟨xb, 0, none⟩)) = some (.held xb, []) from rfl); unfold sMain at hrun)
  go_ret
  obtain ⟨k1, k2⟩ := book_new hs hb1 hB (Nat.le_trans (by simp) hh) hg2 ho1 ho2
  exact ⟨_, _, rfl, k1, rfl, rfl, rfl, rfl, k2⟩

set_option maxRecDepth 4000 in
set_option maxHeartbeats 1000000 in
theorem book_nil (w : World) : Calls Try.prog 22 #[.pointer none] w fun e w' => ∃ bb b, e = .returned (.pointer (some ⟨bb, 0, none⟩)) ∧ BookAt w' w.heap.size bb [b] sMain ∧ b.nm = sMain ∧ b.Ls = [[]] ∧ b.p = 0 ∧ b.bs = [] ∧ Below w.heap.size w w' := by
  have hmm := @run_makeMap Try.prog
  have hs : sMain.size ≤ maxLen := by decide
  have hF := forked_nil sMain hs (w.alloc (.map #[] 0))
  have ho := World.ownsMap_made w Try.prog 9 bR
  go_enter Try.func22, Try.ntmps22
  go_wp2_with (go_at_call 39; refine hF.mono ?_; rintro e w1 ⟨xb, hb, rfl, hB, hx, hh, hb1⟩; have ho1 := ownsMap_later ho hb1; obtain ⟨w2, hrun, ho2, hg2⟩ := ho1.update bkey bmapT (by decide) (bkeyOf hs) (show bR (.pointer (some ⟨xb, 0, none⟩)) = some (.held xb, []) from rfl); unfold sMain at hrun)
  go_ret
  obtain ⟨k1, k2⟩ := book_new hs hb1 hB (Nat.le_trans (by simp) hh) hg2 ho1 ho2
  exact ⟨_, _, rfl, k1, rfl, rfl, rfl, rfl, k2⟩

end Go.Proofs.Ytjapkeenlodgcaa

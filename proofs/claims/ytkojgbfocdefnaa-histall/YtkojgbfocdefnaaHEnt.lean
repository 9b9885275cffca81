import Derived.Test.YtkojgbfocdefnaaHSrch
import Derived.Test.YtkojgbfocdefnaaHMem
import Derived.Deep.RegionLaw
namespace Go.Proofs.Ytkojgbfocdefnaa
open Go.RowKit

/-- The cell that holds the list, and the list. -/
def EJ (W : World) (T : Nat) (done : Es) (X : World) : Prop := ∃ ev, X.heap[T]? = some (.cells #[ev] 22 (0, 0)) ∧ X.ownsRow (T + 1) 98 3 ev done.length (flat3 done) ∧ W.heap.size ≤ T ∧ Below W.heap.size W X ∧ done.length < 4000
theorem EJ.drewN {W X : World} {T : Nat} {done : Es} (h : EJ W T done X) (n : Nat) : EJ W T done (X.drewN n) := by
  obtain ⟨ev, h1, h2, h3, h4, h5⟩ := h
  have hb := below_drewN (Below.refl X.heap.size X) n
  exact ⟨ev, (hb.block T (Array.getElem?_eq_some_iff.1 h1).1).trans h1, own_laterB h2 hb, h3, below_drewN h4 n, h5⟩

set_option maxRecDepth 4000 in
set_option maxHeartbeats 1000000 in
theorem entries1_any (W : World) (T : Nat) (done : Es) (k : Nat) (x y : Int) (w : World) (h : EJ W T done w) :
    Calls Try.prog 64 #[.int .u32 (k : Int), .agg #[.int .i64 x, .int .i64 y], .pointer (some ⟨T, 0, none⟩)] w fun e w' => ∃ o : Bool, e = .returned (.bool o) ∧ (o = true → EJ W T (done ++ [(k, (x, y))]) w') ∧ (o = false → 4000 ≤ done.length + 1 ∧ Below W.heap.size W w') := by
  obtain ⟨ev, hT, hown, hWT, hWB, hl⟩ := h
  obtain ⟨ea, el, ec, rfl⟩ := own_slice hown
  have hTl : T < w.heap.size := (Array.getElem?_eq_some_iff.1 hT).1
  obtain ⟨i0, hi, hz0, hz1, hz2⟩ := info_parts infoE
  have hb1 := (Below.refl w.heap.size w).alloc (Nat.le_refl _) (.cells #[.int .i64 x, .int .i64 y] 58)
  obtain ⟨v0, v1, -, -⟩ := Box2.new w (.int .i64 x) (.int .i64 y) 58
  have hT1 := (hb1.block T hTl).trans hT
  have hown1 := own_laterB hown hb1
  have hs1 : (w.alloc (.cells #[.int .i64 x, .int .i64 y] 58)).heap.size = w.heap.size + 1 := by simp
  go_enter Try.func64, Try.ntmps64
  have c0 : (w.alloc (.cells #[.int .i64 x, .int .i64 y] 58)).cell? ⟨T, 0, none⟩ = some (.slice ea el ec) := cell_of_row _ _ 0 _ _ _ hT1
  have hb2 : Below w.heap.size w ((w.alloc (.cells #[.int .i64 x, .int .i64 y] 58)).alloc (.cells #[.int .u32 (k : Int), .int .i64 x, .int .i64 y] 98)) := hb1.alloc (by simp) _
  have hownA := own_laterB hown hb2
  have hTA := (hb2.block T hTl).trans hT
  have hcA : ∀ j u, ([.int .u32 (k : Int), .int .i64 x, .int .i64 y] : List Value)[j]? = some u → ((w.alloc (.cells #[.int .i64 x, .int .i64 y] 58)).alloc (.cells #[.int .u32 (k : Int), .int .i64 x, .int .i64 y] 98)).cell? ((⟨w.heap.size + 1, 0, none⟩ : Addr).add j) = some u := fun j u h => cells3_at _ _ hs1.symm _ _ _ _ j u h
  have hneT : (Value.slice ea el ec).ownBlock ≠ some T := fun e => by have := (hown.lt T e).1; omega
  have tok1 : True := trivial
  go_wp2_with (at_builtin; have _u := tok1; clear tok1; go_loud (refine wpList_append_own (P := Try.prog) _ rfl _ _ 22 rfl (T + 1) 98 i0 _ 3 24 Try.underlying22 hi hz0 hz1 hz2 rfl (by decide) _ done.length (flat3 done) rfl hownA ⟨w.heap.size + 1, 0, none⟩ 1 1 [.int .u32 (k : Int), .int .i64 x, .int .i64 y] rfl rfl hcA (fun u hu => by { simp at hu; rcases hu with rfl | rfl | rfl <;> rfl }) (by unfold maxLen; omega) (by omega) (by have := hb2.size; omega) ?_); intro v2 w2 hown2 hgrow2 _h2; obtain ⟨g2, cap2, rfl⟩ := own_some hown2 (by omega); have hT2 := (hgrow2.block T (by have := hb2.size; omega) hneT.symm).trans hTA; have c2 : w2.cell? ⟨T, 0, none⟩ = some (.slice ea el ec) := cell_of_row _ _ 0 _ _ _ hT2; have f2 := frozen_of_row hT2 0; have hT4 := heap_setCell_same w2 T 0 _ _ (.slice (some ⟨g2, 0, none⟩) (done.length + 1) cap2) hT2; have c4 : (w2.setCell ⟨T, 0, none⟩ (.slice (some ⟨g2, 0, none⟩) (done.length + 1) cap2)).cell? ⟨T, 0, none⟩ = some (.slice (some ⟨g2, 0, none⟩) (done.length + 1) cap2) := cell_of_row _ _ 0 _ _ _ hT4)
  go_ret
  have hne2 : (Value.slice (some ⟨g2, 0, none⟩) (done.length + 1) cap2).ownBlock = none ∨ (Value.slice (some ⟨g2, 0, none⟩) (done.length + 1) cap2).ownBlock ≠ some T := .inr (fun e => by have := (hown2.lt T e).1; omega)
  have hown4 := hown2.kept (grown_set w2 T 0 (.slice (some ⟨g2, 0, none⟩) (done.length + 1) cap2)) hne2
  have hB2 := ((hb2.mono (Nat.le_of_lt hTl)).grown hgrow2 (by have := hb2.size; omega) (fun k hk => by have := (hownA.lt k hk).1; omega)).setCell (p := ⟨T, 0, none⟩) (Nat.le_refl _) (.slice (some ⟨g2, 0, none⟩) (done.length + 1) cap2)
  have hB3 := hWB.trans (hB2.mono hWT)
  refine ⟨_, rfl, fun ho => ⟨_, hT4, ?_, hWT, hB3, ?_⟩, fun ho => ⟨?_, hB3⟩⟩
  · rw [List.length_append, flat3_snoc]
    exact hown4
  · simp at ho ⊢
    omega
  · simp at ho
    omega

theorem takesE_entries (W : World) (T : Nat) (t : Tr) (h : Lies W t) : TakesE ⟨T, 0, none⟩ t (EJ W T) (fun done X => 4000 ≤ done.length ∧ Below W.heap.size W X) where
  lies := fun _ _ ⟨_, _, _, _, hB, _⟩ => h.later hB
  liesx := fun _ _ hJ => h.later hJ.2
  draw := fun _ _ n hJ => hJ.drewN n
  call := fun done X k x y _ hJ => by
    refine (entries1_any W T done k x y X hJ).mono ?_
    rintro e X' ⟨o, rfl, h1, h2⟩
    exact ⟨o, rfl, h1, fun ho => ⟨by have := (h2 ho).1; simp; omega, (h2 ho).2⟩⟩

set_option maxRecDepth 4000 in
set_option maxHeartbeats 1000000 in
theorem entries_any (mb : Nat) (L : Es) (hl : L.length < 4000) (w : World) (h : MapE w mb L) :
    Calls Try.prog 50 #[.pointer (some ⟨mb, 0, none⟩)] w fun e w' => ∃ ev, e = .returned ev ∧ w'.ownsRow w.heap.size 98 3 ev L.length (flat3 L) ∧ Below w.heap.size w w' := by
  obtain ⟨t, hM, rfl⟩ := h
  have hnil : ∀ (b : Nat) (W : World), (binOp BinOp.eql 121 (.func (.func 70) #[] #[.pointer (some ⟨b, 0, none⟩), .pointer (some ⟨b + 1, 0, none⟩), .pointer (some ⟨b + 1 + 1, 0, none⟩), .pointer (some ⟨b + 1 + 1 + 1, 0, none⟩)]) .nilFunc).run Try.prog W = .ok (.bool false) W := fun _ _ => rfl
  have hb1 : Below w.heap.size w (w.alloc (.cells #[.slice none 0 0] 22)) := (Below.refl _ _).alloc (Nat.le_refl _) _
  have hM1 := hM.later hb1
  have hT1 := heap_alloc_last w (.cells #[.slice none 0 0] 22)
  have hs1 : (w.alloc (.cells #[.slice none 0 0] 22)).heap.size = w.heap.size + 1 := by simp
  go_enter Try.func50, Try.ntmps50
  have tok1 : True := trivial
  go_wp2_with (first | (go_at_call 63; refine (all_any mb t _ hM1).mono ?_; rintro e w2 ⟨rfl, hI, hb2⟩; rw [iterV]) | (go_at_call 70; fail))
  have hT2 := (hb2.block w.heap.size (by omega)).trans hT1
  have hJ0 : EJ w w.heap.size [] w2 := ⟨_, hT2, World.ownsRow_nil _ _ _ _, Nat.le_refl _, below_step hb1 hb2, by simp⟩
  have hfr := from1_anyE ⟨w.heap.size, 0, none⟩ _ 0 t hM.2.2.2.2 _ _ (takesE_entries w w.heap.size t hM.2.2.2.1) _ hI hJ0
  rw [hs1] at hfr
  refine hfr.mono ?_
  rintro e w3 ⟨rfl, hE⟩
  rw [fromL_all] at hE
  have hJ3 : EJ w w.heap.size (t.ents 7 0) w3 := by
    rcases hE with hE | ⟨pre, hp, hx⟩
    · exact hE
    · have h1 := hp.length_le
      have h2 := hx.1
      omega
  obtain ⟨ev, hT3, hown3, -, hB3, -⟩ := hJ3
  obtain ⟨ea, el, ec, rfl⟩ := own_slice hown3
  have c0 : w3.cell? ⟨w.heap.size, 0, none⟩ = some (.slice ea el ec) := cell_of_row _ _ 0 _ _ _ hT3
  clear hE hfr hJ0
  go_wp2
  go_ret
  refine ⟨_, rfl, ?_, hB3⟩
  obtain ⟨h1, h2⟩ := hown3
  refine ⟨h1, ?_⟩
  rcases h2 with h2 | ⟨g, cap, cur, e, hg, rest⟩
  · exact .inl h2
  · exact .inr ⟨g, cap, cur, e, by omega, rest⟩

theorem entries_nil (w : World) : Calls Try.prog 50 #[.pointer none] w fun e w' => e = .returned (.slice none 0 0) ∧ Below w.heap.size w w' := by
  go_enter Try.func50, Try.ntmps50
  go_wp2
  go_ret
  exact ⟨rfl, (Below.refl _ _).alloc (Nat.le_refl _) _⟩

end Go.Proofs.Ytkojgbfocdefnaa

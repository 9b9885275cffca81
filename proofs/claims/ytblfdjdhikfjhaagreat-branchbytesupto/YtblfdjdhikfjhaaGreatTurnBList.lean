import Derived.Test.YtblfdjdhikfjhaaGreatTurnBSrch
import Derived.Test.YtblfdjdhikfjhaaGreatJoin8
namespace Go.Proofs.YtblfdjdhikfjhaaGreat
open Go.RowKit

/-- What levylaw12's taker holds. -/
def TakeAt (W : World) (T : Nat) (L : Es) (most : Int) : Prop :=
  ∃ ev, W.heap[T]? = some (.cells #[ev, .int .i64 most] 90 (0, 0)) ∧ W.ownsRow (T + 1) 49 3 ev L.length (flat3 L)

set_option maxRecDepth 4000 in
set_option maxHeartbeats 1000000 in
theorem take_any (T : Nat) (L : Es) (most : Int) (hL : L.length < 4294967296) (k : Nat) (x y : Int) (w : World) (h : TakeAt w T L most) :
    Calls Tryz.prog 41 #[.pointer (some ⟨T, 0, none⟩), .int .u32 (k : Int), .agg #[.int .i64 x, .int .i64 y]] w fun e w' => e = .returned (.bool (decide ((L.length : Int) + 1 ≤ most))) ∧ TakeAt w' T (L ++ [(k, (x, y))]) most ∧ Below T w w' := by
  obtain ⟨ev, hT, hown⟩ := h
  obtain ⟨ea, el, ec, rfl⟩ := own_slice hown
  have hTl : T < w.heap.size := (Array.getElem?_eq_some_iff.1 hT).1
  have hb1 := (Below.refl w.heap.size w).alloc (Nat.le_refl _) (.cells #[.int .i64 x, .int .i64 y] 47)
  have hv := Box2.new w (.int .i64 x) (.int .i64 y) 47
  have hT1 := (hb1.block T hTl).trans hT
  have hown1 := own_laterB hown hb1
  have hs1 : (w.alloc (.cells #[.int .i64 x, .int .i64 y] 47)).heap.size = w.heap.size + 1 := by simp
  go_enter Tryz.func41, Tryz.ntmps41
  go_wp2
  generalize w.alloc (.cells #[.int .i64 x, .int .i64 y] 47) = V at *
  have hTV : T < V.heap.size := by omega
  have hba : ∀ o, Below V.heap.size V (V.alloc o) := fun o => (Below.refl _ _).alloc (Nat.le_refl _) o
  have c0 : V.cell? ⟨T, 0, none⟩ = some (.slice ea el ec) := cell_of_row _ _ 0 _ _ _ hT1
  have c0' : ∀ o, (V.alloc o).cell? ⟨T, 0, none⟩ = some (.slice ea el ec) := fun o => ((hba o).cell (p := ⟨T, 0, none⟩) hTV).trans c0
  obtain ⟨v0, v1, -, -⟩ := hv
  have v0' : ∀ o, (V.alloc o).cell? ⟨w.heap.size, 0, none⟩ = some (.int .i64 x) := fun o => ((hba o).cell (p := ⟨w.heap.size, 0, none⟩) (by simp; omega)).trans v0
  have v1' : ∀ o, (V.alloc o).cell? ⟨w.heap.size, 1, none⟩ = some (.int .i64 y) := fun o => ((hba o).cell (p := ⟨w.heap.size, 1, none⟩) (by simp; omega)).trans v1
  have hne : (Value.slice ea el ec).ownBlock ≠ some T := fun e => by have := (hown1.lt T e).1; omega
  obtain ⟨i0, hi, hz0, hz1, hz2⟩ := info_parts infoE
  have hbd := (hba (.cells #[.int .u32 (k : Int), .int .i64 x, .int .i64 y] 49)).drew
  have hownA := own_laterB hown1 hbd
  have hTA := (hbd.block T hTV).trans hT1
  have hsz : T + 1 ≤ (V.alloc (.cells #[.int .u32 (k : Int), .int .i64 x, .int .i64 y] 49)).drew.heap.size := by have := hbd.size; omega
  have hbW := below_step hb1 hbd
  go_region_law (refine step_append_own _ rfl _ _ 22 rfl (T + 1) 49 i0 _ 3 24 Tryz.underlying22 hi hz0 hz1 hz2 rfl (by decide) _ L.length (flat3 L) rfl hownA ⟨w.heap.size + 1, 0, none⟩ 1 1 [.int .u32 (k : Int), .int .i64 x, .int .i64 y] rfl rfl (fun j u h => cells3_at V _ hs1.symm _ _ _ _ j u h) (fun u hu => by { simp at hu; rcases hu with rfl | rfl | rfl <;> rfl }) (by unfold maxLen; omega) (by omega) hsz ?_; intro v2 w2 hown2 hgrow2; obtain ⟨g2, cap2, rfl⟩ := own_some hown2 (by omega); have hT2 := (hgrow2.block T (by omega) hne.symm).trans hTA; have c2 : w2.cell? ⟨T, 0, none⟩ = some (.slice ea el ec) := cell_of_row _ _ 0 _ _ _ hT2; have f2 := frozen_of_row hT2 0)
  all_goals
    have hne2 : (Value.slice (some ⟨g2, 0, none⟩) (L.length + 1) cap2).ownBlock = none ∨ (Value.slice (some ⟨g2, 0, none⟩) (L.length + 1) cap2).ownBlock ≠ some T := .inr (fun e => by have := (hown2.lt T e).1; omega)
    have hT4 := heap_setCell_same w2 T 0 _ _ (.slice (some ⟨g2, 0, none⟩) (L.length + 1) cap2) hT2
    have hown4 := hown2.kept (grown_set w2 T 0 (.slice (some ⟨g2, 0, none⟩) (L.length + 1) cap2)) hne2
    have hB2 := ((hbW.mono (Nat.le_of_lt hTl)).grown hgrow2 (by omega) (fun k hk => by have := (hownA.lt k hk).1; omega)).setCell (p := ⟨T, 0, none⟩) (Nat.le_refl _) (.slice (some ⟨g2, 0, none⟩) (L.length + 1) cap2)
    clear hown2 hgrow2 hT2 c2 f2
    generalize w2.setCell ⟨T, 0, none⟩ (.slice (some ⟨g2, 0, none⟩) (L.length + 1) cap2) = X at *
    have d0 : X.cell? ⟨T, 0, none⟩ = some (.slice (some ⟨g2, 0, none⟩) (L.length + 1) cap2) := cell_of_row _ _ 0 _ _ _ hT4
    have d1 : X.cell? ⟨T, 1, none⟩ = some (.int .i64 most) := cell_of_row _ _ 1 _ _ _ hT4
    clear c0 c0' v0 v1 v0' v1' hba
    go_wp2
    go_quiet (fail)
    go_wp2
    go_ret
    have hbn := below_drewN (Below.refl X.heap.size X) nq
    refine ⟨by first | rfl | simp, ⟨_, (hbn.block T (Array.getElem?_eq_some_iff.1 hT4).1).trans hT4, ?_⟩, below_drewN hB2 nq⟩
    rw [List.length_append, flat3_snoc]
    exact own_laterB hown4 hbn

/-- How many entries list tells at most. -/
def cnt (most : Int) : Nat := if most < 1 then 1 else (most + 1).toNat

def bJ (W : World) (T : Nat) (most : Int) (done : Es) (X : World) : Prop := TakeAt X T done most ∧ (done = [] ∨ (done.length : Int) ≤ most) ∧ W.heap.size ≤ T ∧ Below W.heap.size W X
def bX (W : World) (T : Nat) (most : Int) (done : Es) (X : World) : Prop := TakeAt X T done most ∧ done.length = cnt most ∧ W.heap.size ≤ T ∧ Below W.heap.size W X

theorem TakeAt.drewN {X : World} {T : Nat} {L : Es} {most : Int} (h : TakeAt X T L most) (m : Nat) : TakeAt (X.drewN m) T L most := by
  obtain ⟨ev, h1, h2⟩ := h
  have hb := below_drewN (Below.refl X.heap.size X) m
  exact ⟨ev, (hb.block T (Array.getElem?_eq_some_iff.1 h1).1).trans h1, own_laterB h2 hb⟩

theorem takes_take (W : World) (T : Nat) (most : Int) (t : Tr) (h : Lies W t) : TakesB ⟨T, 0, none⟩ t (bJ W T most) (bX W T most) where
  lies := fun _ _ hJ => h.later hJ.2.2.2
  liesx := fun _ _ hJ => h.later hJ.2.2.2
  draw := fun _ X n hJ => ⟨hJ.1.drewN n, hJ.2.1, hJ.2.2.1, below_drewN hJ.2.2.2 n⟩
  call := fun done X k x y _ hn hJ => by
    obtain ⟨h1, h2, h4, h5⟩ := hJ
    refine (take_any T done most hn k x y X h1).mono ?_
    rintro e X' ⟨rfl, hT, hB⟩
    have hB' : Below W.heap.size W X' := h5.trans (hB.mono h4)
    refine ⟨_, rfl, fun ho => ?_, fun ho => ?_⟩
    · refine ⟨hT, .inr ?_, h4, hB'⟩
      have := of_decide_eq_true ho
      simp
      omega
    · refine ⟨hT, ?_, h4, hB'⟩
      have := of_decide_eq_false ho
      rw [List.length_append, cnt]
      rcases h2 with rfl | h2
      · have h1 : most < 1 := by simp at this; omega
        rw [if_pos h1]
        rfl
      · simp
        split <;> omega

/-- A list of entries in a row of its own. -/
def EntsT (W : World) (v : Value) (L : Es) : Prop := EntsAt W v L ∧ (L ≠ [] → ∃ g cap cs, v = .slice (some ⟨g, 0, none⟩) L.length cap ∧ W.heap[g]? = some (.cells cs 49 (0, 0)))
theorem entsT_of_own {w : World} {base : Nat} {v : Value} {L : Es} (h : w.ownsRow base 49 3 v L.length (flat3 L)) : EntsT w v L := by
  refine ⟨ents_of_own h, fun hL => ?_⟩
  obtain ⟨-, ⟨-, h1⟩ | ⟨g, cap, cs, e, -, hh, -⟩⟩ := h
  · exact absurd (List.length_eq_zero_iff.1 h1) hL
  · exact ⟨g, cap, cs, e, hh⟩
/-- It stays where rows of entries stay. -/
theorem EntsT.keep {W W' : World} {v : Value} {L : Es} (h : EntsT W v L) (hs : W.heap.size ≤ W'.heap.size) (hk : ∀ (g : Nat) (cs : Array Value), W.heap[g]? = some (.cells cs 49 (0, 0)) → W'.heap[g]? = W.heap[g]?) : EntsT W' v L := by
  obtain ⟨h1, h2⟩ := h
  by_cases hL : L = []
  · obtain ⟨a, cap, rfl, -⟩ := h1
    exact ⟨⟨a, cap, rfl, .inl hL⟩, fun e => absurd hL e⟩
  obtain ⟨g, cap, cs, rfl, hh⟩ := h2 hL
  have he := hk g cs hh
  refine ⟨?_, fun _ => ⟨g, cap, cs, rfl, he.trans hh⟩⟩
  obtain ⟨a', cap', e', h0 | ⟨g', off, ea, hg, hc⟩⟩ := h1
  · exact absurd h0 hL
  · injection e' with e1 e2 e3
    rw [← e1] at ea
    injection ea with ea
    injection ea with ea1 ea2
    subst ea1 ea2
    have ec : ∀ j, W'.cell? ⟨g, j, none⟩ = W.cell? ⟨g, j, none⟩ := fun j => by simp only [World.cell?, he]
    exact ⟨_, cap, rfl, .inr ⟨g, 0, rfl, Nat.lt_of_lt_of_le hg hs, fun i hi => ⟨(ec _).trans (hc i hi).1, (ec _).trans (hc i hi).2.1, (ec _).trans (hc i hi).2.2⟩⟩⟩
theorem EntsT.later {W W' : World} {v : Value} {L : Es} (h : EntsT W v L) (hb : Below W.heap.size W W') : EntsT W' v L := h.keep hb.size (fun g _ hg => hb.block g (Array.getElem?_eq_some_iff.1 hg).1)

set_option maxRecDepth 4000 in
set_option maxHeartbeats 1000000 in
theorem list_T (mb : Nat) (L : Es) (most : Int) (w : World) (h : MapE w mb L) :
    Calls Tryz.prog 19 #[.pointer (some ⟨mb, 0, none⟩), .int .i64 most] w fun e w' => ∃ ev, e = .returned ev ∧ EntsT w' ev (L.take (cnt most)) ∧ Below w.heap.size w w' := by
  obtain ⟨t, hM, rfl⟩ := h
  have hlen := ents_length 7 hM.2.2.2.2 0
  have hnil : ∀ (b : Nat) (W : World), (binOp BinOp.eql 92 (.func (.func 79) #[] #[.pointer (some ⟨b, 0, none⟩), .pointer (some ⟨b + 1, 0, none⟩), .pointer (some ⟨b + 1 + 1, 0, none⟩), .pointer (some ⟨b + 1 + 1 + 1, 0, none⟩)]) .nilFunc).run Tryz.prog W = .ok (.bool false) W := fun _ _ => rfl
  have hb1 : Below w.heap.size w (w.alloc (.cells #[.slice none 0 0, .int .i64 most] 90)) := (Below.refl _ _).alloc (Nat.le_refl _) _
  have hM1 := hM.later hb1
  have hT1 := heap_alloc_last w (.cells #[.slice none 0 0, .int .i64 most] 90)
  have hs1 : (w.alloc (.cells #[.slice none 0 0, .int .i64 most] 90)).heap.size = w.heap.size + 1 := by simp
  go_enter Tryz.func19, Tryz.ntmps19
  go_wp2_with (first | (go_at_call 40; refine (all_any mb t _ hM1).mono ?_; rintro e w2 ⟨rfl, hI, hb2⟩; rw [iterV]) | (go_at_call 79; fail))
  have hT2 := (hb2.block w.heap.size (by omega)).trans hT1
  have hJ0 : bJ w w.heap.size most [] w2 := ⟨⟨_, hT2, World.ownsRow_nil _ _ _ _⟩, .inl rfl, Nat.le_refl _, below_step hb1 hb2⟩
  have hfr := from1_anyB ⟨w.heap.size, 0, none⟩ _ 0 t hM.2.2.2.2 _ _ (takes_take w w.heap.size most t hM.2.2.2.1) _ hI (by rw [fromL_all]; simpa using hlen) hJ0
  rw [hs1] at hfr
  refine hfr.mono ?_
  rintro e w3 ⟨rfl, hE⟩
  rw [fromL_all] at hE
  have hF : ∃ L', L' = (t.ents 7 0).take (cnt most) ∧ TakeAt w3 w.heap.size L' most ∧ Below w.heap.size w w3 := by
    rcases hE with hE | ⟨pre, hp, hx⟩
    · refine ⟨_, (List.take_of_length_le ?_).symm, hE.1, hE.2.2.2⟩
      rcases hE.2.1 with h0 | h0
      · rw [h0]; simp
      · rw [cnt]; split <;> omega
    · refine ⟨_, ?_, hx.1, hx.2.2.2⟩
      rw [← hx.2.1]
      exact List.prefix_iff_eq_take.1 hp
  obtain ⟨L', hL', ⟨ev, hT3, hown3⟩, hB3⟩ := hF
  obtain ⟨ea, el, ec, rfl⟩ := own_slice hown3
  have c0 : w3.cell? ⟨w.heap.size, 0, none⟩ = some (.slice ea el ec) := cell_of_row _ _ 0 _ _ _ hT3
  clear hE hfr hJ0
  go_wp2
  go_ret
  exact ⟨_, rfl, by rw [← hL']; exact entsT_of_own hown3, hB3⟩

theorem list_any (mb : Nat) (L : Es) (most : Int) (w : World) (h : MapE w mb L) :
    Calls Tryz.prog 19 #[.pointer (some ⟨mb, 0, none⟩), .int .i64 most] w fun e w' => ∃ ev, e = .returned ev ∧ EntsAt w' ev (L.take (cnt most)) ∧ Below w.heap.size w w' := by
  refine (list_T mb L most w h).mono ?_
  rintro e w' ⟨ev, rfl, h1, h2⟩
  exact ⟨ev, rfl, h1.1, h2⟩

end Go.Proofs.YtblfdjdhikfjhaaGreat

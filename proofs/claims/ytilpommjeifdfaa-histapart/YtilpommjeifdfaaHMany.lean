import Derived.Test.YtilpommjeifdfaaHApart
namespace Go.Proofs.Ytilpommjeifdfaa
open Go.RowKit

/-- What a row of histories is. -/
theorem row_apart {X : World} {base n : Nat} {lv : Value} {hs : Nat → Nat} (ho : X.ownsRow base 25 1 lv n (ptrs hs n)) (hn : 0 < n) : ∃ gl cur cap, lv = .slice (some ⟨gl, 0, none⟩) n cap ∧ X.heap[gl]? = some (.cells cur 25 (0, 0)) ∧ X.cell? ⟨gl, 0, none⟩ = some (.pointer (some ⟨hs 0, 0, none⟩)) := by
  have hc := fun gl cap (h : X.ownsRow base 25 1 (.slice (some ⟨gl, 0, none⟩) n cap) n (ptrs hs n)) => (h.cellAt 0 (by omega)).trans (ptrs_at hs n 0 hn)
  have ho' := ho
  obtain ⟨-, ⟨rfl, h⟩ | ⟨gl, cap, cur, rfl, -, ht, -⟩⟩ := ho
  · omega
  · exact ⟨gl, cur, cap, rfl, ht, hc gl cap ho'⟩
theorem tag_ne {X : World} {a b : Nat} {ca cb : Array Value} {ta tb : TypeId} {fa fb : Nat × Nat} (ha : X.heap[a]? = some (.cells ca ta fa)) (hb : X.heap[b]? = some (.cells cb tb fb)) (hne : ta ≠ tb) : a ≠ b := fun e => by
  subst e
  rw [ha] at hb
  injection hb with hb
  injection hb with _ h2
  exact hne h2
theorem Lies.keptT {X Y : World} {gl : Nat} {cur : Array Value} (ht : X.heap[gl]? = some (.cells cur 25 (0, 0))) (hg : X.grownBy Y (some gl)) : ∀ {t : Tr}, Lies X t → Lies Y t := by
  have hN : ∀ {b : Nat} {kv : Nat → Value} {sv : Value}, NodeAt X b kv sv → NodeAt Y b kv sv := fun h => (hg.block _ h.lt (fun e => tag_ne h ht (by decide) (Option.some.inj e))).trans h
  have hSh : ∀ {b : Nat} {th : Nat → Bool} {vk vn : Nat → Int}, ShelfAt X b th vk vn → ShelfAt Y b th vk vn := fun h => (hg.block _ h.lt (fun e => tag_ne h ht (by decide) (Option.some.inj e))).trans h
  intro t
  induction t with
  | nil => intro _; trivial
  | node b kids ih => intro h; exact ⟨hN h.1, fun i hi => ih i (h.2 i hi)⟩
  | leaf b s th vk vn => intro h; exact ⟨hN h.1, hSh h.2⟩
theorem MapT.ne_row {X : World} {gl mb h0 : Nat} {t : Tr} {a : Option Addr} {n cap : Nat} {p : Int} (hc : X.cell? ⟨gl, 0, none⟩ = some (.pointer (some ⟨h0, 0, none⟩))) (hB : HB X h0 a n cap p) (h : MapT X mb t) : mb ≠ gl := fun e => by
  subst e
  have e0 := h.2.1
  rw [hc] at e0
  have hL := h.2.2.2.1
  cases t with
  | nil => simp [Tr.ptr] at e0
  | node b kids =>
    simp [Tr.ptr] at e0
    subst e0
    exact tag_ne hL.1 hB (by decide) rfl
  | leaf b s th vk vn =>
    simp [Tr.ptr] at e0
    subst e0
    exact tag_ne hL.1 hB (by decide) rfl
/-- A history stays while a row of histories grows. -/
theorem HistAt.keptT {X Y : World} {gl h0 hb : Nat} {cur : Array Value} {Ls0 Ls : List Es} {p0 p : Nat} (ht : X.heap[gl]? = some (.cells cur 25 (0, 0))) (hc : X.cell? ⟨gl, 0, none⟩ = some (.pointer (some ⟨h0, 0, none⟩))) (hh : HistAt X h0 Ls0 p0) (hg : X.grownBy Y (some gl)) (h : HistAt X hb Ls p) : HistAt Y hb Ls p := by
  obtain ⟨-, -, g0, cap0, vs0, hB0, -⟩ := hh
  obtain ⟨h1, h2, g, cap, vs, h3, h4, h5, h6⟩ := h
  have hmap : ∀ {b : Nat} {L : Es}, MapE X b L → MapE Y b L := fun {b L} ⟨t, hm, he⟩ => by
    have hne := hm.ne_row hc hB0
    have hne' : some gl ≠ some b := fun e => hne (Option.some.inj e).symm
    exact ⟨t, ⟨Nat.lt_of_lt_of_le hm.1 hg.size, (grown_cell hg hm.1 hne').trans hm.2.1, (grown_cell hg hm.1 hne').trans hm.2.2.1, hm.2.2.2.1.keptT ht hg, hm.2.2.2.2⟩, he⟩
  have hgne : some gl ≠ some g := fun e => by
    obtain rfl := Option.some.inj e
    have hq := (h6.2 0 (by omega)).1
    rw [Nat.add_zero, hc] at hq
    simp at hq
    obtain ⟨t, hm, -⟩ := (h6.2 0 (by omega)).2.1
    rw [← hq] at hm
    obtain ⟨u, hu⟩ := ptr_pointer t
    have h0 := hm.2.1
    rw [cell_of_row _ _ 0 _ _ _ hB0, hu] at h0
    simp at h0
  refine ⟨h1, h2, g, cap, vs, (hg.block hb h3.lt (fun e => tag_ne h3 ht (by decide) (Option.some.inj e))).trans h3, h4, h5, Nat.lt_of_lt_of_le h6.1 hg.size, fun i hi => ⟨(grown_cell hg h6.1 hgne).trans (h6.2 i hi).1, hmap (h6.2 i hi).2.1, (h6.2 i hi).2.2⟩⟩
theorem infoH : (Try.prog.info? 25).map (fun i => (i.zero, i.size, i.bytes)) = some (some (.pointer none), 1, 8) := by kernel_rfl
def oneE (j : Nat) : Es := [(j, (1, 7))]
def twoE (j : Nat) : Es := [(100 + j, (1, 8))]
/-- The histories that were made. -/
def MJ (w : World) (i : Nat) (lv : Value) (X : World) : Prop := ∃ hs : Nat → Nat, X.ownsRow w.heap.size 25 1 lv i (ptrs hs i) ∧ (∀ j, j < i → HistAt X (hs j) [oneE j] 0 ∧ w.heap.size ≤ hs j) ∧ (∀ a b, a < b → b < i → hs a < hs b) ∧ (i = 0 → lv = .slice none 0 0) ∧ Below w.heap.size w X
/-- One more. -/
theorem mj_add {w X Y Z : World} {i hb : Nat} {hs : Nat → Nat} {lv lv' : Value} (ho : X.ownsRow w.heap.size 25 1 lv i (ptrs hs i)) (hH : ∀ j, j < i → HistAt X (hs j) [oneE j] 0 ∧ w.heap.size ≤ hs j) (hup : ∀ a b, a < b → b < i → hs a < hs b) (hz : i = 0 → lv = .slice none 0 0) (hXY : Below X.heap.size X Y) (hw : w.heap.size ≤ hb) (hlo : X.heap.size ≤ hb) (hN : HistAt Y hb [oneE i] 0) (hg : Y.grownBy Z lv.ownBlock) (ho' : Z.ownsRow w.heap.size 25 1 lv' (i + 1) (ptrs hs i ++ [.pointer (some ⟨hb, 0, none⟩)])) (hB : Below w.heap.size w Z) : MJ w (i + 1) lv' Z := by
  rw [ptrs_snoc] at ho'
  have keep : ∀ b Ls p, HistAt Y b Ls p → HistAt Z b Ls p := fun b Ls p h => by
    by_cases h0 : i = 0
    · rw [hz h0] at hg
      exact h.later ⟨hg.os, hg.tape, hg.output, hg.size, fun k hk => hg.block k hk (by simp [Value.ownBlock])⟩
    · have hh := (hH 0 (by omega)).1.later hXY
      obtain ⟨gl, cur, cap, rfl, ht, hc⟩ := row_apart (own_laterB ho hXY) (by omega)
      exact HistAt.keptT ht hc hh hg h
  refine ⟨_, ho', fun j hj => ?_, fun a b hab hbi => ?_, fun h => by omega, hB⟩
  · by_cases e : j = i
    · subst e
      simp only [if_true]
      exact ⟨keep _ _ _ hN, hw⟩
    · simp only [if_neg e]
      exact ⟨keep _ _ _ ((hH j (by omega)).1.later hXY), (hH j (by omega)).2⟩
  · simp only [if_neg (show ¬ a = i by omega)]
    by_cases e : b = i
    · rw [if_pos e]
      have := (hH a (by omega)).1.lt
      omega
    · rw [if_neg e]
      exact hup a b hab (by omega)

end Go.Proofs.Ytilpommjeifdfaa

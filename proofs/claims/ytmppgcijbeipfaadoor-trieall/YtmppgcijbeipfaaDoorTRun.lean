import Derived.Test.YtmppgcijbeipfaaDoorTTake
namespace Go.Proofs.YtmppgcijbeipfaaDoor
open Go.RowKit

def tJ (W : World) (T : Nat) (stop most : Int) (done : List (Nat × (Int × Int))) (X : World) : Prop := TakerAt X T done stop most done.length false false ∧ ((done.length : Int) ≤ 0 ∨ (done.length : Int) ≤ most) ∧ (done = [] ∨ (done.length : Int) ≠ stop) ∧ W.heap.size ≤ T ∧ Below W.heap.size W X
def tX (W : World) (T : Nat) (stop most : Int) (done : List (Nat × (Int × Int))) (X : World) : Prop := TakerAt X T done stop most done.length true false ∧ ((done.length : Int) = stop ∨ most < (done.length : Int)) ∧ W.heap.size ≤ T ∧ Below W.heap.size W X

theorem TakerAt.drewN {X : World} {T : Nat} {L : List (Nat × (Int × Int))} {stop most n : Int} {over deaf : Bool} (h : TakerAt X T L stop most n over deaf) (m : Nat) : TakerAt (X.drewN m) T L stop most n over deaf := by
  obtain ⟨ev, h1, h2⟩ := h
  have hb := below_drewN (Below.refl X.heap.size X) m
  exact ⟨ev, (hb.block T (Array.getElem?_eq_some_iff.1 h1).1).trans h1, own_laterB h2 hb⟩

theorem takes_entry (W : World) (T : Nat) (stop most : Int) (hmo : most ≤ 4294967297) (t : Tr) (h : Lies W t) : Takes 38 ⟨T, 0, none⟩ t (tJ W T stop most) (tX W T stop most) where
  lies := fun _ _ hJ => h.later hJ.2.2.2.2
  liesx := fun _ _ hJ => h.later hJ.2.2.2
  draw := fun _ X n hJ => ⟨hJ.1.drewN n, hJ.2.1, hJ.2.2.1, hJ.2.2.2.1, below_drewN hJ.2.2.2.2 n⟩
  call := fun done X k x y hk hJ => by
    obtain ⟨h1, h2, h3, h4, h5⟩ := hJ
    refine (entry_any T done stop most (by omega) false _ k x y rfl X h1).mono ?_
    rintro e X' ⟨rfl, hT, hB⟩
    have hB' : Below W.heap.size W X' := h5.trans (hB.mono h4)
    refine ⟨_, rfl, fun ho => ?_, fun ho => ?_⟩
    · simp only [Bool.not_eq_true', Bool.or_eq_false_iff, decide_eq_false_iff_not, beq_eq_false_iff_ne] at ho
      have e : (((done.length : Int) + 1 == stop) || decide (most < (done.length : Int) + 1)) = false := by simp; omega
      rw [e] at hT
      refine ⟨?_, ?_, ?_, h4, hB'⟩
      · rw [List.length_append]; exact hT
      · right; simp; omega
      · right; simp; omega
    · simp only [Bool.not_eq_false', Bool.or_eq_true, decide_eq_true_eq, beq_iff_eq] at ho
      have e : (((done.length : Int) + 1 == stop) || decide (most < (done.length : Int) + 1)) = true := by simp; omega
      rw [e] at hT
      refine ⟨?_, ?_, h4, hB'⟩
      · rw [List.length_append]; exact hT
      · simp; omega

/-- An iterator over a tree, as it is handed out. -/
def iterV (b : Nat) : Value := .func (.func 49) #[] #[.pointer (some ⟨b, 0, none⟩), .pointer (some ⟨b + 1, 0, none⟩), .pointer (some ⟨b + 1 + 1, 0, none⟩), .pointer (some ⟨b + 1 + 1 + 1, 0, none⟩)]
def IterAt (W : World) (b : Nat) (t : Tr) (low : Nat) : Prop := b + 1 + 1 + 1 < W.heap.size ∧ W.cell? ⟨b, 0, none⟩ = some t.ptr ∧ W.cell? ⟨b + 1, 0, none⟩ = some (.int .i64 0) ∧ W.cell? ⟨b + 1 + 1, 0, none⟩ = some (.int .u32 0) ∧ W.cell? ⟨b + 1 + 1 + 1, 0, none⟩ = some (.int .u32 (low : Int))
theorem IterAt.later {W W' : World} {b : Nat} {t : Tr} {low : Nat} (h : IterAt W b t low) (hb : Below W.heap.size W W') : IterAt W' b t low := by
  obtain ⟨h0, h1, h2, h3, h4⟩ := h
  exact ⟨Nat.lt_of_lt_of_le h0 hb.size, (hb.cell (p := ⟨b, 0, none⟩) (by simp; omega)).trans h1, (hb.cell (p := ⟨b + 1, 0, none⟩) (by simp; omega)).trans h2, (hb.cell (p := ⟨b + 1 + 1, 0, none⟩) (by simp; omega)).trans h3, (hb.cell (p := ⟨b + 1 + 1 + 1, 0, none⟩) (by simp; omega)).trans h4⟩

theorem szA (w : World) (o : Obj) : (w.alloc o).heap.size = w.heap.size + 1 := by simp
theorem cell_new1 (w : World) (v : Value) (t : TypeId) (n : Nat) (hn : n = w.heap.size) : (w.alloc (.cells #[v] t)).cell? ⟨n, 0, none⟩ = some v := by
  subst hn
  exact cell_of_row _ _ 0 _ _ _ (heap_alloc_last w _)
theorem cell_old (w : World) (o : Obj) (n : Nat) (h : n < w.heap.size) : (w.alloc o).cell? ⟨n, 0, none⟩ = w.cell? ⟨n, 0, none⟩ := ((Below.refl w.heap.size w).alloc (Nat.le_refl _) o).cell (p := ⟨n, 0, none⟩) h
theorem iter_new (w : World) (t : Tr) (u : Option Addr) (hu : t.ptr = .pointer u) (low : Nat) (l : Int) (hl : l = (low : Int)) (t1 t2 t3 t4 : TypeId) : IterAt ((((w.alloc (.cells #[.pointer u] t1)).alloc (.cells #[.int .i64 0] t2)).alloc (.cells #[.int .u32 0] t3)).alloc (.cells #[.int .u32 l] t4)) w.heap.size t low ∧ Below w.heap.size w ((((w.alloc (.cells #[.pointer u] t1)).alloc (.cells #[.int .i64 0] t2)).alloc (.cells #[.int .u32 0] t3)).alloc (.cells #[.int .u32 l] t4)) := by
  refine ⟨⟨by simp only [szA]; omega, ?_, ?_, ?_, ?_⟩, ((((Below.refl w.heap.size w).alloc (Nat.le_refl _) _).alloc (by simp only [szA]; omega) _).alloc (by simp only [szA]; omega) _).alloc (by simp only [szA]; omega) _⟩
  · rw [cell_old _ _ _ (by simp only [szA]; omega), cell_old _ _ _ (by simp only [szA]; omega), cell_old _ _ _ (by simp only [szA]; omega), cell_new1 _ _ _ _ rfl, hu]
  · rw [cell_old _ _ _ (by simp only [szA]; omega), cell_old _ _ _ (by simp only [szA]; omega), cell_new1 _ _ _ _ (by simp only [szA])]
  · rw [cell_old _ _ _ (by simp only [szA]; omega), cell_new1 _ _ _ _ (by simp only [szA])]
  · rw [cell_new1 _ _ _ _ (by simp only [szA]), hl]

theorem all_any (mb : Nat) (t : Tr) (w : World) (h : MapT w mb t) : Calls Tryd.prog 21 #[.pointer (some ⟨mb, 0, none⟩)] w fun e w' => e = .returned (iterV w.heap.size) ∧ IterAt w' w.heap.size t 0 ∧ Below w.heap.size w w' := by
  obtain ⟨u, hu⟩ := ptr_pointer t
  have m0 := h.2.1
  rw [hu] at m0
  go_enter Tryd.func21, Tryd.ntmps21
  go_wp2
  go_ret
  have := iter_new w t u hu 0 0 rfl 70 3 27 27
  exact ⟨rfl, this.1, this.2⟩

set_option maxRecDepth 4000 in
set_option maxHeartbeats 1000000 in
theorem from1_any (T : Addr) (b low : Nat) (t : Tr) (hw : t.wf 7) (J Jx : List (Nat × (Int × Int)) → World → Prop) (hT : Takes 38 T t J Jx) (w : World) (hI : IterAt w b t low) (h : J [] w) :
    Calls Tryd.prog 49 #[.func (.func 38) #[.pointer (some T)] #[], .pointer (some ⟨b, 0, none⟩), .pointer (some ⟨b + 1, 0, none⟩), .pointer (some ⟨b + 1 + 1, 0, none⟩), .pointer (some ⟨b + 1 + 1 + 1, 0, none⟩)] w fun e w' => e = .returned (.tuple #[]) ∧ (J (t.fromL 7 0 low) w' ∨ ∃ pre, pre <+: t.fromL 7 0 low ∧ Jx pre w') := by
  obtain ⟨-, c0, c1, c2, c3⟩ := hI
  obtain ⟨u, hu⟩ := ptr_pointer t
  rw [hu] at c0
  have hs := search_any T J Jx 7 0 rfl t hw hT 0 low (by decide) (by decide) [] w h
  rw [hu, show (((0 : Nat)) : Int) = 0 from rfl] at hs
  go_enter Tryd.func49, Tryd.ntmps49
  go_wp2_with (go_at_call 50; refine hs.mono ?_; rintro e w5 ⟨o, rfl, hJ5, hX5⟩)
  go_end0
  refine ⟨rfl, ?_⟩
  cases o with
  | true => exact .inl (by simpa using hJ5)
  | false =>
    obtain ⟨pre, hp, hx⟩ := hX5 (by first | rfl | trivial)
    exact .inr ⟨pre, hp, by simpa using hx⟩

set_option maxRecDepth 4000 in
set_option maxHeartbeats 1000000 in
theorem run_all (b : Nat) (t : Tr) (hw : t.wf 7) (most : Int) (hmo : ((t.ents 7 0).length : Int) ≤ most ∧ most ≤ 4294967297) (w : World) (hI : IterAt w b t 0) (hL : Lies w t) :
    Calls Tryd.prog 20 #[iterV b, .int .i64 (-1), .int .i64 most] w fun e w' => ∃ ev, e = .returned ev ∧ w'.ownsRow (w.heap.size + 1) 49 3 ev (t.ents 7 0).length (flat3 (t.ents 7 0)) ∧ Below w.heap.size w w' := by
  have hq : iterV b = .func (.func 49) #[] #[.pointer (some ⟨b, 0, none⟩), .pointer (some ⟨b + 1, 0, none⟩), .pointer (some ⟨b + 1 + 1, 0, none⟩), .pointer (some ⟨b + 1 + 1 + 1, 0, none⟩)] := rfl
  have hnil : ∀ W : World, (binOp BinOp.eql 56 (.func (.func 49) #[] #[.pointer (some ⟨b, 0, none⟩), .pointer (some ⟨b + 1, 0, none⟩), .pointer (some ⟨b + 1 + 1, 0, none⟩), .pointer (some ⟨b + 1 + 1 + 1, 0, none⟩)]) .nilFunc).run Tryd.prog W = .ok (.bool false) W := fun _ => rfl
  rw [hq]
  go_enter Tryd.func20, Tryd.ntmps20
  have hb1 : Below w.heap.size w (w.alloc (.cells (takerRow (.slice none 0 0) (-1) most 0 false false) 92)) := (Below.refl _ _).alloc (Nat.le_refl _) _
  have hJ0 : tJ w w.heap.size (-1) most [] (w.alloc (.cells (takerRow (.slice none 0 0) (-1) most 0 false false) 92)) := ⟨⟨_, heap_alloc_last w _, World.ownsRow_nil _ _ _ _⟩, .inl (by simp), .inl rfl, Nat.le_refl _, hb1⟩
  have hfr := from1_any ⟨w.heap.size, 0, none⟩ b 0 t hw _ _ (takes_entry w w.heap.size (-1) most hmo.2 t hL) _ (hI.later hb1) hJ0
  go_wp2_with (go_at_call 49; fail)
  refine hfr.mono ?_
  rintro e w3 ⟨rfl, hE⟩
  rw [fromL_all] at hE
  have hJ3 : tJ w w.heap.size (-1) most (t.ents 7 0) w3 := by
    rcases hE with hE | ⟨pre, hp, hx⟩
    · exact hE
    · have h1 := hp.length_le
      rcases hx.2.1 with h2 | h2 <;> omega
  obtain ⟨⟨ev, hT3, hown3⟩, -, -, -, hB3⟩ := hJ3
  obtain ⟨ea, el, ec, rfl⟩ := own_slice hown3
  have c6 : w3.cell? ⟨w.heap.size, 6, none⟩ = some (.bool false) := cell_of_row _ _ 6 _ _ _ hT3
  have c0 : w3.cell? ⟨w.heap.size, 0, none⟩ = some (.slice ea el ec) := cell_of_row _ _ 0 _ _ _ hT3
  clear hE hfr hJ0 hb1
  go_wp2
  go_ret
  exact ⟨_, rfl, hown3, hB3⟩

end Go.Proofs.YtmppgcijbeipfaaDoor

import Derived.Test.YtmlkceganilboaaDoorTOne
import Derived.Test.YtmlkceganilboaaDoorTFromM
namespace Go.Proofs.YtmlkceganilboaaDoor
open Go.RowKit

theorem from_iter (mb : Nat) (t : Tr) (low : Nat) (w : World) (h : MapT w mb t) : Calls Tryd.prog 23 #[.pointer (some ⟨mb, 0, none⟩), .int .u32 (low : Int)] w fun e w' => e = .returned (iterV w.heap.size) ∧ IterAt w' w.heap.size t low ∧ Below w.heap.size w w' := by
  obtain ⟨u, hu⟩ := ptr_pointer t
  have m0 := h.2.1
  rw [hu] at m0
  go_enter Tryd.func23, Tryd.ntmps23
  go_wp2
  go_ret
  have := iter_new w t u hu low low rfl 57 3 30 30
  exact ⟨rfl, this.1, this.2⟩

/-- What run gives of a list, left behind stop. -/
def runL (stop : Int) (L : List (Nat × (Int × Int))) : List (Nat × (Int × Int)) := if stop < 0 then L else L.take stop.toNat

def uJ (W : World) (T : Nat) (stop most : Int) (done : List (Nat × (Int × Int))) (X : World) : Prop := TakerAt X T done stop most done.length false false ∧ (done.length : Int) ≤ most ∧ (stop < 0 ∨ (done.length : Int) < stop) ∧ W.heap.size ≤ T ∧ Below W.heap.size W X
def uX (W : World) (T : Nat) (stop most : Int) (done : List (Nat × (Int × Int))) (X : World) : Prop := TakerAt X T done stop most done.length true false ∧ ((done.length : Int) = stop ∨ most < (done.length : Int)) ∧ W.heap.size ≤ T ∧ Below W.heap.size W X

theorem takes_entry2 (W : World) (T : Nat) (stop most : Int) (hmo : most ≤ 4294967297) (t : Tr) (h : Lies W t) : Takes 27 ⟨T, 0, none⟩ t (uJ W T stop most) (uX W T stop most) where
  lies := fun _ _ hJ => h.later hJ.2.2.2.2
  liesx := fun _ _ hJ => h.later hJ.2.2.2
  draw := fun _ X n hJ => ⟨hJ.1.drewN n, hJ.2.1, hJ.2.2.1, hJ.2.2.2.1, below_drewN hJ.2.2.2.2 n⟩
  call := fun done X k x y hk hJ => by
    obtain ⟨h1, h2, h3, h4, h5⟩ := hJ
    refine (entry_any T done stop most (by omega) false _ k x y rfl X h1).mono ?_
    rintro e X' ⟨rfl, hT, hB⟩
    have hB' : Below W.heap.size W X' := h5.trans (hB.mono h4)
    refine ⟨_, rfl, fun ho => ?_, fun ho => ?_⟩
    · simp only [Bool.not_eq_true', Bool.or_eq_false_iff, decide_eq_false_iff_not, beq_eq_false_iff_ne] at ho
      have e : (((done.length : Int) + 1 == stop) || decide (most < (done.length : Int) + 1)) = false := by simp; omega
      rw [e] at hT
      refine ⟨?_, ?_, ?_, h4, hB'⟩
      · rw [List.length_append]; exact hT
      · simp; omega
      · simp; omega
    · simp only [Bool.not_eq_false', Bool.or_eq_true, decide_eq_true_eq, beq_iff_eq] at ho
      have e : (((done.length : Int) + 1 == stop) || decide (most < (done.length : Int) + 1)) = true := by simp; omega
      rw [e] at hT
      refine ⟨?_, ?_, h4, hB'⟩
      · rw [List.length_append]; exact hT
      · simp; omega

theorem runL_prefix {stop most : Int} {L pre : List (Nat × (Int × Int))} (hL : (L.length : Int) ≤ most) (hp : pre <+: L) (h : (pre.length : Int) = stop ∨ most < (pre.length : Int)) : pre = runL stop L := by
  have h1 := hp.length_le
  rcases h with h | h
  · unfold runL
    rw [if_neg (by omega), List.prefix_iff_eq_take.1 hp]
    congr 1
    omega
  · omega
theorem runL_whole {stop : Int} {L : List (Nat × (Int × Int))} (h : stop < 0 ∨ (L.length : Int) < stop) : L = runL stop L := by
  unfold runL
  split
  · rfl
  · rw [List.take_of_length_le (by omega)]

set_option maxRecDepth 4000 in
set_option maxHeartbeats 1000000 in
theorem run_some (b low : Nat) (t : Tr) (hw : t.wf 7) (stop most : Int) (hst : stop ≠ 0) (hmo : ((t.fromL 7 0 low).length : Int) ≤ most ∧ most ≤ 4294967297) (w : World) (hI : IterAt w b t low) (hL : Lies w t) :
    Calls Tryd.prog 20 #[iterV b, .int .i64 stop, .int .i64 most] w fun e w' => ∃ ev, e = .returned ev ∧ w'.ownsRow (w.heap.size + 1) 43 3 ev (runL stop (t.fromL 7 0 low)).length (flat3 (runL stop (t.fromL 7 0 low))) ∧ Below w.heap.size w w' := by
  have hq : iterV b = .func (.func 29) #[] #[.pointer (some ⟨b, 0, none⟩), .pointer (some ⟨b + 1, 0, none⟩), .pointer (some ⟨b + 1 + 1, 0, none⟩), .pointer (some ⟨b + 1 + 1 + 1, 0, none⟩)] := rfl
  have hnil : ∀ W : World, (binOp BinOp.eql 53 (.func (.func 29) #[] #[.pointer (some ⟨b, 0, none⟩), .pointer (some ⟨b + 1, 0, none⟩), .pointer (some ⟨b + 1 + 1, 0, none⟩), .pointer (some ⟨b + 1 + 1 + 1, 0, none⟩)]) .nilFunc).run Tryd.prog W = .ok (.bool false) W := fun _ => rfl
  have hs0 : (stop == 0) = false := by simpa using hst
  rw [hq]
  go_enter Tryd.func20, Tryd.ntmps20
  have hb1 : Below w.heap.size w (w.alloc (.cells (takerRow (.slice none 0 0) stop most 0 false false) 76)) := (Below.refl _ _).alloc (Nat.le_refl _) _
  by_cases hge : 0 ≤ most ∧ (stop < 0 ∨ 0 < stop)
  · have hJ0 : uJ w w.heap.size stop most [] (w.alloc (.cells (takerRow (.slice none 0 0) stop most 0 false false) 76)) := ⟨⟨_, heap_alloc_last w _, World.ownsRow_nil _ _ _ _⟩, by simpa using hge.1, by simpa using hge.2, Nat.le_refl _, hb1⟩
    have hfr := from1_any ⟨w.heap.size, 0, none⟩ b low t hw _ _ (takes_entry2 w w.heap.size stop most hmo.2 t hL) _ (hI.later hb1) hJ0
    have hMo : Hid (((t.fromL 7 0 low).length : Int) ≤ most) := hmo.1
    clear hge hmo
    go_wp2_with (go_at_call 29; fail)
    refine hfr.mono ?_
    rintro e w3 ⟨rfl, hE⟩
    have hJ3 : ∃ o, TakerAt w3 w.heap.size (runL stop (t.fromL 7 0 low)) stop most ((runL stop (t.fromL 7 0 low)).length) o false ∧ Below w.heap.size w w3 := by
      rcases hE with hE | ⟨pre, hp, hx⟩
      · have := runL_whole hE.2.2.1
        rw [← this]
        exact ⟨_, hE.1, hE.2.2.2.2⟩
      · have := runL_prefix hMo.out hp hx.2.1
        rw [← this]
        exact ⟨_, hx.1, hx.2.2.2⟩
    obtain ⟨ob, ⟨ev, hT3, hown3⟩, hB3⟩ := hJ3
    obtain ⟨ea, el, ec, rfl⟩ := own_slice hown3
    have c6 : w3.cell? ⟨w.heap.size, 6, none⟩ = some (.bool false) := cell_of_row _ _ 6 _ _ _ hT3
    have c0 : w3.cell? ⟨w.heap.size, 0, none⟩ = some (.slice ea el ec) := cell_of_row _ _ 0 _ _ _ hT3
    clear hE hfr hJ0 hb1
    go_wp2
    go_ret
    exact ⟨_, rfl, hown3, hB3⟩
  · exact absurd ⟨by omega, by omega⟩ hge

set_option maxRecDepth 4000 in
set_option maxHeartbeats 1000000 in
theorem run_zero (b : Nat) (most : Int) (w : World) :
    Calls Tryd.prog 20 #[iterV b, .int .i64 0, .int .i64 most] w fun e w' => e = .returned (.slice none 0 0) ∧ Below w.heap.size w w' := by
  have hq : iterV b = .func (.func 29) #[] #[.pointer (some ⟨b, 0, none⟩), .pointer (some ⟨b + 1, 0, none⟩), .pointer (some ⟨b + 1 + 1, 0, none⟩), .pointer (some ⟨b + 1 + 1 + 1, 0, none⟩)] := rfl
  have hnil : ∀ W : World, (binOp BinOp.eql 53 (.func (.func 29) #[] #[.pointer (some ⟨b, 0, none⟩), .pointer (some ⟨b + 1, 0, none⟩), .pointer (some ⟨b + 1 + 1, 0, none⟩), .pointer (some ⟨b + 1 + 1 + 1, 0, none⟩)]) .nilFunc).run Tryd.prog W = .ok (.bool false) W := fun _ => rfl
  rw [hq]
  go_enter Tryd.func20, Tryd.ntmps20
  go_wp2
  go_ret
  exact ⟨rfl, (Below.refl _ _).alloc (Nat.le_refl _) _⟩

set_option maxHeartbeats 1000000 in
theorem from_any (mb : Nat) (t : Tr) (low : Nat) (hlo : low < 4294967296) (stop : Int) (hl : (t.ents 7 0).length ≤ 5000) (w : World) (h : MapT w mb t) :
    Calls Tryd.prog 15 #[.pointer (some ⟨mb, 0, none⟩), .int .u32 (low : Int), .int .i64 stop] w fun e w' => ∃ a c, e = .returned (.slice a (runL stop ((t.ents 7 0).filter (atLeast low))).length c) ∧ EntsAt w' (.slice a (runL stop ((t.ents 7 0).filter (atLeast low))).length c) (runL stop ((t.ents 7 0).filter (atLeast low))) ∧ Below w.heap.size w w' := by
  have hw := h.2.2.2.2
  have htop := fromL_top hw hlo
  by_cases hs : stop = 0
  · subst hs
    go_enter Tryd.func15, Tryd.ntmps15
    go_wp2_with (first | (go_at_call 23; refine (from_iter mb t low _ h).mono ?_; rintro e w1 ⟨rfl, hI, hb1⟩) | (go_at_call 20; refine (run_zero w.heap.size 5000 _).mono ?_; rintro e w2 ⟨rfl, hb2⟩))
    go_ret
    exact ⟨none, 0, rfl, ⟨none, 0, rfl, .inl rfl⟩, below_step hb1 hb2⟩
  · have hlen : (((t.fromL 7 0 low).length : Nat) : Int) ≤ 5000 ∧ (5000 : Int) ≤ 4294967297 := by
      rw [htop]
      have := List.length_filter_le (atLeast low) (t.ents 7 0)
      omega
    have hTop : Hid (t.fromL 7 0 low = (t.ents 7 0).filter (atLeast low)) := htop
    clear htop
    go_enter Tryd.func15, Tryd.ntmps15
    go_wp2_with (first | (go_at_call 23; refine (from_iter mb t low _ h).mono ?_; rintro e w1 ⟨rfl, hI, hb1⟩) | (go_at_call 20; refine (run_some w.heap.size low t hw stop 5000 hs hlen _ hI (h.2.2.2.1.later hb1)).mono ?_; rintro e w2 ⟨ev, rfl, hown, hb2⟩))
    go_ret
    rw [hTop.out] at hown
    obtain ⟨a, c, rfl, hd⟩ := ents_of_own hown
    exact ⟨a, c, rfl, ⟨a, c, rfl, hd⟩, below_step hb1 hb2⟩

end Go.Proofs.YtmlkceganilboaaDoor

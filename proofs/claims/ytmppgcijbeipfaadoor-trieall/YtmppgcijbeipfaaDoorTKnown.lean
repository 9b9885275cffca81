import Derived.Test.YtmppgcijbeipfaaDoorTRun
namespace Go.Proofs.YtmppgcijbeipfaaDoor
open Go.RowKit

set_option maxHeartbeats 1000000 in
theorem list_all (mb : Nat) (t : Tr) (hl : (t.ents 7 0).length ≤ 5000) (w : World) (h : MapT w mb t) :
    Calls Tryd.prog 11 #[.pointer (some ⟨mb, 0, none⟩), .int .i64 (-1)] w fun e w' => ∃ ev, e = .returned ev ∧ w'.ownsRow w.heap.size 49 3 ev (t.ents 7 0).length (flat3 (t.ents 7 0)) ∧ Below w.heap.size w w' := by
  go_enter Tryd.func11, Tryd.ntmps11
  go_wp2_with (first | (go_at_call 21; refine (all_any mb t _ h).mono ?_; rintro e w1 ⟨rfl, hI, hb1⟩) | (go_at_call 20; refine (run_all w.heap.size t h.2.2.2.2 5000 (by omega) _ hI (h.2.2.2.1.later hb1)).mono ?_; rintro e w2 ⟨ev, rfl, hown, hb2⟩))
  go_ret
  refine ⟨_, rfl, ?_, below_step hb1 hb2⟩
  have := hb1.size
  obtain ⟨h1, h2⟩ := hown
  refine ⟨h1, ?_⟩
  rcases h2 with h2 | ⟨g, cap, cur, e, hg, rest⟩
  · exact .inl h2
  · exact .inr ⟨g, cap, cur, e, by omega, rest⟩

set_option maxHeartbeats 1000000 in
theorem same_any (a0 a1 b0 b1 : Int) (o : Bool) (ho : o = true ↔ (a0 = b0 ∧ a1 = b1)) (w : World) : Calls Tryd.prog 12 #[.agg #[.int .i64 a0, .int .i64 a1], .agg #[.int .i64 b0, .int .i64 b1]] w fun e w' => e = .returned (.bool o) ∧ Below w.heap.size w w' := by
  have hb : Below w.heap.size w ((w.alloc (.cells #[.int .i64 a0, .int .i64 a1] 29)).alloc (.cells #[.int .i64 b0, .int .i64 b1] 29)) := ((Below.refl _ _).alloc (Nat.le_refl _) _).alloc (by simp) _
  by_cases e0 : a0 = b0
  · by_cases e1 : a1 = b1
    · obtain rfl : o = true := ho.2 ⟨e0, e1⟩
      subst e0 e1
      go_enter Tryd.func12, Tryd.ntmps12
      go_wp2
      go_ret
      exact ⟨rfl, hb⟩
    · obtain rfl : o = false := by cases o; rfl; exact absurd (ho.1 rfl).2 e1
      have h1 : (a1 == b1) = false := by simpa using e1
      subst e0
      go_enter Tryd.func12, Tryd.ntmps12
      go_wp2
      go_ret
      exact ⟨rfl, hb⟩
  · obtain rfl : o = false := by cases o; rfl; exact absurd (ho.1 rfl).1 e0
    have h0 : (a0 == b0) = false := by simpa using e0
    go_enter Tryd.func12, Tryd.ntmps12
    go_wp2
    go_ret
    exact ⟨rfl, hb⟩

theorem own_cell3 {w : World} {base g cap n : Nat} {L : List (Nat × (Int × Int))} (h : w.ownsRow base 49 3 (.slice (some ⟨g, 0, none⟩) n cap) n (flat3 L)) (j : Nat) (u : Value) (hj : (flat3 L)[j]? = some u) : w.cell? ⟨g, j, none⟩ = some u := by
  have hl : j < (flat3 L).length := (List.getElem?_eq_some_iff.1 hj).1
  exact (h.cellAt j (by rw [h.1] at hl; omega)).trans hj

/-- What holds while the last line of known is looked at. -/
abbrev KnownS (W : World) (vB g bm bn : Nat) (t : Tr) (X : World) : Prop := X.cell? ⟨vB, 0, none⟩ = some (.int .i64 1) ∧ X.cell? ⟨vB, 1, none⟩ = some (.int .i64 5) ∧ X.cell? ⟨g, 0, none⟩ = some (.int .u32 7) ∧ MapT X bm .nil ∧ MapT X bn t ∧ Below W.heap.size W X
theorem KnownS.later {W : World} {vB g bm bn : Nat} {t : Tr} {X Y : World} (h : KnownS W vB g bm bn t X) (hb : Below X.heap.size X Y) : KnownS W vB g bm bn t Y := by
  obtain ⟨h0, h1, h2, h3, h4, h5⟩ := h
  have l0 := World.block_lt_of_cell? _ _ h0
  have l2 := World.block_lt_of_cell? _ _ h2
  exact ⟨(hb.cell (p := ⟨vB, 0, none⟩) l0).trans h0, (hb.cell (p := ⟨vB, 1, none⟩) l0).trans h1, (hb.cell (p := ⟨g, 0, none⟩) l2).trans h2, h3.later hb, h4.later hb, below_step h5 hb⟩

theorem len_is (mb : Nat) (t : Tr) (N : Int) (hN : ((t.ents 7 0).length : Int) = N) (w : World) (h : MapT w mb t) : Calls Tryd.prog 13 #[.pointer (some ⟨mb, 0, none⟩)] w fun e w' => e = .returned (.int .i64 N) ∧ w' = w := by
  rw [← hN]
  exact len_any mb t w h

set_option maxRecDepth 4000 in
set_option maxHeartbeats 1000000 in
theorem known_true (w : World) : Calls Tryd.prog 5 #[] w fun e w' => e = .returned (.bool true) ∧ Below w.heap.size w w' := by
  go_enter Tryd.func5, Tryd.ntmps5
  go_wp2_with (first | (go_at_call 7; refine (empty_any _).mono ?_; rintro e w1 ⟨rfl, hM1, hb1⟩) | (go_at_call 9; refine (mput_any w.heap.size 7 (by omega) (1, 5) .nil _ hM1).mono ?_; rintro e w2 ⟨bn, t, rfl, hN2, he2, hb2⟩; have hM2 := hM1.later hb2; have hget : t.get 7 7 = some (1, 5) := (mem_of_get hN2.2.2.2.2 (by omega)).1 (by rw [he2]; exact mem_ins.2 (.inl rfl)); have hgt := mget_any bn 7 t _ hN2; rw [hget] at hgt) | (go_at_call 10; refine hgt.mono ?_; rintro e w3 ⟨rfl, hb3⟩) | (go_at_call 11; fail))
  have heL : t.ents 7 0 = [(7, (1, 5))] := he2
  have hb4 := (Below.refl w3.heap.size w3).alloc (Nat.le_refl _) (.cells #[.int .i64 1, .int .i64 5] 29)
  obtain ⟨v0, v1, -, -⟩ := Box2.new w3 (.int .i64 1) (.int .i64 5) 29
  have hN4 := (hN2.later hb3).later hb4
  have hM4 := (hM2.later hb3).later hb4
  have hB4 := below_step (below_step (below_step hb1 hb2) hb3) hb4
  generalize w3.alloc (.cells #[.int .i64 1, .int .i64 5] 29) = w4 at *
  refine (list_all bn t (by rw [heL]; decide) _ hN4).mono ?_
  rintro e w5 ⟨ev, rfl, hown, hb5⟩
  rw [heL] at hown
  obtain ⟨g, cap, rfl⟩ := own_some hown (by decide)
  have c0 : w5.cell? ⟨g, 0, none⟩ = some (.int .u32 7) := own_cell3 hown 0 _ rfl
  have lV := World.block_lt_of_cell? _ _ v0
  have hS5 : KnownS w w3.heap.size g w.heap.size bn t w5 := ⟨(hb5.cell (p := ⟨w3.heap.size, 0, none⟩) lV).trans v0, (hb5.cell (p := ⟨w3.heap.size, 1, none⟩) lV).trans v1, c0, hM4.later hb5, hN4.later hb5, below_step hB4 hb5⟩
  have hlenN : ((t.ents 7 0).length : Int) = 1 := by rw [heL]; rfl
  have hLn : Hid (((t.ents 7 0).length : Int) = 1) := hlenN
  clear hlenN heL he2 hget hgt hN2 hM1 hM2 hN4 hM4 hB4 hb1 hb2 hb3 hb4 hb5 v0 v1 c0 hown lV
  generalize w3.heap.size = V at *
  have hq5 := hS5
  obtain ⟨v0, v1, g0, -⟩ := hq5
  go_wp2_with (first | (go_at_call 12; refine (same_any 1 5 1 5 true (by simp) _).mono ?_; rintro e w6 ⟨rfl, hb6⟩; have hS7 := hS5.later hb6; obtain ⟨-, -, g7, m7, n7, B7⟩ := hS7) | (go_at_call_of 13 (Value.pointer (some ⟨w.heap.size, 0, none⟩)); refine (len_is w.heap.size .nil 0 rfl _ m7).mono ?_; rintro e w8 ⟨rfl, rfl⟩) | (go_at_call 13; refine (len_is bn t 1 hLn.out _ n7).mono ?_; rintro e w8 ⟨rfl, rfl⟩))
  go_ret
  exact ⟨rfl, B7⟩

end Go.Proofs.YtmppgcijbeipfaaDoor

import Derived.Test.YtnmcniibcjjflaaDoorJoin40
namespace Go.Proofs.YtnmcniibcjjflaaDoor
open Go.RowKit Go.Shelf

theorem vals_drop {w : World} {base g cap n : Nat} {e : TypeId} {L : List (Int × Int)} (hn : n = L.length) (h : w.ownsRow base e 2 (.slice (some ⟨g, 0, none⟩) n cap) n (flat2 L)) (p : Nat) (hm : L.length ≤ maxLen) : Vals w (some ⟨g, p * 2, none⟩) (L.drop p) := by
  subst hn
  refine ⟨by simp; omega, .inr ⟨g, p * 2, rfl, (h.lt g rfl).2, fun i hi => ?_⟩⟩
  have hi' : p + i < L.length := by simp at hi; omega
  have := own_at h hi'
  rw [show p * 2 + i * 2 = (p + i) * 2 by omega]
  simpa [List.getD] using this
theorem vals_off {w : World} {b off k o : Nat} {v : Value} {L : List (Int × Int)} (h : Vals w (some ⟨b, off, none⟩) L) (hk : k ≠ b) : Vals (w.setCell ⟨k, o, none⟩ v) (some ⟨b, off, none⟩) L := by
  refine ⟨h.1, ?_⟩
  rcases h.2 with h | ⟨b', off', he, hl, hc⟩
  · exact .inl h
  · injection he with he
    injection he with he1 he2
    subst he1 he2
    have o : ∀ i, (w.setCell ⟨k, o, none⟩ v).cell? ⟨b, i, none⟩ = w.cell? ⟨b, i, none⟩ := fun i => World.cell?_setCell_other _ _ _ _ (fun e => hk (congrArg Addr.block e))
    exact .inr ⟨b, off, rfl, by simpa using hl, fun i hi => ⟨(o _).trans (hc i hi).1, (o _).trans (hc i hi).2⟩⟩
theorem box_off {w : World} {b k o : Nat} {v x y : Value} (h : Box w b x y) (hk : k ≠ b) : Box (w.setCell ⟨k, o, none⟩ v) b x y := by
  have o1 : ∀ i, (w.setCell ⟨k, o, none⟩ v).cell? ⟨b, i, none⟩ = w.cell? ⟨b, i, none⟩ := fun i => World.cell?_setCell_other _ _ _ _ (fun e => hk (congrArg Addr.block e))
  exact ⟨(o1 0).trans h.1, (o1 1).trans h.2.1, by rw [World.frozen?_setCell]; exact h.2.2.1, by rw [World.frozen?_setCell]; exact h.2.2.2⟩
theorem kinds_off {w : World} {k o : Nat} {v : Value} (h : Kinds w) (hk : k ≠ 0) : Kinds (w.setCell ⟨k, o, none⟩ v) := h.grown' (grown_set w k o v) (by simpa using hk)
theorem taken_refN (kind : Int) (a : Option Addr) (cap N : Nat) (vs : List (Int × Int)) (hN : vs.length = N) (w : World) (hV : Vals w a vs) (hl : vs.length ≤ 20000) (r : (Int × Int) × Nat) (hr : Hid (r = tkn kind vs)) :
    Calls Tryd.prog 6 #[.int .i64 kind, .slice a N cap] w fun e w' => e = .returned (.tuple #[.agg #[.int .i64 r.1.1, .int .i64 r.1.2], .int .i64 (r.2 : Int)]) ∧ Below w.heap.size w w' := by
  subst hN
  exact taken_ref kind a cap vs w hV hl r hr

theorem giv_off {w : World} {G b off cap k o : Nat} {v : Value} {L : List (Int × Int)} {t : Int} (h : Giv w G (some ⟨b, off, none⟩) cap L t) (hG : k ≠ G) (hb : k ≠ b) : Giv (w.setCell ⟨k, o, none⟩ v) G (some ⟨b, off, none⟩) cap L t := by
  have o1 : ∀ i, (w.setCell ⟨k, o, none⟩ v).cell? ⟨G, i, none⟩ = w.cell? ⟨G, i, none⟩ := fun i => World.cell?_setCell_other _ _ _ _ (fun e => hG (congrArg Addr.block e))
  exact ⟨(o1 0).trans h.1, (o1 1).trans h.2.1, by rw [World.frozen?_setCell]; exact h.2.2.1, vals_off h.2.2.2.1 hb, by rw [World.frozen?_setCell]; exact h.2.2.2.2⟩
theorem box_set {w : World} {b : Nat} {x y u v : Value} (h : Box w b x y) : Box ((w.setCell ⟨b, 0, none⟩ u).setCell ⟨b, 1, none⟩ v) b u v :=
  ⟨by rw [cell_o (by omega)]; exact World.cell?_setCell_same _ _ _ h.1, World.cell?_setCell_same _ _ _ (by rw [cell_o (by omega)]; exact h.2.1), by rw [World.frozen?_setCell, World.frozen?_setCell]; exact h.2.2.1, by rw [World.frozen?_setCell, World.frozen?_setCell]; exact h.2.2.2⟩
theorem box_blk {w X : World} {G b : Nat} {x y : Value} (h : Box w b x y) (hO : Off1 G w X) (hb : b ≠ G) : Box X b x y := by
  have e := hO.block b h.lt hb
  exact ⟨(World.cell?_of_block e).trans h.1, (World.cell?_of_block e).trans h.2.1, (World.frozen?_of_block e).trans h.2.2.1, (World.frozen?_of_block e).trans h.2.2.2⟩

set_option maxRecDepth 100000 in
set_option maxHeartbeats 600000 in
theorem sums_some (kind : Int) (a : Option Addr) (cap : Nat) (vs : List (Int × Int)) (W : World) (hK : Kinds W) (hV : Vals W a vs) (h8 : vs.length ≤ 16384) (hpos : 0 < vs.length) (r : (Int × Int) × Nat) (hr : Hid (r = tkn kind vs)) :
    Calls Tryd.prog 3 #[.int .i64 kind, .slice a vs.length cap] W fun e W' => e = .returned (.bool true) ∧ Below W.heap.size W W' := by
  have g0 : ¬ (16384 : Int) < vs.length := by omega
  go_enter Tryd.func3, Tryd.ntmps3
  go_wp2_with (first | (go_at_call 6; refine (taken_ref kind a cap vs _ hV (by omega) r hr).mono ?_; rintro _ W1 ⟨rfl, hB1⟩) | (go_at_call 8; fail))
  have hV1 := hV.later hB1
  have hK1 := hK.later hB1
  have hs1 : (W1.alloc (.cells #[.int .i64 r.1.1, .int .i64 r.1.2] 24)).heap.size = W1.heap.size + 1 := by simp
  have hs2 : ((W1.alloc (.cells #[.int .i64 r.1.1, .int .i64 r.1.2] 24)).alloc (.cells #[.slice a vs.length cap, .int .i64 0] 29)).heap.size = W1.heap.size + 2 := by simp
  have hB2 : Below W1.heap.size W1 ((W1.alloc (.cells #[.int .i64 r.1.1, .int .i64 r.1.2] 24)).alloc (.cells #[.slice a vs.length cap, .int .i64 0] 29)) := ((Below.refl _ _).alloc (Nat.le_refl _) _).alloc (by simp) _
  have hY2 := (Box.new W1 (.int .i64 r.1.1) (.int .i64 r.1.2) 24).alloc (.cells #[.slice a vs.length cap, .int .i64 0] 29)
  have hZ2 := Box.new (W1.alloc (.cells #[.int .i64 r.1.1, .int .i64 r.1.2] 24)) (.slice a vs.length cap) (.int .i64 0) 29
  rw [hs1] at hZ2
  have hV2 := hV1.later hB2
  have hK2 := hK1.later hB2
  have hBW2 := below_step hB1 hB2
  clear hs1
  generalize ((W1.alloc (.cells #[.int .i64 r.1.1, .int .i64 r.1.2] 24)).alloc (.cells #[.slice a vs.length cap, .int .i64 0] 29)) = W2 at *
  have hkl := hK1.1
  generalize hH : W1.heap.size = H at *
  have hWH : W.heap.size ≤ H := by have := hB1.size; omega
  have hG2 : Giv W2 (H + 1) a cap vs 0 := ⟨hZ2.1, hZ2.2.1, hZ2.2.2.2, hV2, hZ2.2.2.1⟩
  refine (sum_any (H + 1) kind a cap vs (by omega) W2 hK2 hG2 (by omega) (vals_other hV1 (by omega)) r hr).mono ?_
  rintro _ W3 ⟨rfl, hO3, hG3⟩
  have hY3 : Box W3 H (.int .i64 r.1.1) (.int .i64 r.1.2) := by
    have hb := hO3.block H (by omega) (by omega)
    exact ⟨(World.cell?_of_block hb).trans hY2.1, (World.cell?_of_block hb).trans hY2.2.1, (World.frozen?_of_block hb).trans hY2.2.2.1, (World.frozen?_of_block hb).trans hY2.2.2.2⟩
  have hK3 : Kinds W3 := by
    have hb := hO3.block _ hK2.1 (by omega)
    refine ⟨Nat.lt_of_lt_of_le hK2.1 hO3.size, fun i hi => ?_⟩
    obtain ⟨a, b, c⟩ := hK2.2 i hi
    exact ⟨(World.cell?_of_block hb).trans a, (World.cell?_of_block hb).trans b, (World.cell?_of_block hb).trans c⟩
  have hB3 : Below W.heap.size W W3 := ⟨hO3.os.trans hBW2.os, hO3.tape.trans hBW2.tape, hO3.output.trans hBW2.output, Nat.le_trans hBW2.size hO3.size, fun k hk => (hO3.block k (by have := hBW2.size; omega) (by omega)).trans (hBW2.block k hk)⟩
  have hs3 := hO3.size
  clear hY2 hZ2 hV2 hK2 hBW2 hG2 hO3 hB2 hH
  have hX4 := Box.new W3 (.int .i64 r.1.1) (.int .i64 r.1.2) 24
  have hB4 := (Below.refl W3.heap.size W3).alloc (Nat.le_refl _) (.cells #[.int .i64 r.1.1, .int .i64 r.1.2] 24)
  have hY4 := hY3.later hB4
  have hK4 := hK3.later hB4
  have hG4 := hG3.stepB (stepB_alloc 0 _ (.cells #[.int .i64 r.1.1, .int .i64 r.1.2] 24))
  have hB5 := below_step hB3 hB4
  have hs4 : (W3.alloc (.cells #[.int .i64 r.1.1, .int .i64 r.1.2] 24)).heap.size = W3.heap.size + 1 := by simp
  clear hY3 hK3 hG3 hB3 hB4
  go_wp2
  generalize W3.alloc (.cells #[.int .i64 r.1.1, .int .i64 r.1.2] 24) = W4 at *
  generalize W3.heap.size = H3 at *
  have hl0 : ((vs.length : Int) == 0) = false := by rw [beq_eq_false_iff_ne]; omega
  obtain ⟨x0, x1, x2, x3⟩ := id hX4
  obtain ⟨y0, y1, y2, y3⟩ := id hY4
  obtain ⟨c0, c1, f1, hV4, f0⟩ := id hG4
  obtain ⟨b, off, rfl, hbl, hcs⟩ := hV4.at hpos
  have hV4' : Vals W4 (some ⟨b, off, none⟩) vs := hV4
  clear hcs
  obtain ⟨i0, hi, hz0, hz1, hz2⟩ := info_parts infoV
  cases hn0 : ((r.2 : Int) == 0)
  all_goals
    go_quiet (fail)
    have hbq := below_drewN (Below.refl W4.heap.size W4) nq
    have hX5 := hX4.later hbq
    have hY5 := hY4.later hbq
    have hK5 := hK4.later hbq
    have hG5 := hG4.stepB (B := 0) ⟨none, grown_of_belowB hbq, fun r e => by cases e⟩
    have hV5 := hV4'.later hbq
    have hB6 := below_step hB5 hbq
    have hs5 := hbq.size
    clear hX4 hY4 hK4 hG4 hV4 hV4' hB5 hbq x0 x1 x2 x3 y0 y1 y2 y3 c0 c1 f1 f0 hn0
    generalize W4.drewN nq = W5 at *
    have hbA := (Below.refl W5.heap.size W5).alloc (Nat.le_refl _) (.cells #[.int .i64 1, .int .i64 7, .int .i64 2, .int .i64 7] 24)
    obtain ⟨p, hp, hpI, hp1⟩ : ∃ p : Nat, Hid (vs.length % 2 = p) ∧ (vs.length : Int) % 2 = p ∧ p ≤ 1 := ⟨vs.length % 2, rfl, by omega, by omega⟩
    have tok : True := trivial
    go_wp2_with (first | (at_builtin; have _u := tok; clear tok; refine wpList_append_own _ rfl _ _ 22 rfl W5.heap.size 24 i0 _ 2 16 Tryd.underlying22 hi hz0 hz1 hz2 rfl (by decide) (.slice none 0 0) 0 [] rfl (World.ownsRow_nil _ _ _ _) ⟨W5.heap.size, 0, none⟩ 2 2 [.int .i64 1, .int .i64 7, .int .i64 2, .int .i64 7] rfl rfl (cells4_atV _ _ rfl _ _ _ _ _) (ints_oneCell .i64 [1, 7, 2, 7]) (by unfold maxLen; omega) (by omega) (by simp) ?_; intro v1 W6 hown1 hgrow1 _; obtain ⟨g1, cap1, rfl⟩ := own_some hown1 (by omega); have hb6 := hbA.grown hgrow1 (by simp) (by simp [Value.ownBlock]); have hV6 := hV5.later hb6) | (at_builtin; refine wpList_append_own _ rfl _ _ 22 rfl W5.heap.size 24 i0 _ 2 16 Tryd.underlying22 hi hz0 hz1 hz2 rfl (by decide) _ _ _ rfl hown1 ⟨b, off, none⟩ vs.length cap (flat2 vs) rfl (flat2_len vs) hV6.flat (flat2_one vs) (by unfold maxLen; omega) (by omega) hb6.size ?_; intro v2 W7 hown2 hgrow2 _; obtain ⟨g2, cap2, rfl⟩ := own_some hown2 (by omega); have hb7 := hb6.grown hgrow2 hb6.size (fun k hk => (hown1.lt k hk).1); have hcap2 := own_capV hown2; have hG7 := hG5.stepB (B := 0) ⟨none, grown_of_belowB hb7, fun r e => by cases e⟩; have c0 := hG7.1; have c1 := hG7.2.1; have f1 := hG7.2.2.1; have f0 := hG7.2.2.2.2) | (go_at_call 6; fail))
    obtain ⟨L2, hL2⟩ : ∃ L2, ((1, 7) :: (2, 7) :: vs).drop p = L2 := ⟨_, rfl⟩
    have hL2l : L2.length = 2 + vs.length - p := by rw [← hL2]; simp; omega
    have hV7 : Vals W7 (some ⟨g2, p * 2, none⟩) L2 := by
      rw [← hL2]
      exact vals_drop (n := 0 + 2 + vs.length) (L := (1, 7) :: (2, 7) :: vs) (by simp; omega) (by simpa [flat2] using hown2) p (by unfold maxLen; simp; omega)
    have hg2 := (hown2.lt g2 rfl).1
    have hX7 := hX5.later hb7
    have hY7 := hY5.later hb7
    have hK7 := hK5.later hb7
    have hB7 := below_step hB6 hb7
    have hsz7 := hb7.size
    have hX7l := hX7.lt
    clear hL2 hown2 hgrow2 hown1 hgrow1 hV6 hb6 hbA hG7 hX5 hY5 hK5 hG5 hV5 hB6
    have hV8 := vals_off (o := 1) (v := .int .i64 0) (vals_off (o := 0) (v := .slice (some ⟨g2, p * 2, none⟩) (2 + vs.length - p) (cap2 - p)) hV7 (k := H + 1) (by omega)) (k := H + 1) (by omega)
    have hX8 := box_off (o := 1) (v := .int .i64 0) (box_off (o := 0) (v := .slice (some ⟨g2, p * 2, none⟩) (2 + vs.length - p) (cap2 - p)) hX7 (k := H + 1) (by omega)) (k := H + 1) (by omega)
    have hY8 := box_off (o := 1) (v := .int .i64 0) (box_off (o := 0) (v := .slice (some ⟨g2, p * 2, none⟩) (2 + vs.length - p) (cap2 - p)) hY7 (k := H + 1) (by omega)) (k := H + 1) (by omega)
    have hK8 := kinds_off (o := 1) (v := .int .i64 0) (kinds_off (o := 0) (v := .slice (some ⟨g2, p * 2, none⟩) (2 + vs.length - p) (cap2 - p)) hK7 (k := H + 1) (by omega)) (k := H + 1) (by omega)
    have hB8 := (hB7.setCell (p := ⟨H + 1, 0, none⟩) (by show W.heap.size ≤ H + 1; omega) (.slice (some ⟨g2, p * 2, none⟩) (2 + vs.length - p) (cap2 - p))).setCell (p := ⟨H + 1, 1, none⟩) (by show W.heap.size ≤ H + 1; omega) (.int .i64 0)
    have hG8 : Giv ((W7.setCell ⟨H + 1, 0, none⟩ (.slice (some ⟨g2, p * 2, none⟩) (2 + vs.length - p) (cap2 - p))).setCell ⟨H + 1, 1, none⟩ (.int .i64 0)) (H + 1) (some ⟨g2, p * 2, none⟩) (cap2 - p) L2 0 := by
      refine ⟨?_, World.cell?_setCell_same _ _ _ (by rw [cell_o (by omega)]; exact c1), by rw [World.frozen?_setCell, World.frozen?_setCell]; exact f1, hV8, by rw [World.frozen?_setCell, World.frozen?_setCell]; exact f0⟩
      rw [cell_o (by omega), hL2l]
      exact World.cell?_setCell_same _ _ _ c0
    clear c0 c1 f0 f1 hX7 hY7 hK7 hB7 hb7
    obtain ⟨s, hs⟩ : ∃ s, Hid (s = tkn kind L2) := ⟨_, rfl⟩
    refine (taken_refN kind (some ⟨g2, p * 2, none⟩) (cap2 - p) _ L2 hL2l _ hV8 (by omega) s hs).mono ?_
    rintro _ W9 ⟨rfl, hb9⟩
    have hX9 := hX8.later hb9
    have hY9 := hY8.later hb9
    have hK9 := hK8.later hb9
    have hB9 := below_step hB8 hb9
    have hG9 := hG8.stepB (B := 0) ⟨none, grown_of_belowB hb9, fun r e => by cases e⟩
    have hs9 := hb9.size
    clear hX8 hY8 hK8 hB8 hG8 hV8 hb9
    obtain ⟨y0, y1, y2, y3⟩ := id hY9
    go_wp2_with (go_at_call 8; fail)
    have hX10 := box_off (o := 1) (v := .int .i64 s.1.2) (box_off (o := 0) (v := .int .i64 s.1.1) hX9 (k := H) (by omega)) (k := H) (by omega)
    have hY10 : Box ((W9.setCell ⟨H, 0, none⟩ (.int .i64 s.1.1)).setCell ⟨H, 1, none⟩ (.int .i64 s.1.2)) H (.int .i64 s.1.1) (.int .i64 s.1.2) := box_set hY9
    have hK10 := kinds_off (o := 1) (v := .int .i64 s.1.2) (kinds_off (o := 0) (v := .int .i64 s.1.1) hK9 (k := H) (by omega)) (k := H) (by omega)
    have hG10 := giv_off (o := 1) (v := .int .i64 s.1.2) (giv_off (o := 0) (v := .int .i64 s.1.1) hG9 (k := H) (by omega) (by omega)) (k := H) (by omega) (by omega)
    have hB10 := (hB9.setCell (p := ⟨H, 0, none⟩) hWH (.int .i64 s.1.1)).setCell (p := ⟨H, 1, none⟩) hWH (.int .i64 s.1.2)
    clear hX9 hY9 hK9 hB9 hG9 y0 y1 y2 y3
    refine (sum_any (H + 1) kind (some ⟨g2, p * 2, none⟩) (cap2 - p) L2 (by omega) _ hK10 hG10 (by omega) (fun X v h => vals_off h (by omega)) s hs).mono ?_
    rintro _ W11 ⟨rfl, hO, hG11⟩
    have hX11 := box_blk hX10 hO (by omega)
    have hY11 := box_blk hY10 hO (by omega)
    have hB11 : Below W.heap.size W W11 := ⟨hO.os.trans hB10.os, hO.tape.trans hB10.tape, hO.output.trans hB10.output, Nat.le_trans hB10.size hO.size, fun k hk => (hO.block k (by have := hB10.size; omega) (by omega)).trans (hB10.block k hk)⟩
    clear hX10 hY10 hK10 hG10 hB10 hO
    have hX12 : Box ((W11.setCell ⟨H3, 0, none⟩ (.int .i64 s.1.1)).setCell ⟨H3, 1, none⟩ (.int .i64 s.1.2)) H3 (.int .i64 s.1.1) (.int .i64 s.1.2) := box_set hX11
    have hY12 := box_off (o := 1) (v := .int .i64 s.1.2) (box_off (o := 0) (v := .int .i64 s.1.1) hY11 (k := H3) (by omega)) (k := H3) (by omega)
    have hG12 := giv_off (o := 1) (v := .int .i64 s.1.2) (giv_off (o := 0) (v := .int .i64 s.1.1) hG11 (k := H3) (by omega) (by omega)) (k := H3) (by omega) (by omega)
    have hB12 := (hB11.setCell (p := ⟨H3, 0, none⟩) (by show W.heap.size ≤ H3; omega) (.int .i64 s.1.1)).setCell (p := ⟨H3, 1, none⟩) (by show W.heap.size ≤ H3; omega) (.int .i64 s.1.2)
    obtain ⟨x0, x1, x2, x3⟩ := id hX11
    obtain ⟨u0, u1, -, -⟩ := hX12
    obtain ⟨v0, v1, -, -⟩ := hY12
    have w1 := hG12.2.1
    go_wp2
    go_ret
    exact ⟨rfl, hB12⟩

end Go.Proofs.YtnmcniibcjjflaaDoor

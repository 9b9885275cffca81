import Derived.Test.YtjllbepecfajeabDoorBackV
namespace Go.Proofs.YtjllbepecfajeabDoor
open Go.RowKit

set_option maxHeartbeats 8000000 in
theorem back_2_over (n0 n1 : Int) (w : World) (hK : Kinds w) (hv0 : M.valid 2 n0 = true) (hv1 : M.valid 2 n1 = true) (hs : M.valid 2 (n0 + n1) = false) :
    Calls Tryd.prog 8 #[.agg #[.int .i64 2, .int .i64 n0], .agg #[.int .i64 2, .int .i64 n1]] w fun e w' => e = .returned (.bool true) ∧ Below w.heap.size w w' := by
  have bd0 := M.valid_bd hv0 (by omega)
  have bd1 := M.valid_bd hv1 (by omega)
  have tk : takesB 2 1 = true := rfl
  have tk2 : takesB 2 2 = true := rfl
  have g01 := M.refuse_good2 hv0 hv1 (by omega)
  have g10 := M.refuse_good2 hv1 hv0 (by omega)
  have hA : Hid (((6, 1) : Int × Int) = M.ans (M.refuse (takesB 2 1) 2 n0 [(2, n1)]) (M.fit true 2 (wrap64 (n0 + n1)))) := by
    unfold Hid; rw [tk, g01, M.ans_none, wrap64_id (by omega) (by omega), M.fit_over hs]
  have hA2 : Hid (((6, 1) : Int × Int) = M.ans (M.refuse (takesB 2 1) 2 n1 [(2, n0)]) (M.fit true 2 (wrap64 (n1 + n0)))) := by
    unfold Hid; rw [tk, g10, M.ans_none, wrap64_id (by omega) (by omega), Int.add_comm, M.fit_over hs]
  have hN0 : Hid (((2, -n0) : Int × Int) = M.ans (M.refuse (takesB 2 1) 2 n0 []) (M.fit true 2 (wrap64 (-n0)))) := by
    unfold Hid; rw [tk, M.refuse_good1 hv0 (by omega), M.ans_none, wrap64_id (by omega) (by omega), M.fit_ok (M.valid_neg hv0 (by omega))]
  have hN1 : Hid (((2, -n1) : Int × Int) = M.ans (M.refuse (takesB 2 1) 2 n1 []) (M.fit true 2 (wrap64 (-n1)))) := by
    unfold Hid; rw [tk, M.refuse_good1 hv1 (by omega), M.ans_none, wrap64_id (by omega) (by omega), M.fit_ok (M.valid_neg hv1 (by omega))]
  have hNN : Hid (((2, n0) : Int × Int) = M.ans (M.refuse (takesB 2 1) 2 (-n0) []) (M.fit true 2 (wrap64 (- -n0)))) := by
    unfold Hid; rw [tk, M.refuse_good1 (M.valid_neg hv0 (by omega)) (by omega), M.ans_none, Int.neg_neg, wrap64_id (by omega) (by omega), M.fit_ok hv0]
  obtain ⟨x, y, hB⟩ : ∃ x y, Hid (((x, y) : Int × Int) = M.ans (M.refuse (takesB 2 1) 2 n0 [(2, n1)]) (M.fit true 2 (wrap64 (n0 - n1)))) := ⟨_, _, rfl⟩
  have hC : Hid (((x, y) : Int × Int) = M.ans (M.refuse (takesB 2 1) 2 n0 [(2, -n1)]) (M.fit true 2 (wrap64 (n0 + -n1)))) := by
    unfold Hid; rw [hB.out, tk, g01, M.refuse_good2 hv0 (M.valid_neg hv1 (by omega)) (by omega), Int.sub_eq_add_neg]
  have hMi : ∀ m, m = n0 ∨ m = n1 → Hid (((2, m) : Int × Int) = M.ans (M.refuse (takesB 2 2) 2 n0 [(2, n1)]) (M.fit true 2 m)) := by
    intro m hm
    unfold Hid; rw [tk2, g01, M.ans_none]
    rcases hm with rfl | rfl
    · rw [M.fit_ok hv0]
    · rw [M.fit_ok hv1]
  have h1 := first2 w 2 n0 2 n1 hK _ rfl
  have tok1 : True := trivial
  have tokA : True := trivial
  clear g01 g10 tk tk2 hs bd0 bd1
  go_enter Tryd.func8, Tryd.ntmps8
  go_wp2_with (first | (go_at_call 13; refine (known_true _ ((hK.alloc _).alloc _)).mono ?_; rintro e w1 ⟨rfl, hb1⟩; have hS1 := keep2 h1 hb1; obtain ⟨a0, a1, a2, a3, hK1, hB1⟩ := id hS1; clear hb1) | (go_at_call 19; refine (add_v 2 n0 2 n1 _ hK1 6 1 hA).mono ?_; rintro e w2 ⟨rfl, hb2⟩; have hS2 := keep2 hS1 (over_alloc2 hb2 (cellsV 6 1)); obtain ⟨b0, b1, b2, b3, hK2, hB2⟩ := id hS2; obtain ⟨s0, s1, -, -⟩ := Box.new w2 (.int .i64 6) (.int .i64 1) 23; clear hb2) | (go_at_call 20; have _u := tok1; clear tok1; refine (valid_any 2 n0 _ hK2).mono ?_; rintro e w3 ⟨rfl, hb3⟩; have hS3 := keep2 hS2 hb3; obtain ⟨c0, c1, c2, c3, hK3, hB3⟩ := id hS3; have t0 := (hb3.cell (p := ⟨w2.heap.size, 0, none⟩) (by simp)).trans s0; have t1 := (hb3.cell (p := ⟨w2.heap.size, 1, none⟩) (by simp)).trans s1; clear hb3) | (go_at_call 20; refine (valid_any 2 n1 _ hK3).mono ?_; rintro e w4 ⟨rfl, hb4⟩; have hS4 := keep2 hS3 hb4; obtain ⟨d0, d1, d2, d3, hK4, hB4⟩ := id hS4; have u0 := (hb4.cell (p := ⟨w2.heap.size, 0, none⟩) (World.block_lt_of_cell? _ _ t0)).trans t0; have u1 := (hb4.cell (p := ⟨w2.heap.size, 1, none⟩) (World.block_lt_of_cell? _ _ t1)).trans t1; clear hb4))
  have hS5 := keep3 ⟨d0, d1, d2, d3, u0, u1, hK4, hB4⟩ (Below.refl _ _).drew
  clear a0 a1 a2 a3 b0 b1 b2 b3 c0 c1 c2 c3 s0 s1 t0 t1 d0 d1 d2 d3 u0 u1 hS1 hS2 hS3 hS4 h1 hK1 hK2 hK3 hK4 hB1 hB2 hB3 hB4 hv0 hv1
  go_region_held3 (fun X => X.cell? ⟨w.heap.size, 0, none⟩ = some (.int .i64 2) ∧ X.cell? ⟨w.heap.size, 1, none⟩ = some (.int .i64 n0) ∧ X.cell? ⟨w.heap.size + 1, 0, none⟩ = some (.int .i64 2) ∧ X.cell? ⟨w.heap.size + 1, 1, none⟩ = some (.int .i64 n1) ∧ X.cell? ⟨w2.heap.size, 0, none⟩ = some (.int .i64 6) ∧ X.cell? ⟨w2.heap.size, 1, none⟩ = some (.int .i64 1) ∧ Kinds X ∧ Below w.heap.size w X) (with_reducible assumption)
    (first | (go_at_call_of 19 (Value.agg #[Value.int IntKind.i64 2, Value.int IntKind.i64 (-n1)]); refine (held3 (w0 := w) (b0 := w.heap.size) (b1 := w.heap.size + 1) (b2 := w2.heap.size) (x0 := .int .i64 2) (y0 := .int .i64 n0) (x1 := .int .i64 2) (y1 := .int .i64 n1) (x2 := .int .i64 6) (y2 := .int .i64 1) ?_ (fun h => add_v 2 n0 2 (-n1) _ h x y hC)).mono ?_; with_reducible assumption; rintro e w5 ⟨rfl, hS5⟩) | (go_at_call 19; have _u := tokA; clear tokA; refine (held3 (w0 := w) (b0 := w.heap.size) (b1 := w.heap.size + 1) (b2 := w2.heap.size) (x0 := .int .i64 2) (y0 := .int .i64 n0) (x1 := .int .i64 2) (y1 := .int .i64 n1) (x2 := .int .i64 6) (y2 := .int .i64 1) ?_ (fun h => add_v 2 n1 2 n0 _ h 6 1 hA2)).mono ?_; with_reducible assumption; rintro e w5 ⟨rfl, hS5⟩) | (go_at_call_of 21 (Value.agg #[Value.int IntKind.i64 2, Value.int IntKind.i64 (-n0)]); refine (held3 (w0 := w) (b0 := w.heap.size) (b1 := w.heap.size + 1) (b2 := w2.heap.size) (x0 := .int .i64 2) (y0 := .int .i64 n0) (x1 := .int .i64 2) (y1 := .int .i64 n1) (x2 := .int .i64 6) (y2 := .int .i64 1) ?_ (fun h => neg_v 2 (-n0) _ h 2 n0 hNN)).mono ?_; with_reducible assumption; rintro e w5 ⟨rfl, hS5⟩) | (go_at_call_of 21 (Value.agg #[Value.int IntKind.i64 2, Value.int IntKind.i64 n0]); refine (held3 (w0 := w) (b0 := w.heap.size) (b1 := w.heap.size + 1) (b2 := w2.heap.size) (x0 := .int .i64 2) (y0 := .int .i64 n0) (x1 := .int .i64 2) (y1 := .int .i64 n1) (x2 := .int .i64 6) (y2 := .int .i64 1) ?_ (fun h => neg_v 2 n0 _ h 2 (-n0) hN0)).mono ?_; with_reducible assumption; rintro e w5 ⟨rfl, hS5⟩) | (go_at_call 21; refine (held3 (w0 := w) (b0 := w.heap.size) (b1 := w.heap.size + 1) (b2 := w2.heap.size) (x0 := .int .i64 2) (y0 := .int .i64 n0) (x1 := .int .i64 2) (y1 := .int .i64 n1) (x2 := .int .i64 6) (y2 := .int .i64 1) ?_ (fun h => neg_v 2 n1 _ h 2 (-n1) hN1)).mono ?_; with_reducible assumption; rintro e w5 ⟨rfl, hS5⟩) | (go_at_call 22; refine (held3 (w0 := w) (b0 := w.heap.size) (b1 := w.heap.size + 1) (b2 := w2.heap.size) (x0 := .int .i64 2) (y0 := .int .i64 n0) (x1 := .int .i64 2) (y1 := .int .i64 n1) (x2 := .int .i64 6) (y2 := .int .i64 1) ?_ (fun h => sub_v 2 n0 2 n1 _ h x y hB)).mono ?_; with_reducible assumption; rintro e w5 ⟨rfl, hS5⟩))
  go_wp2
  have hS6 := keep3 hS5 (Below.refl _ _).drew
  clear hS5
  rcases Int.lt_trichotomy n0 n1 with c | c | c
  · have hmi := hMi n0 (.inl rfl)
    have hma := hMi n1 (.inr rfl)
    have e1 : (n0 == n1) = false := by simp; omega
    go_region_held3 (fun X => X.cell? ⟨w.heap.size, 0, none⟩ = some (.int .i64 2) ∧ X.cell? ⟨w.heap.size, 1, none⟩ = some (.int .i64 n0) ∧ X.cell? ⟨w.heap.size + 1, 0, none⟩ = some (.int .i64 2) ∧ X.cell? ⟨w.heap.size + 1, 1, none⟩ = some (.int .i64 n1) ∧ X.cell? ⟨w2.heap.size, 0, none⟩ = some (.int .i64 6) ∧ X.cell? ⟨w2.heap.size, 1, none⟩ = some (.int .i64 1) ∧ Kinds X ∧ Below w.heap.size w X) (with_reducible assumption)
      (first | (go_at_call 23; refine (held3 (w0 := w) (b0 := w.heap.size) (b1 := w.heap.size + 1) (b2 := w2.heap.size) (x0 := .int .i64 2) (y0 := .int .i64 n0) (x1 := .int .i64 2) (y1 := .int .i64 n1) (x2 := .int .i64 6) (y2 := .int .i64 1) ?_ (fun h => min_v 2 n0 2 n1 _ h n0 (.inr ⟨by omega, rfl⟩) hmi)).mono ?_; with_reducible assumption; rintro e w5 ⟨rfl, hS5⟩) | (go_at_call 24; refine (held3 (w0 := w) (b0 := w.heap.size) (b1 := w.heap.size + 1) (b2 := w2.heap.size) (x0 := .int .i64 2) (y0 := .int .i64 n0) (x1 := .int .i64 2) (y1 := .int .i64 n1) (x2 := .int .i64 6) (y2 := .int .i64 1) ?_ (fun h => max_v 2 n0 2 n1 _ h n1 (.inl ⟨c, rfl⟩) hma)).mono ?_; with_reducible assumption; rintro e w5 ⟨rfl, hS5⟩))
    go_wp2
    have hS7 := keep3 hS5 (Below.refl _ _).drew
    clear hS5 hS6
    obtain ⟨p0, p1, p2, p3, p4, p5, hK7, hB7⟩ := id hS7
    go_region
    go_wp2
    go_ret
    exact ⟨rfl, hB7⟩
  · have hmi := hMi n0 (.inl rfl)
    have hma := hMi n0 (.inl rfl)
    subst c
    go_region_held3 (fun X => X.cell? ⟨w.heap.size, 0, none⟩ = some (.int .i64 2) ∧ X.cell? ⟨w.heap.size, 1, none⟩ = some (.int .i64 n0) ∧ X.cell? ⟨w.heap.size + 1, 0, none⟩ = some (.int .i64 2) ∧ X.cell? ⟨w.heap.size + 1, 1, none⟩ = some (.int .i64 n0) ∧ X.cell? ⟨w2.heap.size, 0, none⟩ = some (.int .i64 6) ∧ X.cell? ⟨w2.heap.size, 1, none⟩ = some (.int .i64 1) ∧ Kinds X ∧ Below w.heap.size w X) (with_reducible assumption)
      (first | (go_at_call 23; refine (held3 (w0 := w) (b0 := w.heap.size) (b1 := w.heap.size + 1) (b2 := w2.heap.size) (x0 := .int .i64 2) (y0 := .int .i64 n0) (x1 := .int .i64 2) (y1 := .int .i64 n0) (x2 := .int .i64 6) (y2 := .int .i64 1) ?_ (fun h => min_v 2 n0 2 n0 _ h n0 (.inr ⟨by omega, rfl⟩) hmi)).mono ?_; with_reducible assumption; rintro e w5 ⟨rfl, hS5⟩) | (go_at_call 24; refine (held3 (w0 := w) (b0 := w.heap.size) (b1 := w.heap.size + 1) (b2 := w2.heap.size) (x0 := .int .i64 2) (y0 := .int .i64 n0) (x1 := .int .i64 2) (y1 := .int .i64 n0) (x2 := .int .i64 6) (y2 := .int .i64 1) ?_ (fun h => max_v 2 n0 2 n0 _ h n0 (.inr ⟨by omega, rfl⟩) hma)).mono ?_; with_reducible assumption; rintro e w5 ⟨rfl, hS5⟩))
    go_wp2
    have hS7 := keep3 hS5 (Below.refl _ _).drew
    clear hS5 hS6
    obtain ⟨p0, p1, p2, p3, p4, p5, hK7, hB7⟩ := id hS7
    go_region
    go_wp2
    go_ret
    exact ⟨rfl, hB7⟩
  · have hmi := hMi n1 (.inr rfl)
    have hma := hMi n0 (.inl rfl)
    have e1 : (n0 == n1) = false := by simp; omega
    have e2 : (n1 == n0) = false := by simp; omega
    go_region_held3 (fun X => X.cell? ⟨w.heap.size, 0, none⟩ = some (.int .i64 2) ∧ X.cell? ⟨w.heap.size, 1, none⟩ = some (.int .i64 n0) ∧ X.cell? ⟨w.heap.size + 1, 0, none⟩ = some (.int .i64 2) ∧ X.cell? ⟨w.heap.size + 1, 1, none⟩ = some (.int .i64 n1) ∧ X.cell? ⟨w2.heap.size, 0, none⟩ = some (.int .i64 6) ∧ X.cell? ⟨w2.heap.size, 1, none⟩ = some (.int .i64 1) ∧ Kinds X ∧ Below w.heap.size w X) (with_reducible assumption)
      (first | (go_at_call 23; refine (held3 (w0 := w) (b0 := w.heap.size) (b1 := w.heap.size + 1) (b2 := w2.heap.size) (x0 := .int .i64 2) (y0 := .int .i64 n0) (x1 := .int .i64 2) (y1 := .int .i64 n1) (x2 := .int .i64 6) (y2 := .int .i64 1) ?_ (fun h => min_v 2 n0 2 n1 _ h n1 (.inl ⟨c, rfl⟩) hmi)).mono ?_; with_reducible assumption; rintro e w5 ⟨rfl, hS5⟩) | (go_at_call 24; refine (held3 (w0 := w) (b0 := w.heap.size) (b1 := w.heap.size + 1) (b2 := w2.heap.size) (x0 := .int .i64 2) (y0 := .int .i64 n0) (x1 := .int .i64 2) (y1 := .int .i64 n1) (x2 := .int .i64 6) (y2 := .int .i64 1) ?_ (fun h => max_v 2 n0 2 n1 _ h n0 (.inr ⟨by omega, rfl⟩) hma)).mono ?_; with_reducible assumption; rintro e w5 ⟨rfl, hS5⟩))
    go_wp2
    have hS7 := keep3 hS5 (Below.refl _ _).drew
    clear hS5 hS6
    obtain ⟨p0, p1, p2, p3, p4, p5, hK7, hB7⟩ := id hS7
    go_region
    go_wp2
    go_ret
    exact ⟨rfl, hB7⟩

end Go.Proofs.YtjllbepecfajeabDoor

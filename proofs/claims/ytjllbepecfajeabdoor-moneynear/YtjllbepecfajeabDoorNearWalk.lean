import Derived.Test.YtjllbepecfajeabDoorNearV
import Derived.Test.YtjllbepecfajeabDoorProduct
namespace Go.Proofs.YtjllbepecfajeabDoor
open Go.RowKit

set_option maxHeartbeats 8000000 in
set_option maxRecDepth 4000 in
theorem near_walk (n num den k : Int) (w : World) (hK : Kinds w) :
    Calls Tryd.prog 5 #[.int .i64 n, .int .i64 num, .int .i64 den, .int .i64 k] w fun e w' => e = .returned (.bool true) ∧ Below w.heap.size w w' := by
  go_enter Tryd.func5, Tryd.ntmps5
  go_wp2_with (first | (go_at_call 13; refine (known_true _ hK).mono ?_; rintro e w1 ⟨rfl, hb1⟩; have hK1 := hK.later hb1; clear hK))
  have bn := M.tmod_bd n 1000001 (by omega)
  have bm := M.tmod_bd num 1000001 (by omega)
  have bd := M.tmod_bd den 1000000 (by omega)
  have bk := M.tmod_bd k 900 (by omega)
  generalize n.tmod 1000001 = N at *
  generalize num.tmod 1000001 = U at *
  generalize den.tmod 1000000 = d1 at *
  generalize k.tmod 900 = k1 at *
  have e1 : wrap64 (d1 + 1000000) = d1 + 1000000 := wrap64_id (by omega) (by omega)
  have e2 : wrap64 (k1 + 900) = k1 + 900 := wrap64_id (by omega) (by omega)
  rw [e1, e2]
  have bd2 := M.tmod_bd (d1 + 1000000) 1000000 (by omega)
  have bk2 := M.tmod_bd (k1 + 900) 900 (by omega)
  have bd3 := Int.tmod_nonneg (a := d1 + 1000000) 1000000 (by omega)
  have bk3 := Int.tmod_nonneg (a := k1 + 900) 900 (by omega)
  generalize (d1 + 1000000).tmod 1000000 = d2 at *
  generalize (k1 + 900).tmod 900 = k2 at *
  obtain ⟨D, hD⟩ : ∃ D, D = 1 + d2 := ⟨_, rfl⟩
  obtain ⟨Q, hQ⟩ : ∃ Q, Q = 1 + k2 := ⟨_, rfl⟩
  have e3 : wrap64 (1 + d2) = D := by rw [hD]; exact wrap64_id (by omega) (by omega)
  have e4 : wrap64 (1 + k2) = Q := by rw [hQ]; exact wrap64_id (by omega) (by omega)
  have b1 : -1000000 ≤ N ∧ N ≤ 1000000 := by omega
  have b2 : -1000000 ≤ U ∧ U ≤ 1000000 := by omega
  have b3 : 1 ≤ D ∧ D ≤ 1000000 := by omega
  have b4 : 1 ≤ Q ∧ Q ≤ 900 := by omega
  have e5 : wrap64 (N * U) = N * U := by
    have h := M.sgn_mul N U
    have hp : N.natAbs * U.natAbs ≤ 1000000 * 1000000 := Nat.mul_le_mul (by omega) (by omega)
    unfold M.sgn at h
    split at h <;> exact wrap64_id (by omega) (by omega)
  rw [e3, e4, e5]
  have HN : ∀ mode, Hid (∃ v L, NearAt N U D Q mode v (N * U) L) := fun mode => near_at N U D Q mode b1 b2 b3 b4
  generalize N * U = up at *
  clear e1 e2 e3 e4 e5 bn bm bd bk bd2 bk2 bd3 bk3 hD hQ
  go_loopw [10] (fun x wr => ∃ (m : Int), x = .int .i64 m ∧ 1 ≤ m ∧ m ≤ 6 ∧ Kinds wr ∧ Below w.heap.size w wr) (fun x _ => (6 - intOf x).toNat)
  case atStart => exact ⟨1, rfl, by omega, by omega, hK1, hb1⟩
  case round =>
    obtain ⟨m, rfl, m1, m6, hKr, hBr⟩ := hrel
    by_cases h6 : m = 6
    · subst h6
      go_wp2
      go_ret
      exact ⟨rfl, hBr⟩
    · obtain ⟨v, L, H⟩ := (HN m).out
      have h : m = 1 ∨ m = 2 ∨ m = 3 ∨ m = 4 ∨ m = 5 := by omega
      have c0 := b3.1
      have hvd : Hid (wrap64 (v * D) = v * D) := H.vd
      have hlf : Hid (wrap64 (up - v * D) = L) := H.left
      have hUQ : Hid (IntKind.i64.wrap (U * Q) = U * Q) := wrapI (by have := H.hnum; omega) (by have := H.hnum; omega)
      have hDQ : Hid (IntKind.i64.wrap (D * Q) = D * Q) := wrapI (by have := H.hden; omega) (by have := H.hden; omega)
      clear HN m1 m6 h6
      have H2 : Hid (NearAt N U D Q m v up L) := H
      clear H
      rcases h with rfl | rfl | rfl | rfl | rfl
      · go_wp2_with (first | (go_at_call 15; refine (c_any _ _).mono ?_; rintro e w2 ⟨rfl, hb2⟩; have hK2 := hKr.later hb2) | (go_at_call 14; refine (scale_near N U D 1 b1 (by omega) (by omega) (by omega) _ hK2 H2.out.q1 v H2.out.one).mono ?_; rintro e w3 ⟨rfl, hb3⟩))
        have hK3 := hK2.later hb3
        have hB3 := below_step (below_step hBr hb2) hb3
        have hS := keep1 (w0 := w) ⟨(Box.new w3 (.int .i64 1) (.int .i64 v) 23).1, (Box.new w3 (.int .i64 1) (.int .i64 v) 23).2.1, hK3.alloc _, hB3.alloc hB3.size _⟩ (Below.refl _ _).drew
        clear hKr hK2 hb2 hb3 hK3 hB3
        go_region_held3 (fun X => X.cell? ⟨w3.heap.size, 0, none⟩ = some (.int .i64 1) ∧ X.cell? ⟨w3.heap.size, 1, none⟩ = some (.int .i64 v) ∧ Kinds X ∧ Below w.heap.size w X) (with_reducible assumption)
          (first | (go_at_call 15; refine (held1 (w0 := w) (b0 := w3.heap.size) (x0 := .int .i64 1) (y0 := .int .i64 v) ?_ (fun h => c_any N _)).mono ?_; with_reducible assumption; rintro e w5 ⟨rfl, hS⟩) | (go_at_call 14; refine (held1 (w0 := w) (b0 := w3.heap.size) (x0 := .int .i64 1) (y0 := .int .i64 v) ?_ (fun h => scale_two N U D Q 1 v up L (IntKind.i64.wrap (U * Q)) (IntKind.i64.wrap (D * Q)) b1 (by omega) H2 hUQ.out hDQ.out _ h)).mono ?_; with_reducible assumption; rintro e w5 ⟨rfl, hS⟩))
        obtain ⟨p0, p1, hK5, hB5⟩ := id hS
        clear hS
        have MM := H2.out.m1 rfl
        have MB := H2.out.bd
        have hL : L = wrap64 (up - wrap64 (v * D)) := by rw [hvd.out, hlf.out]
        clear H2 hUQ hDQ hvd hlf
        obtain ⟨t1, t2⟩ := MM
        clear MB
        subst hL
        go_wp2
        go_roundw
        case rel => exact ⟨2, rfl, by omega, by omega, hK5, hB5⟩
        case measure => decide
      · go_wp2_with (first | (go_at_call 15; refine (c_any _ _).mono ?_; rintro e w2 ⟨rfl, hb2⟩; have hK2 := hKr.later hb2) | (go_at_call 14; refine (scale_near N U D 2 b1 (by omega) (by omega) (by omega) _ hK2 H2.out.q1 v H2.out.one).mono ?_; rintro e w3 ⟨rfl, hb3⟩))
        have hK3 := hK2.later hb3
        have hB3 := below_step (below_step hBr hb2) hb3
        have hS := keep1 (w0 := w) ⟨(Box.new w3 (.int .i64 1) (.int .i64 v) 23).1, (Box.new w3 (.int .i64 1) (.int .i64 v) 23).2.1, hK3.alloc _, hB3.alloc hB3.size _⟩ (Below.refl _ _).drew
        clear hKr hK2 hb2 hb3 hK3 hB3
        go_region_held3 (fun X => X.cell? ⟨w3.heap.size, 0, none⟩ = some (.int .i64 1) ∧ X.cell? ⟨w3.heap.size, 1, none⟩ = some (.int .i64 v) ∧ Kinds X ∧ Below w.heap.size w X) (with_reducible assumption)
          (first | (go_at_call 15; refine (held1 (w0 := w) (b0 := w3.heap.size) (x0 := .int .i64 1) (y0 := .int .i64 v) ?_ (fun h => c_any N _)).mono ?_; with_reducible assumption; rintro e w5 ⟨rfl, hS⟩) | (go_at_call 14; refine (held1 (w0 := w) (b0 := w3.heap.size) (x0 := .int .i64 1) (y0 := .int .i64 v) ?_ (fun h => scale_two N U D Q 2 v up L (IntKind.i64.wrap (U * Q)) (IntKind.i64.wrap (D * Q)) b1 (by omega) H2 hUQ.out hDQ.out _ h)).mono ?_; with_reducible assumption; rintro e w5 ⟨rfl, hS⟩))
        obtain ⟨p0, p1, hK5, hB5⟩ := id hS
        clear hS
        have MM := H2.out.m2 rfl
        have MB := H2.out.bd
        have hL : L = wrap64 (up - wrap64 (v * D)) := by rw [hvd.out, hlf.out]
        clear H2 hUQ hDQ hvd hlf
        have hng : wrap64 (-D) = -D := wrap64_id (by omega) (by omega)
        obtain ⟨t1, t2⟩ := MM
        clear MB
        clear hng
        subst hL
        go_wp2
        go_roundw
        case rel => exact ⟨3, rfl, by omega, by omega, hK5, hB5⟩
        case measure => decide
      · go_wp2_with (first | (go_at_call 15; refine (c_any _ _).mono ?_; rintro e w2 ⟨rfl, hb2⟩; have hK2 := hKr.later hb2) | (go_at_call 14; refine (scale_near N U D 3 b1 (by omega) (by omega) (by omega) _ hK2 H2.out.q1 v H2.out.one).mono ?_; rintro e w3 ⟨rfl, hb3⟩))
        have hK3 := hK2.later hb3
        have hB3 := below_step (below_step hBr hb2) hb3
        have hS := keep1 (w0 := w) ⟨(Box.new w3 (.int .i64 1) (.int .i64 v) 23).1, (Box.new w3 (.int .i64 1) (.int .i64 v) 23).2.1, hK3.alloc _, hB3.alloc hB3.size _⟩ (Below.refl _ _).drew
        clear hKr hK2 hb2 hb3 hK3 hB3
        go_region_held3 (fun X => X.cell? ⟨w3.heap.size, 0, none⟩ = some (.int .i64 1) ∧ X.cell? ⟨w3.heap.size, 1, none⟩ = some (.int .i64 v) ∧ Kinds X ∧ Below w.heap.size w X) (with_reducible assumption)
          (first | (go_at_call 15; refine (held1 (w0 := w) (b0 := w3.heap.size) (x0 := .int .i64 1) (y0 := .int .i64 v) ?_ (fun h => c_any N _)).mono ?_; with_reducible assumption; rintro e w5 ⟨rfl, hS⟩) | (go_at_call 14; refine (held1 (w0 := w) (b0 := w3.heap.size) (x0 := .int .i64 1) (y0 := .int .i64 v) ?_ (fun h => scale_two N U D Q 3 v up L (IntKind.i64.wrap (U * Q)) (IntKind.i64.wrap (D * Q)) b1 (by omega) H2 hUQ.out hDQ.out _ h)).mono ?_; with_reducible assumption; rintro e w5 ⟨rfl, hS⟩))
        obtain ⟨p0, p1, hK5, hB5⟩ := id hS
        clear hS
        have MM := H2.out.m3 rfl
        have MB := H2.out.bd
        have hL : L = wrap64 (up - wrap64 (v * D)) := by rw [hvd.out, hlf.out]
        clear H2 hUQ hDQ hvd hlf
        have hng : wrap64 (-D) = -D := wrap64_id (by omega) (by omega)
        obtain ⟨t1, t2, t3⟩ := MM
        clear MB
        clear hng
        subst hL
        by_cases z : wrap64 (up - wrap64 (v * D)) = 0
        · clear t3
          go_wp2
          go_roundw
          case rel => exact ⟨4, rfl, by omega, by omega, hK5, hB5⟩
          case measure => decide
        · have t4 := t3.resolve_left z
          clear t3
          by_cases y : 0 < wrap64 (up - wrap64 (v * D))
          · have y2 := t4.1 y
            clear t4
            go_wp2
            go_roundw
            case rel => exact ⟨4, rfl, by omega, by omega, hK5, hB5⟩
            case measure => decide
          · have y2 : ¬ 0 < up := fun h => y (t4.2 h)
            clear t4
            go_wp2
            go_roundw
            case rel => exact ⟨4, rfl, by omega, by omega, hK5, hB5⟩
            case measure => decide
      · go_wp2_with (first | (go_at_call 15; refine (c_any _ _).mono ?_; rintro e w2 ⟨rfl, hb2⟩; have hK2 := hKr.later hb2) | (go_at_call 14; refine (scale_near N U D 4 b1 (by omega) (by omega) (by omega) _ hK2 H2.out.q1 v H2.out.one).mono ?_; rintro e w3 ⟨rfl, hb3⟩))
        have hK3 := hK2.later hb3
        have hB3 := below_step (below_step hBr hb2) hb3
        have hS := keep1 (w0 := w) ⟨(Box.new w3 (.int .i64 1) (.int .i64 v) 23).1, (Box.new w3 (.int .i64 1) (.int .i64 v) 23).2.1, hK3.alloc _, hB3.alloc hB3.size _⟩ (Below.refl _ _).drew
        clear hKr hK2 hb2 hb3 hK3 hB3
        go_region_held3 (fun X => X.cell? ⟨w3.heap.size, 0, none⟩ = some (.int .i64 1) ∧ X.cell? ⟨w3.heap.size, 1, none⟩ = some (.int .i64 v) ∧ Kinds X ∧ Below w.heap.size w X) (with_reducible assumption)
          (first | (go_at_call 15; refine (held1 (w0 := w) (b0 := w3.heap.size) (x0 := .int .i64 1) (y0 := .int .i64 v) ?_ (fun h => c_any N _)).mono ?_; with_reducible assumption; rintro e w5 ⟨rfl, hS⟩) | (go_at_call 14; refine (held1 (w0 := w) (b0 := w3.heap.size) (x0 := .int .i64 1) (y0 := .int .i64 v) ?_ (fun h => scale_two N U D Q 4 v up L (IntKind.i64.wrap (U * Q)) (IntKind.i64.wrap (D * Q)) b1 (by omega) H2 hUQ.out hDQ.out _ h)).mono ?_; with_reducible assumption; rintro e w5 ⟨rfl, hS⟩))
        obtain ⟨p0, p1, hK5, hB5⟩ := id hS
        clear hS
        have MM := H2.out.m4 rfl
        have MB := H2.out.bd
        have hL : L = wrap64 (up - wrap64 (v * D)) := by rw [hvd.out, hlf.out]
        clear H2 hUQ hDQ hvd hlf
        have hng : wrap64 (-D) = -D := wrap64_id (by omega) (by omega)
        obtain ⟨t1, t2⟩ := MM
        have htw : wrap64 (2 * L) = 2 * L := wrap64_id (by omega) (by omega)
        clear MB
        rw [← htw] at t1 t2
        clear htw hng
        subst hL
        go_wp2
        go_roundw
        case rel => exact ⟨5, rfl, by omega, by omega, hK5, hB5⟩
        case measure => decide
      · go_wp2_with (first | (go_at_call 15; refine (c_any _ _).mono ?_; rintro e w2 ⟨rfl, hb2⟩; have hK2 := hKr.later hb2) | (go_at_call 14; refine (scale_near N U D 5 b1 (by omega) (by omega) (by omega) _ hK2 H2.out.q1 v H2.out.one).mono ?_; rintro e w3 ⟨rfl, hb3⟩))
        have hK3 := hK2.later hb3
        have hB3 := below_step (below_step hBr hb2) hb3
        have hS := keep1 (w0 := w) ⟨(Box.new w3 (.int .i64 1) (.int .i64 v) 23).1, (Box.new w3 (.int .i64 1) (.int .i64 v) 23).2.1, hK3.alloc _, hB3.alloc hB3.size _⟩ (Below.refl _ _).drew
        clear hKr hK2 hb2 hb3 hK3 hB3
        go_region_held3 (fun X => X.cell? ⟨w3.heap.size, 0, none⟩ = some (.int .i64 1) ∧ X.cell? ⟨w3.heap.size, 1, none⟩ = some (.int .i64 v) ∧ Kinds X ∧ Below w.heap.size w X) (with_reducible assumption)
          (first | (go_at_call 15; refine (held1 (w0 := w) (b0 := w3.heap.size) (x0 := .int .i64 1) (y0 := .int .i64 v) ?_ (fun h => c_any N _)).mono ?_; with_reducible assumption; rintro e w5 ⟨rfl, hS⟩) | (go_at_call 14; refine (held1 (w0 := w) (b0 := w3.heap.size) (x0 := .int .i64 1) (y0 := .int .i64 v) ?_ (fun h => scale_two N U D Q 5 v up L (IntKind.i64.wrap (U * Q)) (IntKind.i64.wrap (D * Q)) b1 (by omega) H2 hUQ.out hDQ.out _ h)).mono ?_; with_reducible assumption; rintro e w5 ⟨rfl, hS⟩))
        obtain ⟨p0, p1, hK5, hB5⟩ := id hS
        clear hS
        have MM := H2.out.m5 rfl
        have MB := H2.out.bd
        have hL : L = wrap64 (up - wrap64 (v * D)) := by rw [hvd.out, hlf.out]
        clear H2 hUQ hDQ hvd hlf
        have hng : wrap64 (-D) = -D := wrap64_id (by omega) (by omega)
        obtain ⟨t1, t2, t3⟩ := MM
        have htw : wrap64 (2 * L) = 2 * L := wrap64_id (by omega) (by omega)
        clear MB
        rw [← htw] at t1 t2 t3
        have hTn : ¬ wrap64 (2 * L) = D → ¬ (wrap64 (2 * L) ≠ D ∧ wrap64 (2 * L) ≠ -D) → wrap64 (2 * L) = -D := by omega
        clear htw hng
        subst hL
        generalize hTT : wrap64 (2 * wrap64 (up - wrap64 (v * D))) = T at *
        by_cases y : T ≠ D ∧ T ≠ -D
        · obtain ⟨y1, y2⟩ := y
          clear t3 hTn
          go_wp2
          go_roundw
          case rel => exact ⟨6, rfl, by omega, by omega, hK5, hB5⟩
          case measure => decide
        · have ev : v.tmod 2 = 0 := Int.tmod_eq_zero_of_dvd (Int.dvd_of_emod_eq_zero (t3.resolve_left y))
          clear t3
          by_cases y1 : T = D
          · have z1 : -D ≤ D := by omega
            clear y hTn
            go_wp2
            go_roundw
            case rel => exact ⟨6, rfl, by omega, by omega, hK5, hB5⟩
            case measure => decide
          · have y3 := hTn y1 y
            have z1 : -D ≤ D := by omega
            have z2 : ¬ (-D = D) := by omega
            clear y hTn
            go_wp2
            go_roundw
            case rel => exact ⟨6, rfl, by omega, by omega, hK5, hB5⟩
            case measure => decide

end Go.Proofs.YtjllbepecfajeabDoor

import Derived.Test.YtnmcniibcjjflaaDoorTurnRefSplit
namespace Go.Proofs.YtnmcniibcjjflaaDoor
open Go.RowKit

/-- Two numbers in boxes are kept. -/
theorem keepC {X w1 : World} {b0 b1 : Nat} {x0 x1 : Value} (h : X.cell? ⟨b0, 1, none⟩ = some x0 ∧ X.cell? ⟨b1, 1, none⟩ = some x1) (hb : Below X.heap.size X w1) : w1.cell? ⟨b0, 1, none⟩ = some x0 ∧ w1.cell? ⟨b1, 1, none⟩ = some x1 :=
  ⟨(hb.cell (p := ⟨b0, 1, none⟩) (World.block_lt_of_cell? _ _ h.1)).trans h.1, (hb.cell (p := ⟨b1, 1, none⟩) (World.block_lt_of_cell? _ _ h.2)).trans h.2⟩

theorem keepStore {X : World} {b : Nat} {x0 x1 : Value} (h : X.cell? ⟨b, 1, none⟩ = some x0 ∧ X.cell? ⟨b + 1, 1, none⟩ = some x1) (u v : Value) :
    ((X.setCell ⟨b + 1 + 1, 0, none⟩ u).setCell ⟨b + 1 + 1, 1, none⟩ v).cell? ⟨b, 1, none⟩ = some x0 ∧ ((X.setCell ⟨b + 1 + 1, 0, none⟩ u).setCell ⟨b + 1 + 1, 1, none⟩ v).cell? ⟨b + 1, 1, none⟩ = some x1 := by
  have hb : Below (b + 1 + 1) X ((X.setCell ⟨b + 1 + 1, 0, none⟩ u).setCell ⟨b + 1 + 1, 1, none⟩ v) := ((Below.refl (b + 1 + 1) X).setCell (p := ⟨b + 1 + 1, 0, none⟩) (Nat.le_refl _) u).setCell (p := ⟨b + 1 + 1, 1, none⟩) (Nat.le_refl _) v
  exact ⟨(hb.cell (p := ⟨b, 1, none⟩) (by simp; omega)).trans h.1, (hb.cell (p := ⟨b + 1, 1, none⟩) (by simp)).trans h.2⟩

set_option maxHeartbeats 4000000 in
theorem rsplit_ok (n0 n1 mode : Int) (w : World) (h1 : M.mish [(1, n0), (2, n1)] = none) (hmd : 1 ≤ mode ∧ mode ≤ 5) (hz : n1 ≠ 0) (u1 : -9999999999999 ≤ n0) (u2 : n0 ≤ 9999999999999) (u3 : -9999999999999 ≤ n1) (u4 : n1 ≤ 9999999999999)
    (s : Bool) (hs : Hid (s = (decide (n0 < 0) != decide (n1 < 0)))) (r : Int × Int) (hr : Hid (r = M.fit true 1 (M.sgn s (M.rq s mode (M.cap14 (n0.natAbs / n1.natAbs)) (n0.natAbs % n1.natAbs) n1.natAbs)))) :
    Calls Tryd.prog 45 #[.agg #[.int .i64 1, .int .i64 n0], .agg #[.int .i64 2, .int .i64 n1], .int .i64 mode] w fun e w' => e = .returned (.agg #[.int .i64 r.1, .int .i64 r.2]) ∧ Below w.heap.size w w' := by
  have hlook := looked_any (some ⟨w.heap.size + 1 + 1 + 1, 0, none⟩) 2 [(1, n0), (2, n1)] ((((w.alloc (cellsV 1 n0)).alloc (cellsV 2 n1)).alloc (cellsV 0 0)).alloc (cellsV2 1 n0 2 n1)) ((row_two _ 1 n0 2 n1).of (by simp)).vals
  rw [h1] at hlook
  dsimp only [M.vk, M.vn, Option.isSome, List.length] at hlook
  clear h1
  obtain ⟨a0, ha0⟩ : ∃ a : Nat, Hid (a = n0.natAbs) := ⟨_, rfl⟩
  obtain ⟨a1, ha1⟩ : ∃ a : Nat, Hid (a = n1.natAbs) := ⟨_, rfl⟩
  have l0 : a0 < 10000000000000000 := by have := ha0.out; omega
  have l1 : a1 ≤ 10000000000000 := by have := ha1.out; omega
  have l2 : 0 < a1 := by have := ha1.out; omega
  have hz2 : (n1 == 0) = false := by simpa using hz
  obtain ⟨v, hv⟩ : ∃ v, Hid (v = M.sgn s (M.rq s mode (M.cap14 (a0 / a1)) (a0 % a1) a1)) := ⟨_, rfl⟩
  have HR : Hid (r = M.fit true 1 v) := by unfold Hid; rw [hr.out, hv.out, ha0.out, ha1.out]
  have hv2 : Hid (v = M.sgn s (M.rq s mode (M.cap14 (M.val (M.digs a0) / a1)) (M.val (M.digs a0) % a1) a1)) := by unfold Hid; rw [M.val_digs]; exact hv.out
  clear hr hv hz
  have tok1 : True := trivial
  by_cases g0 : n0 < 0 <;> by_cases g1 : n1 < 0
  · obtain rfl : s = false := by rw [hs.out]; simp [g0, g1]
    clear hs
    go_enter Tryd.func45, Tryd.ntmps45
    go_wp2_with (first | (go_at_call 64; refine hlook.mono ?_; clear hlook; rintro e w1 ⟨rfl, hb1⟩; obtain ⟨hX, hY, hR1, hB1⟩ := start2 w 1 n0 2 n1 (over_alloc _ hb1); obtain ⟨x0, x1, -, -⟩ := hX.alloc (cellsV 0 0); obtain ⟨y0, y1, -, -⟩ := hY.alloc (cellsV 0 0); clear hb1) | (go_at_call 65; refine (risMode_yes _ _ hmd).mono ?_; rintro e w' ⟨rfl, rfl⟩))
    have hS : (w1.alloc (cellsV 0 0)).drew.cell? ⟨w.heap.size, 1, none⟩ = some (.int .i64 n0) ∧ (w1.alloc (cellsV 0 0)).drew.cell? ⟨w.heap.size + 1, 1, none⟩ = some (.int .i64 n1) := ⟨x1, y1⟩
    have hRd := (hR1.alloc (cellsV 0 0)).drew
    have hBd := (hB1.alloc hB1.size (cellsV 0 0)).drew
    clear x0 x1 y0 y1 hX hY hR1 hB1
    go_region_held3 (fun X => X.cell? ⟨w.heap.size, 1, none⟩ = some (.int .i64 n0) ∧ X.cell? ⟨w.heap.size + 1, 1, none⟩ = some (.int .i64 n1)) (first | with_reducible exact hS | with_reducible exact hS2 | with_reducible exact hS5 | with_reducible exact keepStore hS5 _ _)
      (first | (go_at_call 68; have _u := tok1; clear tok1; refine (rsize_v n0 a0 ha0 _ u1 u2).mono ?_; rintro e w' ⟨rfl, rfl⟩) | (go_at_call 68; refine (rsize_v n1 a1 ha1 _ u3 u4).mono ?_; rintro e w' ⟨rfl, rfl⟩) | (go_at_call 67; refine (digits_any a0 l0 _).mono ?_; rintro e w2 ⟨p0, c0, rfl, hD0, hb2⟩; have hS2 := keepC hS hb2; have hR2 := hRd.later hb2; have hB2 := below_step hBd hb2; clear hb2) | (go_at_call 69; refine (rounded_any p0 c0 (M.digs a0) a1 false mode l2 l1 (Nat.le_trans (M.digs_len 16 a0 l0) (by omega)) (M.digs_getD a0) _ hD0 v hv2).mono ?_; rintro e w' ⟨rfl, rfl⟩) | (go_at_call 16; refine (bounded_any _ _ _).mono ?_; rintro e w5 ⟨rfl, hb5⟩; have hS5 := keepC hS2 hb5; obtain ⟨r0, r1, q0, q1⟩ := hR2.later hb5; have hB5 := below_step hB2 hb5; clear hb5))
    go_wp2
    exact bodyPost_ret (v := .agg #[.int .i64 r.1, .int .i64 r.2]) (by rw [HR.out]; simp [results, Tryd.results45, go_sem, r0, r1]) rfl ⟨rfl, (hB5.setCell (by simp; omega) _).setCell (by simp; omega) _⟩
  · obtain rfl : s = true := by rw [hs.out]; simp [g0, g1]
    clear hs
    have g1' : decide (n1 < 0) = false := by simpa using g1
    go_enter Tryd.func45, Tryd.ntmps45
    go_wp2_with (first | (go_at_call 64; refine hlook.mono ?_; clear hlook; rintro e w1 ⟨rfl, hb1⟩; obtain ⟨hX, hY, hR1, hB1⟩ := start2 w 1 n0 2 n1 (over_alloc _ hb1); obtain ⟨x0, x1, -, -⟩ := hX.alloc (cellsV 0 0); obtain ⟨y0, y1, -, -⟩ := hY.alloc (cellsV 0 0); clear hb1) | (go_at_call 65; refine (risMode_yes _ _ hmd).mono ?_; rintro e w' ⟨rfl, rfl⟩))
    have hS : (w1.alloc (cellsV 0 0)).drew.cell? ⟨w.heap.size, 1, none⟩ = some (.int .i64 n0) ∧ (w1.alloc (cellsV 0 0)).drew.cell? ⟨w.heap.size + 1, 1, none⟩ = some (.int .i64 n1) := ⟨x1, y1⟩
    have hRd := (hR1.alloc (cellsV 0 0)).drew
    have hBd := (hB1.alloc hB1.size (cellsV 0 0)).drew
    clear x0 x1 y0 y1 hX hY hR1 hB1
    go_region_held3 (fun X => X.cell? ⟨w.heap.size, 1, none⟩ = some (.int .i64 n0) ∧ X.cell? ⟨w.heap.size + 1, 1, none⟩ = some (.int .i64 n1)) (first | with_reducible exact hS | with_reducible exact hS2 | with_reducible exact hS5 | with_reducible exact keepStore hS5 _ _)
      (first | (go_at_call 68; have _u := tok1; clear tok1; refine (rsize_v n0 a0 ha0 _ u1 u2).mono ?_; rintro e w' ⟨rfl, rfl⟩) | (go_at_call 68; refine (rsize_v n1 a1 ha1 _ u3 u4).mono ?_; rintro e w' ⟨rfl, rfl⟩) | (go_at_call 67; refine (digits_any a0 l0 _).mono ?_; rintro e w2 ⟨p0, c0, rfl, hD0, hb2⟩; have hS2 := keepC hS hb2; have hR2 := hRd.later hb2; have hB2 := below_step hBd hb2; clear hb2) | (go_at_call 69; refine (rounded_any p0 c0 (M.digs a0) a1 true mode l2 l1 (Nat.le_trans (M.digs_len 16 a0 l0) (by omega)) (M.digs_getD a0) _ hD0 v hv2).mono ?_; rintro e w' ⟨rfl, rfl⟩) | (go_at_call 16; refine (bounded_any _ _ _).mono ?_; rintro e w5 ⟨rfl, hb5⟩; have hS5 := keepC hS2 hb5; obtain ⟨r0, r1, q0, q1⟩ := hR2.later hb5; have hB5 := below_step hB2 hb5; clear hb5))
    go_wp2
    exact bodyPost_ret (v := .agg #[.int .i64 r.1, .int .i64 r.2]) (by rw [HR.out]; simp [results, Tryd.results45, go_sem, r0, r1]) rfl ⟨rfl, (hB5.setCell (by simp; omega) _).setCell (by simp; omega) _⟩
  · obtain rfl : s = true := by rw [hs.out]; simp [g0, g1]
    clear hs
    have g0' : decide (n0 < 0) = false := by simpa using g0
    go_enter Tryd.func45, Tryd.ntmps45
    go_wp2_with (first | (go_at_call 64; refine hlook.mono ?_; clear hlook; rintro e w1 ⟨rfl, hb1⟩; obtain ⟨hX, hY, hR1, hB1⟩ := start2 w 1 n0 2 n1 (over_alloc _ hb1); obtain ⟨x0, x1, -, -⟩ := hX.alloc (cellsV 0 0); obtain ⟨y0, y1, -, -⟩ := hY.alloc (cellsV 0 0); clear hb1) | (go_at_call 65; refine (risMode_yes _ _ hmd).mono ?_; rintro e w' ⟨rfl, rfl⟩))
    have hS : (w1.alloc (cellsV 0 0)).drew.cell? ⟨w.heap.size, 1, none⟩ = some (.int .i64 n0) ∧ (w1.alloc (cellsV 0 0)).drew.cell? ⟨w.heap.size + 1, 1, none⟩ = some (.int .i64 n1) := ⟨x1, y1⟩
    have hRd := (hR1.alloc (cellsV 0 0)).drew
    have hBd := (hB1.alloc hB1.size (cellsV 0 0)).drew
    clear x0 x1 y0 y1 hX hY hR1 hB1
    go_region_held3 (fun X => X.cell? ⟨w.heap.size, 1, none⟩ = some (.int .i64 n0) ∧ X.cell? ⟨w.heap.size + 1, 1, none⟩ = some (.int .i64 n1)) (first | with_reducible exact hS | with_reducible exact hS2 | with_reducible exact hS5 | with_reducible exact keepStore hS5 _ _)
      (first | (go_at_call 68; have _u := tok1; clear tok1; refine (rsize_v n0 a0 ha0 _ u1 u2).mono ?_; rintro e w' ⟨rfl, rfl⟩) | (go_at_call 68; refine (rsize_v n1 a1 ha1 _ u3 u4).mono ?_; rintro e w' ⟨rfl, rfl⟩) | (go_at_call 67; refine (digits_any a0 l0 _).mono ?_; rintro e w2 ⟨p0, c0, rfl, hD0, hb2⟩; have hS2 := keepC hS hb2; have hR2 := hRd.later hb2; have hB2 := below_step hBd hb2; clear hb2) | (go_at_call 69; refine (rounded_any p0 c0 (M.digs a0) a1 true mode l2 l1 (Nat.le_trans (M.digs_len 16 a0 l0) (by omega)) (M.digs_getD a0) _ hD0 v hv2).mono ?_; rintro e w' ⟨rfl, rfl⟩) | (go_at_call 16; refine (bounded_any _ _ _).mono ?_; rintro e w5 ⟨rfl, hb5⟩; have hS5 := keepC hS2 hb5; obtain ⟨r0, r1, q0, q1⟩ := hR2.later hb5; have hB5 := below_step hB2 hb5; clear hb5))
    go_wp2
    exact bodyPost_ret (v := .agg #[.int .i64 r.1, .int .i64 r.2]) (by rw [HR.out]; simp [results, Tryd.results45, go_sem, r0, r1]) rfl ⟨rfl, (hB5.setCell (by simp; omega) _).setCell (by simp; omega) _⟩
  · obtain rfl : s = false := by rw [hs.out]; simp [g0, g1]
    clear hs
    have g0' : decide (n0 < 0) = false := by simpa using g0
    have g1' : decide (n1 < 0) = false := by simpa using g1
    go_enter Tryd.func45, Tryd.ntmps45
    go_wp2_with (first | (go_at_call 64; refine hlook.mono ?_; clear hlook; rintro e w1 ⟨rfl, hb1⟩; obtain ⟨hX, hY, hR1, hB1⟩ := start2 w 1 n0 2 n1 (over_alloc _ hb1); obtain ⟨x0, x1, -, -⟩ := hX.alloc (cellsV 0 0); obtain ⟨y0, y1, -, -⟩ := hY.alloc (cellsV 0 0); clear hb1) | (go_at_call 65; refine (risMode_yes _ _ hmd).mono ?_; rintro e w' ⟨rfl, rfl⟩))
    have hS : (w1.alloc (cellsV 0 0)).drew.cell? ⟨w.heap.size, 1, none⟩ = some (.int .i64 n0) ∧ (w1.alloc (cellsV 0 0)).drew.cell? ⟨w.heap.size + 1, 1, none⟩ = some (.int .i64 n1) := ⟨x1, y1⟩
    have hRd := (hR1.alloc (cellsV 0 0)).drew
    have hBd := (hB1.alloc hB1.size (cellsV 0 0)).drew
    clear x0 x1 y0 y1 hX hY hR1 hB1
    go_region_held3 (fun X => X.cell? ⟨w.heap.size, 1, none⟩ = some (.int .i64 n0) ∧ X.cell? ⟨w.heap.size + 1, 1, none⟩ = some (.int .i64 n1)) (first | with_reducible exact hS | with_reducible exact hS2 | with_reducible exact hS5 | with_reducible exact keepStore hS5 _ _)
      (first | (go_at_call 68; have _u := tok1; clear tok1; refine (rsize_v n0 a0 ha0 _ u1 u2).mono ?_; rintro e w' ⟨rfl, rfl⟩) | (go_at_call 68; refine (rsize_v n1 a1 ha1 _ u3 u4).mono ?_; rintro e w' ⟨rfl, rfl⟩) | (go_at_call 67; refine (digits_any a0 l0 _).mono ?_; rintro e w2 ⟨p0, c0, rfl, hD0, hb2⟩; have hS2 := keepC hS hb2; have hR2 := hRd.later hb2; have hB2 := below_step hBd hb2; clear hb2) | (go_at_call 69; refine (rounded_any p0 c0 (M.digs a0) a1 false mode l2 l1 (Nat.le_trans (M.digs_len 16 a0 l0) (by omega)) (M.digs_getD a0) _ hD0 v hv2).mono ?_; rintro e w' ⟨rfl, rfl⟩) | (go_at_call 16; refine (bounded_any _ _ _).mono ?_; rintro e w5 ⟨rfl, hb5⟩; have hS5 := keepC hS2 hb5; obtain ⟨r0, r1, q0, q1⟩ := hR2.later hb5; have hB5 := below_step hB2 hb5; clear hb5))
    go_wp2
    exact bodyPost_ret (v := .agg #[.int .i64 r.1, .int .i64 r.2]) (by rw [HR.out]; simp [results, Tryd.results45, go_sem, r0, r1]) rfl ⟨rfl, (hB5.setCell (by simp; omega) _).setCell (by simp; omega) _⟩

theorem rsplit_any (k0 n0 k1 n1 mode : Int) (w : World) (m : Int × Bool) (hm : Hid (m = M.wh (decide (n0 < 0) != decide (n1 < 0)) mode n0.natAbs n1.natAbs)) (r : Int × Int) (hr : Hid (r = M.ans (M.pair (takesB k0 8) (takesB k1 16) k0 n0 k1 n1) (M.spl mode n1 m))) :
    Calls Tryd.prog 45 #[.agg #[.int .i64 k0, .int .i64 n0], .agg #[.int .i64 k1, .int .i64 n1], .int .i64 mode] w fun e w' => e = .returned (.agg #[.int .i64 r.1, .int .i64 r.2]) ∧ Below w.heap.size w w' := by
  cases h1 : M.mish [(k0, n0), (k1, n1)] with
  | some v =>
    have e : M.pair (takesB k0 8) (takesB k1 16) k0 n0 k1 n1 = some (v.1, v.2) := by simp [M.pair, h1]
    have e2 : r = (v.1, v.2) := by rw [hr.out, e]; rfl
    rw [e2]
    exact rsplit_some k0 n0 k1 n1 mode w v.1 v.2 h1
  | none =>
    by_cases h2 : k0 = 1 ∧ k1 = 2
    · obtain ⟨rfl, rfl⟩ := h2
      have e : M.pair (takesB 1 8) (takesB 2 16) 1 n0 2 n1 = none := by unfold M.pair; rw [h1]; rfl
      have v0 := M.valid_1 (M.pair_none e).2.2.1
      have v1 := M.valid_2 (M.pair_none e).2.2.2
      have e3 : r = M.spl mode n1 m := by rw [hr.out, e]; rfl
      by_cases hmd : 1 ≤ mode ∧ mode ≤ 5
      · by_cases hz : n1 = 0
        · subst hz
          rw [e3, M.spl_zero hmd]
          exact rsplit_zero n0 mode w h1 hmd
        · refine rsplit_ok n0 n1 mode w h1 hmd hz v0.1 v0.2 (by omega) (by omega) _ rfl r ?_
          unfold Hid
          rw [e3, M.spl_ok hmd hz, hm.out, M.fit_same]
      · rw [e3, M.spl_mode hmd]
        exact rsplit_mode n0 n1 mode w h1 hmd
    · have e : M.pair (takesB k0 8) (takesB k1 16) k0 n0 k1 n1 = some (6, 5) := by
        unfold M.pair
        rw [h1, takes_8, takes_16]
        simp
        omega
      have e2 : r = (6, 5) := by rw [hr.out, e]; rfl
      rw [e2]
      by_cases c : k0 = 1
      · subst c
        exact rsplit_k1 n0 k1 n1 mode w h1 (by simp; omega)
      · exact rsplit_k0 k0 n0 k1 n1 mode w h1 (by simpa using c)

end Go.Proofs.YtnmcniibcjjflaaDoor

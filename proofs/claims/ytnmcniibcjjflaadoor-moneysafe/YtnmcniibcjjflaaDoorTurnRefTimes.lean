import Derived.Test.YtnmcniibcjjflaaDoorJoin9
import Derived.Test.YtnmcniibcjjflaaDoorJoin17
namespace Go.Proofs.YtnmcniibcjjflaaDoor
open Go.RowKit

set_option maxHeartbeats 1000000 in
theorem rtimes_some (k0 n0 k1 n1 : Int) (w : World) (x y : Int) (h1 : M.mish [(k0, n0), (k1, n1)] = some (x, y)) :
    Calls Tryd.prog 44 #[.agg #[.int .i64 k0, .int .i64 n0], .agg #[.int .i64 k1, .int .i64 n1]] w fun e w' => e = .returned (.agg #[.int .i64 x, .int .i64 y]) ∧ Below w.heap.size w w' := by
  have hlook := looked_any (some ⟨w.heap.size + 1 + 1 + 1, 0, none⟩) 2 [(k0, n0), (k1, n1)] ((((w.alloc (cellsV k0 n0)).alloc (cellsV k1 n1)).alloc (cellsV 0 0)).alloc (cellsV2 k0 n0 k1 n1)) ((row_two _ k0 n0 k1 n1).of (by simp)).vals
  rw [h1] at hlook
  dsimp only [M.vk, M.vn, Option.isSome, List.length] at hlook
  clear h1
  go_enter Tryd.func44, Tryd.ntmps44
  go_wp2_with (go_at_call 64; refine hlook.mono ?_; clear hlook; rintro e w1 ⟨rfl, hb1⟩; obtain ⟨-, -, hR1, hB1⟩ := start2 w k0 n0 k1 n1 (over_alloc _ hb1); obtain ⟨r0, r1, q0, q1⟩ := hR1.alloc (cellsV x y); clear hb1)
  exact bodyPost_ret (v := .agg #[.int .i64 x, .int .i64 y]) (by simp [results, Tryd.results44, go_sem, r0, r1]) rfl ⟨rfl, ((hB1.alloc hB1.size _).setCell (by simp; omega) _).setCell (by simp; omega) _⟩

set_option maxHeartbeats 1000000 in
theorem rtimes_kind (k0 n0 k1 n1 : Int) (w : World) (h1 : M.mish [(k0, n0), (k1, n1)] = none) (h2 : ¬ (k0 = 1 ∧ k1 = 2)) :
    Calls Tryd.prog 44 #[.agg #[.int .i64 k0, .int .i64 n0], .agg #[.int .i64 k1, .int .i64 n1]] w fun e w' => e = .returned (.agg #[.int .i64 6, .int .i64 5]) ∧ Below w.heap.size w w' := by
  have hlook := looked_any (some ⟨w.heap.size + 1 + 1 + 1, 0, none⟩) 2 [(k0, n0), (k1, n1)] ((((w.alloc (cellsV k0 n0)).alloc (cellsV k1 n1)).alloc (cellsV 0 0)).alloc (cellsV2 k0 n0 k1 n1)) ((row_two _ k0 n0 k1 n1).of (by simp)).vals
  rw [h1] at hlook
  dsimp only [M.vk, M.vn, Option.isSome, List.length] at hlook
  clear h1
  by_cases c : k0 = 1
  · have c2 : (k1 != 2) = true := by simp; omega
    have c1 : (k0 != 1) = false := by simpa using c
    clear h2 c
    go_enter Tryd.func44, Tryd.ntmps44
    go_wp2_with (first | (go_at_call 64; refine hlook.mono ?_; clear hlook; rintro e w1 ⟨rfl, hb1⟩; obtain ⟨hX, hY, hR1, hB1⟩ := start2 w k0 n0 k1 n1 (over_alloc _ hb1); obtain ⟨x0, x1, -, -⟩ := hX.alloc (cellsV 0 0); obtain ⟨y0, y1, -, -⟩ := hY.alloc (cellsV 0 0); clear hb1) | (go_at_call 14; refine (bad_any _ _).mono ?_; rintro e w3 ⟨rfl, hb3⟩; have hb3' := over_alloc _ hb3; obtain ⟨s0, s1, t0, t1⟩ := hR1.later hb3'; have hB3 := below_step hB1 hb3'; clear hb3 hb3'))
    exact bodyPost_ret (v := .agg #[.int .i64 6, .int .i64 5]) (by simp [results, Tryd.results44, go_sem, s0, s1]) rfl ⟨rfl, (hB3.setCell (by simp; omega) _).setCell (by simp; omega) _⟩
  · have c1 : (k0 != 1) = true := by simpa using c
    clear h2 c
    go_enter Tryd.func44, Tryd.ntmps44
    go_wp2_with (first | (go_at_call 64; refine hlook.mono ?_; clear hlook; rintro e w1 ⟨rfl, hb1⟩; obtain ⟨hX, hY, hR1, hB1⟩ := start2 w k0 n0 k1 n1 (over_alloc _ hb1); obtain ⟨x0, x1, -, -⟩ := hX.alloc (cellsV 0 0); obtain ⟨y0, y1, -, -⟩ := hY.alloc (cellsV 0 0); clear hb1) | (go_at_call 14; refine (bad_any _ _).mono ?_; rintro e w3 ⟨rfl, hb3⟩; have hb3' := over_alloc _ hb3; obtain ⟨s0, s1, t0, t1⟩ := hR1.later hb3'; have hB3 := below_step hB1 hb3'; clear hb3 hb3'))
    exact bodyPost_ret (v := .agg #[.int .i64 6, .int .i64 5]) (by simp [results, Tryd.results44, go_sem, s0, s1]) rfl ⟨rfl, (hB3.setCell (by simp; omega) _).setCell (by simp; omega) _⟩

set_option maxHeartbeats 4000000 in
theorem rtimes_ok (n0 n1 : Int) (w : World) (h1 : M.mish [(1, n0), (2, n1)] = none) (u1 : -9999999999999 ≤ n0) (u2 : n0 ≤ 9999999999999) (u3 : -9999999999999 ≤ n1) (u4 : n1 ≤ 9999999999999)
    (s : Bool) (hs : Hid (s = (decide (n0 < 0) != decide (n1 < 0)))) (r : Int × Int) (hr : Hid (r = M.fit true 1 (M.sgn s (M.rq s 1 (M.cap14 (n0.natAbs * n1.natAbs / 1)) (n0.natAbs * n1.natAbs % 1) 1)))) :
    Calls Tryd.prog 44 #[.agg #[.int .i64 1, .int .i64 n0], .agg #[.int .i64 2, .int .i64 n1]] w fun e w' => e = .returned (.agg #[.int .i64 r.1, .int .i64 r.2]) ∧ Below w.heap.size w w' := by
  have hlook := looked_any (some ⟨w.heap.size + 1 + 1 + 1, 0, none⟩) 2 [(1, n0), (2, n1)] ((((w.alloc (cellsV 1 n0)).alloc (cellsV 2 n1)).alloc (cellsV 0 0)).alloc (cellsV2 1 n0 2 n1)) ((row_two _ 1 n0 2 n1).of (by simp)).vals
  rw [h1] at hlook
  dsimp only [M.vk, M.vn, Option.isSome, List.length] at hlook
  clear h1
  obtain ⟨a0, ha0⟩ : ∃ a : Nat, Hid (a = n0.natAbs) := ⟨_, rfl⟩
  obtain ⟨a1, ha1⟩ : ∃ a : Nat, Hid (a = n1.natAbs) := ⟨_, rfl⟩
  have l0 : a0 < 10000000000000000 := by have := ha0.out; omega
  have l1 : a1 < 10000000000000000 := by have := ha1.out; omega
  have tok1 : True := trivial
  have tok2 : True := trivial
  go_enter Tryd.func44, Tryd.ntmps44
  go_wp2_with (go_at_call 64; refine hlook.mono ?_; clear hlook; rintro e w1 ⟨rfl, hb1⟩; obtain ⟨hX, hY, hR1, hB1⟩ := start2 w 1 n0 2 n1 (over_alloc _ hb1); obtain ⟨x0, x1, -, -⟩ := hX.alloc (cellsV 0 0); obtain ⟨y0, y1, -, -⟩ := hY.alloc (cellsV 0 0); clear hb1)
  have hS : (w1.alloc (cellsV 0 0)).drew.cell? ⟨w.heap.size, 1, none⟩ = some (.int .i64 n0) ∧ (w1.alloc (cellsV 0 0)).drew.cell? ⟨w.heap.size + 1, 1, none⟩ = some (.int .i64 n1) ∧ Box (w1.alloc (cellsV 0 0)).drew (w.heap.size + 1 + 1) (.int .i64 0) (.int .i64 0) ∧ Below w.heap.size w (w1.alloc (cellsV 0 0)).drew := ⟨x1, y1, (hR1.alloc _).drew, (hB1.alloc hB1.size _).drew⟩
  clear x0 x1 y0 y1 hX hY hR1 hB1
  go_region_held3 (fun X => X.cell? ⟨w.heap.size, 1, none⟩ = some (.int .i64 n0) ∧ X.cell? ⟨w.heap.size + 1, 1, none⟩ = some (.int .i64 n1) ∧ Box X (w.heap.size + 1 + 1) (.int .i64 0) (.int .i64 0) ∧ Below w.heap.size w X) (assumption)
    (first | (go_at_call 68; have _u := tok1; clear tok1; refine (rsize_v n0 a0 ha0 _ u1 u2).mono ?_; rintro e w' ⟨rfl, rfl⟩) | (go_at_call 68; refine (rsize_v n1 a1 ha1 _ u3 u4).mono ?_; rintro e w' ⟨rfl, rfl⟩) | (go_at_call 67; have _u := tok2; clear tok2; refine (heldR (w0 := w) (b0 := w.heap.size) (b1 := w.heap.size + 1) (b2 := w.heap.size + 1 + 1) (x0 := .int .i64 n0) (x1 := .int .i64 n1) ?_ (digits_any a0 l0 _) (fun _ _ ⟨_, _, _, _, h⟩ => h)).mono ?_; assumption; rintro e w2 ⟨⟨p0, c0, rfl, hD0, hb2⟩, hS2⟩) | (go_at_call 67; refine (heldR (w0 := w) (b0 := w.heap.size) (b1 := w.heap.size + 1) (b2 := w.heap.size + 1 + 1) (x0 := .int .i64 n0) (x1 := .int .i64 n1) ?_ (digits_any a1 l1 _) (fun _ _ ⟨_, _, _, _, h⟩ => h)).mono ?_; assumption; rintro e w3 ⟨⟨p1, c1, rfl, hD1, hb3⟩, hS3⟩; have hE0 := hD0.later hb3) | (go_at_call 66; refine (heldR (w0 := w) (b0 := w.heap.size) (b1 := w.heap.size + 1) (b2 := w.heap.size + 1 + 1) (x0 := .int .i64 n0) (x1 := .int .i64 n1) ?_ (product_v p0 p1 c0 c1 (M.digs a0) (M.digs a1) (M.digs_len 16 a0 l0) (M.digs_len 16 a1 l1) (digs_nine a0) (digs_nine a1) _ hE0 hD1) (fun _ _ ⟨_, _, _, _, _, h⟩ => h)).mono ?_; assumption; rintro e w4 ⟨⟨ds, c2, rfl, hds, hD4, hb4⟩, hS4⟩))
  by_cases g0 : n0 < 0 <;> by_cases g1 : n1 < 0
  · obtain rfl : s = false := by rw [hs.out]; simp [g0, g1]
    obtain ⟨z1, z2, hR4, hB4⟩ := hS4
    have hrd := rounded_any c2 ds.length ds 1 false 1 (by omega) (by omega) hds.out.2.1 hds.out.2.2 w4 hD4 _ rfl
    rw [hds.out.1, M.val_digs, M.val_digs, ha0.out, ha1.out] at hrd
    have hrr := hr.out
    generalize M.sgn false (M.rq false 1 (M.cap14 (n0.natAbs * n1.natAbs / 1)) (n0.natAbs * n1.natAbs % 1) 1) = v at hrd hrr
    have HR : Hid (r = M.fit true 1 v) := hrr
    clear hrr hr hds hD0 hD1 hE0 hb2 hb3 hb4 hS2 hS3 hS
    go_wp2_with (first | (go_at_call 69; refine hrd.mono ?_; clear hrd; rintro e w' ⟨rfl, rfl⟩) | (go_at_call 16; refine (bounded_any _ _ _).mono ?_; rintro e w5 ⟨rfl, hb5⟩; obtain ⟨r0, r1, q0, q1⟩ := hR4.later hb5; have hB5 := below_step hB4 hb5; clear hb5))
    exact bodyPost_ret (v := .agg #[.int .i64 r.1, .int .i64 r.2]) (by rw [HR.out]; simp [results, Tryd.results44, go_sem, r0, r1]) rfl ⟨rfl, (hB5.setCell (by simp; omega) _).setCell (by simp; omega) _⟩
  · obtain rfl : s = true := by rw [hs.out]; simp [g0, g1]
    obtain ⟨z1, z2, hR4, hB4⟩ := hS4
    have hrd := rounded_any c2 ds.length ds 1 true 1 (by omega) (by omega) hds.out.2.1 hds.out.2.2 w4 hD4 _ rfl
    rw [hds.out.1, M.val_digs, M.val_digs, ha0.out, ha1.out] at hrd
    have hrr := hr.out
    generalize M.sgn true (M.rq true 1 (M.cap14 (n0.natAbs * n1.natAbs / 1)) (n0.natAbs * n1.natAbs % 1) 1) = v at hrd hrr
    have HR : Hid (r = M.fit true 1 v) := hrr
    clear hrr hr hds hD0 hD1 hE0 hb2 hb3 hb4 hS2 hS3 hS
    go_wp2_with (first | (go_at_call 69; refine hrd.mono ?_; clear hrd; rintro e w' ⟨rfl, rfl⟩) | (go_at_call 16; refine (bounded_any _ _ _).mono ?_; rintro e w5 ⟨rfl, hb5⟩; obtain ⟨r0, r1, q0, q1⟩ := hR4.later hb5; have hB5 := below_step hB4 hb5; clear hb5))
    exact bodyPost_ret (v := .agg #[.int .i64 r.1, .int .i64 r.2]) (by rw [HR.out]; simp [results, Tryd.results44, go_sem, r0, r1]) rfl ⟨rfl, (hB5.setCell (by simp; omega) _).setCell (by simp; omega) _⟩
  · obtain rfl : s = true := by rw [hs.out]; simp [g0, g1]
    obtain ⟨z1, z2, hR4, hB4⟩ := hS4
    have hrd := rounded_any c2 ds.length ds 1 true 1 (by omega) (by omega) hds.out.2.1 hds.out.2.2 w4 hD4 _ rfl
    rw [hds.out.1, M.val_digs, M.val_digs, ha0.out, ha1.out] at hrd
    have hrr := hr.out
    generalize M.sgn true (M.rq true 1 (M.cap14 (n0.natAbs * n1.natAbs / 1)) (n0.natAbs * n1.natAbs % 1) 1) = v at hrd hrr
    have HR : Hid (r = M.fit true 1 v) := hrr
    clear hrr hr hds hD0 hD1 hE0 hb2 hb3 hb4 hS2 hS3 hS
    go_wp2_with (first | (go_at_call 69; refine hrd.mono ?_; clear hrd; rintro e w' ⟨rfl, rfl⟩) | (go_at_call 16; refine (bounded_any _ _ _).mono ?_; rintro e w5 ⟨rfl, hb5⟩; obtain ⟨r0, r1, q0, q1⟩ := hR4.later hb5; have hB5 := below_step hB4 hb5; clear hb5))
    exact bodyPost_ret (v := .agg #[.int .i64 r.1, .int .i64 r.2]) (by rw [HR.out]; simp [results, Tryd.results44, go_sem, r0, r1]) rfl ⟨rfl, (hB5.setCell (by simp; omega) _).setCell (by simp; omega) _⟩
  · obtain rfl : s = false := by rw [hs.out]; simp [g0, g1]
    obtain ⟨z1, z2, hR4, hB4⟩ := hS4
    have hrd := rounded_any c2 ds.length ds 1 false 1 (by omega) (by omega) hds.out.2.1 hds.out.2.2 w4 hD4 _ rfl
    rw [hds.out.1, M.val_digs, M.val_digs, ha0.out, ha1.out] at hrd
    have hrr := hr.out
    generalize M.sgn false (M.rq false 1 (M.cap14 (n0.natAbs * n1.natAbs / 1)) (n0.natAbs * n1.natAbs % 1) 1) = v at hrd hrr
    have HR : Hid (r = M.fit true 1 v) := hrr
    clear hrr hr hds hD0 hD1 hE0 hb2 hb3 hb4 hS2 hS3 hS
    go_wp2_with (first | (go_at_call 69; refine hrd.mono ?_; clear hrd; rintro e w' ⟨rfl, rfl⟩) | (go_at_call 16; refine (bounded_any _ _ _).mono ?_; rintro e w5 ⟨rfl, hb5⟩; obtain ⟨r0, r1, q0, q1⟩ := hR4.later hb5; have hB5 := below_step hB4 hb5; clear hb5))
    exact bodyPost_ret (v := .agg #[.int .i64 r.1, .int .i64 r.2]) (by rw [HR.out]; simp [results, Tryd.results44, go_sem, r0, r1]) rfl ⟨rfl, (hB5.setCell (by simp; omega) _).setCell (by simp; omega) _⟩

theorem rtimes_any (k0 n0 k1 n1 : Int) (w : World) (m : Int × Bool) (hm : Hid (m = M.wh (decide (n0 < 0) != decide (n1 < 0)) 1 (n0.natAbs * n1.natAbs) 1)) (r : Int × Int) (hr : Hid (r = M.ans (M.pair (takesB k0 8) (takesB k1 16) k0 n0 k1 n1) (M.fit m.2 1 m.1))) :
    Calls Tryd.prog 44 #[.agg #[.int .i64 k0, .int .i64 n0], .agg #[.int .i64 k1, .int .i64 n1]] w fun e w' => e = .returned (.agg #[.int .i64 r.1, .int .i64 r.2]) ∧ Below w.heap.size w w' := by
  cases h1 : M.mish [(k0, n0), (k1, n1)] with
  | some v =>
    have e : M.pair (takesB k0 8) (takesB k1 16) k0 n0 k1 n1 = some (v.1, v.2) := by simp [M.pair, h1]
    have e2 : r = (v.1, v.2) := by rw [hr.out, e]; rfl
    rw [e2]
    exact rtimes_some k0 n0 k1 n1 w v.1 v.2 h1
  | none =>
    by_cases h2 : k0 = 1 ∧ k1 = 2
    · obtain ⟨rfl, rfl⟩ := h2
      have e : M.pair (takesB 1 8) (takesB 2 16) 1 n0 2 n1 = none := by unfold M.pair; rw [h1]; rfl
      have v0 := M.valid_1 (M.pair_none e).2.2.1
      have v1 := M.valid_2 (M.pair_none e).2.2.2
      refine rtimes_ok n0 n1 w h1 v0.1 v0.2 (by omega) (by omega) _ rfl r ?_
      unfold Hid
      rw [hr.out, e, M.ans_none, hm.out, M.fit_same]
    · have e : M.pair (takesB k0 8) (takesB k1 16) k0 n0 k1 n1 = some (6, 5) := by
        unfold M.pair
        rw [h1, takes_8, takes_16]
        simp
        omega
      have e2 : r = (6, 5) := by rw [hr.out, e]; rfl
      rw [e2]
      exact rtimes_kind k0 n0 k1 n1 w h1 h2

end Go.Proofs.YtnmcniibcjjflaaDoor

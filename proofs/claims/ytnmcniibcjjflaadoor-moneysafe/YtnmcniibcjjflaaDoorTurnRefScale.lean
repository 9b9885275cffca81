import Derived.Test.YtnmcniibcjjflaaDoorJoin10
import Derived.Test.YtnmcniibcjjflaaDoorJoin17
namespace Go.Proofs.YtnmcniibcjjflaaDoor
open Go.RowKit

set_option maxHeartbeats 1000000 in
theorem rscale_some (k0 n0 num den mode : Int) (w : World) (x y : Int) (h1 : M.mish [(k0, n0)] = some (x, y)) :
    Calls Tryd.prog 43 #[.agg #[.int .i64 k0, .int .i64 n0], .int .i64 num, .int .i64 den, .int .i64 mode] w fun e w' => e = .returned (.agg #[.int .i64 x, .int .i64 y]) ∧ Below w.heap.size w w' := by
  have hlook := looked_any (some ⟨w.heap.size + 1 + 1, 0, none⟩) 1 [(k0, n0)] (((w.alloc (cellsV k0 n0)).alloc (cellsV 0 0)).alloc (cellsV k0 n0)) ((row_one _ k0 n0).of (by simp)).vals
  rw [h1] at hlook
  dsimp only [M.vk, M.vn, Option.isSome, List.length] at hlook
  clear h1
  go_enter Tryd.func43, Tryd.ntmps43
  go_wp2_with (go_at_call 64; refine hlook.mono ?_; clear hlook; rintro e w1 ⟨rfl, hb1⟩; obtain ⟨-, hR1, hB1⟩ := start1 w k0 n0 (over_alloc _ hb1); obtain ⟨r0, r1, q0, q1⟩ := hR1.alloc (cellsV x y); clear hb1)
  exact bodyPost_ret (v := .agg #[.int .i64 x, .int .i64 y]) (by simp [results, Tryd.results43, go_sem, r0, r1]) rfl ⟨rfl, ((hB1.alloc hB1.size _).setCell (by simp) _).setCell (by simp) _⟩

set_option maxHeartbeats 1000000 in
theorem rscale_k0 (k0 n0 num den mode : Int) (w : World) (h1 : M.mish [(k0, n0)] = none) (c1 : (k0 != 1) = true) :
    Calls Tryd.prog 43 #[.agg #[.int .i64 k0, .int .i64 n0], .int .i64 num, .int .i64 den, .int .i64 mode] w fun e w' => e = .returned (.agg #[.int .i64 6, .int .i64 5]) ∧ Below w.heap.size w w' := by
  have hlook := looked_any (some ⟨w.heap.size + 1 + 1, 0, none⟩) 1 [(k0, n0)] (((w.alloc (cellsV k0 n0)).alloc (cellsV 0 0)).alloc (cellsV k0 n0)) ((row_one _ k0 n0).of (by simp)).vals
  rw [h1] at hlook
  dsimp only [M.vk, M.vn, Option.isSome, List.length] at hlook
  clear h1
  go_enter Tryd.func43, Tryd.ntmps43
  go_wp2_with (first | (go_at_call 64; refine hlook.mono ?_; clear hlook; rintro e w1 ⟨rfl, hb1⟩; obtain ⟨hX, hR1, hB1⟩ := start1 w k0 n0 (over_alloc _ hb1); obtain ⟨x0, x1, -, -⟩ := hX.alloc (cellsV 0 0); clear hb1) | (go_at_call 14; refine (bad_any _ _).mono ?_; rintro e w3 ⟨rfl, hb3⟩; have hb3' := over_alloc _ hb3; obtain ⟨s0, s1, t0, t1⟩ := hR1.later hb3'; have hB3 := below_step hB1 hb3'; clear hb3 hb3'))
  exact bodyPost_ret (v := .agg #[.int .i64 6, .int .i64 5]) (by simp [results, Tryd.results43, go_sem, s0, s1]) rfl ⟨rfl, (hB3.setCell (by simp) _).setCell (by simp) _⟩

set_option maxHeartbeats 1000000 in
theorem rscale_num (n0 num den mode : Int) (w : World) (h1 : M.mish [(1, n0)] = none) (hnu : decide (-1000000000 ≤ num ∧ num ≤ 1000000000) = false) :
    Calls Tryd.prog 43 #[.agg #[.int .i64 1, .int .i64 n0], .int .i64 num, .int .i64 den, .int .i64 mode] w fun e w' => e = .returned (.agg #[.int .i64 6, .int .i64 5]) ∧ Below w.heap.size w w' := by
  have hlook := looked_any (some ⟨w.heap.size + 1 + 1, 0, none⟩) 1 [(1, n0)] (((w.alloc (cellsV 1 n0)).alloc (cellsV 0 0)).alloc (cellsV 1 n0)) ((row_one _ 1 n0).of (by simp)).vals
  rw [h1] at hlook
  dsimp only [M.vk, M.vn, Option.isSome, List.length] at hlook
  clear h1
  have tok1 : True := trivial
  go_enter Tryd.func43, Tryd.ntmps43
  go_wp2_with (first | (go_at_call 64; refine hlook.mono ?_; clear hlook; rintro e w1 ⟨rfl, hb1⟩; obtain ⟨hX, hR1, hB1⟩ := start1 w 1 n0 (over_alloc _ hb1); obtain ⟨x0, x1, -, -⟩ := hX.alloc (cellsV 0 0); clear hb1) | (go_at_call 50; have _u := tok1; clear tok1; refine (rwithin_v num (-1000000000) 1000000000 _ false hnu).mono ?_; rintro e w' ⟨rfl, rfl⟩) | (go_at_call 14; refine (bad_any _ _).mono ?_; rintro e w3 ⟨rfl, hb3⟩; have hb3' := over_alloc _ hb3; obtain ⟨s0, s1, t0, t1⟩ := hR1.later hb3'; have hB3 := below_step hB1 hb3'; clear hb3 hb3'))
  exact bodyPost_ret (v := .agg #[.int .i64 6, .int .i64 5]) (by simp [results, Tryd.results43, go_sem, s0, s1]) rfl ⟨rfl, (hB3.setCell (by simp) _).setCell (by simp) _⟩

set_option maxHeartbeats 1000000 in
theorem rscale_den (n0 num den mode : Int) (w : World) (h1 : M.mish [(1, n0)] = none) (hnu : decide (-1000000000 ≤ num ∧ num ≤ 1000000000) = true) (hde : decide (1 ≤ den ∧ den ≤ 1000000000) = false) :
    Calls Tryd.prog 43 #[.agg #[.int .i64 1, .int .i64 n0], .int .i64 num, .int .i64 den, .int .i64 mode] w fun e w' => e = .returned (.agg #[.int .i64 6, .int .i64 5]) ∧ Below w.heap.size w w' := by
  have hlook := looked_any (some ⟨w.heap.size + 1 + 1, 0, none⟩) 1 [(1, n0)] (((w.alloc (cellsV 1 n0)).alloc (cellsV 0 0)).alloc (cellsV 1 n0)) ((row_one _ 1 n0).of (by simp)).vals
  rw [h1] at hlook
  dsimp only [M.vk, M.vn, Option.isSome, List.length] at hlook
  clear h1
  have tok1 : True := trivial
  go_enter Tryd.func43, Tryd.ntmps43
  go_wp2_with (first | (go_at_call 64; refine hlook.mono ?_; clear hlook; rintro e w1 ⟨rfl, hb1⟩; obtain ⟨hX, hR1, hB1⟩ := start1 w 1 n0 (over_alloc _ hb1); obtain ⟨x0, x1, -, -⟩ := hX.alloc (cellsV 0 0); clear hb1) | (go_at_call 50; have _u := tok1; clear tok1; refine (rwithin_v num (-1000000000) 1000000000 _ true hnu).mono ?_; rintro e w' ⟨rfl, rfl⟩) | (go_at_call 50; refine (rwithin_v den 1 1000000000 _ false hde).mono ?_; rintro e w' ⟨rfl, rfl⟩) | (go_at_call 14; refine (bad_any _ _).mono ?_; rintro e w3 ⟨rfl, hb3⟩; have hb3' := over_alloc _ hb3; obtain ⟨s0, s1, t0, t1⟩ := hR1.later hb3'; have hB3 := below_step hB1 hb3'; clear hb3 hb3'))
  exact bodyPost_ret (v := .agg #[.int .i64 6, .int .i64 5]) (by simp [results, Tryd.results43, go_sem, s0, s1]) rfl ⟨rfl, (hB3.setCell (by simp) _).setCell (by simp) _⟩

set_option maxHeartbeats 1000000 in
theorem rscale_mode (n0 num den mode : Int) (w : World) (h1 : M.mish [(1, n0)] = none) (hnu : decide (-1000000000 ≤ num ∧ num ≤ 1000000000) = true) (hde : decide (1 ≤ den ∧ den ≤ 1000000000) = true) (hmd : ¬ (1 ≤ mode ∧ mode ≤ 5)) :
    Calls Tryd.prog 43 #[.agg #[.int .i64 1, .int .i64 n0], .int .i64 num, .int .i64 den, .int .i64 mode] w fun e w' => e = .returned (.agg #[.int .i64 6, .int .i64 5]) ∧ Below w.heap.size w w' := by
  have hlook := looked_any (some ⟨w.heap.size + 1 + 1, 0, none⟩) 1 [(1, n0)] (((w.alloc (cellsV 1 n0)).alloc (cellsV 0 0)).alloc (cellsV 1 n0)) ((row_one _ 1 n0).of (by simp)).vals
  rw [h1] at hlook
  dsimp only [M.vk, M.vn, Option.isSome, List.length] at hlook
  clear h1
  have tok1 : True := trivial
  go_enter Tryd.func43, Tryd.ntmps43
  go_wp2_with (first | (go_at_call 64; refine hlook.mono ?_; clear hlook; rintro e w1 ⟨rfl, hb1⟩; obtain ⟨hX, hR1, hB1⟩ := start1 w 1 n0 (over_alloc _ hb1); obtain ⟨x0, x1, -, -⟩ := hX.alloc (cellsV 0 0); clear hb1) | (go_at_call 50; have _u := tok1; clear tok1; refine (rwithin_v num (-1000000000) 1000000000 _ true hnu).mono ?_; rintro e w' ⟨rfl, rfl⟩) | (go_at_call 50; refine (rwithin_v den 1 1000000000 _ true hde).mono ?_; rintro e w' ⟨rfl, rfl⟩) | (go_at_call 65; refine (risMode_no _ _ hmd).mono ?_; rintro e w' ⟨rfl, rfl⟩) | (go_at_call 14; refine (bad_any _ _).mono ?_; rintro e w3 ⟨rfl, hb3⟩; have hb3' := over_alloc _ hb3; obtain ⟨s0, s1, t0, t1⟩ := hR1.later hb3'; have hB3 := below_step hB1 hb3'; clear hb3 hb3'))
  exact bodyPost_ret (v := .agg #[.int .i64 6, .int .i64 5]) (by simp [results, Tryd.results43, go_sem, s0, s1]) rfl ⟨rfl, (hB3.setCell (by simp) _).setCell (by simp) _⟩

set_option maxHeartbeats 4000000 in
theorem rscale_ok (n0 num den mode : Int) (w : World) (h1 : M.mish [(1, n0)] = none) (hn : -1000000000 ≤ num ∧ num ≤ 1000000000) (hd : 1 ≤ den ∧ den ≤ 1000000000) (hmd : 1 ≤ mode ∧ mode ≤ 5) (u1 : -9999999999999 ≤ n0) (u2 : n0 ≤ 9999999999999) (s : Bool) (hs : Hid (s = (decide (n0 < 0) != decide (num < 0)))) (r : Int × Int) (hr : Hid (r = M.fit true 1 (M.sgn s (M.rq s mode (M.cap14 (n0.natAbs * num.natAbs / den.natAbs)) (n0.natAbs * num.natAbs % den.natAbs) den.natAbs)))) :
    Calls Tryd.prog 43 #[.agg #[.int .i64 1, .int .i64 n0], .int .i64 num, .int .i64 den, .int .i64 mode] w fun e w' => e = .returned (.agg #[.int .i64 r.1, .int .i64 r.2]) ∧ Below w.heap.size w w' := by
  have hlook := looked_any (some ⟨w.heap.size + 1 + 1, 0, none⟩) 1 [(1, n0)] (((w.alloc (cellsV 1 n0)).alloc (cellsV 0 0)).alloc (cellsV 1 n0)) ((row_one _ 1 n0).of (by simp)).vals
  rw [h1] at hlook
  dsimp only [M.vk, M.vn, Option.isSome, List.length] at hlook
  clear h1
  have hnu : decide (-1000000000 ≤ num ∧ num ≤ 1000000000) = true := decide_eq_true hn
  have hde : decide (1 ≤ den ∧ den ≤ 1000000000) = true := decide_eq_true hd
  obtain ⟨a0, ha0⟩ : ∃ a : Nat, Hid (a = n0.natAbs) := ⟨_, rfl⟩
  obtain ⟨a1, ha1⟩ : ∃ a : Nat, Hid (a = num.natAbs) := ⟨_, rfl⟩
  obtain ⟨d, hdd⟩ : ∃ d : Nat, den = d := ⟨den.natAbs, by omega⟩
  subst hdd
  have u3 : -9999999999999 ≤ num := by omega
  have u4 : num ≤ 9999999999999 := by omega
  have l0 : a0 < 10000000000000000 := by have := ha0.out; omega
  have l1 : a1 < 10000000000000000 := by have := ha1.out; omega
  have l2 : 0 < d := by omega
  have l3 : d ≤ 10000000000000 := by omega
  obtain ⟨v, hv⟩ : ∃ v, Hid (v = M.sgn s (M.rq s mode (M.cap14 (a0 * a1 / d)) (a0 * a1 % d) d)) := ⟨_, rfl⟩
  have HR : Hid (r = M.fit true 1 v) := by unfold Hid; rw [hr.out, hv.out, ha0.out, ha1.out]; simp
  clear hr hn hd
  have tok1 : True := trivial
  have tok2 : True := trivial
  have tok3 : True := trivial
  by_cases g0 : n0 < 0 <;> by_cases g1 : num < 0
  · obtain rfl : s = false := by rw [hs.out]; simp [g0, g1]
    clear hs
    go_enter Tryd.func43, Tryd.ntmps43
    go_wp2_with (first | (go_at_call 64; refine hlook.mono ?_; clear hlook; rintro e w1 ⟨rfl, hb1⟩; obtain ⟨hX, hR1, hB1⟩ := start1 w 1 n0 (over_alloc _ hb1); obtain ⟨x0, x1, -, -⟩ := hX.alloc (cellsV 0 0); clear hb1) | (go_at_call 50; have _u := tok1; clear tok1; refine (rwithin_v num (-1000000000) 1000000000 _ true hnu).mono ?_; rintro e w' ⟨rfl, rfl⟩) | (go_at_call 50; refine (rwithin_v (d : Int) 1 1000000000 _ true hde).mono ?_; rintro e w' ⟨rfl, rfl⟩) | (go_at_call 65; refine (risMode_yes _ _ hmd).mono ?_; rintro e w' ⟨rfl, rfl⟩))
    have hS : (w1.alloc (cellsV 0 0)).cell? ⟨w.heap.size, 1, none⟩ = some (.int .i64 n0) ∧ Box (w1.alloc (cellsV 0 0)) (w.heap.size + 1) (.int .i64 0) (.int .i64 0) ∧ Below w.heap.size w (w1.alloc (cellsV 0 0)) := ⟨x1, hR1.alloc _, hB1.alloc hB1.size _⟩
    clear x0 x1 hX hR1 hB1
    go_wp2_with (first | (go_at_call 68; have _u := tok2; clear tok2; refine (rsize_v n0 a0 ha0 _ u1 u2).mono ?_; rintro e w' ⟨rfl, rfl⟩) | (go_at_call 68; refine (rsize_v num a1 ha1 _ u3 u4).mono ?_; rintro e w' ⟨rfl, rfl⟩) | (go_at_call 67; have _u := tok3; clear tok3; refine (heldR1 (w0 := w) (b0 := w.heap.size) (b2 := w.heap.size + 1) (x0 := .int .i64 n0) hS (digits_any a0 l0 _) (fun _ _ ⟨_, _, _, _, h⟩ => h)).mono ?_; rintro e w2 ⟨⟨p0, c0, rfl, hD0, hb2⟩, hS2⟩) | (go_at_call 67; refine (heldR1 (w0 := w) (b0 := w.heap.size) (b2 := w.heap.size + 1) (x0 := .int .i64 n0) hS2 (digits_any a1 l1 _) (fun _ _ ⟨_, _, _, _, h⟩ => h)).mono ?_; rintro e w3 ⟨⟨p1, c1, rfl, hD1, hb3⟩, hS3⟩; have hE0 := hD0.later hb3) | (go_at_call 66; refine (heldR1 (w0 := w) (b0 := w.heap.size) (b2 := w.heap.size + 1) (x0 := .int .i64 n0) hS3 (product_v p0 p1 c0 c1 (M.digs a0) (M.digs a1) (M.digs_len 16 a0 l0) (M.digs_len 16 a1 l1) (digs_nine a0) (digs_nine a1) _ hE0 hD1) (fun _ _ ⟨_, _, _, _, _, h⟩ => h)).mono ?_; rintro e w4 ⟨⟨ds, c2, rfl, hds, hD4, hb4⟩, hS4⟩; obtain ⟨z1, hR4, hB4⟩ := hS4; have hrd := rounded_any c2 ds.length ds d false mode l2 l3 hds.out.2.1 hds.out.2.2 w4 hD4 v (by unfold Hid; rw [hds.out.1, M.val_digs, M.val_digs]; exact hv.out); clear hds hD0 hD1 hE0 hb2 hb3 hb4 hS2 hS3 hS hv) | (go_at_call 69; refine hrd.mono ?_; clear hrd; rintro e w' ⟨rfl, rfl⟩) | (go_at_call 16; refine (bounded_any _ _ _).mono ?_; rintro e w5 ⟨rfl, hb5⟩; obtain ⟨r0, r1, q0, q1⟩ := hR4.later hb5; have hB5 := below_step hB4 hb5; clear hb5))
    exact bodyPost_ret (v := .agg #[.int .i64 r.1, .int .i64 r.2]) (by rw [HR.out]; simp [results, Tryd.results43, go_sem, r0, r1]) rfl ⟨rfl, (hB5.setCell (by simp) _).setCell (by simp) _⟩
  · obtain rfl : s = true := by rw [hs.out]; simp [g0, g1]
    clear hs
    have g1' : decide (num < 0) = false := by simpa using g1
    go_enter Tryd.func43, Tryd.ntmps43
    go_wp2_with (first | (go_at_call 64; refine hlook.mono ?_; clear hlook; rintro e w1 ⟨rfl, hb1⟩; obtain ⟨hX, hR1, hB1⟩ := start1 w 1 n0 (over_alloc _ hb1); obtain ⟨x0, x1, -, -⟩ := hX.alloc (cellsV 0 0); clear hb1) | (go_at_call 50; have _u := tok1; clear tok1; refine (rwithin_v num (-1000000000) 1000000000 _ true hnu).mono ?_; rintro e w' ⟨rfl, rfl⟩) | (go_at_call 50; refine (rwithin_v (d : Int) 1 1000000000 _ true hde).mono ?_; rintro e w' ⟨rfl, rfl⟩) | (go_at_call 65; refine (risMode_yes _ _ hmd).mono ?_; rintro e w' ⟨rfl, rfl⟩))
    have hS : (w1.alloc (cellsV 0 0)).cell? ⟨w.heap.size, 1, none⟩ = some (.int .i64 n0) ∧ Box (w1.alloc (cellsV 0 0)) (w.heap.size + 1) (.int .i64 0) (.int .i64 0) ∧ Below w.heap.size w (w1.alloc (cellsV 0 0)) := ⟨x1, hR1.alloc _, hB1.alloc hB1.size _⟩
    clear x0 x1 hX hR1 hB1
    go_wp2_with (first | (go_at_call 68; have _u := tok2; clear tok2; refine (rsize_v n0 a0 ha0 _ u1 u2).mono ?_; rintro e w' ⟨rfl, rfl⟩) | (go_at_call 68; refine (rsize_v num a1 ha1 _ u3 u4).mono ?_; rintro e w' ⟨rfl, rfl⟩) | (go_at_call 67; have _u := tok3; clear tok3; refine (heldR1 (w0 := w) (b0 := w.heap.size) (b2 := w.heap.size + 1) (x0 := .int .i64 n0) hS (digits_any a0 l0 _) (fun _ _ ⟨_, _, _, _, h⟩ => h)).mono ?_; rintro e w2 ⟨⟨p0, c0, rfl, hD0, hb2⟩, hS2⟩) | (go_at_call 67; refine (heldR1 (w0 := w) (b0 := w.heap.size) (b2 := w.heap.size + 1) (x0 := .int .i64 n0) hS2 (digits_any a1 l1 _) (fun _ _ ⟨_, _, _, _, h⟩ => h)).mono ?_; rintro e w3 ⟨⟨p1, c1, rfl, hD1, hb3⟩, hS3⟩; have hE0 := hD0.later hb3) | (go_at_call 66; refine (heldR1 (w0 := w) (b0 := w.heap.size) (b2 := w.heap.size + 1) (x0 := .int .i64 n0) hS3 (product_v p0 p1 c0 c1 (M.digs a0) (M.digs a1) (M.digs_len 16 a0 l0) (M.digs_len 16 a1 l1) (digs_nine a0) (digs_nine a1) _ hE0 hD1) (fun _ _ ⟨_, _, _, _, _, h⟩ => h)).mono ?_; rintro e w4 ⟨⟨ds, c2, rfl, hds, hD4, hb4⟩, hS4⟩; obtain ⟨z1, hR4, hB4⟩ := hS4; have hrd := rounded_any c2 ds.length ds d true mode l2 l3 hds.out.2.1 hds.out.2.2 w4 hD4 v (by unfold Hid; rw [hds.out.1, M.val_digs, M.val_digs]; exact hv.out); clear hds hD0 hD1 hE0 hb2 hb3 hb4 hS2 hS3 hS hv) | (go_at_call 69; refine hrd.mono ?_; clear hrd; rintro e w' ⟨rfl, rfl⟩) | (go_at_call 16; refine (bounded_any _ _ _).mono ?_; rintro e w5 ⟨rfl, hb5⟩; obtain ⟨r0, r1, q0, q1⟩ := hR4.later hb5; have hB5 := below_step hB4 hb5; clear hb5))
    exact bodyPost_ret (v := .agg #[.int .i64 r.1, .int .i64 r.2]) (by rw [HR.out]; simp [results, Tryd.results43, go_sem, r0, r1]) rfl ⟨rfl, (hB5.setCell (by simp) _).setCell (by simp) _⟩
  · obtain rfl : s = true := by rw [hs.out]; simp [g0, g1]
    clear hs
    have g0' : decide (n0 < 0) = false := by simpa using g0
    go_enter Tryd.func43, Tryd.ntmps43
    go_wp2_with (first | (go_at_call 64; refine hlook.mono ?_; clear hlook; rintro e w1 ⟨rfl, hb1⟩; obtain ⟨hX, hR1, hB1⟩ := start1 w 1 n0 (over_alloc _ hb1); obtain ⟨x0, x1, -, -⟩ := hX.alloc (cellsV 0 0); clear hb1) | (go_at_call 50; have _u := tok1; clear tok1; refine (rwithin_v num (-1000000000) 1000000000 _ true hnu).mono ?_; rintro e w' ⟨rfl, rfl⟩) | (go_at_call 50; refine (rwithin_v (d : Int) 1 1000000000 _ true hde).mono ?_; rintro e w' ⟨rfl, rfl⟩) | (go_at_call 65; refine (risMode_yes _ _ hmd).mono ?_; rintro e w' ⟨rfl, rfl⟩))
    have hS : (w1.alloc (cellsV 0 0)).cell? ⟨w.heap.size, 1, none⟩ = some (.int .i64 n0) ∧ Box (w1.alloc (cellsV 0 0)) (w.heap.size + 1) (.int .i64 0) (.int .i64 0) ∧ Below w.heap.size w (w1.alloc (cellsV 0 0)) := ⟨x1, hR1.alloc _, hB1.alloc hB1.size _⟩
    clear x0 x1 hX hR1 hB1
    go_wp2_with (first | (go_at_call 68; have _u := tok2; clear tok2; refine (rsize_v n0 a0 ha0 _ u1 u2).mono ?_; rintro e w' ⟨rfl, rfl⟩) | (go_at_call 68; refine (rsize_v num a1 ha1 _ u3 u4).mono ?_; rintro e w' ⟨rfl, rfl⟩) | (go_at_call 67; have _u := tok3; clear tok3; refine (heldR1 (w0 := w) (b0 := w.heap.size) (b2 := w.heap.size + 1) (x0 := .int .i64 n0) hS (digits_any a0 l0 _) (fun _ _ ⟨_, _, _, _, h⟩ => h)).mono ?_; rintro e w2 ⟨⟨p0, c0, rfl, hD0, hb2⟩, hS2⟩) | (go_at_call 67; refine (heldR1 (w0 := w) (b0 := w.heap.size) (b2 := w.heap.size + 1) (x0 := .int .i64 n0) hS2 (digits_any a1 l1 _) (fun _ _ ⟨_, _, _, _, h⟩ => h)).mono ?_; rintro e w3 ⟨⟨p1, c1, rfl, hD1, hb3⟩, hS3⟩; have hE0 := hD0.later hb3) | (go_at_call 66; refine (heldR1 (w0 := w) (b0 := w.heap.size) (b2 := w.heap.size + 1) (x0 := .int .i64 n0) hS3 (product_v p0 p1 c0 c1 (M.digs a0) (M.digs a1) (M.digs_len 16 a0 l0) (M.digs_len 16 a1 l1) (digs_nine a0) (digs_nine a1) _ hE0 hD1) (fun _ _ ⟨_, _, _, _, _, h⟩ => h)).mono ?_; rintro e w4 ⟨⟨ds, c2, rfl, hds, hD4, hb4⟩, hS4⟩; obtain ⟨z1, hR4, hB4⟩ := hS4; have hrd := rounded_any c2 ds.length ds d true mode l2 l3 hds.out.2.1 hds.out.2.2 w4 hD4 v (by unfold Hid; rw [hds.out.1, M.val_digs, M.val_digs]; exact hv.out); clear hds hD0 hD1 hE0 hb2 hb3 hb4 hS2 hS3 hS hv) | (go_at_call 69; refine hrd.mono ?_; clear hrd; rintro e w' ⟨rfl, rfl⟩) | (go_at_call 16; refine (bounded_any _ _ _).mono ?_; rintro e w5 ⟨rfl, hb5⟩; obtain ⟨r0, r1, q0, q1⟩ := hR4.later hb5; have hB5 := below_step hB4 hb5; clear hb5))
    exact bodyPost_ret (v := .agg #[.int .i64 r.1, .int .i64 r.2]) (by rw [HR.out]; simp [results, Tryd.results43, go_sem, r0, r1]) rfl ⟨rfl, (hB5.setCell (by simp) _).setCell (by simp) _⟩
  · obtain rfl : s = false := by rw [hs.out]; simp [g0, g1]
    clear hs
    have g0' : decide (n0 < 0) = false := by simpa using g0
    have g1' : decide (num < 0) = false := by simpa using g1
    go_enter Tryd.func43, Tryd.ntmps43
    go_wp2_with (first | (go_at_call 64; refine hlook.mono ?_; clear hlook; rintro e w1 ⟨rfl, hb1⟩; obtain ⟨hX, hR1, hB1⟩ := start1 w 1 n0 (over_alloc _ hb1); obtain ⟨x0, x1, -, -⟩ := hX.alloc (cellsV 0 0); clear hb1) | (go_at_call 50; have _u := tok1; clear tok1; refine (rwithin_v num (-1000000000) 1000000000 _ true hnu).mono ?_; rintro e w' ⟨rfl, rfl⟩) | (go_at_call 50; refine (rwithin_v (d : Int) 1 1000000000 _ true hde).mono ?_; rintro e w' ⟨rfl, rfl⟩) | (go_at_call 65; refine (risMode_yes _ _ hmd).mono ?_; rintro e w' ⟨rfl, rfl⟩))
    have hS : (w1.alloc (cellsV 0 0)).cell? ⟨w.heap.size, 1, none⟩ = some (.int .i64 n0) ∧ Box (w1.alloc (cellsV 0 0)) (w.heap.size + 1) (.int .i64 0) (.int .i64 0) ∧ Below w.heap.size w (w1.alloc (cellsV 0 0)) := ⟨x1, hR1.alloc _, hB1.alloc hB1.size _⟩
    clear x0 x1 hX hR1 hB1
    go_wp2_with (first | (go_at_call 68; have _u := tok2; clear tok2; refine (rsize_v n0 a0 ha0 _ u1 u2).mono ?_; rintro e w' ⟨rfl, rfl⟩) | (go_at_call 68; refine (rsize_v num a1 ha1 _ u3 u4).mono ?_; rintro e w' ⟨rfl, rfl⟩) | (go_at_call 67; have _u := tok3; clear tok3; refine (heldR1 (w0 := w) (b0 := w.heap.size) (b2 := w.heap.size + 1) (x0 := .int .i64 n0) hS (digits_any a0 l0 _) (fun _ _ ⟨_, _, _, _, h⟩ => h)).mono ?_; rintro e w2 ⟨⟨p0, c0, rfl, hD0, hb2⟩, hS2⟩) | (go_at_call 67; refine (heldR1 (w0 := w) (b0 := w.heap.size) (b2 := w.heap.size + 1) (x0 := .int .i64 n0) hS2 (digits_any a1 l1 _) (fun _ _ ⟨_, _, _, _, h⟩ => h)).mono ?_; rintro e w3 ⟨⟨p1, c1, rfl, hD1, hb3⟩, hS3⟩; have hE0 := hD0.later hb3) | (go_at_call 66; refine (heldR1 (w0 := w) (b0 := w.heap.size) (b2 := w.heap.size + 1) (x0 := .int .i64 n0) hS3 (product_v p0 p1 c0 c1 (M.digs a0) (M.digs a1) (M.digs_len 16 a0 l0) (M.digs_len 16 a1 l1) (digs_nine a0) (digs_nine a1) _ hE0 hD1) (fun _ _ ⟨_, _, _, _, _, h⟩ => h)).mono ?_; rintro e w4 ⟨⟨ds, c2, rfl, hds, hD4, hb4⟩, hS4⟩; obtain ⟨z1, hR4, hB4⟩ := hS4; have hrd := rounded_any c2 ds.length ds d false mode l2 l3 hds.out.2.1 hds.out.2.2 w4 hD4 v (by unfold Hid; rw [hds.out.1, M.val_digs, M.val_digs]; exact hv.out); clear hds hD0 hD1 hE0 hb2 hb3 hb4 hS2 hS3 hS hv) | (go_at_call 69; refine hrd.mono ?_; clear hrd; rintro e w' ⟨rfl, rfl⟩) | (go_at_call 16; refine (bounded_any _ _ _).mono ?_; rintro e w5 ⟨rfl, hb5⟩; obtain ⟨r0, r1, q0, q1⟩ := hR4.later hb5; have hB5 := below_step hB4 hb5; clear hb5))
    exact bodyPost_ret (v := .agg #[.int .i64 r.1, .int .i64 r.2]) (by rw [HR.out]; simp [results, Tryd.results43, go_sem, r0, r1]) rfl ⟨rfl, (hB5.setCell (by simp) _).setCell (by simp) _⟩

theorem rscale_any (k0 n0 num den mode : Int) (w : World) (m : Int × Bool) (hm : Hid (m = M.wh (decide (n0 < 0) != decide (num < 0)) mode (n0.natAbs * num.natAbs) den.natAbs)) (r : Int × Int) (hr : Hid (r = M.ans (M.refuse (takesB k0 8) k0 n0 []) (M.scl num den mode m))) :
    Calls Tryd.prog 43 #[.agg #[.int .i64 k0, .int .i64 n0], .int .i64 num, .int .i64 den, .int .i64 mode] w fun e w' => e = .returned (.agg #[.int .i64 r.1, .int .i64 r.2]) ∧ Below w.heap.size w w' := by
  cases h1 : M.mish [(k0, n0)] with
  | some v =>
    have e2 : r = (v.1, v.2) := by rw [hr.out, refuse_one_some (x := v.1) (y := v.2) h1]; rfl
    rw [e2]
    exact rscale_some k0 n0 num den mode w v.1 v.2 h1
  | none =>
    by_cases hk : k0 = 1
    · subst hk
      have e3 : r = M.scl num den mode m := by rw [hr.out, refuse_one h1]; rfl
      have v0 := M.valid_1 (M.mish_none h1 (1, n0) (by simp)).1
      by_cases hn : -1000000000 ≤ num ∧ num ≤ 1000000000
      · by_cases hd : 1 ≤ den ∧ den ≤ 1000000000
        · by_cases hmd : 1 ≤ mode ∧ mode ≤ 5
          · refine rscale_ok n0 num den mode w h1 hn hd hmd v0.1 v0.2 _ rfl r ?_
            unfold Hid
            rw [e3, M.scl_ok hn hd hmd, hm.out, M.fit_same]
          · rw [e3, M.scl_no (fun h => hmd h.2.2)]
            exact rscale_mode n0 num den mode w h1 (decide_eq_true hn) (decide_eq_true hd) hmd
        · rw [e3, M.scl_no (fun h => hd h.2.1)]
          exact rscale_den n0 num den mode w h1 (decide_eq_true hn) (decide_eq_false hd)
      · rw [e3, M.scl_no (fun h => hn h.1)]
        exact rscale_num n0 num den mode w h1 (decide_eq_false hn)
    · have e2 : r = (6, 5) := by
        rw [hr.out, refuse_one h1, takes_8, if_neg (by simpa using hk)]
        rfl
      rw [e2]
      exact rscale_k0 k0 n0 num den mode w h1 (by simpa using hk)

end Go.Proofs.YtnmcniibcjjflaaDoor

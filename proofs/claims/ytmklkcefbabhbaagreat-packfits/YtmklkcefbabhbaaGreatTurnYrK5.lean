import Derived.Test.YtmklkcefbabhbaaGreatJoin33
/- A leaf. -/
namespace Go.Proofs.YtmklkcefbabhbaaGreat.R6
open Go.RowKit

set_option maxRecDepth 20000 in
set_option maxHeartbeats 4000000 in
theorem lf_5 (p : Pk) (a3 a4 a5 a6 a7 : Option Addr) (c3 c4 c5 c6 c7 : Nat) (g : Int) (n wb : Nat) (x : Ex) (a : Option Addr) (c : Nat) (ho : x.op = 5) (W : World) (hw : WkAt W wb p a3 a4 a5 a6 a7 c3 c4 c5 c6 c7 g n) (hL : RowR eL W AnyB p.lns a6) : Calls Tryz.prog 99 #[.pointer (some ⟨wb, 0, none⟩), .agg #[.int .i64 x.op, .int .i64 x.num, .int .i64 x.den, .int .i64 x.mode, .slice a x.args.len c]] W (Lk (.tuple #[.agg #[.int .i64 (lfK p x).1.1, .int .i64 (lfK p x).1.2], .bool (lfK p x).2]) W) := by
  have hf : lfK p x = ((5, x.den), true) := by unfold lfK; rw [ho]; rfl
  rw [hf]
  clear hf
  replace ho := Hid.mk ho
  obtain ⟨X, hXe⟩ : ∃ X, (W.alloc (.cells #[.int .i64 x.op, .int .i64 x.num, .int .i64 x.den, .int .i64 x.mode, .slice a x.args.len c] 59)).alloc (.cells #[.int .i64 0, .int .i64 0] 88) = X := ⟨_, rfl⟩
  have hb0 : Below W.heap.size W X := by rw [← hXe]; exact ((Below.refl _ _).alloc (Nat.le_refl _) _).alloc (by simp) _
  have hXl : W.heap.size + 1 < X.heap.size := by rw [← hXe]; simp
  have hBx : Hid (∀ w, Below X.heap.size X w → w.cell? ⟨W.heap.size, 0, none⟩ = some (.int .i64 x.op) ∧ w.cell? ⟨W.heap.size, 1, none⟩ = some (.int .i64 x.num) ∧ w.cell? ⟨W.heap.size, 2, none⟩ = some (.int .i64 x.den) ∧ w.cell? ⟨W.heap.size, 3, none⟩ = some (.int .i64 x.mode) ∧ w.cell? ⟨W.heap.size, 4, none⟩ = some (.slice a x.args.len c) ∧ w.cell? ⟨W.heap.size + 1, 0, none⟩ = some (.int .i64 0) ∧ w.cell? ⟨W.heap.size + 1, 1, none⟩ = some (.int .i64 0)) := ⟨fun w hw => ⟨(bel_cell hw (by omega) 0).trans (by rw [← hXe]; simp), (bel_cell hw (by omega) 1).trans (by rw [← hXe]; simp), (bel_cell hw (by omega) 2).trans (by rw [← hXe]; simp), (bel_cell hw (by omega) 3).trans (by rw [← hXe]; simp), (bel_cell hw (by omega) 4).trans (by rw [← hXe]; simp), (bel_cell hw hXl 0).trans (by rw [← hXe, show W.heap.size + 1 = (W.alloc (.cells #[.int .i64 x.op, .int .i64 x.num, .int .i64 x.den, .int .i64 x.mode, .slice a x.args.len c] 59)).heap.size by simp]; simp), (bel_cell hw hXl 1).trans (by rw [← hXe, show W.heap.size + 1 = (W.alloc (.cells #[.int .i64 x.op, .int .i64 x.num, .int .i64 x.den, .int .i64 x.mode, .slice a x.args.len c] 59)).heap.size by simp]; simp)⟩⟩
  obtain ⟨y0, y1, y2, y3, y4, x0, x1⟩ := hBx.out X (Below.refl _ _)
  have hK : Hid (∀ w, Below X.heap.size X w → w.heap[W.heap.size + 1]? = some (.cells #[.int .i64 0, .int .i64 0] 88 (0, 0))) := ⟨fun w hb => (hb.block _ hXl).trans (by rw [← hXe, show W.heap.size + 1 = (W.alloc (.cells #[.int .i64 x.op, .int .i64 x.num, .int .i64 x.den, .int .i64 x.mode, .slice a x.args.len c] 59)).heap.size by simp]; exact heap_alloc_new _ _)⟩
  have hwX := Hid.mk (fun w (hb : Below X.heap.size X w) => (hw.later hb0).later hb)
  have hLX := Hid.mk (fun w (hb : Below X.heap.size X w) => row_bel (row_bel hL hb0 (Nat.le_refl _)) hb (Nat.le_refl _))
  have D0 : Below X.heap.size X X.drew := (Below.refl _ _).drew
  have hln := line_any p a3 a4 a5 a6 a7 c3 c4 c5 c6 c7 x.num X.drew (hLX.out _ D0)
  obtain ⟨-, v0, v1, v2, v3, v4, v5, v6, -⟩ := hwX.out _ (Below.refl _ _)
  obtain ⟨-, d0, d1, d2, d3, d4, d5, d6, -⟩ := hwX.out _ D0
  obtain ⟨z0, z1, z2, z3, z4, -⟩ := hBx.out _ D0
  have D1 : Below X.heap.size X (X.alloc (.cells #[.string ⟨#[]⟩, .bool false, .bool false, .int .i64 0, .int .i64 0, .int .i64 0, .slice none 0 0] 55)).drew := ((Below.refl _ _).alloc (Nat.le_refl _) _).drew
  have hbx1 : Bx (X.alloc (.cells #[.string ⟨#[]⟩, .bool false, .bool false, .int .i64 0, .int .i64 0, .int .i64 0, .slice none 0 0] 55)).drew X.heap.size (#[.string ⟨#[]⟩, .bool false, .bool false, .int .i64 0, .int .i64 0, .int .i64 0, .slice none 0 0] : Array Value).toList := bx_new X _ _
  have hlt1 : X.heap.size < ((X.alloc (.cells #[.string ⟨#[]⟩, .bool false, .bool false, .int .i64 0, .int .i64 0, .int .i64 0, .slice none 0 0] 55)).drew).heap.size := by
    show X.heap.size < (X.alloc (.cells #[.string ⟨#[]⟩, .bool false, .bool false, .int .i64 0, .int .i64 0, .int .i64 0, .slice none 0 0] 55)).heap.size
    simp
  have hq1 : Hid (∀ w2, Below ((X.alloc (.cells #[.string ⟨#[]⟩, .bool false, .bool false, .int .i64 0, .int .i64 0, .int .i64 0, .slice none 0 0] 55)).drew).heap.size ((X.alloc (.cells #[.string ⟨#[]⟩, .bool false, .bool false, .int .i64 0, .int .i64 0, .int .i64 0, .slice none 0 0] 55)).drew) w2 → Bx w2 X.heap.size (#[.string ⟨#[]⟩, .bool false, .bool false, .int .i64 0, .int .i64 0, .int .i64 0, .slice none 0 0] : Array Value).toList ∧ w2.cell? ⟨X.heap.size, 0, none⟩ = some (.string ⟨#[]⟩) ∧ w2.cell? ⟨X.heap.size, 1, none⟩ = some (.bool false) ∧ w2.cell? ⟨X.heap.size, 2, none⟩ = some (.bool false) ∧ w2.cell? ⟨X.heap.size, 3, none⟩ = some (.int .i64 0) ∧ w2.cell? ⟨X.heap.size, 4, none⟩ = some (.int .i64 0) ∧ w2.cell? ⟨X.heap.size, 5, none⟩ = some (.int .i64 0) ∧ w2.cell? ⟨X.heap.size, 6, none⟩ = some (.slice none 0 0) ∧ ∀ j, w2.frozen? ⟨X.heap.size, j, none⟩ = false) := ⟨fun w2 hb2 => by
    have hx := bx_bel hbx1 hb2 hlt1
    exact ⟨hx, (hx.2.1 0 (by simp)).trans rfl, (hx.2.1 1 (by simp)).trans rfl, (hx.2.1 2 (by simp)).trans rfl, (hx.2.1 3 (by simp)).trans rfl, (hx.2.1 4 (by simp)).trans rfl, (hx.2.1 5 (by simp)).trans rfl, (hx.2.1 6 (by simp)).trans rfl, hx.2.2⟩⟩
  have hln2 := line_any p a3 a4 a5 a6 a7 c3 c4 c5 c6 c7 x.num (X.alloc (.cells #[.string ⟨#[]⟩, .bool false, .bool false, .int .i64 0, .int .i64 0, .int .i64 0, .slice none 0 0] 55)).drew (hLX.out _ D1)
  obtain ⟨-, s0, s1, s2, s3, s4, s5, s6, -⟩ := hwX.out _ D1
  obtain ⟨t0, t1, t2, t3, t4, -⟩ := hBx.out _ D1
  clear hw hL
  go_enter Tryz.func99, Tryz.ntmps99
  go_upto_region 1 with fail
  go_cut [6, 7] from 8 to 17 (fun x6 x7 wx => ∃ lb, x6 = .pointer (some ⟨lb, 0, none⟩) ∧ x7 = .bool (lnOk p x.num) ∧ LfP p x.num X lb wx)
  case first =>
    go_region_law (first | (go_simp; go_at_call 105; with_reducible refine hln.mono ?_; intro e w2 hp; obtain ⟨hb2, la, lc, rfl⟩ := line_z hp; have hB2 := belT D0 hb2; have hFn := Hid.mk (lf_new p x.num la lc hB2)) | (go_simp; go_at_call 105; with_reducible refine hln2.mono ?_; intro e w2 hp; obtain ⟨hb2, la, lc, rfl⟩ := line_z hp; have hB2 := belT D1 hb2; obtain ⟨hx2, q0, q1, q2, q3, q4, q5, q6, fr⟩ := hq1.out _ hb2; have fr0 := fr 0; have fr1 := fr 1; have fr2 := fr 2; have fr3 := fr 3; have fr4 := fr 4; have fr5 := fr 5; have fr6 := fr 6; have hFn := Hid.mk (lf_set p x.num la lc hx2 hB2)))
    all_goals (refine Met.intro ?_; go_step; go_meet)
    all_goals exact ⟨_, rfl, rfl, hFn.out⟩
  case rest =>
    obtain ⟨lb, rfl, rfl, la, lc, hlb, hlX, l0, l1, l2, l3, l4, l5, l6, hbc⟩ := hcut
    obtain ⟨y0, y1, y2, y3, y4, x0, x1⟩ := hBx.out _ hbc
    have rk := hK.out _ hbc
    have fk0 := frozen_of_row _ _ 0 _ _ rk
    have fk1 := frozen_of_row _ _ 1 _ _ rk
    have hbW := belT hb0 hbc
    have hne : ¬ lb = W.heap.size + 1 := by omega
    have hne2 : ¬ W.heap.size + 1 = lb := by omega
    generalize lnZ p x.num = l at *
    generalize lnOk p x.num = lok at *
    clear hln hln2 hq1 hbx1 D0 D1 hlt1 hwX hLX z0 z1 z2 z3 z4 s0 s1 s2 s3 s4 s5 s6 t0 t1 t2 t3 t4 v0 v1 v2 v3 v4 v5 v6 d0 d1 d2 d3 d4 d5 d6
    rw [ho.out] at y0
    go_wp2
    refine bodyPost_ret (v := .tuple #[.agg #[.int .i64 5, .int .i64 x.den], .bool true]) (results_cellK Tryz.results99 _ _ (W.heap.size + 1) 88 _ (0, 0) _ rfl (row_two rk _ _) Tryz.underlying88 rfl info_kd) rfl ?_
    exact ⟨rfl, bel_two hbW (by omega) _ _⟩
set_option maxRecDepth 20000 in
set_option maxHeartbeats 4000000 in
theorem lf_8 (p : Pk) (a3 a4 a5 a6 a7 : Option Addr) (c3 c4 c5 c6 c7 : Nat) (g : Int) (n wb : Nat) (x : Ex) (a : Option Addr) (c : Nat) (ho : x.op = 8) (W : World) (hw : WkAt W wb p a3 a4 a5 a6 a7 c3 c4 c5 c6 c7 g n) (hL : RowR eL W AnyB p.lns a6) : Calls Tryz.prog 99 #[.pointer (some ⟨wb, 0, none⟩), .agg #[.int .i64 x.op, .int .i64 x.num, .int .i64 x.den, .int .i64 x.mode, .slice a x.args.len c]] W (Lk (.tuple #[.agg #[.int .i64 (lfK p x).1.1, .int .i64 (lfK p x).1.2], .bool (lfK p x).2]) W) := by
  have hf : lfK p x = ((2, -1), true) := by unfold lfK; rw [ho]; rfl
  rw [hf]
  clear hf
  replace ho := Hid.mk ho
  obtain ⟨X, hXe⟩ : ∃ X, (W.alloc (.cells #[.int .i64 x.op, .int .i64 x.num, .int .i64 x.den, .int .i64 x.mode, .slice a x.args.len c] 59)).alloc (.cells #[.int .i64 0, .int .i64 0] 88) = X := ⟨_, rfl⟩
  have hb0 : Below W.heap.size W X := by rw [← hXe]; exact ((Below.refl _ _).alloc (Nat.le_refl _) _).alloc (by simp) _
  have hXl : W.heap.size + 1 < X.heap.size := by rw [← hXe]; simp
  have hBx : Hid (∀ w, Below X.heap.size X w → w.cell? ⟨W.heap.size, 0, none⟩ = some (.int .i64 x.op) ∧ w.cell? ⟨W.heap.size, 1, none⟩ = some (.int .i64 x.num) ∧ w.cell? ⟨W.heap.size, 2, none⟩ = some (.int .i64 x.den) ∧ w.cell? ⟨W.heap.size, 3, none⟩ = some (.int .i64 x.mode) ∧ w.cell? ⟨W.heap.size, 4, none⟩ = some (.slice a x.args.len c) ∧ w.cell? ⟨W.heap.size + 1, 0, none⟩ = some (.int .i64 0) ∧ w.cell? ⟨W.heap.size + 1, 1, none⟩ = some (.int .i64 0)) := ⟨fun w hw => ⟨(bel_cell hw (by omega) 0).trans (by rw [← hXe]; simp), (bel_cell hw (by omega) 1).trans (by rw [← hXe]; simp), (bel_cell hw (by omega) 2).trans (by rw [← hXe]; simp), (bel_cell hw (by omega) 3).trans (by rw [← hXe]; simp), (bel_cell hw (by omega) 4).trans (by rw [← hXe]; simp), (bel_cell hw hXl 0).trans (by rw [← hXe, show W.heap.size + 1 = (W.alloc (.cells #[.int .i64 x.op, .int .i64 x.num, .int .i64 x.den, .int .i64 x.mode, .slice a x.args.len c] 59)).heap.size by simp]; simp), (bel_cell hw hXl 1).trans (by rw [← hXe, show W.heap.size + 1 = (W.alloc (.cells #[.int .i64 x.op, .int .i64 x.num, .int .i64 x.den, .int .i64 x.mode, .slice a x.args.len c] 59)).heap.size by simp]; simp)⟩⟩
  obtain ⟨y0, y1, y2, y3, y4, x0, x1⟩ := hBx.out X (Below.refl _ _)
  have hK : Hid (∀ w, Below X.heap.size X w → w.heap[W.heap.size + 1]? = some (.cells #[.int .i64 0, .int .i64 0] 88 (0, 0))) := ⟨fun w hb => (hb.block _ hXl).trans (by rw [← hXe, show W.heap.size + 1 = (W.alloc (.cells #[.int .i64 x.op, .int .i64 x.num, .int .i64 x.den, .int .i64 x.mode, .slice a x.args.len c] 59)).heap.size by simp]; exact heap_alloc_new _ _)⟩
  have hwX := Hid.mk (fun w (hb : Below X.heap.size X w) => (hw.later hb0).later hb)
  have hLX := Hid.mk (fun w (hb : Below X.heap.size X w) => row_bel (row_bel hL hb0 (Nat.le_refl _)) hb (Nat.le_refl _))
  have D0 : Below X.heap.size X X.drew := (Below.refl _ _).drew
  have hln := line_any p a3 a4 a5 a6 a7 c3 c4 c5 c6 c7 x.num X.drew (hLX.out _ D0)
  obtain ⟨-, v0, v1, v2, v3, v4, v5, v6, -⟩ := hwX.out _ (Below.refl _ _)
  obtain ⟨-, d0, d1, d2, d3, d4, d5, d6, -⟩ := hwX.out _ D0
  obtain ⟨z0, z1, z2, z3, z4, -⟩ := hBx.out _ D0
  have D1 : Below X.heap.size X (X.alloc (.cells #[.string ⟨#[]⟩, .bool false, .bool false, .int .i64 0, .int .i64 0, .int .i64 0, .slice none 0 0] 55)).drew := ((Below.refl _ _).alloc (Nat.le_refl _) _).drew
  have hbx1 : Bx (X.alloc (.cells #[.string ⟨#[]⟩, .bool false, .bool false, .int .i64 0, .int .i64 0, .int .i64 0, .slice none 0 0] 55)).drew X.heap.size (#[.string ⟨#[]⟩, .bool false, .bool false, .int .i64 0, .int .i64 0, .int .i64 0, .slice none 0 0] : Array Value).toList := bx_new X _ _
  have hlt1 : X.heap.size < ((X.alloc (.cells #[.string ⟨#[]⟩, .bool false, .bool false, .int .i64 0, .int .i64 0, .int .i64 0, .slice none 0 0] 55)).drew).heap.size := by
    show X.heap.size < (X.alloc (.cells #[.string ⟨#[]⟩, .bool false, .bool false, .int .i64 0, .int .i64 0, .int .i64 0, .slice none 0 0] 55)).heap.size
    simp
  have hq1 : Hid (∀ w2, Below ((X.alloc (.cells #[.string ⟨#[]⟩, .bool false, .bool false, .int .i64 0, .int .i64 0, .int .i64 0, .slice none 0 0] 55)).drew).heap.size ((X.alloc (.cells #[.string ⟨#[]⟩, .bool false, .bool false, .int .i64 0, .int .i64 0, .int .i64 0, .slice none 0 0] 55)).drew) w2 → Bx w2 X.heap.size (#[.string ⟨#[]⟩, .bool false, .bool false, .int .i64 0, .int .i64 0, .int .i64 0, .slice none 0 0] : Array Value).toList ∧ w2.cell? ⟨X.heap.size, 0, none⟩ = some (.string ⟨#[]⟩) ∧ w2.cell? ⟨X.heap.size, 1, none⟩ = some (.bool false) ∧ w2.cell? ⟨X.heap.size, 2, none⟩ = some (.bool false) ∧ w2.cell? ⟨X.heap.size, 3, none⟩ = some (.int .i64 0) ∧ w2.cell? ⟨X.heap.size, 4, none⟩ = some (.int .i64 0) ∧ w2.cell? ⟨X.heap.size, 5, none⟩ = some (.int .i64 0) ∧ w2.cell? ⟨X.heap.size, 6, none⟩ = some (.slice none 0 0) ∧ ∀ j, w2.frozen? ⟨X.heap.size, j, none⟩ = false) := ⟨fun w2 hb2 => by
    have hx := bx_bel hbx1 hb2 hlt1
    exact ⟨hx, (hx.2.1 0 (by simp)).trans rfl, (hx.2.1 1 (by simp)).trans rfl, (hx.2.1 2 (by simp)).trans rfl, (hx.2.1 3 (by simp)).trans rfl, (hx.2.1 4 (by simp)).trans rfl, (hx.2.1 5 (by simp)).trans rfl, (hx.2.1 6 (by simp)).trans rfl, hx.2.2⟩⟩
  have hln2 := line_any p a3 a4 a5 a6 a7 c3 c4 c5 c6 c7 x.num (X.alloc (.cells #[.string ⟨#[]⟩, .bool false, .bool false, .int .i64 0, .int .i64 0, .int .i64 0, .slice none 0 0] 55)).drew (hLX.out _ D1)
  obtain ⟨-, s0, s1, s2, s3, s4, s5, s6, -⟩ := hwX.out _ D1
  obtain ⟨t0, t1, t2, t3, t4, -⟩ := hBx.out _ D1
  clear hw hL
  go_enter Tryz.func99, Tryz.ntmps99
  go_upto_region 1 with fail
  go_cut [6, 7] from 8 to 17 (fun x6 x7 wx => ∃ lb, x6 = .pointer (some ⟨lb, 0, none⟩) ∧ x7 = .bool (lnOk p x.num) ∧ LfP p x.num X lb wx)
  case first =>
    go_region_law (first | (go_simp; go_at_call 105; with_reducible refine hln.mono ?_; intro e w2 hp; obtain ⟨hb2, la, lc, rfl⟩ := line_z hp; have hB2 := belT D0 hb2; have hFn := Hid.mk (lf_new p x.num la lc hB2)) | (go_simp; go_at_call 105; with_reducible refine hln2.mono ?_; intro e w2 hp; obtain ⟨hb2, la, lc, rfl⟩ := line_z hp; have hB2 := belT D1 hb2; obtain ⟨hx2, q0, q1, q2, q3, q4, q5, q6, fr⟩ := hq1.out _ hb2; have fr0 := fr 0; have fr1 := fr 1; have fr2 := fr 2; have fr3 := fr 3; have fr4 := fr 4; have fr5 := fr 5; have fr6 := fr 6; have hFn := Hid.mk (lf_set p x.num la lc hx2 hB2)))
    all_goals (refine Met.intro ?_; go_step; go_meet)
    all_goals exact ⟨_, rfl, rfl, hFn.out⟩
  case rest =>
    obtain ⟨lb, rfl, rfl, la, lc, hlb, hlX, l0, l1, l2, l3, l4, l5, l6, hbc⟩ := hcut
    obtain ⟨y0, y1, y2, y3, y4, x0, x1⟩ := hBx.out _ hbc
    have rk := hK.out _ hbc
    have fk0 := frozen_of_row _ _ 0 _ _ rk
    have fk1 := frozen_of_row _ _ 1 _ _ rk
    have hbW := belT hb0 hbc
    have hne : ¬ lb = W.heap.size + 1 := by omega
    have hne2 : ¬ W.heap.size + 1 = lb := by omega
    generalize lnZ p x.num = l at *
    generalize lnOk p x.num = lok at *
    clear hln hln2 hq1 hbx1 D0 D1 hlt1 hwX hLX z0 z1 z2 z3 z4 s0 s1 s2 s3 s4 s5 s6 t0 t1 t2 t3 t4 v0 v1 v2 v3 v4 v5 v6 d0 d1 d2 d3 d4 d5 d6
    rw [ho.out] at y0
    go_wp2
    refine bodyPost_ret (v := .tuple #[.agg #[.int .i64 2, .int .i64 (-1)], .bool true]) (results_cellK Tryz.results99 _ _ (W.heap.size + 1) 88 _ (0, 0) _ rfl (row_two rk _ _) Tryz.underlying88 rfl info_kd) rfl ?_
    exact ⟨rfl, bel_two hbW (by omega) _ _⟩
end Go.Proofs.YtmklkcefbabhbaaGreat.R6

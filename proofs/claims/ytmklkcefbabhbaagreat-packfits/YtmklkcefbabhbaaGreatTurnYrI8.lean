import Derived.Test.YtmklkcefbabhbaaGreatJoin28
/- Step 3. -/
namespace Go.Proofs.YtmklkcefbabhbaaGreat.R6
open Go.RowKit

set_option maxRecDepth 20000 in
set_option maxHeartbeats 1000000 in
theorem th_8 (p : Pk) (a3 a4 a5 a6 a7 : Option Addr) (c3 c4 c5 c6 c7 : Nat) (g : Int) (n wb : Nat) (x : Ex) (a : Option Addr) (c : Nat) (ho : x.op = 8) (W : World) (hw : WkAt W wb p a3 a4 a5 a6 a7 c3 c4 c5 c6 c7 g n) (hL : RowR eL W AnyB p.lns a6) (hO : RowR eO W AnyB p.opts a3) : Calls Tryz.prog 98 #[.pointer (some ⟨wb, 0, none⟩), .agg #[.int .i64 x.op, .int .i64 x.num, .int .i64 x.den, .int .i64 x.mode, .slice a x.args.len c]] W (Lk (.bool (thB p g x)) W) := by
  have hE1 : Below W.heap.size W (W.alloc (.cells #[.int .i64 x.op, .int .i64 x.num, .int .i64 x.den, .int .i64 x.mode, .slice a x.args.len c] 59)) := (Below.refl _ _).alloc (Nat.le_refl _) _
  obtain ⟨-, v0, v1, v2, v3, v4, v5, v6, -⟩ := hw.later hE1
  obtain ⟨X, hXe⟩ : ∃ X, (W.alloc (.cells #[.int .i64 x.op, .int .i64 x.num, .int .i64 x.den, .int .i64 x.mode, .slice a x.args.len c] 59)).alloc (.cells #[.string ⟨p.name.toArray⟩, .int .i64 p.year, .slice a3 p.opts.length c3, .slice a4 p.tabs.length c4, .slice a5 p.grps.length c5, .slice a6 p.lns.length c6, .slice a7 p.cks.length c7] 28) = X := ⟨_, rfl⟩
  have hb0 : Below W.heap.size W X := by rw [← hXe]; exact ((Below.refl _ _).alloc (Nat.le_refl _) _).alloc (by simp) _
  have hXl : W.heap.size + 1 < X.heap.size := by rw [← hXe]; simp
  have hBx : Hid (∀ w, Below X.heap.size X w → w.cell? ⟨W.heap.size, 0, none⟩ = some (.int .i64 x.op) ∧ w.cell? ⟨W.heap.size, 1, none⟩ = some (.int .i64 x.num) ∧ w.cell? ⟨W.heap.size, 2, none⟩ = some (.int .i64 x.den) ∧ w.cell? ⟨W.heap.size, 3, none⟩ = some (.int .i64 x.mode) ∧ w.cell? ⟨W.heap.size, 4, none⟩ = some (.slice a x.args.len c) ∧ w.cell? ⟨W.heap.size + 1, 0, none⟩ = some (.string ⟨p.name.toArray⟩) ∧ w.cell? ⟨W.heap.size + 1, 1, none⟩ = some (.int .i64 p.year) ∧ w.cell? ⟨W.heap.size + 1, 2, none⟩ = some (.slice a3 p.opts.length c3) ∧ w.cell? ⟨W.heap.size + 1, 3, none⟩ = some (.slice a4 p.tabs.length c4) ∧ w.cell? ⟨W.heap.size + 1, 4, none⟩ = some (.slice a5 p.grps.length c5) ∧ w.cell? ⟨W.heap.size + 1, 5, none⟩ = some (.slice a6 p.lns.length c6) ∧ w.cell? ⟨W.heap.size + 1, 6, none⟩ = some (.slice a7 p.cks.length c7)) := ⟨fun w hw => ⟨(bel_cell hw (by omega) 0).trans (by rw [← hXe]; simp), (bel_cell hw (by omega) 1).trans (by rw [← hXe]; simp), (bel_cell hw (by omega) 2).trans (by rw [← hXe]; simp), (bel_cell hw (by omega) 3).trans (by rw [← hXe]; simp), (bel_cell hw (by omega) 4).trans (by rw [← hXe]; simp), (bel_cell hw hXl 0).trans (by rw [← hXe, show W.heap.size + 1 = (W.alloc (.cells #[.int .i64 x.op, .int .i64 x.num, .int .i64 x.den, .int .i64 x.mode, .slice a x.args.len c] 59)).heap.size by simp]; simp), (bel_cell hw hXl 1).trans (by rw [← hXe, show W.heap.size + 1 = (W.alloc (.cells #[.int .i64 x.op, .int .i64 x.num, .int .i64 x.den, .int .i64 x.mode, .slice a x.args.len c] 59)).heap.size by simp]; simp), (bel_cell hw hXl 2).trans (by rw [← hXe, show W.heap.size + 1 = (W.alloc (.cells #[.int .i64 x.op, .int .i64 x.num, .int .i64 x.den, .int .i64 x.mode, .slice a x.args.len c] 59)).heap.size by simp]; simp), (bel_cell hw hXl 3).trans (by rw [← hXe, show W.heap.size + 1 = (W.alloc (.cells #[.int .i64 x.op, .int .i64 x.num, .int .i64 x.den, .int .i64 x.mode, .slice a x.args.len c] 59)).heap.size by simp]; simp), (bel_cell hw hXl 4).trans (by rw [← hXe, show W.heap.size + 1 = (W.alloc (.cells #[.int .i64 x.op, .int .i64 x.num, .int .i64 x.den, .int .i64 x.mode, .slice a x.args.len c] 59)).heap.size by simp]; simp), (bel_cell hw hXl 5).trans (by rw [← hXe, show W.heap.size + 1 = (W.alloc (.cells #[.int .i64 x.op, .int .i64 x.num, .int .i64 x.den, .int .i64 x.mode, .slice a x.args.len c] 59)).heap.size by simp]; simp), (bel_cell hw hXl 6).trans (by rw [← hXe, show W.heap.size + 1 = (W.alloc (.cells #[.int .i64 x.op, .int .i64 x.num, .int .i64 x.den, .int .i64 x.mode, .slice a x.args.len c] 59)).heap.size by simp]; simp)⟩⟩
  obtain ⟨y0, y1, y2, y3, y4, x0, x1, x2, x3, x4, x5, x6⟩ := hBx.out X (Below.refl _ _)
  have hwX := Hid.mk (fun w (hb : Below X.heap.size X w) => (hw.later hb0).later hb)
  have hLX := Hid.mk (fun w (hb : Below X.heap.size X w) => row_bel (row_bel hL hb0 (Nat.le_refl _)) hb (Nat.le_refl _))
  have hOX := row_bel hO hb0 (Nat.le_refl _)
  clear hw hL hO
  obtain ⟨R, hR⟩ : ∃ R, thB p g x = R := ⟨_, rfl⟩
  rw [hR]
  unfold thB at hR
  obtain ⟨op, hop⟩ : ∃ op, x.op = op := ⟨_, rfl⟩
  rw [hop] at hR hXe y0 v0 v1 v2 v3 v4 v5 v6 ⊢
  replace hBx : Hid (∀ w, Below X.heap.size X w → w.cell? ⟨W.heap.size, 0, none⟩ = some (.int .i64 op) ∧ w.cell? ⟨W.heap.size, 1, none⟩ = some (.int .i64 x.num) ∧ w.cell? ⟨W.heap.size, 2, none⟩ = some (.int .i64 x.den) ∧ w.cell? ⟨W.heap.size, 3, none⟩ = some (.int .i64 x.mode) ∧ w.cell? ⟨W.heap.size, 4, none⟩ = some (.slice a x.args.len c) ∧ w.cell? ⟨W.heap.size + 1, 0, none⟩ = some (.string ⟨p.name.toArray⟩) ∧ w.cell? ⟨W.heap.size + 1, 1, none⟩ = some (.int .i64 p.year) ∧ w.cell? ⟨W.heap.size + 1, 2, none⟩ = some (.slice a3 p.opts.length c3) ∧ w.cell? ⟨W.heap.size + 1, 3, none⟩ = some (.slice a4 p.tabs.length c4) ∧ w.cell? ⟨W.heap.size + 1, 4, none⟩ = some (.slice a5 p.grps.length c5) ∧ w.cell? ⟨W.heap.size + 1, 5, none⟩ = some (.slice a6 p.lns.length c6) ∧ w.cell? ⟨W.heap.size + 1, 6, none⟩ = some (.slice a7 p.cks.length c7)) := ⟨fun w hw => by have := hBx.out w hw; rw [hop] at this; exact this⟩
  clear hE1
  obtain rfl : op = 8 := hop.symm.trans ho
  clear hop ho
  rw [if_neg (by decide)] at hR
  rw [if_neg (by decide)] at hR
  rw [if_neg (by decide)] at hR
  rw [if_pos rfl] at hR
  by_cases d0 : x.num < 0
  · have u0 : ¬ (0 : Int) ≤ x.num := by omega
    obtain rfl : R = false := by rw [← hR, decide_eq_false u0, Bool.false_and]
    clear hR hwX hLX hOX
    go_enter Tryz.func98, Tryz.ntmps98
    go_wp2
    go_ret
    exact ⟨rfl, hb0⟩
  have u0 : (0 : Int) ≤ x.num := by omega
  by_cases d1 : x.num < (p.grps.length : Int)
  · obtain rfl : R = true := by rw [← hR, decide_eq_true u0, decide_eq_true d1]; rfl
    clear hR hwX hLX hOX
    go_enter Tryz.func98, Tryz.ntmps98
    go_wp2
    go_ret
    exact ⟨rfl, hb0⟩
  · obtain rfl : R = false := by rw [← hR, decide_eq_false d1, Bool.and_false]
    clear hR hwX hLX hOX
    go_enter Tryz.func98, Tryz.ntmps98
    go_wp2
    go_ret
    exact ⟨rfl, hb0⟩
set_option maxRecDepth 20000 in
set_option maxHeartbeats 1000000 in
theorem th_24 (p : Pk) (a3 a4 a5 a6 a7 : Option Addr) (c3 c4 c5 c6 c7 : Nat) (g : Int) (n wb : Nat) (x : Ex) (a : Option Addr) (c : Nat) (ho : x.op = 24) (W : World) (hw : WkAt W wb p a3 a4 a5 a6 a7 c3 c4 c5 c6 c7 g n) (hL : RowR eL W AnyB p.lns a6) (hO : RowR eO W AnyB p.opts a3) : Calls Tryz.prog 98 #[.pointer (some ⟨wb, 0, none⟩), .agg #[.int .i64 x.op, .int .i64 x.num, .int .i64 x.den, .int .i64 x.mode, .slice a x.args.len c]] W (Lk (.bool (thB p g x)) W) := by
  have hE1 : Below W.heap.size W (W.alloc (.cells #[.int .i64 x.op, .int .i64 x.num, .int .i64 x.den, .int .i64 x.mode, .slice a x.args.len c] 59)) := (Below.refl _ _).alloc (Nat.le_refl _) _
  obtain ⟨-, v0, v1, v2, v3, v4, v5, v6, -⟩ := hw.later hE1
  obtain ⟨X, hXe⟩ : ∃ X, (W.alloc (.cells #[.int .i64 x.op, .int .i64 x.num, .int .i64 x.den, .int .i64 x.mode, .slice a x.args.len c] 59)).alloc (.cells #[.string ⟨p.name.toArray⟩, .int .i64 p.year, .slice a3 p.opts.length c3, .slice a4 p.tabs.length c4, .slice a5 p.grps.length c5, .slice a6 p.lns.length c6, .slice a7 p.cks.length c7] 28) = X := ⟨_, rfl⟩
  have hb0 : Below W.heap.size W X := by rw [← hXe]; exact ((Below.refl _ _).alloc (Nat.le_refl _) _).alloc (by simp) _
  have hXl : W.heap.size + 1 < X.heap.size := by rw [← hXe]; simp
  have hBx : Hid (∀ w, Below X.heap.size X w → w.cell? ⟨W.heap.size, 0, none⟩ = some (.int .i64 x.op) ∧ w.cell? ⟨W.heap.size, 1, none⟩ = some (.int .i64 x.num) ∧ w.cell? ⟨W.heap.size, 2, none⟩ = some (.int .i64 x.den) ∧ w.cell? ⟨W.heap.size, 3, none⟩ = some (.int .i64 x.mode) ∧ w.cell? ⟨W.heap.size, 4, none⟩ = some (.slice a x.args.len c) ∧ w.cell? ⟨W.heap.size + 1, 0, none⟩ = some (.string ⟨p.name.toArray⟩) ∧ w.cell? ⟨W.heap.size + 1, 1, none⟩ = some (.int .i64 p.year) ∧ w.cell? ⟨W.heap.size + 1, 2, none⟩ = some (.slice a3 p.opts.length c3) ∧ w.cell? ⟨W.heap.size + 1, 3, none⟩ = some (.slice a4 p.tabs.length c4) ∧ w.cell? ⟨W.heap.size + 1, 4, none⟩ = some (.slice a5 p.grps.length c5) ∧ w.cell? ⟨W.heap.size + 1, 5, none⟩ = some (.slice a6 p.lns.length c6) ∧ w.cell? ⟨W.heap.size + 1, 6, none⟩ = some (.slice a7 p.cks.length c7)) := ⟨fun w hw => ⟨(bel_cell hw (by omega) 0).trans (by rw [← hXe]; simp), (bel_cell hw (by omega) 1).trans (by rw [← hXe]; simp), (bel_cell hw (by omega) 2).trans (by rw [← hXe]; simp), (bel_cell hw (by omega) 3).trans (by rw [← hXe]; simp), (bel_cell hw (by omega) 4).trans (by rw [← hXe]; simp), (bel_cell hw hXl 0).trans (by rw [← hXe, show W.heap.size + 1 = (W.alloc (.cells #[.int .i64 x.op, .int .i64 x.num, .int .i64 x.den, .int .i64 x.mode, .slice a x.args.len c] 59)).heap.size by simp]; simp), (bel_cell hw hXl 1).trans (by rw [← hXe, show W.heap.size + 1 = (W.alloc (.cells #[.int .i64 x.op, .int .i64 x.num, .int .i64 x.den, .int .i64 x.mode, .slice a x.args.len c] 59)).heap.size by simp]; simp), (bel_cell hw hXl 2).trans (by rw [← hXe, show W.heap.size + 1 = (W.alloc (.cells #[.int .i64 x.op, .int .i64 x.num, .int .i64 x.den, .int .i64 x.mode, .slice a x.args.len c] 59)).heap.size by simp]; simp), (bel_cell hw hXl 3).trans (by rw [← hXe, show W.heap.size + 1 = (W.alloc (.cells #[.int .i64 x.op, .int .i64 x.num, .int .i64 x.den, .int .i64 x.mode, .slice a x.args.len c] 59)).heap.size by simp]; simp), (bel_cell hw hXl 4).trans (by rw [← hXe, show W.heap.size + 1 = (W.alloc (.cells #[.int .i64 x.op, .int .i64 x.num, .int .i64 x.den, .int .i64 x.mode, .slice a x.args.len c] 59)).heap.size by simp]; simp), (bel_cell hw hXl 5).trans (by rw [← hXe, show W.heap.size + 1 = (W.alloc (.cells #[.int .i64 x.op, .int .i64 x.num, .int .i64 x.den, .int .i64 x.mode, .slice a x.args.len c] 59)).heap.size by simp]; simp), (bel_cell hw hXl 6).trans (by rw [← hXe, show W.heap.size + 1 = (W.alloc (.cells #[.int .i64 x.op, .int .i64 x.num, .int .i64 x.den, .int .i64 x.mode, .slice a x.args.len c] 59)).heap.size by simp]; simp)⟩⟩
  obtain ⟨y0, y1, y2, y3, y4, x0, x1, x2, x3, x4, x5, x6⟩ := hBx.out X (Below.refl _ _)
  have hwX := Hid.mk (fun w (hb : Below X.heap.size X w) => (hw.later hb0).later hb)
  have hLX := Hid.mk (fun w (hb : Below X.heap.size X w) => row_bel (row_bel hL hb0 (Nat.le_refl _)) hb (Nat.le_refl _))
  have hOX := row_bel hO hb0 (Nat.le_refl _)
  clear hw hL hO
  obtain ⟨R, hR⟩ : ∃ R, thB p g x = R := ⟨_, rfl⟩
  rw [hR]
  unfold thB at hR
  obtain ⟨op, hop⟩ : ∃ op, x.op = op := ⟨_, rfl⟩
  rw [hop] at hR hXe y0 v0 v1 v2 v3 v4 v5 v6 ⊢
  replace hBx : Hid (∀ w, Below X.heap.size X w → w.cell? ⟨W.heap.size, 0, none⟩ = some (.int .i64 op) ∧ w.cell? ⟨W.heap.size, 1, none⟩ = some (.int .i64 x.num) ∧ w.cell? ⟨W.heap.size, 2, none⟩ = some (.int .i64 x.den) ∧ w.cell? ⟨W.heap.size, 3, none⟩ = some (.int .i64 x.mode) ∧ w.cell? ⟨W.heap.size, 4, none⟩ = some (.slice a x.args.len c) ∧ w.cell? ⟨W.heap.size + 1, 0, none⟩ = some (.string ⟨p.name.toArray⟩) ∧ w.cell? ⟨W.heap.size + 1, 1, none⟩ = some (.int .i64 p.year) ∧ w.cell? ⟨W.heap.size + 1, 2, none⟩ = some (.slice a3 p.opts.length c3) ∧ w.cell? ⟨W.heap.size + 1, 3, none⟩ = some (.slice a4 p.tabs.length c4) ∧ w.cell? ⟨W.heap.size + 1, 4, none⟩ = some (.slice a5 p.grps.length c5) ∧ w.cell? ⟨W.heap.size + 1, 5, none⟩ = some (.slice a6 p.lns.length c6) ∧ w.cell? ⟨W.heap.size + 1, 6, none⟩ = some (.slice a7 p.cks.length c7)) := ⟨fun w hw => by have := hBx.out w hw; rw [hop] at this; exact this⟩
  clear hE1
  obtain rfl : op = 24 := hop.symm.trans ho
  clear hop ho
  rw [if_neg (by decide)] at hR
  rw [if_neg (by decide)] at hR
  rw [if_neg (by decide)] at hR
  rw [if_neg (by decide)] at hR
  rw [if_pos rfl] at hR
  by_cases d0 : x.num < 0
  · have u0 : ¬ (0 : Int) ≤ x.num := by omega
    obtain rfl : R = false := by rw [← hR, decide_eq_false u0, Bool.false_and]
    clear hR hwX hLX hOX
    go_enter Tryz.func98, Tryz.ntmps98
    go_wp2
    go_ret
    exact ⟨rfl, hb0⟩
  have u0 : (0 : Int) ≤ x.num := by omega
  by_cases d1 : x.num < (p.tabs.length : Int)
  · obtain rfl : R = true := by rw [← hR, decide_eq_true u0, decide_eq_true d1]; rfl
    clear hR hwX hLX hOX
    go_enter Tryz.func98, Tryz.ntmps98
    go_wp2
    go_ret
    exact ⟨rfl, hb0⟩
  · obtain rfl : R = false := by rw [← hR, decide_eq_false d1, Bool.and_false]
    clear hR hwX hLX hOX
    go_enter Tryz.func98, Tryz.ntmps98
    go_wp2
    go_ret
    exact ⟨rfl, hb0⟩
set_option maxRecDepth 20000 in
set_option maxHeartbeats 1000000 in
theorem th_x (p : Pk) (a3 a4 a5 a6 a7 : Option Addr) (c3 c4 c5 c6 c7 : Nat) (g : Int) (n wb : Nat) (x : Ex) (a : Option Addr) (c : Nat) (o5 : ¬ x.op = 5) (o6 : ¬ x.op = 6) (o7 : ¬ x.op = 7) (o9 : ¬ x.op = 9) (o10 : ¬ x.op = 10) (o11 : ¬ x.op = 11) (o12 : ¬ x.op = 12) (o8 : ¬ x.op = 8) (o24 : ¬ x.op = 24) (W : World) (hw : WkAt W wb p a3 a4 a5 a6 a7 c3 c4 c5 c6 c7 g n) (hL : RowR eL W AnyB p.lns a6) (hO : RowR eO W AnyB p.opts a3) : Calls Tryz.prog 98 #[.pointer (some ⟨wb, 0, none⟩), .agg #[.int .i64 x.op, .int .i64 x.num, .int .i64 x.den, .int .i64 x.mode, .slice a x.args.len c]] W (Lk (.bool (thB p g x)) W) := by
  have hE1 : Below W.heap.size W (W.alloc (.cells #[.int .i64 x.op, .int .i64 x.num, .int .i64 x.den, .int .i64 x.mode, .slice a x.args.len c] 59)) := (Below.refl _ _).alloc (Nat.le_refl _) _
  obtain ⟨-, v0, v1, v2, v3, v4, v5, v6, -⟩ := hw.later hE1
  obtain ⟨X, hXe⟩ : ∃ X, (W.alloc (.cells #[.int .i64 x.op, .int .i64 x.num, .int .i64 x.den, .int .i64 x.mode, .slice a x.args.len c] 59)).alloc (.cells #[.string ⟨p.name.toArray⟩, .int .i64 p.year, .slice a3 p.opts.length c3, .slice a4 p.tabs.length c4, .slice a5 p.grps.length c5, .slice a6 p.lns.length c6, .slice a7 p.cks.length c7] 28) = X := ⟨_, rfl⟩
  have hb0 : Below W.heap.size W X := by rw [← hXe]; exact ((Below.refl _ _).alloc (Nat.le_refl _) _).alloc (by simp) _
  have hXl : W.heap.size + 1 < X.heap.size := by rw [← hXe]; simp
  have hBx : Hid (∀ w, Below X.heap.size X w → w.cell? ⟨W.heap.size, 0, none⟩ = some (.int .i64 x.op) ∧ w.cell? ⟨W.heap.size, 1, none⟩ = some (.int .i64 x.num) ∧ w.cell? ⟨W.heap.size, 2, none⟩ = some (.int .i64 x.den) ∧ w.cell? ⟨W.heap.size, 3, none⟩ = some (.int .i64 x.mode) ∧ w.cell? ⟨W.heap.size, 4, none⟩ = some (.slice a x.args.len c) ∧ w.cell? ⟨W.heap.size + 1, 0, none⟩ = some (.string ⟨p.name.toArray⟩) ∧ w.cell? ⟨W.heap.size + 1, 1, none⟩ = some (.int .i64 p.year) ∧ w.cell? ⟨W.heap.size + 1, 2, none⟩ = some (.slice a3 p.opts.length c3) ∧ w.cell? ⟨W.heap.size + 1, 3, none⟩ = some (.slice a4 p.tabs.length c4) ∧ w.cell? ⟨W.heap.size + 1, 4, none⟩ = some (.slice a5 p.grps.length c5) ∧ w.cell? ⟨W.heap.size + 1, 5, none⟩ = some (.slice a6 p.lns.length c6) ∧ w.cell? ⟨W.heap.size + 1, 6, none⟩ = some (.slice a7 p.cks.length c7)) := ⟨fun w hw => ⟨(bel_cell hw (by omega) 0).trans (by rw [← hXe]; simp), (bel_cell hw (by omega) 1).trans (by rw [← hXe]; simp), (bel_cell hw (by omega) 2).trans (by rw [← hXe]; simp), (bel_cell hw (by omega) 3).trans (by rw [← hXe]; simp), (bel_cell hw (by omega) 4).trans (by rw [← hXe]; simp), (bel_cell hw hXl 0).trans (by rw [← hXe, show W.heap.size + 1 = (W.alloc (.cells #[.int .i64 x.op, .int .i64 x.num, .int .i64 x.den, .int .i64 x.mode, .slice a x.args.len c] 59)).heap.size by simp]; simp), (bel_cell hw hXl 1).trans (by rw [← hXe, show W.heap.size + 1 = (W.alloc (.cells #[.int .i64 x.op, .int .i64 x.num, .int .i64 x.den, .int .i64 x.mode, .slice a x.args.len c] 59)).heap.size by simp]; simp), (bel_cell hw hXl 2).trans (by rw [← hXe, show W.heap.size + 1 = (W.alloc (.cells #[.int .i64 x.op, .int .i64 x.num, .int .i64 x.den, .int .i64 x.mode, .slice a x.args.len c] 59)).heap.size by simp]; simp), (bel_cell hw hXl 3).trans (by rw [← hXe, show W.heap.size + 1 = (W.alloc (.cells #[.int .i64 x.op, .int .i64 x.num, .int .i64 x.den, .int .i64 x.mode, .slice a x.args.len c] 59)).heap.size by simp]; simp), (bel_cell hw hXl 4).trans (by rw [← hXe, show W.heap.size + 1 = (W.alloc (.cells #[.int .i64 x.op, .int .i64 x.num, .int .i64 x.den, .int .i64 x.mode, .slice a x.args.len c] 59)).heap.size by simp]; simp), (bel_cell hw hXl 5).trans (by rw [← hXe, show W.heap.size + 1 = (W.alloc (.cells #[.int .i64 x.op, .int .i64 x.num, .int .i64 x.den, .int .i64 x.mode, .slice a x.args.len c] 59)).heap.size by simp]; simp), (bel_cell hw hXl 6).trans (by rw [← hXe, show W.heap.size + 1 = (W.alloc (.cells #[.int .i64 x.op, .int .i64 x.num, .int .i64 x.den, .int .i64 x.mode, .slice a x.args.len c] 59)).heap.size by simp]; simp)⟩⟩
  obtain ⟨y0, y1, y2, y3, y4, x0, x1, x2, x3, x4, x5, x6⟩ := hBx.out X (Below.refl _ _)
  have hwX := Hid.mk (fun w (hb : Below X.heap.size X w) => (hw.later hb0).later hb)
  have hLX := Hid.mk (fun w (hb : Below X.heap.size X w) => row_bel (row_bel hL hb0 (Nat.le_refl _)) hb (Nat.le_refl _))
  have hOX := row_bel hO hb0 (Nat.le_refl _)
  clear hw hL hO
  obtain ⟨R, hR⟩ : ∃ R, thB p g x = R := ⟨_, rfl⟩
  rw [hR]
  unfold thB at hR
  obtain ⟨op, hop⟩ : ∃ op, x.op = op := ⟨_, rfl⟩
  rw [hop] at hR hXe y0 v0 v1 v2 v3 v4 v5 v6 ⊢
  replace hBx : Hid (∀ w, Below X.heap.size X w → w.cell? ⟨W.heap.size, 0, none⟩ = some (.int .i64 op) ∧ w.cell? ⟨W.heap.size, 1, none⟩ = some (.int .i64 x.num) ∧ w.cell? ⟨W.heap.size, 2, none⟩ = some (.int .i64 x.den) ∧ w.cell? ⟨W.heap.size, 3, none⟩ = some (.int .i64 x.mode) ∧ w.cell? ⟨W.heap.size, 4, none⟩ = some (.slice a x.args.len c) ∧ w.cell? ⟨W.heap.size + 1, 0, none⟩ = some (.string ⟨p.name.toArray⟩) ∧ w.cell? ⟨W.heap.size + 1, 1, none⟩ = some (.int .i64 p.year) ∧ w.cell? ⟨W.heap.size + 1, 2, none⟩ = some (.slice a3 p.opts.length c3) ∧ w.cell? ⟨W.heap.size + 1, 3, none⟩ = some (.slice a4 p.tabs.length c4) ∧ w.cell? ⟨W.heap.size + 1, 4, none⟩ = some (.slice a5 p.grps.length c5) ∧ w.cell? ⟨W.heap.size + 1, 5, none⟩ = some (.slice a6 p.lns.length c6) ∧ w.cell? ⟨W.heap.size + 1, 6, none⟩ = some (.slice a7 p.cks.length c7)) := ⟨fun w hw => by have := hBx.out w hw; rw [hop] at this; exact this⟩
  clear hE1
  rw [hop] at o5 o6 o7 o9 o10 o11 o12 o8 o24
  clear hop
  have e5 : (op == 5) = false := by simp; omega
  have e6 : (op == 6) = false := by simp; omega
  have e7 : (op == 7) = false := by simp; omega
  have e9 : (op == 9) = false := by simp; omega
  have e10 : (op == 10) = false := by simp; omega
  have e11 : (op == 11) = false := by simp; omega
  have e12 : (op == 12) = false := by simp; omega
  have e8 : (op == 8) = false := by simp; omega
  have e24 : (op == 24) = false := by simp; omega
  obtain rfl : R = true := by rw [← hR, if_neg (by omega), if_neg (by omega), if_neg (by omega), if_neg (by omega), if_neg (by omega)]
  clear hR hwX hLX hOX o5 o6 o7 o8 o9 o10 o11 o12 o24
  go_enter Tryz.func98, Tryz.ntmps98
  go_wp2
  go_ret
  exact ⟨rfl, hb0⟩
end Go.Proofs.YtmklkcefbabhbaaGreat.R6

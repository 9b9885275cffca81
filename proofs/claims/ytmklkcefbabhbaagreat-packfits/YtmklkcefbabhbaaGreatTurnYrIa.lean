import Derived.Test.YtmklkcefbabhbaaGreatJoin28
/- Step 3. -/
namespace Go.Proofs.YtmklkcefbabhbaaGreat.R6
open Go.RowKit

set_option maxRecDepth 20000 in
set_option maxHeartbeats 1000000 in
theorem th_10 (p : Pk) (a3 a4 a5 a6 a7 : Option Addr) (c3 c4 c5 c6 c7 : Nat) (g : Int) (n wb : Nat) (x : Ex) (a : Option Addr) (c : Nat) (ho : x.op = 10) (W : World) (hw : WkAt W wb p a3 a4 a5 a6 a7 c3 c4 c5 c6 c7 g n) (hL : RowR eL W AnyB p.lns a6) (hO : RowR eO W AnyB p.opts a3) : Calls Tryz.prog 98 #[.pointer (some ⟨wb, 0, none⟩), .agg #[.int .i64 x.op, .int .i64 x.num, .int .i64 x.den, .int .i64 x.mode, .slice a x.args.len c]] W (Lk (.bool (thB p g x)) W) := by
  have hE1 : Below W.heap.size W (W.alloc (.cells #[.int .i64 x.op, .int .i64 x.num, .int .i64 x.den, .int .i64 x.mode, .slice a x.args.len c] 59)) := (Below.refl _ _).alloc (Nat.le_refl _) _
  obtain ⟨-, v0, v1, v2, v3, v4, v5, v6, -⟩ := hw.later hE1
  obtain ⟨X, hXe⟩ : ∃ X, (W.alloc (.cells #[.int .i64 x.op, .int .i64 x.num, .int .i64 x.den, .int .i64 x.mode, .slice a x.args.len c] 59)).alloc (.cells #[.string ⟨p.name.toArray⟩, .int .i64 p.year, .slice a3 p.opts.length c3, .slice a4 p.tabs.length c4, .slice a5 p.grps.length c5, .slice a6 p.lns.length c6, .slice a7 p.cks.length c7] 28) = X := ⟨_, rfl⟩
  have hb0 : Below W.heap.size W X := by rw [← hXe]; exact ((Below.refl _ _).alloc (Nat.le_refl _) _).alloc (by simp) _
  have hXl : W.heap.size + 1 < X.heap.size := by rw [← hXe]; simp
  have hBx : Hid (∀ w, Below X.heap.size X w → w.cell? ⟨W.heap.size, 0, none⟩ = some (.int .i64 x.op) ∧ w.cell? ⟨W.heap.size, 1, none⟩ = some (.int .i64 x.num) ∧ w.cell? ⟨W.heap.size, 2, none⟩ = some (.int .i64 x.den) ∧ w.cell? ⟨W.heap.size, 3, none⟩ = some (.int .i64 x.mode) ∧ w.cell? ⟨W.heap.size, 4, none⟩ = some (.slice a x.args.len c) ∧ w.cell? ⟨W.heap.size + 1, 0, none⟩ = some (.string ⟨p.name.toArray⟩) ∧ w.cell? ⟨W.heap.size + 1, 1, none⟩ = some (.int .i64 p.year) ∧ w.cell? ⟨W.heap.size + 1, 2, none⟩ = some (.slice a3 p.opts.length c3) ∧ w.cell? ⟨W.heap.size + 1, 3, none⟩ = some (.slice a4 p.tabs.length c4) ∧ w.cell? ⟨W.heap.size + 1, 4, none⟩ = some (.slice a5 p.grps.length c5) ∧ w.cell? ⟨W.heap.size + 1, 5, none⟩ = some (.slice a6 p.lns.length c6) ∧ w.cell? ⟨W.heap.size + 1, 6, none⟩ = some (.slice a7 p.cks.length c7)) := ⟨fun w hw => ⟨(bel_cell hw (by omega) 0).trans (by rw [← hXe]; simp), (bel_cell hw (by omega) 1).trans (by rw [← hXe]; simp), (bel_cell hw (by omega) 2).trans (by rw [← hXe]; simp), (bel_cell hw (by omega) 3).trans (by rw [← hXe]; simp), (bel_cell hw (by omega) 4).trans (by rw [← hXe]; simp), (bel_cell hw hXl 0).trans (by rw [← hXe, show W.heap.size + 1 = (W.alloc (.cells #[.int .i64 x.op, .int .i64 x.num, .int .i64 x.den, .int .i64 x.mode, .slice a x.args.len c] 59)).heap.size by simp]; simp), (bel_cell hw hXl 1).trans (by rw [← hXe, show W.heap.size + 1 = (W.alloc (.cells #[.int .i64 x.op, .int .i64 x.num, .int .i64 x.den, .int .i64 x.mode, .slice a x.args.len c] 59)).heap.size by simp]; simp), (bel_cell hw hXl 2).trans (by rw [← hXe, show W.heap.size + 1 = (W.alloc (.cells #[.int .i64 x.op, .int .i64 x.num, .int .i64 x.den, .int .i64 x.mode, .slice a x.args.len c] 59)).heap.size by simp]; simp), (bel_cell hw hXl 3).trans (by rw [← hXe, show W.heap.size + 1 = (W.alloc (.cells #[.int .i64 x.op, .int .i64 x.num, .int .i64 x.den, .int .i64 x.mode, .slice a x.args.len c] 59)).heap.size by simp]; simp), (bel_cell hw hXl 4).trans (by rw [← hXe, show W.heap.size + 1 = (W.alloc (.cells #[.int .i64 x.op, .int .i64 x.num, .int .i64 x.den, .int .i64 x.mode, .slice a x.args.len c] 59)).heap.size by simp]; simp), (bel_cell hw hXl 5).trans (by rw [← hXe, show W.heap.size + 1 = (W.alloc (.cells #[.int .i64 x.op, .int .i64 x.num, .int .i64 x.den, .int .i64 x.mode, .slice a x.args.len c] 59)).heap.size by simp]; simp), (bel_cell hw hXl 6).trans (by rw [← hXe, show W.heap.size + 1 = (W.alloc (.cells #[.int .i64 x.op, .int .i64 x.num, .int .i64 x.den, .int .i64 x.mode, .slice a x.args.len c] 59)).heap.size by simp]; simp)⟩⟩
  obtain ⟨y0, y1, y2, y3, y4, x0, x1, x2, x3, x4, x5, x6⟩ := hBx.out X (Below.refl _ _)
  have hwX := Hid.mk (fun w (hb : Below X.heap.size X w) => (hw.later hb0).later hb)
  have hLX := Hid.mk (fun w (hb : Below X.heap.size X w) => row_bel (row_bel hL hb0 (Nat.le_refl _)) hb (Nat.le_refl _))
  have hOX := row_bel hO hb0 (Nat.le_refl _)
  clear hw hL hO
  obtain ⟨R, hR⟩ : ∃ R, thB p g x = R := ⟨_, rfl⟩
  rw [hR]
  unfold thB at hR
  obtain ⟨op, hop⟩ : ∃ op, x.op = op := ⟨_, rfl⟩
  rw [hop] at hR hXe y0 v0 v1 v2 v3 v4 v5 v6 ⊢
  replace hBx : Hid (∀ w, Below X.heap.size X w → w.cell? ⟨W.heap.size, 0, none⟩ = some (.int .i64 op) ∧ w.cell? ⟨W.heap.size, 1, none⟩ = some (.int .i64 x.num) ∧ w.cell? ⟨W.heap.size, 2, none⟩ = some (.int .i64 x.den) ∧ w.cell? ⟨W.heap.size, 3, none⟩ = some (.int .i64 x.mode) ∧ w.cell? ⟨W.heap.size, 4, none⟩ = some (.slice a x.args.len c) ∧ w.cell? ⟨W.heap.size + 1, 0, none⟩ = some (.string ⟨p.name.toArray⟩) ∧ w.cell? ⟨W.heap.size + 1, 1, none⟩ = some (.int .i64 p.year) ∧ w.cell? ⟨W.heap.size + 1, 2, none⟩ = some (.slice a3 p.opts.length c3) ∧ w.cell? ⟨W.heap.size + 1, 3, none⟩ = some (.slice a4 p.tabs.length c4) ∧ w.cell? ⟨W.heap.size + 1, 4, none⟩ = some (.slice a5 p.grps.length c5) ∧ w.cell? ⟨W.heap.size + 1, 5, none⟩ = some (.slice a6 p.lns.length c6) ∧ w.cell? ⟨W.heap.size + 1, 6, none⟩ = some (.slice a7 p.cks.length c7)) := ⟨fun w hw => by have := hBx.out w hw; rw [hop] at this; exact this⟩
  clear hE1
  obtain rfl : op = 10 := hop.symm.trans ho
  clear hop ho
  rw [if_neg (by decide)] at hR
  rw [if_neg (by decide)] at hR
  rw [if_pos (by decide)] at hR
  have hln := line_any p a3 a4 a5 a6 a7 c3 c4 c5 c6 c7 x.num X (hLX.out _ (Below.refl _ _))
  unfold LnP at hln
  cases hlo : lnO p x.num with
  | none =>
    rw [hlo] at hln hR
    simp only at hln hR
    obtain rfl : R = false := by rw [← hR]
    clear hR hOX hLX hlo
    go_enter Tryz.func98, Tryz.ntmps98
    go_upto_region 14 with (go_at_call 105; refine hln.mono ?_; rintro e w2 ⟨hb2, rfl⟩; have hb3 : Below w2.heap.size w2 (w2.alloc (.cells #[.string ⟨#[]⟩, .bool false, .bool false, .int .i64 0, .int .i64 0, .int .i64 0, .slice none 0 0] 55)) := (Below.refl _ _).alloc (Nat.le_refl _) _; obtain ⟨-, -, -, -, -, -, -, -, g7, -⟩ := hwX.out _ (belT hb2 hb3); have hbq := Hid.mk (fun n => belT hb0 (belT (belT hb2 hb3) (drew_below _ n))))
    have hbn := hbq.out 0
    go_wp2
    go_ret
    exact ⟨rfl, hbn⟩
  | some l =>
    rw [hlo] at hln hR
    simp only at hln hR
    cases hk : isK l.type with
    | false =>
      rw [hk] at hln hR
      obtain rfl : R = false := by rw [← hR, Bool.false_and]
      clear hR hOX hLX hlo hk
      go_enter Tryz.func98, Tryz.ntmps98
      go_upto_region 14 with (go_at_call 105; refine hln.mono ?_; rintro e w2 ⟨hb2, la, lc, rfl⟩; have hb3 : Below w2.heap.size w2 (w2.alloc (.cells #[.string ⟨l.name.toArray⟩, .bool l.input, .bool l.must, .int .i64 l.type, .int .i64 l.opts, .int .i64 l.group, .slice la l.cls.length lc] 55)) := (Below.refl _ _).alloc (Nat.le_refl _) _; obtain ⟨-, -, -, -, -, -, -, -, g7, -⟩ := hwX.out _ (belT hb2 hb3); have hbq := Hid.mk (fun n => belT hb0 (belT (belT hb2 hb3) (drew_below _ n))))
      have hbn := hbq.out 0
      go_wp2
      go_ret
      exact ⟨rfl, hbn⟩
    | true =>
      rw [hk] at hln hR
      rw [Bool.true_and] at hR
      by_cases g1 : l.group = -1
      · have e1 : (l.group != -1) = false := by simp; omega
        obtain rfl : R = false := by rw [← hR, decide_eq_false (by simpa using g1)]
        clear hR hOX hLX hlo hk g1
        go_enter Tryz.func98, Tryz.ntmps98
        go_upto_region 14 with (go_at_call 105; refine hln.mono ?_; rintro e w2 ⟨hb2, la, lc, rfl⟩; have hb3 : Below w2.heap.size w2 (w2.alloc (.cells #[.string ⟨l.name.toArray⟩, .bool l.input, .bool l.must, .int .i64 l.type, .int .i64 l.opts, .int .i64 l.group, .slice la l.cls.length lc] 55)) := (Below.refl _ _).alloc (Nat.le_refl _) _; obtain ⟨-, -, -, -, -, -, -, -, g7, -⟩ := hwX.out _ (belT hb2 hb3); have hbq := Hid.mk (fun n => belT hb0 (belT (belT hb2 hb3) (drew_below _ n))))
        have hbn := hbq.out 0
        go_wp2
        go_ret
        exact ⟨rfl, hbn⟩
      · have e1 : (l.group != -1) = true := by simp; omega
        obtain rfl : R = true := by rw [← hR, decide_eq_true g1]
        clear hR hOX hLX hlo hk g1
        go_enter Tryz.func98, Tryz.ntmps98
        go_upto_region 14 with (go_at_call 105; refine hln.mono ?_; rintro e w2 ⟨hb2, la, lc, rfl⟩; have hb3 : Below w2.heap.size w2 (w2.alloc (.cells #[.string ⟨l.name.toArray⟩, .bool l.input, .bool l.must, .int .i64 l.type, .int .i64 l.opts, .int .i64 l.group, .slice la l.cls.length lc] 55)) := (Below.refl _ _).alloc (Nat.le_refl _) _; obtain ⟨-, -, -, -, -, -, -, -, g7, -⟩ := hwX.out _ (belT hb2 hb3); have hbq := Hid.mk (fun n => belT hb0 (belT (belT hb2 hb3) (drew_below _ n))))
        have hbn := hbq.out 0
        go_wp2
        go_ret
        exact ⟨rfl, hbn⟩
set_option maxRecDepth 20000 in
set_option maxHeartbeats 1000000 in
theorem th_11 (p : Pk) (a3 a4 a5 a6 a7 : Option Addr) (c3 c4 c5 c6 c7 : Nat) (g : Int) (n wb : Nat) (x : Ex) (a : Option Addr) (c : Nat) (ho : x.op = 11) (W : World) (hw : WkAt W wb p a3 a4 a5 a6 a7 c3 c4 c5 c6 c7 g n) (hL : RowR eL W AnyB p.lns a6) (hO : RowR eO W AnyB p.opts a3) : Calls Tryz.prog 98 #[.pointer (some ⟨wb, 0, none⟩), .agg #[.int .i64 x.op, .int .i64 x.num, .int .i64 x.den, .int .i64 x.mode, .slice a x.args.len c]] W (Lk (.bool (thB p g x)) W) := by
  have hE1 : Below W.heap.size W (W.alloc (.cells #[.int .i64 x.op, .int .i64 x.num, .int .i64 x.den, .int .i64 x.mode, .slice a x.args.len c] 59)) := (Below.refl _ _).alloc (Nat.le_refl _) _
  obtain ⟨-, v0, v1, v2, v3, v4, v5, v6, -⟩ := hw.later hE1
  obtain ⟨X, hXe⟩ : ∃ X, (W.alloc (.cells #[.int .i64 x.op, .int .i64 x.num, .int .i64 x.den, .int .i64 x.mode, .slice a x.args.len c] 59)).alloc (.cells #[.string ⟨p.name.toArray⟩, .int .i64 p.year, .slice a3 p.opts.length c3, .slice a4 p.tabs.length c4, .slice a5 p.grps.length c5, .slice a6 p.lns.length c6, .slice a7 p.cks.length c7] 28) = X := ⟨_, rfl⟩
  have hb0 : Below W.heap.size W X := by rw [← hXe]; exact ((Below.refl _ _).alloc (Nat.le_refl _) _).alloc (by simp) _
  have hXl : W.heap.size + 1 < X.heap.size := by rw [← hXe]; simp
  have hBx : Hid (∀ w, Below X.heap.size X w → w.cell? ⟨W.heap.size, 0, none⟩ = some (.int .i64 x.op) ∧ w.cell? ⟨W.heap.size, 1, none⟩ = some (.int .i64 x.num) ∧ w.cell? ⟨W.heap.size, 2, none⟩ = some (.int .i64 x.den) ∧ w.cell? ⟨W.heap.size, 3, none⟩ = some (.int .i64 x.mode) ∧ w.cell? ⟨W.heap.size, 4, none⟩ = some (.slice a x.args.len c) ∧ w.cell? ⟨W.heap.size + 1, 0, none⟩ = some (.string ⟨p.name.toArray⟩) ∧ w.cell? ⟨W.heap.size + 1, 1, none⟩ = some (.int .i64 p.year) ∧ w.cell? ⟨W.heap.size + 1, 2, none⟩ = some (.slice a3 p.opts.length c3) ∧ w.cell? ⟨W.heap.size + 1, 3, none⟩ = some (.slice a4 p.tabs.length c4) ∧ w.cell? ⟨W.heap.size + 1, 4, none⟩ = some (.slice a5 p.grps.length c5) ∧ w.cell? ⟨W.heap.size + 1, 5, none⟩ = some (.slice a6 p.lns.length c6) ∧ w.cell? ⟨W.heap.size + 1, 6, none⟩ = some (.slice a7 p.cks.length c7)) := ⟨fun w hw => ⟨(bel_cell hw (by omega) 0).trans (by rw [← hXe]; simp), (bel_cell hw (by omega) 1).trans (by rw [← hXe]; simp), (bel_cell hw (by omega) 2).trans (by rw [← hXe]; simp), (bel_cell hw (by omega) 3).trans (by rw [← hXe]; simp), (bel_cell hw (by omega) 4).trans (by rw [← hXe]; simp), (bel_cell hw hXl 0).trans (by rw [← hXe, show W.heap.size + 1 = (W.alloc (.cells #[.int .i64 x.op, .int .i64 x.num, .int .i64 x.den, .int .i64 x.mode, .slice a x.args.len c] 59)).heap.size by simp]; simp), (bel_cell hw hXl 1).trans (by rw [← hXe, show W.heap.size + 1 = (W.alloc (.cells #[.int .i64 x.op, .int .i64 x.num, .int .i64 x.den, .int .i64 x.mode, .slice a x.args.len c] 59)).heap.size by simp]; simp), (bel_cell hw hXl 2).trans (by rw [← hXe, show W.heap.size + 1 = (W.alloc (.cells #[.int .i64 x.op, .int .i64 x.num, .int .i64 x.den, .int .i64 x.mode, .slice a x.args.len c] 59)).heap.size by simp]; simp), (bel_cell hw hXl 3).trans (by rw [← hXe, show W.heap.size + 1 = (W.alloc (.cells #[.int .i64 x.op, .int .i64 x.num, .int .i64 x.den, .int .i64 x.mode, .slice a x.args.len c] 59)).heap.size by simp]; simp), (bel_cell hw hXl 4).trans (by rw [← hXe, show W.heap.size + 1 = (W.alloc (.cells #[.int .i64 x.op, .int .i64 x.num, .int .i64 x.den, .int .i64 x.mode, .slice a x.args.len c] 59)).heap.size by simp]; simp), (bel_cell hw hXl 5).trans (by rw [← hXe, show W.heap.size + 1 = (W.alloc (.cells #[.int .i64 x.op, .int .i64 x.num, .int .i64 x.den, .int .i64 x.mode, .slice a x.args.len c] 59)).heap.size by simp]; simp), (bel_cell hw hXl 6).trans (by rw [← hXe, show W.heap.size + 1 = (W.alloc (.cells #[.int .i64 x.op, .int .i64 x.num, .int .i64 x.den, .int .i64 x.mode, .slice a x.args.len c] 59)).heap.size by simp]; simp)⟩⟩
  obtain ⟨y0, y1, y2, y3, y4, x0, x1, x2, x3, x4, x5, x6⟩ := hBx.out X (Below.refl _ _)
  have hwX := Hid.mk (fun w (hb : Below X.heap.size X w) => (hw.later hb0).later hb)
  have hLX := Hid.mk (fun w (hb : Below X.heap.size X w) => row_bel (row_bel hL hb0 (Nat.le_refl _)) hb (Nat.le_refl _))
  have hOX := row_bel hO hb0 (Nat.le_refl _)
  clear hw hL hO
  obtain ⟨R, hR⟩ : ∃ R, thB p g x = R := ⟨_, rfl⟩
  rw [hR]
  unfold thB at hR
  obtain ⟨op, hop⟩ : ∃ op, x.op = op := ⟨_, rfl⟩
  rw [hop] at hR hXe y0 v0 v1 v2 v3 v4 v5 v6 ⊢
  replace hBx : Hid (∀ w, Below X.heap.size X w → w.cell? ⟨W.heap.size, 0, none⟩ = some (.int .i64 op) ∧ w.cell? ⟨W.heap.size, 1, none⟩ = some (.int .i64 x.num) ∧ w.cell? ⟨W.heap.size, 2, none⟩ = some (.int .i64 x.den) ∧ w.cell? ⟨W.heap.size, 3, none⟩ = some (.int .i64 x.mode) ∧ w.cell? ⟨W.heap.size, 4, none⟩ = some (.slice a x.args.len c) ∧ w.cell? ⟨W.heap.size + 1, 0, none⟩ = some (.string ⟨p.name.toArray⟩) ∧ w.cell? ⟨W.heap.size + 1, 1, none⟩ = some (.int .i64 p.year) ∧ w.cell? ⟨W.heap.size + 1, 2, none⟩ = some (.slice a3 p.opts.length c3) ∧ w.cell? ⟨W.heap.size + 1, 3, none⟩ = some (.slice a4 p.tabs.length c4) ∧ w.cell? ⟨W.heap.size + 1, 4, none⟩ = some (.slice a5 p.grps.length c5) ∧ w.cell? ⟨W.heap.size + 1, 5, none⟩ = some (.slice a6 p.lns.length c6) ∧ w.cell? ⟨W.heap.size + 1, 6, none⟩ = some (.slice a7 p.cks.length c7)) := ⟨fun w hw => by have := hBx.out w hw; rw [hop] at this; exact this⟩
  clear hE1
  obtain rfl : op = 11 := hop.symm.trans ho
  clear hop ho
  rw [if_neg (by decide)] at hR
  rw [if_neg (by decide)] at hR
  rw [if_pos (by decide)] at hR
  have hln := line_any p a3 a4 a5 a6 a7 c3 c4 c5 c6 c7 x.num X (hLX.out _ (Below.refl _ _))
  unfold LnP at hln
  cases hlo : lnO p x.num with
  | none =>
    rw [hlo] at hln hR
    simp only at hln hR
    obtain rfl : R = false := by rw [← hR]
    clear hR hOX hLX hlo
    go_enter Tryz.func98, Tryz.ntmps98
    go_upto_region 14 with (go_at_call 105; refine hln.mono ?_; rintro e w2 ⟨hb2, rfl⟩; have hb3 : Below w2.heap.size w2 (w2.alloc (.cells #[.string ⟨#[]⟩, .bool false, .bool false, .int .i64 0, .int .i64 0, .int .i64 0, .slice none 0 0] 55)) := (Below.refl _ _).alloc (Nat.le_refl _) _; obtain ⟨-, -, -, -, -, -, -, -, g7, -⟩ := hwX.out _ (belT hb2 hb3); have hbq := Hid.mk (fun n => belT hb0 (belT (belT hb2 hb3) (drew_below _ n))))
    have hbn := hbq.out 0
    go_wp2
    go_ret
    exact ⟨rfl, hbn⟩
  | some l =>
    rw [hlo] at hln hR
    simp only at hln hR
    cases hk : isK l.type with
    | false =>
      rw [hk] at hln hR
      obtain rfl : R = false := by rw [← hR, Bool.false_and]
      clear hR hOX hLX hlo hk
      go_enter Tryz.func98, Tryz.ntmps98
      go_upto_region 14 with (go_at_call 105; refine hln.mono ?_; rintro e w2 ⟨hb2, la, lc, rfl⟩; have hb3 : Below w2.heap.size w2 (w2.alloc (.cells #[.string ⟨l.name.toArray⟩, .bool l.input, .bool l.must, .int .i64 l.type, .int .i64 l.opts, .int .i64 l.group, .slice la l.cls.length lc] 55)) := (Below.refl _ _).alloc (Nat.le_refl _) _; obtain ⟨-, -, -, -, -, -, -, -, g7, -⟩ := hwX.out _ (belT hb2 hb3); have hbq := Hid.mk (fun n => belT hb0 (belT (belT hb2 hb3) (drew_below _ n))))
      have hbn := hbq.out 0
      go_wp2
      go_ret
      exact ⟨rfl, hbn⟩
    | true =>
      rw [hk] at hln hR
      rw [Bool.true_and] at hR
      by_cases g1 : l.group = -1
      · have e1 : (l.group != -1) = false := by simp; omega
        obtain rfl : R = false := by rw [← hR, decide_eq_false (by simpa using g1)]
        clear hR hOX hLX hlo hk g1
        go_enter Tryz.func98, Tryz.ntmps98
        go_upto_region 14 with (go_at_call 105; refine hln.mono ?_; rintro e w2 ⟨hb2, la, lc, rfl⟩; have hb3 : Below w2.heap.size w2 (w2.alloc (.cells #[.string ⟨l.name.toArray⟩, .bool l.input, .bool l.must, .int .i64 l.type, .int .i64 l.opts, .int .i64 l.group, .slice la l.cls.length lc] 55)) := (Below.refl _ _).alloc (Nat.le_refl _) _; obtain ⟨-, -, -, -, -, -, -, -, g7, -⟩ := hwX.out _ (belT hb2 hb3); have hbq := Hid.mk (fun n => belT hb0 (belT (belT hb2 hb3) (drew_below _ n))))
        have hbn := hbq.out 0
        go_wp2
        go_ret
        exact ⟨rfl, hbn⟩
      · have e1 : (l.group != -1) = true := by simp; omega
        obtain rfl : R = true := by rw [← hR, decide_eq_true g1]
        clear hR hOX hLX hlo hk g1
        go_enter Tryz.func98, Tryz.ntmps98
        go_upto_region 14 with (go_at_call 105; refine hln.mono ?_; rintro e w2 ⟨hb2, la, lc, rfl⟩; have hb3 : Below w2.heap.size w2 (w2.alloc (.cells #[.string ⟨l.name.toArray⟩, .bool l.input, .bool l.must, .int .i64 l.type, .int .i64 l.opts, .int .i64 l.group, .slice la l.cls.length lc] 55)) := (Below.refl _ _).alloc (Nat.le_refl _) _; obtain ⟨-, -, -, -, -, -, -, -, g7, -⟩ := hwX.out _ (belT hb2 hb3); have hbq := Hid.mk (fun n => belT hb0 (belT (belT hb2 hb3) (drew_below _ n))))
        have hbn := hbq.out 0
        go_wp2
        go_ret
        exact ⟨rfl, hbn⟩
set_option maxRecDepth 20000 in
set_option maxHeartbeats 1000000 in
theorem th_12 (p : Pk) (a3 a4 a5 a6 a7 : Option Addr) (c3 c4 c5 c6 c7 : Nat) (g : Int) (n wb : Nat) (x : Ex) (a : Option Addr) (c : Nat) (ho : x.op = 12) (W : World) (hw : WkAt W wb p a3 a4 a5 a6 a7 c3 c4 c5 c6 c7 g n) (hL : RowR eL W AnyB p.lns a6) (hO : RowR eO W AnyB p.opts a3) : Calls Tryz.prog 98 #[.pointer (some ⟨wb, 0, none⟩), .agg #[.int .i64 x.op, .int .i64 x.num, .int .i64 x.den, .int .i64 x.mode, .slice a x.args.len c]] W (Lk (.bool (thB p g x)) W) := by
  have hE1 : Below W.heap.size W (W.alloc (.cells #[.int .i64 x.op, .int .i64 x.num, .int .i64 x.den, .int .i64 x.mode, .slice a x.args.len c] 59)) := (Below.refl _ _).alloc (Nat.le_refl _) _
  obtain ⟨-, v0, v1, v2, v3, v4, v5, v6, -⟩ := hw.later hE1
  obtain ⟨X, hXe⟩ : ∃ X, (W.alloc (.cells #[.int .i64 x.op, .int .i64 x.num, .int .i64 x.den, .int .i64 x.mode, .slice a x.args.len c] 59)).alloc (.cells #[.string ⟨p.name.toArray⟩, .int .i64 p.year, .slice a3 p.opts.length c3, .slice a4 p.tabs.length c4, .slice a5 p.grps.length c5, .slice a6 p.lns.length c6, .slice a7 p.cks.length c7] 28) = X := ⟨_, rfl⟩
  have hb0 : Below W.heap.size W X := by rw [← hXe]; exact ((Below.refl _ _).alloc (Nat.le_refl _) _).alloc (by simp) _
  have hXl : W.heap.size + 1 < X.heap.size := by rw [← hXe]; simp
  have hBx : Hid (∀ w, Below X.heap.size X w → w.cell? ⟨W.heap.size, 0, none⟩ = some (.int .i64 x.op) ∧ w.cell? ⟨W.heap.size, 1, none⟩ = some (.int .i64 x.num) ∧ w.cell? ⟨W.heap.size, 2, none⟩ = some (.int .i64 x.den) ∧ w.cell? ⟨W.heap.size, 3, none⟩ = some (.int .i64 x.mode) ∧ w.cell? ⟨W.heap.size, 4, none⟩ = some (.slice a x.args.len c) ∧ w.cell? ⟨W.heap.size + 1, 0, none⟩ = some (.string ⟨p.name.toArray⟩) ∧ w.cell? ⟨W.heap.size + 1, 1, none⟩ = some (.int .i64 p.year) ∧ w.cell? ⟨W.heap.size + 1, 2, none⟩ = some (.slice a3 p.opts.length c3) ∧ w.cell? ⟨W.heap.size + 1, 3, none⟩ = some (.slice a4 p.tabs.length c4) ∧ w.cell? ⟨W.heap.size + 1, 4, none⟩ = some (.slice a5 p.grps.length c5) ∧ w.cell? ⟨W.heap.size + 1, 5, none⟩ = some (.slice a6 p.lns.length c6) ∧ w.cell? ⟨W.heap.size + 1, 6, none⟩ = some (.slice a7 p.cks.length c7)) := ⟨fun w hw => ⟨(bel_cell hw (by omega) 0).trans (by rw [← hXe]; simp), (bel_cell hw (by omega) 1).trans (by rw [← hXe]; simp), (bel_cell hw (by omega) 2).trans (by rw [← hXe]; simp), (bel_cell hw (by omega) 3).trans (by rw [← hXe]; simp), (bel_cell hw (by omega) 4).trans (by rw [← hXe]; simp), (bel_cell hw hXl 0).trans (by rw [← hXe, show W.heap.size + 1 = (W.alloc (.cells #[.int .i64 x.op, .int .i64 x.num, .int .i64 x.den, .int .i64 x.mode, .slice a x.args.len c] 59)).heap.size by simp]; simp), (bel_cell hw hXl 1).trans (by rw [← hXe, show W.heap.size + 1 = (W.alloc (.cells #[.int .i64 x.op, .int .i64 x.num, .int .i64 x.den, .int .i64 x.mode, .slice a x.args.len c] 59)).heap.size by simp]; simp), (bel_cell hw hXl 2).trans (by rw [← hXe, show W.heap.size + 1 = (W.alloc (.cells #[.int .i64 x.op, .int .i64 x.num, .int .i64 x.den, .int .i64 x.mode, .slice a x.args.len c] 59)).heap.size by simp]; simp), (bel_cell hw hXl 3).trans (by rw [← hXe, show W.heap.size + 1 = (W.alloc (.cells #[.int .i64 x.op, .int .i64 x.num, .int .i64 x.den, .int .i64 x.mode, .slice a x.args.len c] 59)).heap.size by simp]; simp), (bel_cell hw hXl 4).trans (by rw [← hXe, show W.heap.size + 1 = (W.alloc (.cells #[.int .i64 x.op, .int .i64 x.num, .int .i64 x.den, .int .i64 x.mode, .slice a x.args.len c] 59)).heap.size by simp]; simp), (bel_cell hw hXl 5).trans (by rw [← hXe, show W.heap.size + 1 = (W.alloc (.cells #[.int .i64 x.op, .int .i64 x.num, .int .i64 x.den, .int .i64 x.mode, .slice a x.args.len c] 59)).heap.size by simp]; simp), (bel_cell hw hXl 6).trans (by rw [← hXe, show W.heap.size + 1 = (W.alloc (.cells #[.int .i64 x.op, .int .i64 x.num, .int .i64 x.den, .int .i64 x.mode, .slice a x.args.len c] 59)).heap.size by simp]; simp)⟩⟩
  obtain ⟨y0, y1, y2, y3, y4, x0, x1, x2, x3, x4, x5, x6⟩ := hBx.out X (Below.refl _ _)
  have hwX := Hid.mk (fun w (hb : Below X.heap.size X w) => (hw.later hb0).later hb)
  have hLX := Hid.mk (fun w (hb : Below X.heap.size X w) => row_bel (row_bel hL hb0 (Nat.le_refl _)) hb (Nat.le_refl _))
  have hOX := row_bel hO hb0 (Nat.le_refl _)
  clear hw hL hO
  obtain ⟨R, hR⟩ : ∃ R, thB p g x = R := ⟨_, rfl⟩
  rw [hR]
  unfold thB at hR
  obtain ⟨op, hop⟩ : ∃ op, x.op = op := ⟨_, rfl⟩
  rw [hop] at hR hXe y0 v0 v1 v2 v3 v4 v5 v6 ⊢
  replace hBx : Hid (∀ w, Below X.heap.size X w → w.cell? ⟨W.heap.size, 0, none⟩ = some (.int .i64 op) ∧ w.cell? ⟨W.heap.size, 1, none⟩ = some (.int .i64 x.num) ∧ w.cell? ⟨W.heap.size, 2, none⟩ = some (.int .i64 x.den) ∧ w.cell? ⟨W.heap.size, 3, none⟩ = some (.int .i64 x.mode) ∧ w.cell? ⟨W.heap.size, 4, none⟩ = some (.slice a x.args.len c) ∧ w.cell? ⟨W.heap.size + 1, 0, none⟩ = some (.string ⟨p.name.toArray⟩) ∧ w.cell? ⟨W.heap.size + 1, 1, none⟩ = some (.int .i64 p.year) ∧ w.cell? ⟨W.heap.size + 1, 2, none⟩ = some (.slice a3 p.opts.length c3) ∧ w.cell? ⟨W.heap.size + 1, 3, none⟩ = some (.slice a4 p.tabs.length c4) ∧ w.cell? ⟨W.heap.size + 1, 4, none⟩ = some (.slice a5 p.grps.length c5) ∧ w.cell? ⟨W.heap.size + 1, 5, none⟩ = some (.slice a6 p.lns.length c6) ∧ w.cell? ⟨W.heap.size + 1, 6, none⟩ = some (.slice a7 p.cks.length c7)) := ⟨fun w hw => by have := hBx.out w hw; rw [hop] at this; exact this⟩
  clear hE1
  obtain rfl : op = 12 := hop.symm.trans ho
  clear hop ho
  rw [if_neg (by decide)] at hR
  rw [if_neg (by decide)] at hR
  rw [if_pos (by decide)] at hR
  have hln := line_any p a3 a4 a5 a6 a7 c3 c4 c5 c6 c7 x.num X (hLX.out _ (Below.refl _ _))
  unfold LnP at hln
  cases hlo : lnO p x.num with
  | none =>
    rw [hlo] at hln hR
    simp only at hln hR
    obtain rfl : R = false := by rw [← hR]
    clear hR hOX hLX hlo
    go_enter Tryz.func98, Tryz.ntmps98
    go_upto_region 14 with (go_at_call 105; refine hln.mono ?_; rintro e w2 ⟨hb2, rfl⟩; have hb3 : Below w2.heap.size w2 (w2.alloc (.cells #[.string ⟨#[]⟩, .bool false, .bool false, .int .i64 0, .int .i64 0, .int .i64 0, .slice none 0 0] 55)) := (Below.refl _ _).alloc (Nat.le_refl _) _; obtain ⟨-, -, -, -, -, -, -, -, g7, -⟩ := hwX.out _ (belT hb2 hb3); have hbq := Hid.mk (fun n => belT hb0 (belT (belT hb2 hb3) (drew_below _ n))))
    have hbn := hbq.out 0
    go_wp2
    go_ret
    exact ⟨rfl, hbn⟩
  | some l =>
    rw [hlo] at hln hR
    simp only at hln hR
    cases hk : isK l.type with
    | false =>
      rw [hk] at hln hR
      obtain rfl : R = false := by rw [← hR, Bool.false_and]
      clear hR hOX hLX hlo hk
      go_enter Tryz.func98, Tryz.ntmps98
      go_upto_region 14 with (go_at_call 105; refine hln.mono ?_; rintro e w2 ⟨hb2, la, lc, rfl⟩; have hb3 : Below w2.heap.size w2 (w2.alloc (.cells #[.string ⟨l.name.toArray⟩, .bool l.input, .bool l.must, .int .i64 l.type, .int .i64 l.opts, .int .i64 l.group, .slice la l.cls.length lc] 55)) := (Below.refl _ _).alloc (Nat.le_refl _) _; obtain ⟨-, -, -, -, -, -, -, -, g7, -⟩ := hwX.out _ (belT hb2 hb3); have hbq := Hid.mk (fun n => belT hb0 (belT (belT hb2 hb3) (drew_below _ n))))
      have hbn := hbq.out 0
      go_wp2
      go_ret
      exact ⟨rfl, hbn⟩
    | true =>
      rw [hk] at hln hR
      rw [Bool.true_and] at hR
      by_cases g1 : l.group = -1
      · have e1 : (l.group != -1) = false := by simp; omega
        obtain rfl : R = false := by rw [← hR, decide_eq_false (by simpa using g1)]
        clear hR hOX hLX hlo hk g1
        go_enter Tryz.func98, Tryz.ntmps98
        go_upto_region 14 with (go_at_call 105; refine hln.mono ?_; rintro e w2 ⟨hb2, la, lc, rfl⟩; have hb3 : Below w2.heap.size w2 (w2.alloc (.cells #[.string ⟨l.name.toArray⟩, .bool l.input, .bool l.must, .int .i64 l.type, .int .i64 l.opts, .int .i64 l.group, .slice la l.cls.length lc] 55)) := (Below.refl _ _).alloc (Nat.le_refl _) _; obtain ⟨-, -, -, -, -, -, -, -, g7, -⟩ := hwX.out _ (belT hb2 hb3); have hbq := Hid.mk (fun n => belT hb0 (belT (belT hb2 hb3) (drew_below _ n))))
        have hbn := hbq.out 0
        go_wp2
        go_ret
        exact ⟨rfl, hbn⟩
      · have e1 : (l.group != -1) = true := by simp; omega
        obtain rfl : R = true := by rw [← hR, decide_eq_true g1]
        clear hR hOX hLX hlo hk g1
        go_enter Tryz.func98, Tryz.ntmps98
        go_upto_region 14 with (go_at_call 105; refine hln.mono ?_; rintro e w2 ⟨hb2, la, lc, rfl⟩; have hb3 : Below w2.heap.size w2 (w2.alloc (.cells #[.string ⟨l.name.toArray⟩, .bool l.input, .bool l.must, .int .i64 l.type, .int .i64 l.opts, .int .i64 l.group, .slice la l.cls.length lc] 55)) := (Below.refl _ _).alloc (Nat.le_refl _) _; obtain ⟨-, -, -, -, -, -, -, -, g7, -⟩ := hwX.out _ (belT hb2 hb3); have hbq := Hid.mk (fun n => belT hb0 (belT (belT hb2 hb3) (drew_below _ n))))
        have hbn := hbq.out 0
        go_wp2
        go_ret
        exact ⟨rfl, hbn⟩
end Go.Proofs.YtmklkcefbabhbaaGreat.R6

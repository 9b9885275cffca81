import Derived.Test.YtmklkcefbabhbaaGreatJoin42
/- The kind of an expression: the early ways. -/
namespace Go.Proofs.YtmklkcefbabhbaaGreat.R6
open Go.RowKit

/-- What is asked of kind, so deep. -/
def KindIs (p : Pk) (a3 a4 a5 a6 a7 : Option Addr) (c3 c4 c5 c6 c7 : Nat) (g : Int) (wb : Nat) (d : Nat) : Prop := ∀ (x : Ex) (ax : Option Addr) (cx : Nat) (W : World) (n : Nat) (dp : Int), dp = 9 - (d : Int) → WkB W p a3 a4 a5 a6 a7 c3 c4 c5 c6 c7 g wb n → n ≤ 60 → RowR eL W (fun b => b < wb) p.lns a6 → RowR eO W (fun b => b < wb) p.opts a3 → FoAt W (fun b => b < wb) x.args ax → Calls Tryz.prog 90 #[.pointer (some ⟨wb, 0, none⟩), .agg #[.int .i64 x.op, .int .i64 x.num, .int .i64 x.den, .int .i64 x.mode, .slice ax x.args.len cx], .int .i64 dp] W (KiP p a3 a4 a5 a6 a7 c3 c4 c5 c6 c7 g wb W (kiF p g d x n))
theorem kd_box {p : Pk} {a3 a4 a5 a6 a7 : Option Addr} {c3 c4 c5 c6 c7 : Nat} {g : Int} {wb : Nat} {x : Ex} {ax : Option Addr} {cx : Nat} {W : World} {n : Nat} (hW : WkB W p a3 a4 a5 a6 a7 c3 c4 c5 c6 c7 g wb n) (hL : RowR eL W (fun b => b < wb) p.lns a6) (hO : RowR eO W (fun b => b < wb) p.opts a3) (hF : FoAt W (fun b => b < wb) x.args ax) : KdS p a3 a4 a5 a6 a7 c3 c4 c5 c6 c7 g wb x ax cx W ((W.alloc (.cells #[.int .i64 x.op, .int .i64 x.num, .int .i64 x.den, .int .i64 x.mode, .slice ax x.args.len cx] 59)).alloc (.cells #[.int .i64 0, .int .i64 0] 88)) n := by
  have hb : Below W.heap.size W ((W.alloc (.cells #[.int .i64 x.op, .int .i64 x.num, .int .i64 x.den, .int .i64 x.mode, .slice ax x.args.len cx] 59)).alloc (.cells #[.int .i64 0, .int .i64 0] 88)) := ((Below.refl _ _).alloc (Nat.le_refl _) _).alloc (by simp) _
  have hg : W.grownBy ((W.alloc (.cells #[.int .i64 x.op, .int .i64 x.num, .int .i64 x.den, .int .i64 x.mode, .slice ax x.args.len cx] 59)).alloc (.cells #[.int .i64 0, .int .i64 0] 88)) (some wb) := ⟨hb.os, hb.tape, hb.output, hb.size, fun k hk _ => hb.block k hk⟩
  have hs : (W.alloc (.cells #[.int .i64 x.op, .int .i64 x.num, .int .i64 x.den, .int .i64 x.mode, .slice ax x.args.len cx] 59)).heap.size = W.heap.size + 1 := by simp
  refine ⟨hg, Bx.kept hW (gr_bel hb) (by intro e; cases e), ?_, ?_, hW.1, hL.fr hb.size (fun b _ hbl => hb.block b hbl), hO.fr hb.size (fun b _ hbl => hb.block b hbl), FoAt.fr hb.size (fun b _ hbl => hb.block b hbl) _ _ hF⟩
  · exact (bx_new W #[.int .i64 x.op, .int .i64 x.num, .int .i64 x.den, .int .i64 x.mode, .slice ax x.args.len cx] 59).kept (r := none) (gr_bel ((Below.refl _ _).alloc (Nat.le_refl _) _)) (by intro e; cases e)
  · rw [← hs]
    exact heap_alloc_new _ _
set_option maxRecDepth 20000 in
set_option maxHeartbeats 2000000 in
theorem kd_deep (p : Pk) (a3 a4 a5 a6 a7 : Option Addr) (c3 c4 c5 c6 c7 : Nat) (g : Int) (wb : Nat) (x : Ex) (ax : Option Addr) (cx : Nat) (W : World) (n : Nat) (dp : Int) (hd : 8 < dp) (hW : WkB W p a3 a4 a5 a6 a7 c3 c4 c5 c6 c7 g wb n) (hn : n ≤ 60) (hL : RowR eL W (fun b => b < wb) p.lns a6) (hO : RowR eO W (fun b => b < wb) p.opts a3) (hF : FoAt W (fun b => b < wb) x.args ax) : Calls Tryz.prog 90 #[.pointer (some ⟨wb, 0, none⟩), .agg #[.int .i64 x.op, .int .i64 x.num, .int .i64 x.den, .int .i64 x.mode, .slice ax x.args.len cx], .int .i64 dp] W (KiP p a3 a4 a5 a6 a7 c3 c4 c5 c6 c7 g wb W (n + 1, .error ([], 60))) := by
  obtain ⟨X, hXe⟩ : ∃ X, (W.alloc (.cells #[.int .i64 x.op, .int .i64 x.num, .int .i64 x.den, .int .i64 x.mode, .slice ax x.args.len cx] 59)).alloc (.cells #[.int .i64 0, .int .i64 0] 88) = X := ⟨_, rfl⟩
  have hX : KdS p a3 a4 a5 a6 a7 c3 c4 c5 c6 c7 g wb x ax cx W X n := by rw [← hXe]; exact kd_box hW hL hO hF
  obtain ⟨Y, hYe⟩ : ∃ Y, X.setCell ⟨wb, 8, none⟩ (.int .i64 ((n : Int) + 1)) = Y := ⟨_, rfl⟩
  have hY : KdS p a3 a4 a5 a6 a7 c3 c4 c5 c6 c7 g wb x ax cx W Y (n + 1) := by rw [← hYe]; exact hX.mv (gr_set _ _ _ _) (fun b e => .inl (by injection e with e; exact e.symm)) (hX.wk.set8 (n + 1))
  have x8 : X.cell? ⟨wb, 8, none⟩ = some (.int .i64 (n : Int)) := hX.wk.2.1 8 (by simp)
  have f8 := hX.wk.2.2 8
  have y8 : Y.cell? ⟨wb, 8, none⟩ = some (.int .i64 ((n : Int) + 1)) := hY.wk.2.1 8 (by simp)
  have hn' : (n : Int) ≤ 60 := by omega
  have hlt := hX.lt
  have hne1 : W.heap.size ≠ wb := by omega
  have hne2 : W.heap.size + 1 ≠ wb := by omega
  have rk := hY.kr; have fk0 := frozen_of_row _ _ 0 _ _ rk; have fk1 := frozen_of_row _ _ 1 _ _ rk; have ck0 := cell_of_row _ _ 0 _ _ _ rk; have ck1 := cell_of_row _ _ 1 _ _ _ rk; have e0 := hY.bx.2.1 0 (by simp); have e1 := hY.bx.2.1 1 (by simp); have e2 := hY.bx.2.1 2 (by simp); have e3 := hY.bx.2.1 3 (by simp); have e4 := hY.bx.2.1 4 (by simp)
  clear hW hL hO hF
  go_enter Tryz.func90, Tryz.ntmps90
  go_wp2
  refine bodyPost_ret (v := .tuple #[.agg #[.int .i64 0, .int .i64 0], .slice none 0 0, .int .i64 60]) (results_cell3 Tryz.results90 _ _ (W.heap.size + 1) 88 _ (0, 0) _ rfl (row_two rk _ _) Tryz.underlying88 rfl info_kd) rfl ?_
  exact hY.err (er := ([], 60)) (pt_nil _ _)
set_option maxRecDepth 20000 in
set_option maxHeartbeats 2000000 in
theorem kd_many (p : Pk) (a3 a4 a5 a6 a7 : Option Addr) (c3 c4 c5 c6 c7 : Nat) (g : Int) (wb : Nat) (x : Ex) (ax : Option Addr) (cx : Nat) (W : World) (n : Nat) (dp : Int) (hd : dp ≤ 8) (hm : 60 < n + 1) (hW : WkB W p a3 a4 a5 a6 a7 c3 c4 c5 c6 c7 g wb n) (hn : n ≤ 60) (hL : RowR eL W (fun b => b < wb) p.lns a6) (hO : RowR eO W (fun b => b < wb) p.opts a3) (hF : FoAt W (fun b => b < wb) x.args ax) : Calls Tryz.prog 90 #[.pointer (some ⟨wb, 0, none⟩), .agg #[.int .i64 x.op, .int .i64 x.num, .int .i64 x.den, .int .i64 x.mode, .slice ax x.args.len cx], .int .i64 dp] W (KiP p a3 a4 a5 a6 a7 c3 c4 c5 c6 c7 g wb W (n + 1, .error ([], 60))) := by
  obtain ⟨X, hXe⟩ : ∃ X, (W.alloc (.cells #[.int .i64 x.op, .int .i64 x.num, .int .i64 x.den, .int .i64 x.mode, .slice ax x.args.len cx] 59)).alloc (.cells #[.int .i64 0, .int .i64 0] 88) = X := ⟨_, rfl⟩
  have hX : KdS p a3 a4 a5 a6 a7 c3 c4 c5 c6 c7 g wb x ax cx W X n := by rw [← hXe]; exact kd_box hW hL hO hF
  obtain ⟨Y, hYe⟩ : ∃ Y, X.setCell ⟨wb, 8, none⟩ (.int .i64 ((n : Int) + 1)) = Y := ⟨_, rfl⟩
  have hY : KdS p a3 a4 a5 a6 a7 c3 c4 c5 c6 c7 g wb x ax cx W Y (n + 1) := by rw [← hYe]; exact hX.mv (gr_set _ _ _ _) (fun b e => .inl (by injection e with e; exact e.symm)) (hX.wk.set8 (n + 1))
  have x8 : X.cell? ⟨wb, 8, none⟩ = some (.int .i64 (n : Int)) := hX.wk.2.1 8 (by simp)
  have f8 := hX.wk.2.2 8
  have y8 : Y.cell? ⟨wb, 8, none⟩ = some (.int .i64 ((n : Int) + 1)) := hY.wk.2.1 8 (by simp)
  have hn' : (n : Int) ≤ 60 := by omega
  have hlt := hX.lt
  have hne1 : W.heap.size ≠ wb := by omega
  have hne2 : W.heap.size + 1 ≠ wb := by omega
  have rk := hY.kr; have fk0 := frozen_of_row _ _ 0 _ _ rk; have fk1 := frozen_of_row _ _ 1 _ _ rk; have ck0 := cell_of_row _ _ 0 _ _ _ rk; have ck1 := cell_of_row _ _ 1 _ _ _ rk; have e0 := hY.bx.2.1 0 (by simp); have e1 := hY.bx.2.1 1 (by simp); have e2 := hY.bx.2.1 2 (by simp); have e3 := hY.bx.2.1 3 (by simp); have e4 := hY.bx.2.1 4 (by simp)
  have hd' : ¬ 8 < dp := by omega
  have hm' : (60 : Int) < (n : Int) + 1 := by omega
  clear hW hL hO hF hm hd
  go_enter Tryz.func90, Tryz.ntmps90
  go_wp2
  refine bodyPost_ret (v := .tuple #[.agg #[.int .i64 0, .int .i64 0], .slice none 0 0, .int .i64 60]) (results_cell3 Tryz.results90 _ _ (W.heap.size + 1) 88 _ (0, 0) _ rfl (row_two rk _ _) Tryz.underlying88 rfl info_kd) rfl ?_
  exact hY.err (er := ([], 60)) (pt_nil _ _)
set_option maxRecDepth 20000 in
set_option maxHeartbeats 2000000 in
theorem kd_form (p : Pk) (a3 a4 a5 a6 a7 : Option Addr) (c3 c4 c5 c6 c7 : Nat) (g : Int) (wb : Nat) (x : Ex) (ax : Option Addr) (cx : Nat) (W : World) (n : Nat) (dp : Int) (hd : dp ≤ 8) (hm : n + 1 ≤ 60) (hf : foB x = false) (hW : WkB W p a3 a4 a5 a6 a7 c3 c4 c5 c6 c7 g wb n) (hn : n ≤ 60) (hL : RowR eL W (fun b => b < wb) p.lns a6) (hO : RowR eO W (fun b => b < wb) p.opts a3) (hF : FoAt W (fun b => b < wb) x.args ax) : Calls Tryz.prog 90 #[.pointer (some ⟨wb, 0, none⟩), .agg #[.int .i64 x.op, .int .i64 x.num, .int .i64 x.den, .int .i64 x.mode, .slice ax x.args.len cx], .int .i64 dp] W (KiP p a3 a4 a5 a6 a7 c3 c4 c5 c6 c7 g wb W (n + 1, .error ([], 67))) := by
  obtain ⟨X, hXe⟩ : ∃ X, (W.alloc (.cells #[.int .i64 x.op, .int .i64 x.num, .int .i64 x.den, .int .i64 x.mode, .slice ax x.args.len cx] 59)).alloc (.cells #[.int .i64 0, .int .i64 0] 88) = X := ⟨_, rfl⟩
  have hX : KdS p a3 a4 a5 a6 a7 c3 c4 c5 c6 c7 g wb x ax cx W X n := by rw [← hXe]; exact kd_box hW hL hO hF
  obtain ⟨Y, hYe⟩ : ∃ Y, X.setCell ⟨wb, 8, none⟩ (.int .i64 ((n : Int) + 1)) = Y := ⟨_, rfl⟩
  have hY : KdS p a3 a4 a5 a6 a7 c3 c4 c5 c6 c7 g wb x ax cx W Y (n + 1) := by rw [← hYe]; exact hX.mv (gr_set _ _ _ _) (fun b e => .inl (by injection e with e; exact e.symm)) (hX.wk.set8 (n + 1))
  have x8 : X.cell? ⟨wb, 8, none⟩ = some (.int .i64 (n : Int)) := hX.wk.2.1 8 (by simp)
  have f8 := hX.wk.2.2 8
  have y8 : Y.cell? ⟨wb, 8, none⟩ = some (.int .i64 ((n : Int) + 1)) := hY.wk.2.1 8 (by simp)
  have hn' : (n : Int) ≤ 60 := by omega
  have hlt := hX.lt
  have hne1 : W.heap.size ≠ wb := by omega
  have hne2 : W.heap.size + 1 ≠ wb := by omega
  have rk := hY.kr; have fk0 := frozen_of_row _ _ 0 _ _ rk; have fk1 := frozen_of_row _ _ 1 _ _ rk; have ck0 := cell_of_row _ _ 0 _ _ _ rk; have ck1 := cell_of_row _ _ 1 _ _ _ rk; have e0 := hY.bx.2.1 0 (by simp); have e1 := hY.bx.2.1 1 (by simp); have e2 := hY.bx.2.1 2 (by simp); have e3 := hY.bx.2.1 3 (by simp); have e4 := hY.bx.2.1 4 (by simp)
  have hd' : ¬ 8 < dp := by omega
  have hm' : ¬ (60 : Int) < (n : Int) + 1 := by omega
  have hfo := formed_any x ax cx Y (FoAt.mo (fun _ _ _ => trivial) _ _ hY.hF)
  rw [hf] at hfo
  clear hW hL hO hF hm hd hf
  go_enter Tryz.func90, Tryz.ntmps90
  go_wp2_with (go_at_call 97; refine hfo.mono ?_; rintro e w3 ⟨rfl, hb3⟩; have h3 := hY.bel hb3; have rkb := h3.kr; have fkb0 := frozen_of_row _ _ 0 _ _ rkb; have fkb1 := frozen_of_row _ _ 1 _ _ rkb; have ckb0 := cell_of_row _ _ 0 _ _ _ rkb; have ckb1 := cell_of_row _ _ 1 _ _ _ rkb; have eb0 := h3.bx.2.1 0 (by simp); have eb1 := h3.bx.2.1 1 (by simp); have eb2 := h3.bx.2.1 2 (by simp); have eb3 := h3.bx.2.1 3 (by simp); have eb4 := h3.bx.2.1 4 (by simp))
  refine bodyPost_ret (v := .tuple #[.agg #[.int .i64 0, .int .i64 0], .slice none 0 0, .int .i64 67]) (results_cell3 Tryz.results90 _ _ (W.heap.size + 1) 88 _ (0, 0) _ rfl (row_two rkb _ _) Tryz.underlying88 rfl info_kd) rfl ?_
  exact h3.err (er := ([], 67)) (pt_nil _ _)
set_option maxRecDepth 20000 in
set_option maxHeartbeats 2000000 in
theorem kd_there (p : Pk) (a3 a4 a5 a6 a7 : Option Addr) (c3 c4 c5 c6 c7 : Nat) (g : Int) (wb : Nat) (x : Ex) (ax : Option Addr) (cx : Nat) (W : World) (n : Nat) (dp : Int) (hd : dp ≤ 8) (hm : n + 1 ≤ 60) (hf : foB x = true) (ht : thB p g x = false) (hW : WkB W p a3 a4 a5 a6 a7 c3 c4 c5 c6 c7 g wb n) (hn : n ≤ 60) (hL : RowR eL W (fun b => b < wb) p.lns a6) (hO : RowR eO W (fun b => b < wb) p.opts a3) (hF : FoAt W (fun b => b < wb) x.args ax) : Calls Tryz.prog 90 #[.pointer (some ⟨wb, 0, none⟩), .agg #[.int .i64 x.op, .int .i64 x.num, .int .i64 x.den, .int .i64 x.mode, .slice ax x.args.len cx], .int .i64 dp] W (KiP p a3 a4 a5 a6 a7 c3 c4 c5 c6 c7 g wb W (n + 1, .error ([], 68))) := by
  obtain ⟨X, hXe⟩ : ∃ X, (W.alloc (.cells #[.int .i64 x.op, .int .i64 x.num, .int .i64 x.den, .int .i64 x.mode, .slice ax x.args.len cx] 59)).alloc (.cells #[.int .i64 0, .int .i64 0] 88) = X := ⟨_, rfl⟩
  have hX : KdS p a3 a4 a5 a6 a7 c3 c4 c5 c6 c7 g wb x ax cx W X n := by rw [← hXe]; exact kd_box hW hL hO hF
  obtain ⟨Y, hYe⟩ : ∃ Y, X.setCell ⟨wb, 8, none⟩ (.int .i64 ((n : Int) + 1)) = Y := ⟨_, rfl⟩
  have hY : KdS p a3 a4 a5 a6 a7 c3 c4 c5 c6 c7 g wb x ax cx W Y (n + 1) := by rw [← hYe]; exact hX.mv (gr_set _ _ _ _) (fun b e => .inl (by injection e with e; exact e.symm)) (hX.wk.set8 (n + 1))
  have x8 : X.cell? ⟨wb, 8, none⟩ = some (.int .i64 (n : Int)) := hX.wk.2.1 8 (by simp)
  have f8 := hX.wk.2.2 8
  have y8 : Y.cell? ⟨wb, 8, none⟩ = some (.int .i64 ((n : Int) + 1)) := hY.wk.2.1 8 (by simp)
  have hn' : (n : Int) ≤ 60 := by omega
  have hlt := hX.lt
  have hne1 : W.heap.size ≠ wb := by omega
  have hne2 : W.heap.size + 1 ≠ wb := by omega
  have rk := hY.kr; have fk0 := frozen_of_row _ _ 0 _ _ rk; have fk1 := frozen_of_row _ _ 1 _ _ rk; have ck0 := cell_of_row _ _ 0 _ _ _ rk; have ck1 := cell_of_row _ _ 1 _ _ _ rk; have e0 := hY.bx.2.1 0 (by simp); have e1 := hY.bx.2.1 1 (by simp); have e2 := hY.bx.2.1 2 (by simp); have e3 := hY.bx.2.1 3 (by simp); have e4 := hY.bx.2.1 4 (by simp)
  have hd' : ¬ 8 < dp := by omega
  have hm' : ¬ (60 : Int) < (n : Int) + 1 := by omega
  have hfo := formed_any x ax cx Y (FoAt.mo (fun _ _ _ => trivial) _ _ hY.hF)
  rw [hf] at hfo
  have hth : Hid (∀ w, KdS p a3 a4 a5 a6 a7 c3 c4 c5 c6 c7 g wb x ax cx W w (n + 1) → Calls Tryz.prog 98 #[.pointer (some ⟨wb, 0, none⟩), .agg #[.int .i64 x.op, .int .i64 x.num, .int .i64 x.den, .int .i64 x.mode, .slice ax x.args.len cx]] w (Lk (.bool false) w)) := ⟨fun w h => by
    have := there_any p a3 a4 a5 a6 a7 c3 c4 c5 c6 c7 g (n + 1) wb x ax cx w h.wk.at_ (h.hL.mo (fun _ _ _ => trivial)) (h.hO.mo (fun _ _ _ => trivial))
    rwa [ht] at this⟩
  clear hW hL hO hF hm hd hf ht
  go_enter Tryz.func90, Tryz.ntmps90
  go_wp2_with (first | (go_at_call 97; refine hfo.mono ?_; rintro e w3 ⟨rfl, hb3⟩; have h3 := hY.bel hb3; have rkb := h3.kr; have fkb0 := frozen_of_row _ _ 0 _ _ rkb; have fkb1 := frozen_of_row _ _ 1 _ _ rkb; have ckb0 := cell_of_row _ _ 0 _ _ _ rkb; have ckb1 := cell_of_row _ _ 1 _ _ _ rkb; have eb0 := h3.bx.2.1 0 (by simp); have eb1 := h3.bx.2.1 1 (by simp); have eb2 := h3.bx.2.1 2 (by simp); have eb3 := h3.bx.2.1 3 (by simp); have eb4 := h3.bx.2.1 4 (by simp)) | (go_at_call 98; refine (hth.out w3 h3).mono ?_; rintro e w4 ⟨rfl, hb4⟩; have h4 := h3.bel hb4; have rkc := h4.kr; have fkc0 := frozen_of_row _ _ 0 _ _ rkc; have fkc1 := frozen_of_row _ _ 1 _ _ rkc; have ckc0 := cell_of_row _ _ 0 _ _ _ rkc; have ckc1 := cell_of_row _ _ 1 _ _ _ rkc; have ec0 := h4.bx.2.1 0 (by simp); have ec1 := h4.bx.2.1 1 (by simp); have ec2 := h4.bx.2.1 2 (by simp); have ec3 := h4.bx.2.1 3 (by simp); have ec4 := h4.bx.2.1 4 (by simp)))
  refine bodyPost_ret (v := .tuple #[.agg #[.int .i64 0, .int .i64 0], .slice none 0 0, .int .i64 68]) (results_cell3 Tryz.results90 _ _ (W.heap.size + 1) 88 _ (0, 0) _ rfl (row_two rkc _ _) Tryz.underlying88 rfl info_kd) rfl ?_
  exact h4.err (er := ([], 68)) (pt_nil _ _)
end Go.Proofs.YtmklkcefbabhbaaGreat.R6

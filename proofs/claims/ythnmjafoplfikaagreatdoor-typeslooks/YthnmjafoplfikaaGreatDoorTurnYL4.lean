import Derived.Test.YthnmjafoplfikaaGreatDoorTurnYL3
namespace Go.Proofs.YthnmjafoplfikaaGreatDoor
open Go.RowKit

theorem bel3 (W : World) (o1 o2 o3 : Obj) : Below W.heap.size W (((W.alloc o1).alloc o2).alloc o3) := (((Below.refl _ _).alloc (Nat.le_refl _) _).alloc (by simp) _).alloc (by simp; omega) _
def eKd : Elt Kd where
  k := 2
  E := fun _ _ b cs => cs = [.int .i64 b.1, .int .i64 b.2]
  len := fun h => by rw [h]; rfl
  fr := fun h _ _ => h
  mo := fun h _ => h
set_option maxRecDepth 20000 in
set_option maxHeartbeats 1000000 in
theorem always1_any (p : Pk) (g : Int) (x : Ex) (ks : List Kd) (a3 a4 a5 a6 a7 : Option Addr) (c3 c4 c5 c6 c7 : Nat) (ax : Option Addr) (cx : Nat) (ak : Option Addr) (ck : Nat) (cb : Nat) (k : Int) (W : World) (hc : W.cell? ⟨cb, 0, none⟩ = some (.int .i64 k)) : Calls Tryz.prog 119 #[.agg #[.string ⟨p.name.toArray⟩, .int .i64 p.year, .slice a3 p.opts.length c3, .slice a4 p.tabs.length c4, .slice a5 p.grps.length c5, .slice a6 p.lns.length c6, .slice a7 p.cks.length c7, .int .i64 g], .agg #[.int .i64 x.op, .int .i64 x.num, .int .i64 x.den, .int .i64 x.mode, .slice ax x.args.len cx], .slice ak ks.length ck, .pointer (some ⟨cb, 0, none⟩)] W (Lk (.tuple #[.agg #[.int .i64 k, .int .i64 (-1)], .bool true]) W) := by
  have hlt : cb < W.heap.size := World.block_lt_of_cell? _ _ hc
  have hB := bel3 W (.cells #[.string ⟨p.name.toArray⟩, .int .i64 p.year, .slice a3 p.opts.length c3, .slice a4 p.tabs.length c4, .slice a5 p.grps.length c5, .slice a6 p.lns.length c6, .slice a7 p.cks.length c7, .int .i64 g] 159) (.cells #[.int .i64 x.op, .int .i64 x.num, .int .i64 x.den, .int .i64 x.mode, .slice ax x.args.len cx] 73) (.cells #[.int .i64 0, .int .i64 0] 163)
  have hc3 := (bel_cell hB hlt 0).trans hc
  clear hc hB
  go_enter Tryz.func119, Tryz.ntmps119
  go_wp2_with (go_at_call 114; refine (plain_any _ _).mono ?_; rintro e w1 ⟨rfl, rfl⟩)
  refine bodyPost_ret (v := .tuple #[.agg #[.int .i64 k, .int .i64 (-1)], .bool true]) (by simp [results, Tryz.results119, go_sem]) rfl ⟨rfl, ?_⟩
  exact Below.tr (bel3 _ _ _ _) ((Below.refl _ _).alloc (Nat.le_refl _) _) (by simp; omega)
set_option maxRecDepth 20000 in
set_option maxHeartbeats 1000000 in
theorem ofTable_any (p : Pk) (g : Int) (x : Ex) (ks : List Kd) (a3 a4 a5 a6 a7 : Option Addr) (c3 c4 c5 c6 c7 : Nat) (ax : Option Addr) (cx : Nat) (ak : Option Addr) (ck : Nat) (W : World) : Calls Tryz.prog 90 #[.agg #[.string ⟨p.name.toArray⟩, .int .i64 p.year, .slice a3 p.opts.length c3, .slice a4 p.tabs.length c4, .slice a5 p.grps.length c5, .slice a6 p.lns.length c6, .slice a7 p.cks.length c7, .int .i64 g], .agg #[.int .i64 x.op, .int .i64 x.num, .int .i64 x.den, .int .i64 x.mode, .slice ax x.args.len cx], .slice ak ks.length ck] W (Lk (.tuple #[.agg #[.int .i64 5, .int .i64 x.den], .bool true]) W) := by
  go_enter Tryz.func90, Tryz.ntmps90
  go_wp2
  exact bodyPost_ret (v := .tuple #[.agg #[.int .i64 5, .int .i64 x.den], .bool true]) (by simp [results, Tryz.results90, go_sem]) rfl ⟨rfl, bel3 _ _ _ _⟩
set_option maxRecDepth 20000 in
set_option maxHeartbeats 1000000 in
theorem ofArg1_any (p : Pk) (g : Int) (x : Ex) (ks : List Kd) (a3 a4 a5 a6 a7 : Option Addr) (c3 c4 c5 c6 c7 : Nat) (ax : Option Addr) (cx : Nat) (ak : Option Addr) (ck : Nat) (cb : Nat) (k : Nat) (W : World) (hc : W.cell? ⟨cb, 0, none⟩ = some (.int .i64 (k : Int))) (hk : k < ks.length) (hR : RowR eKd W AnyB ks ak) : Calls Tryz.prog 120 #[.agg #[.string ⟨p.name.toArray⟩, .int .i64 p.year, .slice a3 p.opts.length c3, .slice a4 p.tabs.length c4, .slice a5 p.grps.length c5, .slice a6 p.lns.length c6, .slice a7 p.cks.length c7, .int .i64 g], .agg #[.int .i64 x.op, .int .i64 x.num, .int .i64 x.den, .int .i64 x.mode, .slice ax x.args.len cx], .slice ak ks.length ck, .pointer (some ⟨cb, 0, none⟩)] W (Lk (.tuple #[.agg #[.int .i64 (ks[k]).1, .int .i64 (ks[k]).2], .bool true]) W) := by
  have hlt : cb < W.heap.size := World.block_lt_of_cell? _ _ hc
  have hB := bel3 W (.cells #[.string ⟨p.name.toArray⟩, .int .i64 p.year, .slice a3 p.opts.length c3, .slice a4 p.tabs.length c4, .slice a5 p.grps.length c5, .slice a6 p.lns.length c6, .slice a7 p.cks.length c7, .int .i64 g] 159) (.cells #[.int .i64 x.op, .int .i64 x.num, .int .i64 x.den, .int .i64 x.mode, .slice ax x.args.len cx] 73) (.cells #[.int .i64 0, .int .i64 0] 163)
  have hc3 := (bel_cell hB hlt 0).trans hc
  have hR3 := row_bel hR hB (Nat.le_refl _)
  obtain ⟨gk, o, rfl⟩ := hR3.some hk
  obtain ⟨cs, -, -, rfl, hcs⟩ := hR3.item hk
  have k0 : (((W.alloc (.cells #[.string ⟨p.name.toArray⟩, .int .i64 p.year, .slice a3 p.opts.length c3, .slice a4 p.tabs.length c4, .slice a5 p.grps.length c5, .slice a6 p.lns.length c6, .slice a7 p.cks.length c7, .int .i64 g] 159)).alloc (.cells #[.int .i64 x.op, .int .i64 x.num, .int .i64 x.den, .int .i64 x.mode, .slice ax x.args.len cx] 73)).alloc (.cells #[.int .i64 0, .int .i64 0] 163)).cell? ⟨gk, o + k * 2, none⟩ = some (.int .i64 (ks[k]).1) := hcs 0 (by decide)
  have k1 : (((W.alloc (.cells #[.string ⟨p.name.toArray⟩, .int .i64 p.year, .slice a3 p.opts.length c3, .slice a4 p.tabs.length c4, .slice a5 p.grps.length c5, .slice a6 p.lns.length c6, .slice a7 p.cks.length c7, .int .i64 g] 159)).alloc (.cells #[.int .i64 x.op, .int .i64 x.num, .int .i64 x.den, .int .i64 x.mode, .slice ax x.args.len cx] 73)).alloc (.cells #[.int .i64 0, .int .i64 0] 163)).cell? ⟨gk, o + k * 2 + 1, none⟩ = some (.int .i64 (ks[k]).2) := hcs 1 (by decide)
  have hk' : (k : Int) < (ks.length : Int) := by omega
  have hk0 : (0 : Int) ≤ (k : Int) := by omega
  generalize ks[k] = kk at k0 k1 ⊢
  clear hcs hR hk hR3 hc hB
  go_enter Tryz.func120, Tryz.ntmps120
  go_wp2
  exact bodyPost_ret (v := .tuple #[.agg #[.int .i64 kk.1, .int .i64 kk.2], .bool true]) (by simp [results, Tryz.results120, go_sem]) rfl ⟨rfl, bel3 _ _ _ _⟩
set_option maxRecDepth 20000 in
set_option maxHeartbeats 2000000 in
theorem ofLine1_any (p : Pk) (g : Int) (x : Ex) (ks : List Kd) (a3 a4 a5 a6 a7 : Option Addr) (c3 c4 c5 c6 c7 : Nat) (ax : Option Addr) (cx : Nat) (ak : Option Addr) (ck : Nat) (cb : Nat) (k : Int) (W : World) (hc : W.cell? ⟨cb, 0, none⟩ = some (.int .i64 k)) (i : Nat) (hxi : x.num = i) (hi : i < p.lns.length) (hk : isK (p.lns[i]).type = true) (hR : RowR eL W AnyB p.lns a6) : Calls Tryz.prog 121 #[.agg #[.string ⟨p.name.toArray⟩, .int .i64 p.year, .slice a3 p.opts.length c3, .slice a4 p.tabs.length c4, .slice a5 p.grps.length c5, .slice a6 p.lns.length c6, .slice a7 p.cks.length c7, .int .i64 g], .agg #[.int .i64 x.op, .int .i64 x.num, .int .i64 x.den, .int .i64 x.mode, .slice ax x.args.len cx], .slice ak ks.length ck, .pointer (some ⟨cb, 0, none⟩)] W (Lk (.tuple #[.agg #[.int .i64 (lineK (p.lns[i])).1, .int .i64 (lineK (p.lns[i])).2], .bool (inK (lineK (p.lns[i])).1 k)]) W) := by
  have hlt : cb < W.heap.size := World.block_lt_of_cell? _ _ hc
  obtain ⟨W3, hW3⟩ : ∃ W3, W3 = (((W.alloc (.cells #[.string ⟨p.name.toArray⟩, .int .i64 p.year, .slice a3 p.opts.length c3, .slice a4 p.tabs.length c4, .slice a5 p.grps.length c5, .slice a6 p.lns.length c6, .slice a7 p.cks.length c7, .int .i64 g] 159)).alloc (.cells #[.int .i64 x.op, .int .i64 x.num, .int .i64 x.den, .int .i64 x.mode, .slice ax x.args.len cx] 73)).alloc (.cells #[.int .i64 0, .int .i64 0] 163)) := ⟨_, rfl⟩
  have hB : Below W.heap.size W W3 := by rw [hW3]; exact bel3 _ _ _ _
  have hs3 : W3.heap.size = W.heap.size + 1 + 1 + 1 := by rw [hW3]; simp
  have hq := bx_new ((W.alloc (.cells #[.string ⟨p.name.toArray⟩, .int .i64 p.year, .slice a3 p.opts.length c3, .slice a4 p.tabs.length c4, .slice a5 p.grps.length c5, .slice a6 p.lns.length c6, .slice a7 p.cks.length c7, .int .i64 g] 159)).alloc (.cells #[.int .i64 x.op, .int .i64 x.num, .int .i64 x.den, .int .i64 x.mode, .slice ax x.args.len cx] 73)) #[.int .i64 0, .int .i64 0] 163
  rw [← hW3, show ((W.alloc (.cells #[.string ⟨p.name.toArray⟩, .int .i64 p.year, .slice a3 p.opts.length c3, .slice a4 p.tabs.length c4, .slice a5 p.grps.length c5, .slice a6 p.lns.length c6, .slice a7 p.cks.length c7, .int .i64 g] 159)).alloc (.cells #[.int .i64 x.op, .int .i64 x.num, .int .i64 x.den, .int .i64 x.mode, .slice ax x.args.len cx] 73)).heap.size = W.heap.size + 1 + 1 by simp] at hq
  have hR3 := row_bel hR hB (Nat.le_refl _)
  obtain ⟨gl, o, rfl⟩ := hR3.some hi
  obtain ⟨cs, -, -, ⟨al, cl, rfl, -⟩, hcs⟩ := hR3.item hi
  have hl7 : W3.cell? ⟨gl, o + i * 7, none⟩ = some (.string ⟨(p.lns[i]).name.toArray⟩) ∧ W3.cell? ⟨gl, o + i * 7 + 1, none⟩ = some (.bool (p.lns[i]).input) ∧ W3.cell? ⟨gl, o + i * 7 + 2, none⟩ = some (.bool (p.lns[i]).must) ∧ W3.cell? ⟨gl, o + i * 7 + 3, none⟩ = some (.int .i64 (p.lns[i]).type) ∧ W3.cell? ⟨gl, o + i * 7 + 4, none⟩ = some (.int .i64 (p.lns[i]).opts) ∧ W3.cell? ⟨gl, o + i * 7 + 5, none⟩ = some (.int .i64 (p.lns[i]).group) ∧ W3.cell? ⟨gl, o + i * 7 + 6, none⟩ = some (.slice al (p.lns[i]).cls.length cl) := ⟨hcs 0 (by decide), hcs 1 (by decide), hcs 2 (by decide), hcs 3 (by decide), hcs 4 (by decide), hcs 5 (by decide), hcs 6 (by decide)⟩
  obtain ⟨k0, k1, k2, k3, k4, k5, k6⟩ := hl7
  have hi' : (i : Int) < (p.lns.length : Int) := by omega
  have hi0 : (0 : Int) ≤ (i : Int) := by omega
  rw [hxi] at hW3 ⊢
  have hkl : isK (lineK (p.lns[i])).1 = true := by
    unfold lineK
    split
    · rfl
    · exact hk
  generalize p.lns[i] = l at k0 k1 k2 k3 k4 k5 k6 hkl ⊢
  have hlk := lineKind_any l al cl
  generalize lineK l = kk at hkl hlk ⊢
  have hin := kin_any kk.1 kk.2 k hkl
  generalize inK kk.1 k = r at hin ⊢
  have hC : ∀ w1, Below W3.heap.size W3 w1 → w1.cell? ⟨cb, 0, none⟩ = some (.int .i64 k) ∧ cb < w1.heap.size := fun w1 h1 => ⟨(bel_cell (bthr hB h1 (Nat.le_refl _)) hlt 0).trans hc, by have := h1.size; omega⟩
  have hD : ∀ w1 w2, Below W3.heap.size W3 w1 → Below (w1.alloc (.cells #[.int .i64 kk.1, .int .i64 kk.2] 163)).heap.size (w1.alloc (.cells #[.int .i64 kk.1, .int .i64 kk.2] 163)) w2 → w2.cell? ⟨W.heap.size + 1 + 1, 0, none⟩ = some (.int .i64 0) ∧ w2.cell? ⟨W.heap.size + 1 + 1, 1, none⟩ = some (.int .i64 0) ∧ (∀ j, w2.frozen? ⟨W.heap.size + 1 + 1, j, none⟩ = false) ∧ Below W.heap.size W w2 ∧ Bx w2 w1.heap.size [.int .i64 kk.1, .int .i64 kk.2] ∧ Bx ((w2.setCell ⟨W.heap.size + 1 + 1, 0, none⟩ (.int .i64 kk.1)).setCell ⟨W.heap.size + 1 + 1, 1, none⟩ (.int .i64 kk.2)) (W.heap.size + 1 + 1) [.int .i64 kk.1, .int .i64 kk.2] ∧ Below W.heap.size W ((w2.setCell ⟨W.heap.size + 1 + 1, 0, none⟩ (.int .i64 kk.1)).setCell ⟨W.heap.size + 1 + 1, 1, none⟩ (.int .i64 kk.2)) := fun w1 w2 h1 h2 => by
    have h3 : Below W3.heap.size W3 (w1.alloc (.cells #[.int .i64 kk.1, .int .i64 kk.2] 163)) := h1.alloc h1.size _
    have h4 := bthr h3 h2 (Nat.le_refl _)
    have hb := bx_new w1 #[.int .i64 kk.1, .int .i64 kk.2] 163
    have hq2 : Bx w2 (W.heap.size + 1 + 1) [.int .i64 0, .int .i64 0] := ⟨by have := h4.size; omega, fun j hj => (bel_cell h4 (by omega) j).trans (hq.2.1 j hj), fun j => (World.frozen?_of_block (a := ⟨W.heap.size + 1 + 1, j, none⟩) (h4.block _ (by simp; omega))).trans (hq.2.2 j)⟩
    have hBW := bthr hB h4 (Nat.le_refl _)
    exact ⟨(bel_cell h4 (by omega) 0).trans (hq.2.1 0 (by simp)), (bel_cell h4 (by omega) 1).trans (hq.2.1 1 (by simp)), fun j => (World.frozen?_of_block (a := ⟨W.heap.size + 1 + 1, j, none⟩) (h4.block _ (by simp; omega))).trans (hq.2.2 j), bthr hB h4 (Nat.le_refl _), ⟨Nat.lt_of_lt_of_le hb.1 h2.size, fun j hj => (bel_cell h2 hb.1 j).trans (hb.2.1 j hj), fun j => (World.frozen?_of_block (a := ⟨w1.heap.size, j, none⟩) (h2.block _ hb.1)).trans (hb.2.2 j)⟩, (hq2.set 0 (.int .i64 kk.1)).set 1 (.int .i64 kk.2), (hBW.setCell (p := ⟨W.heap.size + 1 + 1, 0, none⟩) (by simp; omega) _).setCell (p := ⟨W.heap.size + 1 + 1, 1, none⟩) (by simp; omega) _⟩
  clear hcs hR hR3 hk hxi hkl hc hi hlt hs3
  subst hW3
  clear hB hq
  go_enter Tryz.func121, Tryz.ntmps121
  go_wp2_with (first | (go_at_call 115; refine (hlk _).mono ?_; clear hlk; rintro e w1 ⟨rfl, hb1⟩; obtain ⟨kc, kl⟩ := hC w1 hb1; have kc2 := (bel_cell ((Below.refl w1.heap.size w1).alloc (Nat.le_refl _) (.cells #[.int .i64 kk.1, .int .i64 kk.2] 163)) kl 0).trans kc))
  have kb := bx_new w1 #[.int .i64 kk.1, .int .i64 kk.2] 163
  have kb0 := kb.2.1 0 (by simp)
  have kb1 := kb.2.1 1 (by simp)
  clear kb
  go_region_with (go_at_call 122; refine (hin _).mono ?_; clear hin; rintro e w2 ⟨rfl, hb2⟩; obtain ⟨q0, q1, qz, qb, qk, qx, qw⟩ := hD w1 w2 hb1 ((Below.refl _ _).drew.trans hb2); have qk0 := qk.2.1 0 (by simp); have qk1 := qk.2.1 1 (by simp); have qz0 := qz 0; have qz1 := qz 1; have qx0 := qx.2.1 0 (by simp); have qx1 := qx.2.1 1 (by simp))
  all_goals (go_wp2; exact bodyPost_ret (v := .tuple #[.agg #[.int .i64 kk.1, .int .i64 kk.2], .bool r]) (by simp at qx0 qx1; simp [results, Tryz.results121, go_sem, qx0, qx1]) rfl ⟨rfl, qw⟩)
end Go.Proofs.YthnmjafoplfikaaGreatDoor

import Derived.Test.YthnmjafoplfikaaGreatDoorTurnYN4
import Derived.Test.YthnmjafoplfikaaGreatDoorTurnYN7
namespace Go.Proofs.YthnmjafoplfikaaGreatDoor
open Go.RowKit

set_option maxRecDepth 20000 in
set_option maxHeartbeats 6000000 in
theorem node_fd (p : Pk) (g : Int) (a3 a4 a5 a6 a7 : Option Addr) (c3 c4 c5 c6 c7 : Nat) (k : Nat) (num den mode : Int) (args : Fo) (ax : Option Addr) (cx : Nat) (lb s : Nat) (W : World) (n : Nat) (path : List Nat) (pv : Value) (h : LkS p (scG p a3 a4 a5 a6 a7 c3 c4 c5 c6 c7 g) lb s W n path pv) (hn : n ≤ 60) (d : Nat) (hd8 : path.length + (d + 1) = 8) (hm : n + 1 ≤ 60) (hk1 : 1 ≤ k) (hk2 : k < 42) (fd : Fd) (fn : Nat) (hen : ∀ (x : Array Value) (w : World), (callFunc fn x).run Tryz.prog w = .ok (.enter fn x) w) (hfn : fdV fd = .func (Fn.func fn) #[] #[]) (hcl : ∀ X, RowR eO X AnyB p.opts a3 → RowR eL X AnyB p.lns a6 → Calls Tryz.prog fn #[.agg #[.string ⟨p.name.toArray⟩, .int .i64 p.year, .slice a3 p.opts.length c3, .slice a4 p.tabs.length c4, .slice a5 p.grps.length c5, .slice a6 p.lns.length c6, .slice a7 p.cks.length c7, .int .i64 g], .agg #[.int .i64 (k : Int), .int .i64 num, .int .i64 den, .int .i64 mode, .slice ax args.len cx]] X (Lk (.bool (findB p g (⟨(k : Int), num, den, mode, args⟩ : Ex) fd)) X)) (hfd : (opTab k).fd = fd) (hFo : FoAt W (fun b => b < lb) args ax) (hal : args.len ≤ 9223372036854775807) (hA : takesB (opTab k) (⟨(k : Int), num, den, mode, args⟩ : Ex) = true → ∀ Y qv, LkS p (scG p a3 a4 a5 a6 a7 c3 c4 c5 c6 c7 g) lb s Y (n + 1) path qv → FoAt Y (fun b => b < lb) args ax → Calls Tryz.prog 117 #[.pointer (some ⟨lb, 0, none⟩), .slice ax args.len cx] Y (ArP p (scG p a3 a4 a5 a6 a7 c3 c4 c5 c6 c7 g) lb s path qv (tFold (tN p g d) (toL args) 0 (n + 1) []) Y)) : Calls Tryz.prog 83 #[.pointer (some ⟨lb, 0, none⟩), .agg #[.int .i64 (k : Int), .int .i64 num, .int .i64 den, .int .i64 mode, .slice ax args.len cx]] W (NdP p (scG p a3 a4 a5 a6 a7 c3 c4 c5 c6 c7 g) lb s path pv (tN p g (d + 1) (⟨(k : Int), num, den, mode, args⟩ : Ex) n).1 (tN p g (d + 1) (⟨(k : Int), num, den, mode, args⟩ : Ex) n).2 W) := by
  have hd : path.length < 8 := by omega
  have ho1 : ¬ (k : Int) < 1 := by omega
  have ho2 : ¬ 42 ≤ (k : Int) := by omega
  have hop := oprOk_at hk1 hk2
  have hT : tN p g (d + 1) (⟨(k : Int), num, den, mode, args⟩ : Ex) n = (if takesB (opTab k) (⟨(k : Int), num, den, mode, args⟩ : Ex) = false then (n + 1, .error ([], 67)) else if findB p g (⟨(k : Int), num, den, mode, args⟩ : Ex) (opTab k).fd = false then (n + 1, .error ([], 68)) else match tFold (tN p g d) (toL args) 0 (n + 1) [] with
      | (m, .error e) => (m, .error e)
      | (m, .ok ks) => (m, worthF p (opTab k) (⟨(k : Int), num, den, mode, args⟩ : Ex) ks)) := by
    unfold tN
    rw [if_neg (by omega), if_neg (show ¬ ((k : Int) < 1 ∨ 42 ≤ (k : Int)) by omega)]
    rfl
  have hTl := fun m ks => @tFold_len (tN p g d) (toL args) 0 (n + 1) [] m ks
  have hTa := fun m ks => @tFold_all (tN p g d) (fun k => isK k.1 = true) (fun x n m k h => tN_isK p g d x n m k h) (toL args) 0 (n + 1) [] m ks (fun _ h => by cases h)
  have hTe := fun m e => tFold_err p g d (toL args) 0 (n + 1) [] m e
  obtain ⟨R, hRe⟩ : ∃ R, R = tFold (tN p g d) (toL args) 0 (n + 1) [] := ⟨_, rfl⟩
  rw [← hRe] at hT hA hTl hTa hTe
  obtain ⟨m0, r0, hmr⟩ : ∃ m0 r0, tN p g (d + 1) (⟨(k : Int), num, den, mode, args⟩ : Ex) n = (m0, r0) := ⟨_, _, rfl⟩
  rw [hmr] at hT ⊢
  simp only
  rw [hfd] at hT
  have hTH := Hid.mk hT
  have hAH := Hid.mk hA
  have hTlH := Hid.mk hTl
  have hTaH := Hid.mk hTa
  have hTeH := Hid.mk hTe
  clear hRe hmr hd8 hT hA hTl hTa hTe
  obtain ⟨pa, pcap, rfl, hpa, hpc⟩ := own_int h.own
  have hlb := h.lt
  have c9 := h.c9
  have qz := h.fz 9
  have c8 := h.c8
  have c10 := h.c10
  obtain ⟨Wn, hWn⟩ : ∃ Wn, Wn = W.setCell ⟨lb, 9, none⟩ (.int .i64 ((n : Int) + 1)) := ⟨_, rfl⟩
  have hLn : LkS p (scG p a3 a4 a5 a6 a7 c3 c4 c5 c6 c7 g) lb s Wn (n + 1) path (.slice pa path.length pcap) := by rw [hWn]; exact h.set9 (n + 1)
  have hFn : Fr lb W (.slice pa path.length pcap) Wn (.slice pa path.length pcap) := by rw [hWn]; exact Fr.set W _ _ 9 _ rfl
  have hsn : Wn.heap.size = W.heap.size := by rw [hWn]; simp [World.setCell]
  obtain ⟨W3, hW3⟩ : ∃ W3, W3 = ((Wn.alloc (.cells #[.int .i64 (k : Int), .int .i64 num, .int .i64 den, .int .i64 mode, .slice ax args.len cx] 73)).alloc (.cells #[.int .i64 0, .int .i64 0] 163)) := ⟨_, rfl⟩
  have hB0 : Below Wn.heap.size Wn W3 := by rw [hW3]; exact ((Below.refl _ _).alloc (Nat.le_refl _) _).alloc (by simp) _
  have hs3 : W3.heap.size = W.heap.size + 1 + 1 := by rw [hW3]; simp [hsn]
  have hbx := (bx_new Wn #[.int .i64 (k : Int), .int .i64 num, .int .i64 den, .int .i64 mode, .slice ax args.len cx] 73).kept (World.grownBy_alloc _ (.cells #[.int .i64 0, .int .i64 0] 163) none) (by simp)
  have hbk := bx_new (Wn.alloc (.cells #[.int .i64 (k : Int), .int .i64 num, .int .i64 den, .int .i64 mode, .slice ax args.len cx] 73)) #[.int .i64 0, .int .i64 0] 163
  rw [show (Wn.alloc (.cells #[.int .i64 (k : Int), .int .i64 num, .int .i64 den, .int .i64 mode, .slice ax args.len cx] 73)).heap.size = W.heap.size + 1 by simp [hsn]] at hbk
  rw [hsn] at hbx
  rw [← hW3] at hbx hbk
  have hL3 := hLn.bel hB0
  have hF3 : Fr lb W (.slice pa path.length pcap) W3 (.slice pa path.length pcap) := hFn.trans (Fr.bel hB0 _)
  have k0 := hbk.2.1 0 (by simp)
  have k1 := hbk.2.1 1 (by simp)
  have z0 := hbk.2.2 0
  have z1 := hbk.2.2 1
  have j0 := set_id k0
  have j1 := set_id k1
  have hfin : ∀ c Y, Below W3.heap.size W3 Y → NdP p (scG p a3 a4 a5 a6 a7 c3 c4 c5 c6 c7 g) lb s path (.slice pa path.length pcap) (n + 1) (.error ([], c)) W (.returned (resV (.error ([], c)))) Y := fun c Y hY => ⟨rfl, _, by simpa [pathAf] using hL3.bel hY, hF3.trans (Fr.bel hY _)⟩
  have x0 := hbx.2.1 0 (by simp)
  have r8 := hL3.c8
  have hd' : (path.length : Int) < 8 := by omega
  have hm' : ¬ (60 : Int) < (n : Int) + 1 := by omega
  clear hd hm
  have hH3 := Hid.mk hW3
  have hHn := Hid.mk hWn
  have hfin := Hid.mk hfin
  have hL3 := Hid.mk hL3
  have hF3 := Hid.mk hF3
  have hbxH := Hid.mk hbx
  have hbkH := Hid.mk hbk
  clear hW3 hWn hLn hFn hbx hbk hB0 k0 k1 z0 z1 j0 j1
  go_enter Tryz.func83, Tryz.ntmps83
  go_wp2
  rw [← hHn.out, ← hH3.out]
  clear hHn hH3
  go_quiet (fail)
  have hB4 : Below W3.heap.size W3 (World.drewN W3 nq) := bel_drewN _ _ _
  obtain ⟨W4, hW4⟩ : ∃ W4, W4 = World.drewN W3 nq := ⟨_, rfl⟩
  rw [← hW4] at hB4 ⊢
  clear hW4
  have bk4 : Bx W4 (W.heap.size + 1) [.int .i64 0, .int .i64 0] := ⟨Nat.lt_of_lt_of_le hbkH.out.1 hB4.size, fun j hj => (bel_cell hB4 hbkH.out.1 j).trans (hbkH.out.2.1 j hj), fun j => (World.frozen?_of_block (a := ⟨W.heap.size + 1, j, none⟩) (hB4.block _ hbkH.out.1)).trans (hbkH.out.2.2 j)⟩
  have k0 := bk4.2.1 0 (by simp)
  have k1 := bk4.2.1 1 (by simp)
  have z0 := bk4.2.2 0
  have z1 := bk4.2.2 1
  have j0 := set_id k0
  have j1 := set_id k1
  have hL4 := hL3.out.bel hB4
  have hrow := fun (j : Nat) (hj : j < 15) => hL4.ops.row hk1 hk2 hj
  have hro : W4.cell? ⟨s + 29, k * 15, none⟩ = some (.int .i64 (opTab k).num.1) ∧ W4.cell? ⟨s + 29, k * 15 + 1, none⟩ = some (.int .i64 (opTab k).num.2) ∧ W4.cell? ⟨s + 29, k * 15 + 2, none⟩ = some (.int .i64 (opTab k).den.1) ∧ W4.cell? ⟨s + 29, k * 15 + 3, none⟩ = some (.int .i64 (opTab k).den.2) ∧ W4.cell? ⟨s + 29, k * 15 + 4, none⟩ = some (.int .i64 (opTab k).mode.1) ∧ W4.cell? ⟨s + 29, k * 15 + 5, none⟩ = some (.int .i64 (opTab k).mode.2) ∧ W4.cell? ⟨s + 29, k * 15 + 6, none⟩ = some (.int .i64 (opTab k).least) ∧ W4.cell? ⟨s + 29, k * 15 + 7, none⟩ = some (.int .i64 (opTab k).most) ∧ W4.cell? ⟨s + 29, k * 15 + 8, none⟩ = some (.int .i64 (opTab k).only) ∧ W4.cell? ⟨s + 29, k * 15 + 9, none⟩ = some (.int .i64 (opTab k).n1.1) ∧ W4.cell? ⟨s + 29, k * 15 + 10, none⟩ = some (.int .i64 (opTab k).n1.2) ∧ W4.cell? ⟨s + 29, k * 15 + 11, none⟩ = some (.int .i64 (opTab k).n2.1) ∧ W4.cell? ⟨s + 29, k * 15 + 12, none⟩ = some (.int .i64 (opTab k).n2.2) ∧ W4.cell? ⟨s + 29, k * 15 + 13, none⟩ = some (fdV (opTab k).fd) ∧ W4.cell? ⟨s + 29, k * 15 + 14, none⟩ = some (tlV s (opTab k).tl) := ⟨hrow 0 (by decide), hrow 1 (by decide), hrow 2 (by decide), hrow 3 (by decide), hrow 4 (by decide), hrow 5 (by decide), hrow 6 (by decide), hrow 7 (by decide), hrow 8 (by decide), hrow 9 (by decide), hrow 10 (by decide), hrow 11 (by decide), hrow 12 (by decide), hrow 13 (by decide), hrow 14 (by decide)⟩
  obtain ⟨o, hoe⟩ : ∃ o, o = opTab k := ⟨_, rfl⟩
  rw [← hoe] at hro
  obtain ⟨w0, w1, w2, w3, w4, w5, w6, w7, w8, w9, w10, w11, w12, w13, w14⟩ := hro
  have hoeH := Hid.mk hoe
  obtain ⟨ft, cap, htv⟩ : ∃ ft cap, tlV s o.tl = .func (Fn.func ft) #[] cap := by cases o.tl <;> exact ⟨_, _, rfl⟩
  rw [htv] at w14
  rw [hoe, hfd, hfn] at w13
  have htvH := Hid.mk htv
  clear htv
  rw [← hoe] at hTH hop hAH
  have hofd : o.fd = fd := by rw [hoe]; exact hfd
  have hofdH := Hid.mk hofd
  clear hoe hrow hfd hofd
  have hki0 : (0 : Int) ≤ (k : Int) := by omega
  have hki1 : (k : Int) < 42 := by omega
  have v8 := hL4.c8
  have vx := (bel_cell hB4 hbxH.out.1 0).trans (hbxH.out.2.1 0 (by simp))
  have lt1 : lb < W4.heap.size := hL4.lt
  have lt2 : W.heap.size < W4.heap.size := World.block_lt_of_cell? _ _ vx
  have lt3 : s + 29 < W4.heap.size := by have := hL4.ops.1; omega
  go_wp2
  go_region
  obtain ⟨W5, hW5⟩ : ∃ W5, W5 = (W4.alloc (.cells #[.int .i64 o.num.1, .int .i64 o.num.2, .int .i64 o.den.1, .int .i64 o.den.2, .int .i64 o.mode.1, .int .i64 o.mode.2, .int .i64 o.least, .int .i64 o.most, .int .i64 o.only, .int .i64 o.n1.1, .int .i64 o.n1.2, .int .i64 o.n2.1, .int .i64 o.n2.2, .func (Fn.func fn) #[] #[], .func (Fn.func ft) #[] cap] 179)).drew := ⟨_, rfl⟩
  rw [← hW5]
  have hB5 : Below W4.heap.size W4 W5 := by rw [hW5]; exact ((Below.refl _ _).alloc (Nat.le_refl _) _).drew
  have hbo : Bx W5 W4.heap.size [.int .i64 o.num.1, .int .i64 o.num.2, .int .i64 o.den.1, .int .i64 o.den.2, .int .i64 o.mode.1, .int .i64 o.mode.2, .int .i64 o.least, .int .i64 o.most, .int .i64 o.only, .int .i64 o.n1.1, .int .i64 o.n1.2, .int .i64 o.n2.1, .int .i64 o.n2.2, .func (Fn.func fn) #[] #[], .func (Fn.func ft) #[] cap] := by rw [hW5]; exact bx_new W4 #[.int .i64 o.num.1, .int .i64 o.num.2, .int .i64 o.den.1, .int .i64 o.den.2, .int .i64 o.mode.1, .int .i64 o.mode.2, .int .i64 o.least, .int .i64 o.most, .int .i64 o.only, .int .i64 o.n1.1, .int .i64 o.n1.2, .int .i64 o.n2.1, .int .i64 o.n2.2, .func (Fn.func fn) #[] #[], .func (Fn.func ft) #[] cap] 179
  have hs5 : W5.heap.size = W4.heap.size + 1 := by rw [hW5]; show (W4.alloc _).heap.size = _; simp
  clear hW5 w0 w1 w2 w3 w4 w5 w6 w7 w8 w9 w10 w11 w12 w13 w14 v8 vx k0 k1 z0 z1 j0 j1
  have hboH := Hid.mk hbo
  clear hbo
  have hL5 := hL4.bel hB5
  have hF5 : Fr lb W (.slice pa path.length pcap) W5 (.slice pa path.length pcap) := (hF3.out.trans (Fr.bel hB4 _)).trans (Fr.bel hB5 _)
  have hbx5 : Bx W5 W.heap.size [.int .i64 (k : Int), .int .i64 num, .int .i64 den, .int .i64 mode, .slice ax args.len cx] := (hbxH.out.bel hB4 hbxH.out.1).bel hB5 (hbxH.out.bel hB4 hbxH.out.1).1
  have hbk5 : Bx W5 (W.heap.size + 1) [.int .i64 0, .int .i64 0] := bk4.bel hB5 bk4.1
  have hlo := h.lo
  have hpo : ∀ b, W.heap.size ≤ b → some b ≠ (Value.slice pa path.length pcap).ownBlock := fun b hb e => by
    have := (h.pg b e.symm).2
    omega
  have hC : ∀ Y, (Bx Y W4.heap.size [.int .i64 o.num.1, .int .i64 o.num.2, .int .i64 o.den.1, .int .i64 o.den.2, .int .i64 o.mode.1, .int .i64 o.mode.2, .int .i64 o.least, .int .i64 o.most, .int .i64 o.only, .int .i64 o.n1.1, .int .i64 o.n1.2, .int .i64 o.n2.1, .int .i64 o.n2.2, .func (Fn.func fn) #[] #[], .func (Fn.func ft) #[] cap] ∧ Bx Y W.heap.size [.int .i64 (k : Int), .int .i64 num, .int .i64 den, .int .i64 mode, .slice ax args.len cx] ∧ LkS p (scG p a3 a4 a5 a6 a7 c3 c4 c5 c6 c7 g) lb s Y (n + 1) path (.slice pa path.length pcap)) → (Y.cell? ⟨W4.heap.size, 0, none⟩ = some (.int .i64 o.num.1) ∧ Y.cell? ⟨W4.heap.size, 1, none⟩ = some (.int .i64 o.num.2) ∧ Y.cell? ⟨W4.heap.size, 2, none⟩ = some (.int .i64 o.den.1) ∧ Y.cell? ⟨W4.heap.size, 3, none⟩ = some (.int .i64 o.den.2) ∧ Y.cell? ⟨W4.heap.size, 4, none⟩ = some (.int .i64 o.mode.1) ∧ Y.cell? ⟨W4.heap.size, 5, none⟩ = some (.int .i64 o.mode.2) ∧ Y.cell? ⟨W4.heap.size, 6, none⟩ = some (.int .i64 o.least) ∧ Y.cell? ⟨W4.heap.size, 7, none⟩ = some (.int .i64 o.most) ∧ Y.cell? ⟨W4.heap.size, 8, none⟩ = some (.int .i64 o.only) ∧ Y.cell? ⟨W4.heap.size, 9, none⟩ = some (.int .i64 o.n1.1) ∧ Y.cell? ⟨W4.heap.size, 10, none⟩ = some (.int .i64 o.n1.2) ∧ Y.cell? ⟨W4.heap.size, 11, none⟩ = some (.int .i64 o.n2.1) ∧ Y.cell? ⟨W4.heap.size, 12, none⟩ = some (.int .i64 o.n2.2) ∧ Y.cell? ⟨W4.heap.size, 13, none⟩ = some (.func (Fn.func fn) #[] #[]) ∧ Y.cell? ⟨W4.heap.size, 14, none⟩ = some (.func (Fn.func ft) #[] cap)) ∧ (Y.cell? ⟨W.heap.size, 0, none⟩ = some (.int .i64 (k : Int)) ∧ Y.cell? ⟨W.heap.size, 1, none⟩ = some (.int .i64 num) ∧ Y.cell? ⟨W.heap.size, 2, none⟩ = some (.int .i64 den) ∧ Y.cell? ⟨W.heap.size, 3, none⟩ = some (.int .i64 mode) ∧ Y.cell? ⟨W.heap.size, 4, none⟩ = some (.slice ax args.len cx)) ∧ (Y.cell? ⟨lb, 0, none⟩ = some (.string ⟨p.name.toArray⟩) ∧ Y.cell? ⟨lb, 1, none⟩ = some (.int .i64 p.year) ∧ Y.cell? ⟨lb, 2, none⟩ = some (.slice a3 p.opts.length c3) ∧ Y.cell? ⟨lb, 3, none⟩ = some (.slice a4 p.tabs.length c4) ∧ Y.cell? ⟨lb, 4, none⟩ = some (.slice a5 p.grps.length c5) ∧ Y.cell? ⟨lb, 5, none⟩ = some (.slice a6 p.lns.length c6) ∧ Y.cell? ⟨lb, 6, none⟩ = some (.slice a7 p.cks.length c7) ∧ Y.cell? ⟨lb, 7, none⟩ = some (.int .i64 g)) := fun Y hY => by
    obtain ⟨hO, hX, hL⟩ := hY
    exact ⟨⟨hO.2.1 0 (by simp), hO.2.1 1 (by simp), hO.2.1 2 (by simp), hO.2.1 3 (by simp), hO.2.1 4 (by simp), hO.2.1 5 (by simp), hO.2.1 6 (by simp), hO.2.1 7 (by simp), hO.2.1 8 (by simp), hO.2.1 9 (by simp), hO.2.1 10 (by simp), hO.2.1 11 (by simp), hO.2.1 12 (by simp), hO.2.1 13 (by simp), hO.2.1 14 (by simp)⟩, ⟨hX.2.1 0 (by simp), hX.2.1 1 (by simp), hX.2.1 2 (by simp), hX.2.1 3 (by simp), hX.2.1 4 (by simp)⟩, ⟨hL.sc 0 (by decide), hL.sc 1 (by decide), hL.sc 2 (by decide), hL.sc 3 (by decide), hL.sc 4 (by decide), hL.sc 5 (by decide), hL.sc 6 (by decide), hL.sc 7 (by decide)⟩⟩
  have hFo5 : FoAt W5 (fun b => b < lb) args ax := FoAt.fr hF5.size (fun b hb hlt => hF5.blk b hlt (by omega) (fun e => by have := (h.pg b e.symm).1; omega)) _ _ hFo
  have htk := takes_any o (.func (Fn.func fn) #[] #[]) (.func (Fn.func ft) #[] cap) (⟨(k : Int), num, den, mode, args⟩ : Ex) ax cx W5 (FoAt.mo (fun _ _ _ => trivial) _ _ hFo5) hal
  obtain ⟨⟨ao0, ao1, ao2, ao3, ao4, ao5, ao6, ao7, ao8, ao9, ao10, ao11, ao12, ao13, ao14⟩, ⟨ax0, ax1, ax2, ax3, ax4⟩, -⟩ := hC W5 ⟨hboH.out, hbx5, hL5⟩
  have hfinE : ∀ c Y, Below W5.heap.size W5 Y → (m0, r0) = (n + 1, .error ([], c)) → NdP p (scG p a3 a4 a5 a6 a7 c3 c4 c5 c6 c7 g) lb s path (.slice pa path.length pcap) m0 r0 W (.returned (.tuple #[.agg #[.int .i64 0, .int .i64 0], .int .i64 (c : Int)])) Y := fun c Y hY he => by
    cases he
    exact ⟨rfl, _, by simpa [pathAf] using hL5.bel hY, hF5.trans (Fr.bel hY _)⟩
  have hfinEH := Hid.mk hfinE
  have hpoH := Hid.mk hpo
  have hCH := Hid.mk hC
  clear hfin hfinE hpo hC
  cases htb : takesB o (⟨(k : Int), num, den, mode, args⟩ : Ex) with
  | false =>
    rw [htb] at htk
    have hres := hTH.out
    rw [if_pos htb] at hres
    go_wp2_with (go_at_call 116; refine htk.mono ?_; clear htk; rintro e w6 ⟨rfl, hb6⟩; have hk6 := hbk5.bel hb6 hbk5.1; have k0 := hk6.2.1 0 (by simp); have k1 := hk6.2.1 1 (by simp); have z0 := hk6.2.2 0; have z1 := hk6.2.2 1; have j0 := set_id k0; have j1 := set_id k1; have hff := hfinEH.out 67 w6 hb6 hres; clear hres hk6)
    exact bodyPost_ret (v := .tuple #[.agg #[.int .i64 0, .int .i64 0], .int .i64 67]) (by simp at k0 k1; simp [results, Tryz.results83, go_sem, k0, k1]) rfl hff
  | true =>
    rw [htb] at htk
    have hres := hTH.out
    rw [if_neg (by rw [htb]; decide)] at hres
    have hresH := Hid.mk hres
    clear hres
    go_wp2_with (go_at_call 116; refine htk.mono ?_; clear htk; rintro e w6 ⟨rfl, hb6⟩)
    clear ao0 ao1 ao2 ao3 ao4 ao5 ao6 ao7 ao8 ao9 ao10 ao11 ao12 ao13 ao14 ax0 ax1 ax2 ax3 ax4
    have hO6 := hboH.out.bel hb6 hboH.out.1
    have hX6 := hbx5.bel hb6 hbx5.1
    have hL6 := hL5.bel hb6
    obtain ⟨⟨bo0, bo1, bo2, bo3, bo4, bo5, bo6, bo7, bo8, bo9, bo10, bo11, bo12, bo13, bo14⟩, ⟨bx0, bx1, bx2, bx3, bx4⟩, ⟨bs0, bs1, bs2, bs3, bs4, bs5, bs6, bs7⟩⟩ := hCH.out w6 ⟨hO6, hX6, hL6⟩
    go_wp2_with fail
    obtain ⟨a3', c3', a4', c4', a5', c5', a6', c6', a7', c7', hcs, -, hR3, hR4, hR5, hR6, -⟩ := hL6.pk
    simp only [List.take_succ_cons, List.take_zero, List.cons.injEq, Value.slice.injEq] at hcs
    obtain ⟨-, -, ⟨e3, -, -⟩, -, -, ⟨e6, -, -⟩, -⟩ := hcs
    subst e3 e6
    have hbd : Below w6.heap.size w6 w6.drew := (Below.refl _ _).drew
    have hRo : RowR eO w6.drew AnyB p.opts a3 := row_bel (hR3.mo (fun _ _ _ => trivial)) hbd (Nat.le_refl _)
    have hRl : RowR eL w6.drew AnyB p.lns a6 := row_bel (hR6.mo (fun _ _ _ => trivial)) hbd (Nat.le_refl _)
    have hcall := hcl w6.drew hRo hRl
    have hneq : ∀ w, (binOp .neq 177 (.func (Fn.func fn) #[] #[]) .nilFunc).run Tryz.prog w = .ok (.bool true) w := fun w => by kernel_rfl
    have hS0 : w6.drew.cell? ⟨W4.heap.size, 13, none⟩ = some (.func (Fn.func fn) #[] #[]) ∧ w6.drew.cell? ⟨W.heap.size, 0, none⟩ = some (.int .i64 (k : Int)) ∧ w6.drew.cell? ⟨W.heap.size, 1, none⟩ = some (.int .i64 num) ∧ w6.drew.cell? ⟨W.heap.size, 2, none⟩ = some (.int .i64 den) ∧ w6.drew.cell? ⟨W.heap.size, 3, none⟩ = some (.int .i64 mode) ∧ w6.drew.cell? ⟨W.heap.size, 4, none⟩ = some (.slice ax args.len cx) ∧ w6.drew.cell? ⟨lb, 0, none⟩ = some (.string ⟨p.name.toArray⟩) ∧ w6.drew.cell? ⟨lb, 1, none⟩ = some (.int .i64 p.year) ∧ w6.drew.cell? ⟨lb, 2, none⟩ = some (.slice a3 p.opts.length c3) ∧ w6.drew.cell? ⟨lb, 3, none⟩ = some (.slice a4 p.tabs.length c4) ∧ w6.drew.cell? ⟨lb, 4, none⟩ = some (.slice a5 p.grps.length c5) ∧ w6.drew.cell? ⟨lb, 5, none⟩ = some (.slice a6 p.lns.length c6) ∧ w6.drew.cell? ⟨lb, 6, none⟩ = some (.slice a7 p.cks.length c7) ∧ w6.drew.cell? ⟨lb, 7, none⟩ = some (.int .i64 g) := ⟨bo13, bx0, bx1, bx2, bx3, bx4, bs0, bs1, bs2, bs3, bs4, bs5, bs6, bs7⟩
    have hkS : ∀ Y, Below w6.drew.heap.size w6.drew Y → Y.cell? ⟨W4.heap.size, 13, none⟩ = some (.func (Fn.func fn) #[] #[]) ∧ Y.cell? ⟨W.heap.size, 0, none⟩ = some (.int .i64 (k : Int)) ∧ Y.cell? ⟨W.heap.size, 1, none⟩ = some (.int .i64 num) ∧ Y.cell? ⟨W.heap.size, 2, none⟩ = some (.int .i64 den) ∧ Y.cell? ⟨W.heap.size, 3, none⟩ = some (.int .i64 mode) ∧ Y.cell? ⟨W.heap.size, 4, none⟩ = some (.slice ax args.len cx) ∧ Y.cell? ⟨lb, 0, none⟩ = some (.string ⟨p.name.toArray⟩) ∧ Y.cell? ⟨lb, 1, none⟩ = some (.int .i64 p.year) ∧ Y.cell? ⟨lb, 2, none⟩ = some (.slice a3 p.opts.length c3) ∧ Y.cell? ⟨lb, 3, none⟩ = some (.slice a4 p.tabs.length c4) ∧ Y.cell? ⟨lb, 4, none⟩ = some (.slice a5 p.grps.length c5) ∧ Y.cell? ⟨lb, 5, none⟩ = some (.slice a6 p.lns.length c6) ∧ Y.cell? ⟨lb, 6, none⟩ = some (.slice a7 p.cks.length c7) ∧ Y.cell? ⟨lb, 7, none⟩ = some (.int .i64 g) := fun Y hY => by
      obtain ⟨⟨-, -, -, -, -, -, -, -, -, -, -, -, -, d13, -⟩, ⟨d0, d1, d2, d3, d4⟩, ⟨f0, f1, f2, f3, f4, f5, f6, f7⟩⟩ := hCH.out Y ⟨(hO6.bel hbd hO6.1).bel hY (hO6.bel hbd hO6.1).1, (hX6.bel hbd hX6.1).bel hY (hX6.bel hbd hX6.1).1, (hL6.bel hbd).bel hY⟩
      exact ⟨d13, d0, d1, d2, d3, d4, f0, f1, f2, f3, f4, f5, f6, f7⟩
    have hkSH := Hid.mk hkS
    clear hkS hR3 hR4 hR5 hR6 hRo hRl
    cases hfb : findB p g (⟨(k : Int), num, den, mode, args⟩ : Ex) fd with
    | false =>
      rw [hfb] at hcall
      have hres := hresH.out
      rw [if_pos hfb] at hres
      go_region_held3 (fun Y => Y.cell? ⟨W4.heap.size, 13, none⟩ = some (.func (Fn.func fn) #[] #[]) ∧ Y.cell? ⟨W.heap.size, 0, none⟩ = some (.int .i64 (k : Int)) ∧ Y.cell? ⟨W.heap.size, 1, none⟩ = some (.int .i64 num) ∧ Y.cell? ⟨W.heap.size, 2, none⟩ = some (.int .i64 den) ∧ Y.cell? ⟨W.heap.size, 3, none⟩ = some (.int .i64 mode) ∧ Y.cell? ⟨W.heap.size, 4, none⟩ = some (.slice ax args.len cx) ∧ Y.cell? ⟨lb, 0, none⟩ = some (.string ⟨p.name.toArray⟩) ∧ Y.cell? ⟨lb, 1, none⟩ = some (.int .i64 p.year) ∧ Y.cell? ⟨lb, 2, none⟩ = some (.slice a3 p.opts.length c3) ∧ Y.cell? ⟨lb, 3, none⟩ = some (.slice a4 p.tabs.length c4) ∧ Y.cell? ⟨lb, 4, none⟩ = some (.slice a5 p.grps.length c5) ∧ Y.cell? ⟨lb, 5, none⟩ = some (.slice a6 p.lns.length c6) ∧ Y.cell? ⟨lb, 6, none⟩ = some (.slice a7 p.cks.length c7) ∧ Y.cell? ⟨lb, 7, none⟩ = some (.int .i64 g)) (assumption)
        (first | (refine hcall.mono ?_; clear hcall; rintro e w7 ⟨rfl, hb7⟩; have hS7 := hkSH.out w7 hb7))
      have hB7 := bthr hb6 (bthr hbd hb7 (Nat.le_refl _)) (Nat.le_refl _)
      have hk7 := hbk5.bel hB7 hbk5.1
      have k0 := hk7.2.1 0 (by simp)
      have k1 := hk7.2.1 1 (by simp)
      have z0 := hk7.2.2 0
      have z1 := hk7.2.2 1
      have j0 := set_id k0
      have j1 := set_id k1
      have hff := hfinEH.out 68 w7 hB7 hres
      clear hres hk7
      go_wp2
      exact bodyPost_ret (v := .tuple #[.agg #[.int .i64 0, .int .i64 0], .int .i64 68]) (by simp at k0 k1; simp [results, Tryz.results83, go_sem, k0, k1]) rfl hff
    | true =>
      rw [hfb] at hcall
      have hres := hresH.out
      rw [if_neg (by rw [hfb]; decide)] at hres
      go_region_held3 (fun Y => Y.cell? ⟨W4.heap.size, 13, none⟩ = some (.func (Fn.func fn) #[] #[]) ∧ Y.cell? ⟨W.heap.size, 0, none⟩ = some (.int .i64 (k : Int)) ∧ Y.cell? ⟨W.heap.size, 1, none⟩ = some (.int .i64 num) ∧ Y.cell? ⟨W.heap.size, 2, none⟩ = some (.int .i64 den) ∧ Y.cell? ⟨W.heap.size, 3, none⟩ = some (.int .i64 mode) ∧ Y.cell? ⟨W.heap.size, 4, none⟩ = some (.slice ax args.len cx) ∧ Y.cell? ⟨lb, 0, none⟩ = some (.string ⟨p.name.toArray⟩) ∧ Y.cell? ⟨lb, 1, none⟩ = some (.int .i64 p.year) ∧ Y.cell? ⟨lb, 2, none⟩ = some (.slice a3 p.opts.length c3) ∧ Y.cell? ⟨lb, 3, none⟩ = some (.slice a4 p.tabs.length c4) ∧ Y.cell? ⟨lb, 4, none⟩ = some (.slice a5 p.grps.length c5) ∧ Y.cell? ⟨lb, 5, none⟩ = some (.slice a6 p.lns.length c6) ∧ Y.cell? ⟨lb, 6, none⟩ = some (.slice a7 p.cks.length c7) ∧ Y.cell? ⟨lb, 7, none⟩ = some (.int .i64 g)) (assumption)
        (first | (refine hcall.mono ?_; clear hcall; rintro e w7 ⟨rfl, hb7⟩; have hS7 := hkSH.out w7 hb7))
      have hB7 := bthr hb6 (bthr hbd hb7 (Nat.le_refl _)) (Nat.le_refl _)
      have hO7 := hboH.out.bel hB7 hboH.out.1
      have hX7 := hbx5.bel hB7 hbx5.1
      have hK7 := hbk5.bel hB7 hbk5.1
      have hL7 := hL5.bel hB7
      have hF7 : Fr lb W (.slice pa path.length pcap) w7 (.slice pa path.length pcap) := hF5.trans (Fr.bel hB7 _)
      have hFo7 : FoAt w7 (fun b => b < lb) args ax := FoAt.fr hB7.size (fun b _ hlt => hB7.block b hlt) _ _ hFo5
      have cx4 := hX7.2.1 4 (by simp)
      have hargs := hAH.out htb w7 _ hL7 hFo7
      have ne1 : W.heap.size ≠ lb := by omega
      have ne2 : W.heap.size + 1 ≠ lb := by omega
      have ne3 : W4.heap.size ≠ lb := by omega
      have le3 : W.heap.size ≤ W4.heap.size := by omega
      obtain ⟨m1, r1⟩ := R
      cases r1 with
      | error er =>
        have her := hTeH.out m1 er rfl
        have her' : ((er.2 : Int) != 0) = true := by simp; omega
        simp only at hres
        go_wp2_with (go_at_call 117; refine hargs.mono ?_; clear hargs; rintro e w8 ⟨pv', hF8, rfl, hL8⟩; have hK8 := hF8.box hK7 ne2 (hpoH.out _ (by omega)); have k0 := hK8.2.1 0 (by simp); have k1 := hK8.2.1 1 (by simp); have z0 := hK8.2.2 0; have z1 := hK8.2.2 1; have j0 := set_id k0; have j1 := set_id k1; have hff : NdP p (scG p a3 a4 a5 a6 a7 c3 c4 c5 c6 c7 g) lb s path (.slice pa path.length pcap) m0 r0 W (.returned (.tuple #[.agg #[.int .i64 0, .int .i64 0], .int .i64 (er.2 : Int)])) w8 := (by cases hres; exact ⟨rfl, pv', hL8, hF7.trans hF8⟩))
        exact bodyPost_ret (v := .tuple #[.agg #[.int .i64 0, .int .i64 0], .int .i64 (er.2 : Int)]) (by simp at k0 k1; simp [results, Tryz.results83, go_sem, k0, k1]) rfl hff
      | ok ks =>
        simp only at hres
        have hlk := hTlH.out m1 ks rfl
        have hak := hTaH.out m1 ks rfl
        rw [toL_len] at hlk
        simp only [List.length_nil, Nat.zero_add] at hlk
        have hlkH := Hid.mk hlk
        have hakH := Hid.mk hak
        clear hlk hak
        go_wp2_with (go_at_call 117; refine hargs.mono ?_; clear hargs; rintro e w8 ⟨pv', hF8, ak, ck, rfl, hL8, hR8⟩; have hO8 := hF8.box hO7 ne3 (hpoH.out _ le3); have hX8 := hF8.box hX7 ne1 (hpoH.out _ (Nat.le_refl _)); have hK8 := hF8.box hK7 ne2 (hpoH.out _ (by omega)); have g0 := hO8.2.1 0 (by simp); have g1 := hO8.2.1 1 (by simp); have g2 := hO8.2.1 2 (by simp); have g3 := hO8.2.1 3 (by simp); have g4 := hO8.2.1 4 (by simp); have g5 := hO8.2.1 5 (by simp); have g6 := hO8.2.1 6 (by simp); have g7 := hO8.2.1 7 (by simp); have g8 := hO8.2.1 8 (by simp); have g9 := hO8.2.1 9 (by simp); have g10 := hO8.2.1 10 (by simp); have g11 := hO8.2.1 11 (by simp); have g12 := hO8.2.1 12 (by simp); have g13 := hO8.2.1 13 (by simp); have g14 := hO8.2.1 14 (by simp); have y0 := hX8.2.1 0 (by simp); have y1 := hX8.2.1 1 (by simp); have y2 := hX8.2.1 2 (by simp); have y3 := hX8.2.1 3 (by simp); have y4 := hX8.2.1 4 (by simp))
        have hne8 : some (W.heap.size + 1) ≠ pv'.ownBlock := by
          rcases hF8.new with e | ⟨b, e, hb⟩
          · rw [e]; exact hpoH.out _ (by omega)
          · rw [e]; intro e2; injection e2 with e2; have := hK7.1; omega
        have hpl8 : path.length ≤ 8 := by omega
        have hw := worth_any p g (⟨(k : Int), num, den, mode, args⟩ : Ex) ks a3 a4 a5 a6 a7 c3 c4 c5 c6 c7 ax cx ak ck o lb s w8 m1 path pv' hL8 hpl8 hop (by rw [hofdH.out]; exact hfb) hlkH.out htb hR8 hakH.out
        rw [hofdH.out, htvH.out, hfn] at hw
        obtain ⟨rw', hrw⟩ : ∃ rw', rw' = worthF p o (⟨(k : Int), num, den, mode, args⟩ : Ex) ks := ⟨_, rfl⟩
        rw [← hrw] at hw hres
        clear hrw
        cases rw' with
        | ok kk =>
          have hw2 : Calls Tryz.prog 118 #[.pointer (some ⟨lb, 0, none⟩), .agg #[.int .i64 o.num.1, .int .i64 o.num.2, .int .i64 o.den.1, .int .i64 o.den.2, .int .i64 o.mode.1, .int .i64 o.mode.2, .int .i64 o.least, .int .i64 o.most, .int .i64 o.only, .int .i64 o.n1.1, .int .i64 o.n1.2, .int .i64 o.n2.1, .int .i64 o.n2.2, .func (Fn.func fn) #[] #[], .func (Fn.func ft) #[] cap], .agg #[.int .i64 (k : Int), .int .i64 num, .int .i64 den, .int .i64 mode, .slice ax args.len cx], .slice ak ks.length ck] w8 (fun e W' => e = .returned (.tuple #[.agg #[.int .i64 kk.1, .int .i64 kk.2], .int .i64 0]) ∧ ∃ pv9, LkS p (scG p a3 a4 a5 a6 a7 c3 c4 c5 c6 c7 g) lb s W' m1 path pv9 ∧ Fr lb w8 pv' W' pv9) := hw
          have hff : ∀ w9 pv9, LkS p (scG p a3 a4 a5 a6 a7 c3 c4 c5 c6 c7 g) lb s w9 m1 path pv9 → Fr lb w8 pv' w9 pv9 → Bx w9 (W.heap.size + 1) [.int .i64 0, .int .i64 0] ∧ Bx ((w9.setCell ⟨W.heap.size + 1, 0, none⟩ (.int .i64 kk.1)).setCell ⟨W.heap.size + 1, 1, none⟩ (.int .i64 kk.2)) (W.heap.size + 1) [.int .i64 kk.1, .int .i64 kk.2] ∧ NdP p (scG p a3 a4 a5 a6 a7 c3 c4 c5 c6 c7 g) lb s path (.slice pa path.length pcap) m0 r0 W (.returned (.tuple #[.agg #[.int .i64 kk.1, .int .i64 kk.2], .int .i64 0])) ((w9.setCell ⟨W.heap.size + 1, 0, none⟩ (.int .i64 kk.1)).setCell ⟨W.heap.size + 1, 1, none⟩ (.int .i64 kk.2)) := fun w9 pv9 g1 g2 => by
            have hK9 := g2.box hK8 ne2 hne8
            have hne9 : some (W.heap.size + 1) ≠ pv9.ownBlock := by
              rcases g2.new with e | ⟨b, e, hb⟩
              · rw [e]; exact hne8
              · rw [e]; intro e2; injection e2 with e2; have := hK8.1; omega
            cases hres
            exact ⟨hK9, (hK9.set 0 (.int .i64 kk.1)).set 1 (.int .i64 kk.2), rfl, pv9, (g1.setN (b := W.heap.size + 1) (by have := h.base; omega) hne9 0 (.int .i64 kk.1)).setN (b := W.heap.size + 1) (by have := h.base; omega) hne9 1 (.int .i64 kk.2), ((hF7.trans (hF8.trans g2)).setN (b := W.heap.size + 1) (by omega) 0 (.int .i64 kk.1)).setN (b := W.heap.size + 1) (by omega) 1 (.int .i64 kk.2)⟩
          have hffH := Hid.mk hff
          clear hff hw
          go_wp2_with (go_at_call 118; refine hw2.mono ?_; clear hw2; rintro e w9 ⟨rfl, pv9, hL9, hF9⟩; obtain ⟨hy, hyf, hfin⟩ := hffH.out w9 pv9 hL9 hF9; have b0 := hy.2.1 0 (by simp); have b1 := hy.2.1 1 (by simp); have z0 := hy.2.2 0; have z1 := hy.2.2 1; have f0 := hyf.2.1 0 (by simp); have f1 := hyf.2.1 1 (by simp); clear hy hyf)
          exact bodyPost_ret (v := .tuple #[.agg #[.int .i64 kk.1, .int .i64 kk.2], .int .i64 0]) (by simp at f0 f1; simp [results, Tryz.results83, go_sem, f0, f1]) rfl hfin
        | error ew =>
          have hw2 : Calls Tryz.prog 118 #[.pointer (some ⟨lb, 0, none⟩), .agg #[.int .i64 o.num.1, .int .i64 o.num.2, .int .i64 o.den.1, .int .i64 o.den.2, .int .i64 o.mode.1, .int .i64 o.mode.2, .int .i64 o.least, .int .i64 o.most, .int .i64 o.only, .int .i64 o.n1.1, .int .i64 o.n1.2, .int .i64 o.n2.1, .int .i64 o.n2.2, .func (Fn.func fn) #[] #[], .func (Fn.func ft) #[] cap], .agg #[.int .i64 (k : Int), .int .i64 num, .int .i64 den, .int .i64 mode, .slice ax args.len cx], .slice ak ks.length ck] w8 (fun e W' => e = .returned (.tuple #[.agg #[.int .i64 0, .int .i64 0], .int .i64 (ew.2 : Int)]) ∧ ∃ pv9, LkS p (scG p a3 a4 a5 a6 a7 c3 c4 c5 c6 c7 g) lb s W' m1 (path ++ ew.1) pv9 ∧ Fr lb w8 pv' W' pv9) := hw
          have hff : ∀ w9 pv9, LkS p (scG p a3 a4 a5 a6 a7 c3 c4 c5 c6 c7 g) lb s w9 m1 (path ++ ew.1) pv9 → Fr lb w8 pv' w9 pv9 → Bx w9 (W.heap.size + 1) [.int .i64 0, .int .i64 0] ∧ NdP p (scG p a3 a4 a5 a6 a7 c3 c4 c5 c6 c7 g) lb s path (.slice pa path.length pcap) m0 r0 W (.returned (.tuple #[.agg #[.int .i64 0, .int .i64 0], .int .i64 (ew.2 : Int)])) w9 := fun w9 pv9 g1 g2 => by
            cases hres
            exact ⟨g2.box hK8 ne2 hne8, rfl, pv9, g1, hF7.trans (hF8.trans g2)⟩
          have hffH := Hid.mk hff
          clear hff hw
          go_wp2_with (go_at_call 118; refine hw2.mono ?_; clear hw2; rintro e w9 ⟨rfl, pv9, hL9, hF9⟩; obtain ⟨hy, hfin⟩ := hffH.out w9 pv9 hL9 hF9; have k0 := hy.2.1 0 (by simp); have k1 := hy.2.1 1 (by simp); have z0 := hy.2.2 0; have z1 := hy.2.2 1; have j0 := set_id k0; have j1 := set_id k1; clear hy)
          exact bodyPost_ret (v := .tuple #[.agg #[.int .i64 0, .int .i64 0], .int .i64 (ew.2 : Int)]) (by simp at k0 k1; simp [results, Tryz.results83, go_sem, k0, k1]) rfl hfin
end Go.Proofs.YthnmjafoplfikaaGreatDoor

import Derived.Test.YtmklkcefbabhbaaGreatJoin14
import Derived.Deep.RegionHeld3
namespace Go.Proofs.YtmklkcefbabhbaaGreat
open Go.RowKit

theorem WS.gr {lo wb : Nat} {W W' : World} {acc : List UInt8} {b : Bool} (h : WS lo wb W acc b) (hg : W.grownBy W' none) : WS lo wb W' acc b := by
  obtain ⟨p, cap, h0, ho⟩ := h.own
  exact ⟨⟨p, cap, (gr_cell hg h.lt (by simp) 0).trans h0, ho.kept hg (by cases (Value.slice p acc.length cap).ownBlock <;> simp)⟩, (gr_cell hg h.lt (by simp) 1).trans h.c1, fun j => (gr_frozen hg h.lt (by simp) j).trans (h.fz j), h.le, h.lo⟩
theorem Bk.gr {lo wb : Nat} {W W' : World} (hg : W.grownBy W' none) (hl : lo ≤ W.heap.size) : Bk lo wb W W' := ⟨⟨hg.os, hg.tape, hg.output, hg.size, fun k hk => hg.block k (Nat.lt_of_lt_of_le hk hl) (by simp)⟩, fun k _ _ _ _ h0 _ => hg.block k (heap_lt h0) (by simp)⟩
def pz (x : Ex) (i : Nat) : List UInt8 := ([x.num, x.den, x.mode].take i).flatMap encZ
theorem pz_num (x : Ex) : pz x 1 = pz x 0 ++ encZ x.num := by simp [pz]
theorem pz_den (x : Ex) : pz x 2 = pz x 1 ++ encZ x.den := by simp [pz]
theorem pz_mode (x : Ex) : pz x 3 = pz x 2 ++ encZ x.mode := by simp [pz]
theorem pz_all (x : Ex) : pz x 3 = encZ x.num ++ (encZ x.den ++ encZ x.mode) := by simp [pz]
/-- The three blocks that expr makes for itself. -/
def E3 (W : World) (n wb d : Nat) (x : Ex) (a : Option Addr) (cap : Nat) : Prop := W.heap[n]? = some (.cells #[.pointer (some ⟨wb, 0, none⟩)] 66) ∧ W.heap[n + 1]? = some (.cells #[.int .i64 x.op, .int .i64 x.num, .int .i64 x.den, .int .i64 x.mode, .slice a x.args.len cap] 59) ∧ W.heap[n + 1 + 1]? = some (.cells #[.int .i64 (d : Int)] 3)
theorem E3.bk {lo wb : Nat} {W W' : World} {n d : Nat} {x : Ex} {a : Option Addr} {cap : Nat} (h : E3 W n wb d x a cap) (k : Bk lo wb W W') (hn : wb < n) : E3 W' n wb d x a cap := ⟨(k.kt n _ _ _ (by omega) h.1 (by decide)).trans h.1, (k.kt (n + 1) _ _ _ (by omega) h.2.1 (by decide)).trans h.2.1, (k.kt (n + 1 + 1) _ _ _ (by omega) h.2.2 (by decide)).trans h.2.2⟩
theorem cell_of {W : World} {n : Nat} {c : Array Value} {t : TypeId} {f} (h : W.heap[n]? = some (.cells c t f)) (j : Nat) : W.cell? ⟨n, j, none⟩ = c[j]? := by
  unfold World.cell?
  simp only [h]
  simp
theorem E3.cells {W : World} {n wb d : Nat} {x : Ex} {a : Option Addr} {cap : Nat} (h : E3 W n wb d x a cap) : W.cell? ⟨n, 0, none⟩ = some (.pointer (some ⟨wb, 0, none⟩)) ∧ W.cell? ⟨n + 1, 0, none⟩ = some (.int .i64 x.op) ∧ W.cell? ⟨n + 1, 1, none⟩ = some (.int .i64 x.num) ∧ W.cell? ⟨n + 1, 2, none⟩ = some (.int .i64 x.den) ∧ W.cell? ⟨n + 1, 3, none⟩ = some (.int .i64 x.mode) ∧ W.cell? ⟨n + 1, 4, none⟩ = some (.slice a x.args.len cap) ∧ W.cell? ⟨n + 1 + 1, 0, none⟩ = some (.int .i64 (d : Int)) := ⟨cell_of h.1 0, cell_of h.2.1 0, cell_of h.2.1 1, cell_of h.2.1 2, cell_of h.2.1 3, cell_of h.2.1 4, cell_of h.2.2 0⟩
theorem E3.new (W : World) (wb d : Nat) (x : Ex) (a : Option Addr) (cap : Nat) : E3 (((W.alloc (.cells #[.pointer (some ⟨wb, 0, none⟩)] 66)).alloc (.cells #[.int .i64 x.op, .int .i64 x.num, .int .i64 x.den, .int .i64 x.mode, .slice a x.args.len cap] 59)).alloc (.cells #[.int .i64 (d : Int)] 3)) W.heap.size wb d x a cap := by
  refine ⟨?_, ?_, ?_⟩
  · show (((W.heap.push _).push _).push _)[W.heap.size]? = _
    rw [Array.getElem?_push, if_neg (by simp; omega), Array.getElem?_push, if_neg (by simp), Array.getElem?_push_size]
  · show (((W.heap.push _).push _).push _)[W.heap.size + 1]? = _
    rw [Array.getElem?_push, if_neg (by simp), Array.getElem?_push, if_pos (by simp)]
  · show (((W.heap.push _).push _).push _)[W.heap.size + 1 + 1]? = _
    rw [Array.getElem?_push, if_pos (by simp)]

set_option maxRecDepth 8000 in
set_option maxHeartbeats 4000000 in
theorem wexpr_deep (lo wb : Nat) (W : World) : WExpr 76 65 [.pointer (some ⟨wb, 0, none⟩)] [.int .i64 ((65 : Nat) : Int)] lo wb W := fun x a cap acc b h hz hr hF => by
  have hlt := h.lt
  obtain ⟨d, hd⟩ : ∃ d : Nat, d = 65 := ⟨65, rfl⟩
  have hs := ((h.alloc (.cells #[.pointer (some ⟨wb, 0, none⟩)] 66)).alloc (.cells #[.int .i64 x.op, .int .i64 x.num, .int .i64 x.den, .int .i64 x.mode, .slice a x.args.len cap] 59)).alloc (.cells #[.int .i64 (d : Int)] 3)
  have hl := h.lo
  have hB : Bk lo wb W _ := ((Bk.alloc W (by omega) (.cells #[.pointer (some ⟨wb, 0, none⟩)] 66)).trans (Bk.alloc _ (by simp; omega) (.cells #[.int .i64 x.op, .int .i64 x.num, .int .i64 x.den, .int .i64 x.mode, .slice a x.args.len cap] 59))).trans (Bk.alloc _ (by simp; omega) (.cells #[.int .i64 (d : Int)] 3))
  have c1 := hs.c1
  have f1 := hs.fz 1
  have hfin : Wp lo wb acc b (encE x) (deepE x + 65 ≤ 65) W (.returned (.tuple #[])) ((((W.alloc (.cells #[.pointer (some ⟨wb, 0, none⟩)] 66)).alloc (.cells #[.int .i64 x.op, .int .i64 x.num, .int .i64 x.den, .int .i64 x.mode, .slice a x.args.len cap] 59)).alloc (.cells #[.int .i64 (d : Int)] 3)).setCell ⟨wb, 1, none⟩ (.bool true)) := ⟨rfl, acc, true, hs.set1 true, hB.trans (Bk.set _ hl 1 _), fun h => by (cases h), fun _ _ hk => by
    unfold deepE at hk
    omega⟩
  generalize Wp lo wb acc b (encE x) (deepE x + 65 ≤ 65) W = Q at hfin ⊢
  rw [hd, show ((65 : Nat) : Int) = 65 from rfl] at hfin c1 f1
  clear h hs hB hF hr hz hd d
  show Calls Tryz.prog 76 #[.pointer (some ⟨wb, 0, none⟩), .agg #[.int .i64 x.op, .int .i64 x.num, .int .i64 x.den, .int .i64 x.mode, .slice a x.args.len cap], .int .i64 65] W _
  go_enter Tryz.func76, Tryz.ntmps76
  go_wp2
  exact bodyPost_ret (v := .tuple #[]) (by simp [results, Tryz.results76, go_sem]) rfl hfin

set_option maxRecDepth 8000 in
set_option maxHeartbeats 8000000 in
theorem wexpr_step (d : Nat) (hd : d ≤ 64) (ih : ∀ (lo wb : Nat) (W : World), WExpr 76 (d + 1) [.pointer (some ⟨wb, 0, none⟩)] [.int .i64 ((d + 1 : Nat) : Int)] lo wb W) (lo wb : Nat) (W : World) : WExpr 76 d [.pointer (some ⟨wb, 0, none⟩)] [.int .i64 (d : Int)] lo wb W := fun x a cap acc b h hz hr hF => by
  have hlt := h.lt
  have hs := ((h.alloc (.cells #[.pointer (some ⟨wb, 0, none⟩)] 66)).alloc (.cells #[.int .i64 x.op, .int .i64 x.num, .int .i64 x.den, .int .i64 x.mode, .slice a x.args.len cap] 59)).alloc (.cells #[.int .i64 (d : Int)] 3)
  have hl := h.lo
  have hB : Bk lo wb W (((W.alloc (.cells #[.pointer (some ⟨wb, 0, none⟩)] 66)).alloc (.cells #[.int .i64 x.op, .int .i64 x.num, .int .i64 x.den, .int .i64 x.mode, .slice a x.args.len cap] 59)).alloc (.cells #[.int .i64 (d : Int)] 3)) := ((Bk.alloc W (by omega) (.cells #[.pointer (some ⟨wb, 0, none⟩)] 66)).trans (Bk.alloc _ (by simp; omega) (.cells #[.int .i64 x.op, .int .i64 x.num, .int .i64 x.den, .int .i64 x.mode, .slice a x.args.len cap] 59))).trans (Bk.alloc _ (by simp; omega) (.cells #[.int .i64 (d : Int)] 3))
  have hE0 := E3.new W wb d x a cap
  have hk1 := winteger_any lo wb x.op hr.1 _ hs
  have hdd : ¬ (64 : Int) < (d : Int) := by omega
  have hF0 : FoAt (((W.alloc (.cells #[.pointer (some ⟨wb, 0, none⟩)] 66)).alloc (.cells #[.int .i64 x.op, .int .i64 x.num, .int .i64 x.den, .int .i64 x.mode, .slice a x.args.len cap] 59)).alloc (.cells #[.int .i64 (d : Int)] 3)) (fun b => b < lo) x.args a := FoAt.fr hB.bl.size (fun b hb _ => hB.bl.block b hb) _ _ hF
  have hQ : ∃ Q, Wp lo wb acc b (encE x) (deepE x + d ≤ 65) W = Q := ⟨_, rfl⟩
  obtain ⟨Q, hQ⟩ := hQ
  rw [hQ]
  have hQ := Hid.mk hQ
  have hfld := fun X => wfields_any x.op x.num x.den x.mode a x.args.len cap X
  have hbyte := fun (X : World) (acc : List UInt8) (b : Bool) (h : WS lo wb X acc b) => wbyte_any lo wb (hasB x.num x.den x.mode x.args.len) (by unfold hasB; split <;> split <;> split <;> split <;> omega) X h
  generalize hhb : hasB x.num x.den x.mode x.args.len = hb at hfld hbyte
  have hhb := Hid.mk hhb
  clear h hs hF0
  have i0 : ∀ w, (Instr.index 153 (.agg #[.int .i64 x.num, .int .i64 x.den, .int .i64 x.mode]) (.int .i64 0)).run Tryz.prog w = .ok (.int .i64 x.num) w := fun _ => by kernel_rfl
  have i1 : ∀ w, (Instr.index 153 (.agg #[.int .i64 x.num, .int .i64 x.den, .int .i64 x.mode]) (.int .i64 1)).run Tryz.prog w = .ok (.int .i64 x.den) w := fun _ => by kernel_rfl
  have i2 : ∀ w, (Instr.index 153 (.agg #[.int .i64 x.num, .int .i64 x.den, .int .i64 x.mode]) (.int .i64 2)).run Tryz.prog w = .ok (.int .i64 x.mode) w := fun _ => by kernel_rfl
  show Calls Tryz.prog 76 #[.pointer (some ⟨wb, 0, none⟩), .agg #[.int .i64 x.op, .int .i64 x.num, .int .i64 x.den, .int .i64 x.mode, .slice a x.args.len cap], .int .i64 (d : Int)] W _
  go_enter Tryz.func76, Tryz.ntmps76
  go_wp2_with (go_at_call 35; go_loud (refine hk1.mono ?_; clear hk1; rintro e w1 ⟨rfl, acc1, b1, hW1, hB1, hr1⟩; have hE1 := hE0.bk hB1 hlt))
  have hE1d : E3 w1.drew W.heap.size wb d x a cap := hE1
  have hS0 : w1.drew.cell? ⟨W.heap.size, 0, none⟩ = some (.pointer (some ⟨wb, 0, none⟩)) ∧ w1.drew.cell? ⟨W.heap.size + 1, 0, none⟩ = some (.int .i64 x.op) ∧ w1.drew.cell? ⟨W.heap.size + 1, 1, none⟩ = some (.int .i64 x.num) ∧ w1.drew.cell? ⟨W.heap.size + 1, 2, none⟩ = some (.int .i64 x.den) ∧ w1.drew.cell? ⟨W.heap.size + 1, 3, none⟩ = some (.int .i64 x.mode) ∧ w1.drew.cell? ⟨W.heap.size + 1, 4, none⟩ = some (.slice a x.args.len cap) ∧ w1.drew.cell? ⟨W.heap.size + 1 + 1, 0, none⟩ = some (.int .i64 (d : Int)) := hE1d.cells
  have hW1d : WS lo wb w1.drew acc1 b1 := hW1.gr (gr_drew w1 1 none)
  have hlo1 : lo ≤ w1.drew.heap.size := by have := hW1d.lt; have := hW1d.lo; omega
  have hB1d : Bk lo wb w1 w1.drew := Bk.gr (gr_drew w1 1 none) hlo1
  go_region_held3 (fun X => X.cell? ⟨W.heap.size, 0, none⟩ = some (.pointer (some ⟨wb, 0, none⟩)) ∧ X.cell? ⟨W.heap.size + 1, 0, none⟩ = some (.int .i64 x.op) ∧ X.cell? ⟨W.heap.size + 1, 1, none⟩ = some (.int .i64 x.num) ∧ X.cell? ⟨W.heap.size + 1, 2, none⟩ = some (.int .i64 x.den) ∧ X.cell? ⟨W.heap.size + 1, 3, none⟩ = some (.int .i64 x.mode) ∧ X.cell? ⟨W.heap.size + 1, 4, none⟩ = some (.slice a x.args.len cap) ∧ X.cell? ⟨W.heap.size + 1 + 1, 0, none⟩ = some (.int .i64 (d : Int))) (assumption)
    (first | (go_at_call 91; refine (hfld _).mono ?_; rintro e w2 ⟨rfl, hg2⟩; have hW2 := hW1d.gr hg2; have hB2 : Bk lo wb w1 w2 := hB1d.trans (Bk.gr hg2 hlo1); have hE2 := hE1.bk hB2 hlt; have hS2 : w2.cell? ⟨W.heap.size, 0, none⟩ = some (.pointer (some ⟨wb, 0, none⟩)) ∧ w2.cell? ⟨W.heap.size + 1, 0, none⟩ = some (.int .i64 x.op) ∧ w2.cell? ⟨W.heap.size + 1, 1, none⟩ = some (.int .i64 x.num) ∧ w2.cell? ⟨W.heap.size + 1, 2, none⟩ = some (.int .i64 x.den) ∧ w2.cell? ⟨W.heap.size + 1, 3, none⟩ = some (.int .i64 x.mode) ∧ w2.cell? ⟨W.heap.size + 1, 4, none⟩ = some (.slice a x.args.len cap) ∧ w2.cell? ⟨W.heap.size + 1 + 1, 0, none⟩ = some (.int .i64 (d : Int)) := hE2.cells; have hk2 := hbyte w2 acc1 b1 hW2) | (go_at_call 77; refine hk2.mono ?_; rintro e w3 ⟨rfl, acc3, b3, hW3, hB3, hr3⟩; have hE3 := hE2.bk hB3 hlt; have hS3 : w3.cell? ⟨W.heap.size, 0, none⟩ = some (.pointer (some ⟨wb, 0, none⟩)) ∧ w3.cell? ⟨W.heap.size + 1, 0, none⟩ = some (.int .i64 x.op) ∧ w3.cell? ⟨W.heap.size + 1, 1, none⟩ = some (.int .i64 x.num) ∧ w3.cell? ⟨W.heap.size + 1, 2, none⟩ = some (.int .i64 x.den) ∧ w3.cell? ⟨W.heap.size + 1, 3, none⟩ = some (.int .i64 x.mode) ∧ w3.cell? ⟨W.heap.size + 1, 4, none⟩ = some (.slice a x.args.len cap) ∧ w3.cell? ⟨W.heap.size + 1 + 1, 0, none⟩ = some (.int .i64 (d : Int)) := hE3.cells))
  clear hS0 hS2 hk2 hE1d hW1d hlo1 hB1d hg2
  obtain ⟨s0, s1, s2, s3, s4, s5, s6⟩ := hS3
  have hB3' : Bk lo wb W w3 := ((hB.trans hB1).trans hB2).trans hB3
  have hE3' := hE3
  have hr3' : Wr acc b acc3 b3 ((encI x.op ++ [UInt8.ofNat hb]) ++ pz x 0) True := by rw [show pz x 0 = [] from rfl, List.append_nil]; exact hr1.tr hr3
  clear hW1 hB1 hr1 hE1 hB2 hE2 hr3 hW2 hB3 
  go_wp2
  go_loopw [28] (fun iv W2 => ∃ (i : Nat) (acc2 : List UInt8) (b2 : Bool), iv = .int .i64 (i : Int) ∧ i ≤ 3 ∧ WS lo wb W2 acc2 b2 ∧ Bk lo wb w3 W2 ∧ Wr acc b acc2 b2 ((encI x.op ++ [UInt8.ofNat hb]) ++ pz x i) True) (fun iv _ => 3 - (intOf iv).toNat)
  case atStart => exact ⟨0, acc3, b3, rfl, by omega, hW3, Bk.refl _ _ _, hr3'⟩
  case round =>
    clear hW3 hr3' s0 s1 s2 s3 s4 s5 s6
    obtain ⟨i, acc4, b4, rfl, hi, hW4, hB4, hr4⟩ := hrel
    have hE4 := hE3'.bk hB4 hlt
    obtain ⟨s0, s1, s2, s3, s4, s5, s6⟩ := hE4.cells
    rcases (by omega : i = 3 ∨ i = 0 ∨ i = 1 ∨ i = 2) with rfl | rfl | rfl | rfl
    · have hB5 := hB3'.trans hB4
      by_cases hn0 : x.args.len = 0
      · have hn' : ¬ (0 : Int) < (x.args.len : Int) := by omega
        have hfin : Wp lo wb acc b (encE x) (deepE x + d ≤ 65) W (.returned (.tuple #[])) wr := ⟨rfl, acc4, b4, hW4, hB5, by
          have e : encE x = (encI x.op ++ [UInt8.ofNat hb]) ++ pz x 3 := by
            unfold encE
            rw [hhb.out, pz_all, if_pos hn0, List.append_nil]
            simp only [List.append_assoc]
          rw [e]
          have e4 : x.args = .nil := by
            obtain ⟨_, _, _, _, args⟩ := x
            cases args with
            | nil => rfl
            | cons _ _ _ _ _ _ => exact absurd hn0 (Nat.succ_ne_zero _)
          exact hr4.ok ⟨fun _ => trivial, fun _ => by unfold deepE; rw [e4]; show 1 + 0 + d ≤ 65; omega⟩⟩
        rw [hQ.out] at hfin
        clear hr4 hB5 hn0
        go_wp2
        exact bodyPost_end (v := .tuple #[]) (by simp [results, Tryz.results76, go_sem]) rfl hfin
      · have hn' : (0 : Int) < (x.args.len : Int) := by omega
        have hF5 : FoAt wr (fun b => b < lo) x.args a := FoAt.fr hB5.bl.size (fun b hb _ => hB5.bl.block b hb) _ _ hF
        have e : encE x = ((encI x.op ++ [UInt8.ofNat hb]) ++ pz x 3) ++ encL encE (toL x.args) := by
          have e0 : encE x = encI x.op ++ ([UInt8.ofNat (hasB x.num x.den x.mode x.args.len)] ++ (encZ x.num ++ (encZ x.den ++ (encZ x.mode ++ (if x.args.len = 0 then [] else encN x.args.len ++ encF x.args))))) := rfl
          have e1 : encL encE (toL x.args) = encN (toL x.args).length ++ (toL x.args).flatMap encE := rfl
          rw [e0, e1, hhb.out, pz_all, if_neg hn0, toL_len, encF_toL]
          simp only [List.append_assoc]
        have hput := putExprs lo wb d W.heap.size (W.heap.size + 1 + 1) (toL x.args) a cap ⟨by rw [toL_len]; exact hz.1, toL_sz _ hz.2⟩ wr hW4 (row_of_fo hF5) (fun W6 hB6 => by
          have c6 := (hE4.bk hB6 hlt).cells
          exact wexpr1_any d hd W.heap.size (W.heap.size + 1 + 1) lo wb W6 (ih lo wb) c6.1 c6.2.2.2.2.2.2)
        rw [toL_len] at hput
        have e := Hid.mk e
        clear hF5 hn0
        go_wp2_with (go_at_call 92; go_loud (refine hput.mono ?_; clear hput; rintro e w5 ⟨rfl, acc5, b5, hW5, hB6, hr6⟩))
        have hfin : Wp lo wb acc b (encE x) (deepE x + d ≤ 65) W (.returned (.tuple #[])) w5 := ⟨rfl, acc5, b5, hW5, hB5.trans hB6, by
          rw [e.out]
          exact (hr4.trans hr6).ok ⟨fun h => ⟨trivial, fun y hy => by
            have := deepF_toL _ _ hy
            unfold deepE at h
            show deepE y + (d + 1) ≤ 65
            omega⟩, fun h => by
            have := deep_all (n := 64 - d) x.args (fun y hy => by have h9 : deepE y + (d + 1) ≤ 65 := h.2 y hy; omega)
            unfold deepE
            omega⟩⟩
        rw [hQ.out] at hfin
        exact bodyPost_end (v := .tuple #[]) (by simp [results, Tryz.results76, go_sem]) rfl hfin
    · by_cases hn : x.num = 0
      · have hn' : (x.num != 0) = false := by rw [hn]; rfl
        have hst := Hid.mk (show pz x 1 = pz x 0 by rw [pz_num, hn, encZ_zero, List.append_nil])
        clear hn
        go_wp2
        go_roundw
        case rel => exact ⟨1, acc4, b4, by go_num, by omega, hW4, hB4, by rw [hst.out]; exact hr4⟩
        case measure => simp [intOf]
      · have hn' : (x.num != 0) = true := by simp [hn]
        have hst := Hid.mk (show pz x 1 = pz x 0 ++ encI x.num by rw [pz_num, encZ_pos hn])
        have hk := winteger_any lo wb x.num hr.2.1 wr hW4
        clear hn
        go_wp2_with (go_at_call 35; go_loud (refine hk.mono ?_; clear hk; rintro e w5 ⟨rfl, acc5, b5, hW5, hB5, hr5⟩))
        go_roundw
        case rel => exact ⟨1, acc5, b5, by go_num, by omega, hW5, hB4.trans hB5, by rw [hst.out, ← List.append_assoc]; exact hr4.tr hr5⟩
        case measure => simp [intOf]
    · by_cases hn : x.den = 0
      · have hn' : (x.den != 0) = false := by rw [hn]; rfl
        have hst := Hid.mk (show pz x 2 = pz x 1 by rw [pz_den, hn, encZ_zero, List.append_nil])
        clear hn
        go_wp2
        go_roundw
        case rel => exact ⟨2, acc4, b4, by go_num, by omega, hW4, hB4, by rw [hst.out]; exact hr4⟩
        case measure => simp [intOf]
      · have hn' : (x.den != 0) = true := by simp [hn]
        have hst := Hid.mk (show pz x 2 = pz x 1 ++ encI x.den by rw [pz_den, encZ_pos hn])
        have hk := winteger_any lo wb x.den hr.2.2.1 wr hW4
        clear hn
        go_wp2_with (go_at_call 35; go_loud (refine hk.mono ?_; clear hk; rintro e w5 ⟨rfl, acc5, b5, hW5, hB5, hr5⟩))
        go_roundw
        case rel => exact ⟨2, acc5, b5, by go_num, by omega, hW5, hB4.trans hB5, by rw [hst.out, ← List.append_assoc]; exact hr4.tr hr5⟩
        case measure => simp [intOf]
    · by_cases hn : x.mode = 0
      · have hn' : (x.mode != 0) = false := by rw [hn]; rfl
        have hst := Hid.mk (show pz x 3 = pz x 2 by rw [pz_mode, hn, encZ_zero, List.append_nil])
        clear hn
        go_wp2
        go_roundw
        case rel => exact ⟨3, acc4, b4, by go_num, by omega, hW4, hB4, by rw [hst.out]; exact hr4⟩
        case measure => simp [intOf]
      · have hn' : (x.mode != 0) = true := by simp [hn]
        have hst := Hid.mk (show pz x 3 = pz x 2 ++ encI x.mode by rw [pz_mode, encZ_pos hn])
        have hk := winteger_any lo wb x.mode hr.2.2.2 wr hW4
        clear hn
        go_wp2_with (go_at_call 35; go_loud (refine hk.mono ?_; clear hk; rintro e w5 ⟨rfl, acc5, b5, hW5, hB5, hr5⟩))
        go_roundw
        case rel => exact ⟨3, acc5, b5, by go_num, by omega, hW5, hB4.trans hB5, by rw [hst.out, ← List.append_assoc]; exact hr4.tr hr5⟩
        case measure => simp [intOf]

theorem wexpr_any (d : Nat) (hd : d ≤ 65) : ∀ (lo wb : Nat) (W : World), WExpr 76 d [.pointer (some ⟨wb, 0, none⟩)] [.int .i64 (d : Int)] lo wb W := by
  obtain ⟨k, hk⟩ : ∃ k, d + k = 65 := ⟨65 - d, by omega⟩
  clear hd
  induction k generalizing d with
  | zero =>
    obtain rfl : d = 65 := by omega
    exact wexpr_deep
  | succ k ih => exact wexpr_step d (by omega) (ih (d + 1) (by omega))


end Go.Proofs.YtmklkcefbabhbaaGreat

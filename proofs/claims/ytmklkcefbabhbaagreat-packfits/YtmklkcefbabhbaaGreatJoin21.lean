import Derived.Test.YtmklkcefbabhbaaGreatJoin20
import Derived.BigQuiet
import Derived.Deep.DeepCutAuto
import Derived.Deep.CutRange
import Derived.Deep.RegionHeld3
import Derived.Deep.DeepMust
/- A table of options, a table of bands. -/
namespace Go.Proofs.YtmklkcefbabhbaaGreat.R6
open Go.RowKit

theorem rtake {α : Type} {D : Elt α} {W : World} {S : Nat → Prop} {xs : List α} {a : Option Addr} (h : RowR D W S xs a) (n : Nat) : RowR D W S (xs.take n) a := by
  rcases h with rfl | ⟨g, o, cs, rfl, hS, hg, hc, hE⟩
  · exact .inl (by simp)
  · refine .inr ⟨g, o, cs.take ((xs.take n).length * D.k), rfl, hS, hg, fun j hj => ?_, ?_⟩
    · rw [List.length_take] at hj
      rw [List.getElem?_take, if_pos (by omega)]
      exact hc j (by omega)
    · refine ⟨by rw [List.length_take, hE.1, List.length_take, Nat.min_eq_left (Nat.mul_le_mul_right _ (Nat.min_le_right _ _))], fun i hi => ?_⟩
      have hi2 := hi
      rw [List.length_take] at hi2
      have := hE.2 i (by omega)
      rw [List.getElem_take]
      have e : (((cs.take ((xs.take n).length * D.k)).drop (i * D.k)).take D.k) = ((cs.drop (i * D.k)).take D.k) := by
        rw [List.drop_take, List.take_take, Nat.min_eq_left]
        have : (i + 1) * D.k ≤ (xs.take n).length * D.k := Nat.mul_le_mul_right _ hi
        rw [Nat.add_mul, Nat.one_mul] at this
        omega
      rw [e]
      exact this
theorem drew_below (w : World) (n : Nat) : Below w.heap.size w (w.drewN n) := by
  induction n with
  | zero => exact Below.refl _ _
  | succ n ih => exact ih.drew
theorem belT {W A B : World} (h : Below W.heap.size W A) (k : Below A.heap.size A B) : Below W.heap.size W B := h.trans (k.mono h.size)
theorem ns_step (l : Sn) {i : Nat} (h : i < l.length) : nsF l (l.drop i) i = if lkN (l.take i) l[i] = 0 then nsF l (l.drop (i + 1)) (i + 1) else lkN (l.take i) l[i] := by
  rw [List.drop_eq_getElem_cons h]
  rfl
theorem ns_end (l : Sn) (i : Nat) : nsF l (l.drop l.length) i = 0 := by simp [nsF]
theorem rs_step (l : List (Int × Int)) {i : Nat} (h : i < l.length) : rsF l (l.drop i) i = (bdB l i l[i] && rsF l (l.drop (i + 1)) (i + 1)) := by
  rw [List.drop_eq_getElem_cons h]
  rfl
theorem rs_end (l : List (Int × Int)) (i : Nat) : rsF l (l.drop l.length) i = true := by simp [rsF]
set_option maxRecDepth 20000 in
set_option maxHeartbeats 1000000 in
theorem options_any (o : List UInt8 × Sn) (a : Option Addr) (c : Nat) (all : Sn) (b : Option Addr) (d : Nat) (W : World) (hO : RowR eS W AnyB o.2 a) (hc : o.2.length ≤ c) (hA : RowR eS W AnyB all b) (hl : all.length ≤ 9223372036854775807) : Calls Tryz.prog 24 #[.agg #[.string ⟨o.1.toArray⟩, .slice a o.2.length c], .slice b all.length d] W (Lk (.int .i64 (opE all o : Int)) W) := by
  obtain ⟨X, hXe⟩ : ∃ X, W.alloc (.cells #[.string ⟨o.1.toArray⟩, .slice a o.2.length c] 49) = X := ⟨_, rfl⟩
  have hb0 : Below W.heap.size W X := by rw [← hXe]; exact (Below.refl _ _).alloc (Nat.le_refl _) _
  have hXl : W.heap.size < X.heap.size := by rw [← hXe]; simp
  have hBx : Hid (∀ w, Below X.heap.size X w → w.cell? ⟨W.heap.size, 0, none⟩ = some (.string ⟨o.1.toArray⟩) ∧ w.cell? ⟨W.heap.size, 1, none⟩ = some (.slice a o.2.length c)) := ⟨fun w hw => ⟨(bel_cell hw hXl 0).trans (by rw [← hXe]; simp), (bel_cell hw hXl 1).trans (by rw [← hXe]; simp)⟩⟩
  obtain ⟨x0, x1⟩ := hBx.out X (Below.refl _ _)
  have hRX : Hid (∀ w, Below X.heap.size X w → RowR eS w AnyB o.2 a) := ⟨fun w hw => row_bel (row_bel hO hb0 (Nat.le_refl _)) hw (Nat.le_refl _)⟩
  have hlk := look_any all b d o.1 X (row_bel hA hb0 (Nat.le_refl _)) hl
  clear hO hA
  obtain ⟨E, hE⟩ : ∃ E, lkN all o.1 = E := ⟨_, rfl⟩
  rw [hE] at hlk
  by_cases h0 : E = 0
  rotate_left
  · have h0' : ((E : Int) != 0) = true := by simp; omega
    have hf : opE all o = E := by unfold opE; rw [hE, if_pos h0]
    rw [hf]
    clear hf hE h0
    go_enter Tryz.func24, Tryz.ntmps24
    go_wp2_with (go_at_call 26; refine hlk.mono ?_; rintro e w1 ⟨rfl, hw⟩; subst w1)
    go_ret
    exact ⟨rfl, hb0⟩
  subst h0
  by_cases h1 : o.2.length < 1
  · have g0 : (o.2.length : Int) < 1 := by omega
    have hf : opE all o = 60 := by unfold opE; rw [hE, if_neg (by simp), if_pos (by omega)]
    rw [hf]
    clear hf hE
    go_enter Tryz.func24, Tryz.ntmps24
    go_wp2_with (go_at_call 26; refine hlk.mono ?_; rintro e w1 ⟨rfl, hw⟩; subst w1)
    go_ret
    exact ⟨rfl, hb0⟩
  by_cases h8 : 8 < o.2.length
  · have g0 : ¬ (o.2.length : Int) < 1 := by omega
    have g1 : (8 : Int) < (o.2.length : Int) := by omega
    have hf : opE all o = 60 := by unfold opE; rw [hE, if_neg (by simp), if_pos (by omega)]
    rw [hf]
    clear hf hE
    go_enter Tryz.func24, Tryz.ntmps24
    go_wp2_with (go_at_call 26; refine hlk.mono ?_; rintro e w1 ⟨rfl, hw⟩; subst w1)
    go_ret
    exact ⟨rfl, hb0⟩
  have g0 : ¬ (o.2.length : Int) < 1 := by omega
  have g1 : ¬ (8 : Int) < (o.2.length : Int) := by omega
  have hf : opE all o = nsF o.2 o.2 0 := by unfold opE; rw [hE, if_neg (by simp), if_neg (by omega)]
  rw [hf]
  obtain ⟨N, hN⟩ : ∃ N, nsF o.2 o.2 0 = N := ⟨_, rfl⟩
  rw [hN]
  have hN0 : Hid (nsF o.2 (o.2.drop 0) 0 = N) := ⟨hN⟩
  clear hf hE hN
  go_enter Tryz.func24, Tryz.ntmps24
  go_wp2_with (go_at_call 26; refine hlk.mono ?_; rintro e w1 ⟨rfl, hw⟩; subst w1)
  go_loopw [6] (fun iv wr => ∃ i : Nat, iv = .int .i64 (i : Int) ∧ i ≤ o.2.length ∧ Below X.heap.size X wr ∧ Hid (nsF o.2 (o.2.drop i) i = N)) (fun iv _ => o.2.length - (intOf iv).toNat)
  case atStart => exact ⟨0, rfl, Nat.zero_le _, Below.refl _ _, hN0⟩
  case round =>
    clear hN0 x0 x1 hlk
    obtain ⟨i, rfl, hi, hbw, hst⟩ := hrel
    obtain ⟨x0, x1⟩ := hBx.out _ hbw
    by_cases hlt : i < o.2.length
    · have hlt' : (i : Int) < (o.2.length : Int) := by omega
      have hi0 : (0 : Int) ≤ (i : Int) := by omega
      have hic : (i : Int) ≤ (c : Int) := by omega
      have hst' := hst.out
      rw [ns_step o.2 hlt] at hst'
      have hR := hRX.out _ hbw
      obtain ⟨ge, oe, rfl⟩ := hR.some hlt
      obtain ⟨cs, -, -, rfl, hcs⟩ := hR.item hlt
      have k0 : wr.cell? ⟨ge, oe + i, none⟩ = some (.string ⟨(o.2[i]).toArray⟩) := by
        have := hcs 0 (by decide)
        rw [show oe + i * eS.k + 0 = oe + i by show oe + i * 1 + 0 = oe + i; omega] at this
        exact this
      have hq : Hid (∀ n, Calls Tryz.prog 26 #[.slice (some ⟨ge, oe, none⟩) i c, .string ⟨(o.2[i]).toArray⟩] (wr.drewN n) fun e W' => e = .returned (.int .i64 (lkN (o.2.take i) o.2[i] : Int)) ∧ W' = wr.drewN n) := ⟨fun n => by
        have := look_any (o.2.take i) (some ⟨ge, oe, none⟩) c o.2[i] (wr.drewN n) (rtake (row_bel hR (drew_below wr n) (Nat.le_refl _)) i) (by rw [List.length_take]; omega)
        rw [List.length_take, Nat.min_eq_left hi] at this
        exact this⟩
      have hbq := Hid.mk (fun n => belT hbw (drew_below wr n))
      generalize lkN (o.2.take i) o.2[i] = M at hst' hq
      generalize o.2[i] = y at *
      clear hcs hst hR
      replace hst' := Hid.mk hst'
      go_upto_region 9 with fail
      go_quiet ((go_at_call 26; with_reducible exact Calls.quiet_of_same (hq.out _)))
      have hbn := hbq.out nq
      by_cases hM : M = 0
      · subst hM
        have hnx : Hid (nsF o.2 (o.2.drop (i + 1)) (i + 1) = N) := ⟨by have := hst'.out; rw [if_pos rfl] at this; exact this⟩
        clear hst' hq hbq
        go_wp2
        exact ⟨⟨i + 1, rfl, hlt, hbn, hnx⟩, by simp only [intOf]; omega⟩
      · have hM' : ((M : Int) != 0) = true := by simp; omega
        have hfi : M = N := by have := hst'.out; rw [if_neg hM] at this; exact this
        subst hfi
        clear hst' hq hbq hM
        go_wp2
        go_ret
        exact ⟨rfl, belT hb0 hbn⟩
    · have hlt' : ¬ (i : Int) < (o.2.length : Int) := by omega
      obtain rfl : i = o.2.length := by omega
      have hfi : 0 = N := by rw [← hst.out, ns_end]
      subst hfi
      clear hst
      go_wp2
      go_ret
      exact ⟨rfl, belT hb0 hbw⟩
end Go.Proofs.YtmklkcefbabhbaaGreat.R6


/- Groups, zero expressions, clauses. -/
namespace Go.Proofs.YtmklkcefbabhbaaGreat.R6
open Go.RowKit

set_option maxRecDepth 20000 in
set_option maxHeartbeats 1000000 in
theorem group_any (p : Pk) (a3 a4 a5 a6 a7 : Option Addr) (c3 c4 c5 c6 c7 : Nat) (n : Int) (W : World) : Calls Tryz.prog 63 #[.agg #[.string ⟨p.name.toArray⟩, .int .i64 p.year, .slice a3 p.opts.length c3, .slice a4 p.tabs.length c4, .slice a5 p.grps.length c5, .slice a6 p.lns.length c6, .slice a7 p.cks.length c7], .int .i64 n] W (Lk (.bool (inG p n)) W) := by
  obtain ⟨X, hXe⟩ : ∃ X, W.alloc (.cells #[.string ⟨p.name.toArray⟩, .int .i64 p.year, .slice a3 p.opts.length c3, .slice a4 p.tabs.length c4, .slice a5 p.grps.length c5, .slice a6 p.lns.length c6, .slice a7 p.cks.length c7] 28) = X := ⟨_, rfl⟩
  have hb0 : Below W.heap.size W X := by rw [← hXe]; exact (Below.refl _ _).alloc (Nat.le_refl _) _
  have hXl : W.heap.size < X.heap.size := by rw [← hXe]; simp
  have hBx : Hid (∀ w, Below X.heap.size X w → w.cell? ⟨W.heap.size, 0, none⟩ = some (.string ⟨p.name.toArray⟩) ∧ w.cell? ⟨W.heap.size, 1, none⟩ = some (.int .i64 p.year) ∧ w.cell? ⟨W.heap.size, 2, none⟩ = some (.slice a3 p.opts.length c3) ∧ w.cell? ⟨W.heap.size, 3, none⟩ = some (.slice a4 p.tabs.length c4) ∧ w.cell? ⟨W.heap.size, 4, none⟩ = some (.slice a5 p.grps.length c5) ∧ w.cell? ⟨W.heap.size, 5, none⟩ = some (.slice a6 p.lns.length c6) ∧ w.cell? ⟨W.heap.size, 6, none⟩ = some (.slice a7 p.cks.length c7)) := ⟨fun w hw => ⟨(bel_cell hw hXl 0).trans (by rw [← hXe]; simp), (bel_cell hw hXl 1).trans (by rw [← hXe]; simp), (bel_cell hw hXl 2).trans (by rw [← hXe]; simp), (bel_cell hw hXl 3).trans (by rw [← hXe]; simp), (bel_cell hw hXl 4).trans (by rw [← hXe]; simp), (bel_cell hw hXl 5).trans (by rw [← hXe]; simp), (bel_cell hw hXl 6).trans (by rw [← hXe]; simp)⟩⟩
  obtain ⟨x0, x1, x2, x3, x4, x5, x6⟩ := hBx.out X (Below.refl _ _)
  by_cases c0 : n < -1
  · have t0_0 : ¬ (-1 : Int) ≤ n := by omega
    have hf : inG p n = false := by unfold inG; simp; omega
    rw [hf]
    clear hf c0
    go_enter Tryz.func63, Tryz.ntmps63
    go_wp2
    go_ret
    exact ⟨rfl, hb0⟩
  have f0_0 : (-1 : Int) ≤ n := by omega
  by_cases c1 : n < p.grps.length
  · have t1_0 : n < (p.grps.length : Int) := by omega
    have hf : inG p n = true := by unfold inG; simp; omega
    rw [hf]
    clear hf c0 c1
    go_enter Tryz.func63, Tryz.ntmps63
    go_wp2
    go_ret
    exact ⟨rfl, hb0⟩
  have f1_0 : ¬ n < (p.grps.length : Int) := by omega
  have hf : inG p n = false := by unfold inG; simp; omega
  rw [hf]
  clear hf c0 c1
  go_enter Tryz.func63, Tryz.ntmps63
  go_wp2
  go_ret
  exact ⟨rfl, hb0⟩
set_option maxRecDepth 20000 in
set_option maxHeartbeats 1000000 in
theorem zero_any (x : Ex) (a : Option Addr) (c : Nat) (W : World) : Calls Tryz.prog 89 #[.agg #[.int .i64 x.op, .int .i64 x.num, .int .i64 x.den, .int .i64 x.mode, .slice a x.args.len c]] W (Lk (.bool (zrB x)) W) := by
  obtain ⟨X, hXe⟩ : ∃ X, W.alloc (.cells #[.int .i64 x.op, .int .i64 x.num, .int .i64 x.den, .int .i64 x.mode, .slice a x.args.len c] 59) = X := ⟨_, rfl⟩
  have hb0 : Below W.heap.size W X := by rw [← hXe]; exact (Below.refl _ _).alloc (Nat.le_refl _) _
  have hXl : W.heap.size < X.heap.size := by rw [← hXe]; simp
  have hBx : Hid (∀ w, Below X.heap.size X w → w.cell? ⟨W.heap.size, 0, none⟩ = some (.int .i64 x.op) ∧ w.cell? ⟨W.heap.size, 1, none⟩ = some (.int .i64 x.num) ∧ w.cell? ⟨W.heap.size, 2, none⟩ = some (.int .i64 x.den) ∧ w.cell? ⟨W.heap.size, 3, none⟩ = some (.int .i64 x.mode) ∧ w.cell? ⟨W.heap.size, 4, none⟩ = some (.slice a x.args.len c)) := ⟨fun w hw => ⟨(bel_cell hw hXl 0).trans (by rw [← hXe]; simp), (bel_cell hw hXl 1).trans (by rw [← hXe]; simp), (bel_cell hw hXl 2).trans (by rw [← hXe]; simp), (bel_cell hw hXl 3).trans (by rw [← hXe]; simp), (bel_cell hw hXl 4).trans (by rw [← hXe]; simp)⟩⟩
  obtain ⟨y0, y1, y2, y3, y4⟩ := hBx.out X (Below.refl _ _)
  by_cases c0 : ¬ x.op = 0
  · have t0_0 : (x.op == 0) = false := by simp; omega
    have hf : zrB x = false := by unfold zrB; simp; omega
    rw [hf]
    clear hf c0
    go_enter Tryz.func89, Tryz.ntmps89
    go_wp2
    go_ret
    exact ⟨rfl, hb0⟩
  have f0_0 : (x.op == 0) = true := by simp; omega
  by_cases c1 : ¬ x.num = 0
  · have t1_0 : (x.num == 0) = false := by simp; omega
    have hf : zrB x = false := by unfold zrB; simp; omega
    rw [hf]
    clear hf c0 c1
    go_enter Tryz.func89, Tryz.ntmps89
    go_wp2
    go_ret
    exact ⟨rfl, hb0⟩
  have f1_0 : (x.num == 0) = true := by simp; omega
  by_cases c2 : ¬ x.den = 0
  · have t2_0 : (x.den == 0) = false := by simp; omega
    have hf : zrB x = false := by unfold zrB; simp; omega
    rw [hf]
    clear hf c0 c1 c2
    go_enter Tryz.func89, Tryz.ntmps89
    go_wp2
    go_ret
    exact ⟨rfl, hb0⟩
  have f2_0 : (x.den == 0) = true := by simp; omega
  by_cases c3 : ¬ x.mode = 0
  · have t3_0 : (x.mode == 0) = false := by simp; omega
    have hf : zrB x = false := by unfold zrB; simp; omega
    rw [hf]
    clear hf c0 c1 c2 c3
    go_enter Tryz.func89, Tryz.ntmps89
    go_wp2
    go_ret
    exact ⟨rfl, hb0⟩
  have f3_0 : (x.mode == 0) = true := by simp; omega
  by_cases c4 : ¬ x.args.len = 0
  · have t4_0 : ((x.args.len : Int) == 0) = false := by simp; omega
    have hf : zrB x = false := by unfold zrB; simp; omega
    rw [hf]
    clear hf c0 c1 c2 c3 c4
    go_enter Tryz.func89, Tryz.ntmps89
    go_wp2
    go_ret
    exact ⟨rfl, hb0⟩
  have f4_0 : ((x.args.len : Int) == 0) = true := by simp; omega
  have hf : zrB x = true := by unfold zrB; simp; omega
  rw [hf]
  clear hf c0 c1 c2 c3 c4
  go_enter Tryz.func89, Tryz.ntmps89
  go_wp2
  go_ret
  exact ⟨rfl, hb0⟩
end Go.Proofs.YtmklkcefbabhbaaGreat.R6

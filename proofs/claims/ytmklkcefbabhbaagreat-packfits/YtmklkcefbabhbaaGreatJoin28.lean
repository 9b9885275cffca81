import Derived.Test.YtmklkcefbabhbaaGreatJoin27
import Derived.Test.YtmklkcefbabhbaaGreatJoin26
import Derived.Test.YtmklkcefbabhbaaGreatJoin25
import Derived.Test.YtmklkcefbabhbaaGreatJoin24
/- The numbers of an expression. -/
namespace Go.Proofs.YtmklkcefbabhbaaGreat.R6
open Go.RowKit

theorem numbers_any (x : Ex) (a : Option Addr) (c : Nat) (W : World) : Calls Tryz.prog 104 #[.agg #[.int .i64 x.op, .int .i64 x.num, .int .i64 x.den, .int .i64 x.mode, .slice a x.args.len c]] W (Lk (.bool (nuB x)) W) := by
  obtain ⟨op, num, den, mode, args⟩ := x
  by_cases hm : (1 : Int) ≤ mode
  · by_cases c1 : op = 1
    · subst c1
      exact nu_m_1 num den mode args a c hm W
    by_cases c2 : op = 2
    · subst c2
      exact nu_m_2 num den mode args a c hm W
    by_cases c3 : op = 3
    · subst c3
      exact nu_m_3 num den mode args a c hm W
    by_cases c4 : op = 4
    · subst c4
      exact nu_m_4 num den mode args a c hm W
    by_cases c5 : op = 5
    · subst c5
      exact nu_m_5 num den mode args a c hm W
    by_cases c6 : op = 6
    · subst c6
      exact nu_m_6 num den mode args a c hm W
    by_cases c7 : op = 7
    · subst c7
      exact nu_m_7 num den mode args a c hm W
    by_cases c8 : op = 8
    · subst c8
      exact nu_m_8 num den mode args a c hm W
    by_cases c9 : op = 9
    · subst c9
      exact nu_m_9 num den mode args a c hm W
    by_cases c10 : op = 10
    · subst c10
      exact nu_m_10 num den mode args a c hm W
    by_cases c11 : op = 11
    · subst c11
      exact nu_m_11 num den mode args a c hm W
    by_cases c12 : op = 12
    · subst c12
      exact nu_m_12 num den mode args a c hm W
    by_cases c24 : op = 24
    · subst c24
      exact nu_m_24 num den mode args a c hm W
    by_cases c16 : op = 16
    · subst c16
      exact nu_m_16 num den mode args a c hm W
    by_cases c18 : op = 18
    · subst c18
      exact nu_m_18 num den mode args a c hm W
    by_cases c23 : op = 23
    · subst c23
      exact nu_m_23 num den mode args a c hm W
    exact nu_m_x op c1 c2 c3 c4 c5 c6 c7 c8 c9 c10 c11 c12 c24 c16 c18 c23 num den mode args a c hm W
  · by_cases c1 : op = 1
    · subst c1
      exact nu_n_1 num den mode args a c hm W
    by_cases c2 : op = 2
    · subst c2
      exact nu_n_2 num den mode args a c hm W
    by_cases c3 : op = 3
    · subst c3
      exact nu_n_3 num den mode args a c hm W
    by_cases c4 : op = 4
    · subst c4
      exact nu_n_4 num den mode args a c hm W
    by_cases c5 : op = 5
    · subst c5
      exact nu_n_5 num den mode args a c hm W
    by_cases c6 : op = 6
    · subst c6
      exact nu_n_6 num den mode args a c hm W
    by_cases c7 : op = 7
    · subst c7
      exact nu_n_7 num den mode args a c hm W
    by_cases c8 : op = 8
    · subst c8
      exact nu_n_8 num den mode args a c hm W
    by_cases c9 : op = 9
    · subst c9
      exact nu_n_9 num den mode args a c hm W
    by_cases c10 : op = 10
    · subst c10
      exact nu_n_10 num den mode args a c hm W
    by_cases c11 : op = 11
    · subst c11
      exact nu_n_11 num den mode args a c hm W
    by_cases c12 : op = 12
    · subst c12
      exact nu_n_12 num den mode args a c hm W
    by_cases c24 : op = 24
    · subst c24
      exact nu_n_24 num den mode args a c hm W
    by_cases c16 : op = 16
    · subst c16
      exact nu_n_16 num den mode args a c hm W
    by_cases c18 : op = 18
    · subst c18
      exact nu_n_18 num den mode args a c hm W
    by_cases c23 : op = 23
    · subst c23
      exact nu_n_23 num den mode args a c hm W
    exact nu_n_x op c1 c2 c3 c4 c5 c6 c7 c8 c9 c10 c11 c12 c24 c16 c18 c23 num den mode args a c hm W
end Go.Proofs.YtmklkcefbabhbaaGreat.R6


/- Step 2. -/
namespace Go.Proofs.YtmklkcefbabhbaaGreat.R6
open Go.RowKit

set_option maxRecDepth 20000 in
set_option maxHeartbeats 4000000 in
theorem formed_any (x : Ex) (a : Option Addr) (c : Nat) (W : World) (hF : FoAt W AnyB x.args a) : Calls Tryz.prog 97 #[.agg #[.int .i64 x.op, .int .i64 x.num, .int .i64 x.den, .int .i64 x.mode, .slice a x.args.len c]] W (Lk (.bool (foB x)) W) := by
  obtain ⟨X, hXe⟩ : ∃ X, W.alloc (.cells #[.int .i64 x.op, .int .i64 x.num, .int .i64 x.den, .int .i64 x.mode, .slice a x.args.len c] 59) = X := ⟨_, rfl⟩
  have hb0 : Below W.heap.size W X := by rw [← hXe]; exact (Below.refl _ _).alloc (Nat.le_refl _) _
  have hXl : W.heap.size < X.heap.size := by rw [← hXe]; simp
  have hBx : Hid (∀ w, Below X.heap.size X w → w.cell? ⟨W.heap.size, 0, none⟩ = some (.int .i64 x.op) ∧ w.cell? ⟨W.heap.size, 1, none⟩ = some (.int .i64 x.num) ∧ w.cell? ⟨W.heap.size, 2, none⟩ = some (.int .i64 x.den) ∧ w.cell? ⟨W.heap.size, 3, none⟩ = some (.int .i64 x.mode) ∧ w.cell? ⟨W.heap.size, 4, none⟩ = some (.slice a x.args.len c)) := ⟨fun w hw => ⟨(bel_cell hw hXl 0).trans (by rw [← hXe]; simp), (bel_cell hw hXl 1).trans (by rw [← hXe]; simp), (bel_cell hw hXl 2).trans (by rw [← hXe]; simp), (bel_cell hw hXl 3).trans (by rw [← hXe]; simp), (bel_cell hw hXl 4).trans (by rw [← hXe]; simp)⟩⟩
  obtain ⟨y0, y1, y2, y3, y4⟩ := hBx.out X (Below.refl _ _)
  have har := arity_any x.op X
  have hnu := numbers_any x a c X
  have hFX : Hid (∀ w, Below X.heap.size X w → FoAt w AnyB x.args a) := ⟨fun w hw => fo_bel (fo_bel hF hb0 (Nat.le_refl _)) hw (Nat.le_refl _)⟩
  clear hF
  obtain ⟨R, hR⟩ : ∃ R, foB x = R := ⟨_, rfl⟩
  rw [hR]
  unfold foB at hR
  have h35 : Hid (x.op = 35 → arF x.op = (1, 1)) := ⟨fun e => by rw [e]; decide⟩
  obtain ⟨⟨lo, hi⟩, hl⟩ : ∃ q, arF x.op = q := ⟨_, rfl⟩
  rw [hl] at har hR h35
  clear hl
  replace har : Calls Tryz.prog 103 #[.int .i64 x.op] X fun e W' => e = .returned (.tuple #[.int .i64 lo, .int .i64 hi]) ∧ W' = X := har
  simp only at hR
  by_cases q0 : lo < 0
  · obtain rfl : R = false := by rw [← hR, decide_eq_false (by omega)]; simp
    clear hR hnu
    go_enter Tryz.func97, Tryz.ntmps97
    go_wp2_with (go_at_call 103; refine har.mono ?_; rintro e w1 ⟨rfl, hw⟩; subst w1)
    go_ret
    exact ⟨rfl, hb0⟩
  by_cases q1 : (x.args.len : Int) < lo
  · obtain rfl : R = false := by rw [← hR, decide_eq_false (show ¬ lo ≤ (x.args.len : Int) by omega)]; simp
    clear hR hnu
    go_enter Tryz.func97, Tryz.ntmps97
    go_wp2_with (go_at_call 103; refine har.mono ?_; rintro e w1 ⟨rfl, hw⟩; subst w1)
    go_ret
    exact ⟨rfl, hb0⟩
  by_cases q2 : hi < (x.args.len : Int)
  · obtain rfl : R = false := by rw [← hR, decide_eq_false (show ¬ (x.args.len : Int) ≤ hi by omega)]; simp
    clear hR hnu
    go_enter Tryz.func97, Tryz.ntmps97
    go_wp2_with (go_at_call 103; refine har.mono ?_; rintro e w1 ⟨rfl, hw⟩; subst w1)
    go_ret
    exact ⟨rfl, hb0⟩
  rw [decide_eq_true (show 0 ≤ lo by omega), decide_eq_true (show lo ≤ (x.args.len : Int) by omega), decide_eq_true (show (x.args.len : Int) ≤ hi by omega), Bool.true_and, Bool.true_and, Bool.true_and] at hR
  cases hN : nuB x with
  | false =>
    rw [hN] at hnu hR
    obtain rfl : R = false := by rw [← hR, Bool.false_and]
    clear hR hN
    go_enter Tryz.func97, Tryz.ntmps97
    go_wp2_with (first | (go_at_call 103; refine har.mono ?_; rintro e w1 ⟨rfl, hw⟩; subst w1) | (go_at_call 104; refine hnu.mono ?_; rintro e w2 ⟨rfl, hb2⟩; obtain ⟨y0, y1, y2, y3, y4⟩ := hBx.out _ hb2))
    go_ret
    exact ⟨rfl, belT hb0 hb2⟩
  | true =>
    rw [hN] at hnu hR
    rw [Bool.true_and] at hR
    clear hN
    by_cases q3 : x.op = 35
    rotate_left
    · have e35 : (x.op != 35) = true := by simp; omega
      obtain rfl : R = true := by rw [← hR, decide_eq_true q3, Bool.true_or]
      clear hR q3
      go_enter Tryz.func97, Tryz.ntmps97
      go_wp2_with (first | (go_at_call 103; refine har.mono ?_; rintro e w1 ⟨rfl, hw⟩; subst w1) | (go_at_call 104; refine hnu.mono ?_; rintro e w2 ⟨rfl, hb2⟩; obtain ⟨y0, y1, y2, y3, y4⟩ := hBx.out _ hb2))
      go_ret
      exact ⟨rfl, belT hb0 hb2⟩
    · have e35 : (x.op != 35) = false := by simp; omega
      have hlh := h35.out q3
      simp only [Prod.mk.injEq] at hlh
      obtain ⟨hlo, hhi⟩ := hlh
      have hlen : 1 ≤ x.args.len := by omega
      have hlen' : (0 : Int) < (x.args.len : Int) := by omega
      obtain ⟨ge, oe, z, rfl, hzl, hzc, hzR⟩ : ∃ ge oe, ∃ z : Int, a = some ⟨ge, oe, none⟩ ∧ ge < X.heap.size ∧ X.cell? ⟨ge, oe, none⟩ = some (.int .i64 z) ∧ (match toL x.args with | b :: _ => decide (b.op = 6) | [] => false) = decide (z = 6) := by
        have hf := hFX.out X (Below.refl _ _)
        cases hx : x.args with
        | nil => rw [hx] at hlen; simp [Fo.len] at hlen
        | cons op num den mode ag rest =>
          rw [hx] at hf
          obtain ⟨g, o, a2, cap2, e, -, hg, ⟨hc, -⟩, -⟩ := hf
          exact ⟨g, o, op, e, hg, hc, rfl⟩
      have hzw : Hid (∀ w, Below X.heap.size X w → w.cell? ⟨ge, oe, none⟩ = some (.int .i64 z)) := ⟨fun w hw => (bel_cell hw hzl oe).trans hzc⟩
      have hRz : Hid (R = decide (z = 6)) := ⟨by rw [← hR, decide_eq_false (fun h => h q3), Bool.false_or]; exact hzR⟩
      clear hR q3 hzR hzc h35 hlo hhi
      by_cases q6 : z = 6
      · have e6 : (z == 6) = true := by simp; omega
        obtain rfl : R = true := by rw [hRz.out]; simp; omega
        clear hRz q6
        go_enter Tryz.func97, Tryz.ntmps97
        go_wp2_with (first | (go_at_call 103; refine har.mono ?_; rintro e w1 ⟨rfl, hw⟩; subst w1) | (go_at_call 104; refine hnu.mono ?_; rintro e w2 ⟨rfl, hb2⟩; obtain ⟨y0, y1, y2, y3, y4⟩ := hBx.out _ hb2; have hz2 := hzw.out _ hb2))
        go_ret
        exact ⟨rfl, belT hb0 hb2⟩
      · have e6 : (z == 6) = false := by simp; omega
        obtain rfl : R = false := by rw [hRz.out]; simp; omega
        clear hRz q6
        go_enter Tryz.func97, Tryz.ntmps97
        go_wp2_with (first | (go_at_call 103; refine har.mono ?_; rintro e w1 ⟨rfl, hw⟩; subst w1) | (go_at_call 104; refine hnu.mono ?_; rintro e w2 ⟨rfl, hb2⟩; obtain ⟨y0, y1, y2, y3, y4⟩ := hBx.out _ hb2; have hz2 := hzw.out _ hb2))
        go_ret
        exact ⟨rfl, belT hb0 hb2⟩
end Go.Proofs.YtmklkcefbabhbaaGreat.R6


/- Step 3. -/
namespace Go.Proofs.YtmklkcefbabhbaaGreat.R6
open Go.RowKit

/-- The walk's block. -/
def WkAt (w : World) (wb : Nat) (p : Pk) (a3 a4 a5 a6 a7 : Option Addr) (c3 c4 c5 c6 c7 : Nat) (g : Int) (n : Nat) : Prop := wb < w.heap.size ∧ w.cell? ⟨wb, 0, none⟩ = some (.string ⟨p.name.toArray⟩) ∧ w.cell? ⟨wb, 1, none⟩ = some (.int .i64 p.year) ∧ w.cell? ⟨wb, 2, none⟩ = some (.slice a3 p.opts.length c3) ∧ w.cell? ⟨wb, 3, none⟩ = some (.slice a4 p.tabs.length c4) ∧ w.cell? ⟨wb, 4, none⟩ = some (.slice a5 p.grps.length c5) ∧ w.cell? ⟨wb, 5, none⟩ = some (.slice a6 p.lns.length c6) ∧ w.cell? ⟨wb, 6, none⟩ = some (.slice a7 p.cks.length c7) ∧ w.cell? ⟨wb, 7, none⟩ = some (.int .i64 g) ∧ w.cell? ⟨wb, 8, none⟩ = some (.int .i64 (n : Int))
theorem WkAt.later {w w' : World} {wb : Nat} {p : Pk} {a3 a4 a5 a6 a7 : Option Addr} {c3 c4 c5 c6 c7 : Nat} {g : Int} {n : Nat} (h : WkAt w wb p a3 a4 a5 a6 a7 c3 c4 c5 c6 c7 g n) (hb : Below w.heap.size w w') : WkAt w' wb p a3 a4 a5 a6 a7 c3 c4 c5 c6 c7 g n := by
  obtain ⟨h0, k0, k1, k2, k3, k4, k5, k6, k7, k8⟩ := h
  exact ⟨Nat.lt_of_lt_of_le h0 hb.size, (bel_cell hb h0 _).trans k0, (bel_cell hb h0 _).trans k1, (bel_cell hb h0 _).trans k2, (bel_cell hb h0 _).trans k3, (bel_cell hb h0 _).trans k4, (bel_cell hb h0 _).trans k5, (bel_cell hb h0 _).trans k6, (bel_cell hb h0 _).trans k7, (bel_cell hb h0 _).trans k8⟩
set_option maxRecDepth 20000 in
set_option maxHeartbeats 1000000 in
theorem th_5 (p : Pk) (a3 a4 a5 a6 a7 : Option Addr) (c3 c4 c5 c6 c7 : Nat) (g : Int) (n wb : Nat) (x : Ex) (a : Option Addr) (c : Nat) (ho : x.op = 5) (W : World) (hw : WkAt W wb p a3 a4 a5 a6 a7 c3 c4 c5 c6 c7 g n) (hL : RowR eL W AnyB p.lns a6) (hO : RowR eO W AnyB p.opts a3) : Calls Tryz.prog 98 #[.pointer (some ⟨wb, 0, none⟩), .agg #[.int .i64 x.op, .int .i64 x.num, .int .i64 x.den, .int .i64 x.mode, .slice a x.args.len c]] W (Lk (.bool (thB p g x)) W) := by
  have hE1 : Below W.heap.size W (W.alloc (.cells #[.int .i64 x.op, .int .i64 x.num, .int .i64 x.den, .int .i64 x.mode, .slice a x.args.len c] 59)) := (Below.refl _ _).alloc (Nat.le_refl _) _
  obtain ⟨-, v0, v1, v2, v3, v4, v5, v6, -⟩ := hw.later hE1
  obtain ⟨X, hXe⟩ : ∃ X, (W.alloc (.cells #[.int .i64 x.op, .int .i64 x.num, .int .i64 x.den, .int .i64 x.mode, .slice a x.args.len c] 59)).alloc (.cells #[.string ⟨p.name.toArray⟩, .int .i64 p.year, .slice a3 p.opts.length c3, .slice a4 p.tabs.length c4, .slice a5 p.grps.length c5, .slice a6 p.lns.length c6, .slice a7 p.cks.length c7] 28) = X := ⟨_, rfl⟩
  have hb0 : Below W.heap.size W X := by rw [← hXe]; exact ((Below.refl _ _).alloc (Nat.le_refl _) _).alloc (by simp) _
  have hXl : W.heap.size + 1 < X.heap.size := by rw [← hXe]; simp
  have hBx : Hid (∀ w, Below X.heap.size X w → w.cell? ⟨W.heap.size, 0, none⟩ = some (.int .i64 x.op) ∧ w.cell? ⟨W.heap.size, 1, none⟩ = some (.int .i64 x.num) ∧ w.cell? ⟨W.heap.size, 2, none⟩ = some (.int .i64 x.den) ∧ w.cell? ⟨W.heap.size, 3, none⟩ = some (.int .i64 x.mode) ∧ w.cell? ⟨W.heap.size, 4, none⟩ = some (.slice a x.args.len c) ∧ w.cell? ⟨W.heap.size + 1, 0, none⟩ = some (.string ⟨p.name.toArray⟩) ∧ w.cell? ⟨W.heap.size + 1, 1, none⟩ = some (.int .i64 p.year) ∧ w.cell? ⟨W.heap.size + 1, 2, none⟩ = some (.slice a3 p.opts.length c3) ∧ w.cell? ⟨W.heap.size + 1, 3, none⟩ = some (.slice a4 p.tabs.length c4) ∧ w.cell? ⟨W.heap.size + 1, 4, none⟩ = some (.slice a5 p.grps.length c5) ∧ w.cell? ⟨W.heap.size + 1, 5, none⟩ = some (.slice a6 p.lns.length c6) ∧ w.cell? ⟨W.heap.size + 1, 6, none⟩ = some (.slice a7 p.cks.length c7)) := ⟨fun w hw => ⟨(bel_cell hw (by omega) 0).trans (by rw [← hXe]; simp), (bel_cell hw (by omega) 1).trans (by rw [← hXe]; simp), (bel_cell hw (by omega) 2).trans (by rw [← hXe]; simp), (bel_cell hw (by omega) 3).trans (by rw [← hXe]; simp), (bel_cell hw (by omega) 4).trans (by rw [← hXe]; simp), (bel_cell hw hXl 0).trans (by rw [← hXe, show W.heap.size + 1 = (W.alloc (.cells #[.int .i64 x.op, .int .i64 x.num, .int .i64 x.den, .int .i64 x.mode, .slice a x.args.len c] 59)).heap.size by simp]; simp), (bel_cell hw hXl 1).trans (by rw [← hXe, show W.heap.size + 1 = (W.alloc (.cells #[.int .i64 x.op, .int .i64 x.num, .int .i64 x.den, .int .i64 x.mode, .slice a x.args.len c] 59)).heap.size by simp]; simp), (bel_cell hw hXl 2).trans (by rw [← hXe, show W.heap.size + 1 = (W.alloc (.cells #[.int .i64 x.op, .int .i64 x.num, .int .i64 x.den, .int .i64 x.mode, .slice a x.args.len c] 59)).heap.size by simp]; simp), (bel_cell hw hXl 3).trans (by rw [← hXe, show W.heap.size + 1 = (W.alloc (.cells #[.int .i64 x.op, .int .i64 x.num, .int .i64 x.den, .int .i64 x.mode, .slice a x.args.len c] 59)).heap.size by simp]; simp), (bel_cell hw hXl 4).trans (by rw [← hXe, show W.heap.size + 1 = (W.alloc (.cells #[.int .i64 x.op, .int .i64 x.num, .int .i64 x.den, .int .i64 x.mode, .slice a x.args.len c] 59)).heap.size by simp]; simp), (bel_cell hw hXl 5).trans (by rw [← hXe, show W.heap.size + 1 = (W.alloc (.cells #[.int .i64 x.op, .int .i64 x.num, .int .i64 x.den, .int .i64 x.mode, .slice a x.args.len c] 59)).heap.size by simp]; simp), (bel_cell hw hXl 6).trans (by rw [← hXe, show W.heap.size + 1 = (W.alloc (.cells #[.int .i64 x.op, .int .i64 x.num, .int .i64 x.den, .int .i64 x.mode, .slice a x.args.len c] 59)).heap.size by simp]; simp)⟩⟩
  obtain ⟨y0, y1, y2, y3, y4, x0, x1, x2, x3, x4, x5, x6⟩ := hBx.out X (Below.refl _ _)
  have hwX := Hid.mk (fun w (hb : Below X.heap.size X w) => (hw.later hb0).later hb)
  have hLX := Hid.mk (fun w (hb : Below X.heap.size X w) => row_bel (row_bel hL hb0 (Nat.le_refl _)) hb (Nat.le_refl _))
  have hOX := row_bel hO hb0 (Nat.le_refl _)
  clear hw hL hO
  obtain ⟨R, hR⟩ : ∃ R, thB p g x = R := ⟨_, rfl⟩
  rw [hR]
  unfold thB at hR
  obtain ⟨op, hop⟩ : ∃ op, x.op = op := ⟨_, rfl⟩
  rw [hop] at hR hXe y0 v0 v1 v2 v3 v4 v5 v6 ⊢
  replace hBx : Hid (∀ w, Below X.heap.size X w → w.cell? ⟨W.heap.size, 0, none⟩ = some (.int .i64 op) ∧ w.cell? ⟨W.heap.size, 1, none⟩ = some (.int .i64 x.num) ∧ w.cell? ⟨W.heap.size, 2, none⟩ = some (.int .i64 x.den) ∧ w.cell? ⟨W.heap.size, 3, none⟩ = some (.int .i64 x.mode) ∧ w.cell? ⟨W.heap.size, 4, none⟩ = some (.slice a x.args.len c) ∧ w.cell? ⟨W.heap.size + 1, 0, none⟩ = some (.string ⟨p.name.toArray⟩) ∧ w.cell? ⟨W.heap.size + 1, 1, none⟩ = some (.int .i64 p.year) ∧ w.cell? ⟨W.heap.size + 1, 2, none⟩ = some (.slice a3 p.opts.length c3) ∧ w.cell? ⟨W.heap.size + 1, 3, none⟩ = some (.slice a4 p.tabs.length c4) ∧ w.cell? ⟨W.heap.size + 1, 4, none⟩ = some (.slice a5 p.grps.length c5) ∧ w.cell? ⟨W.heap.size + 1, 5, none⟩ = some (.slice a6 p.lns.length c6) ∧ w.cell? ⟨W.heap.size + 1, 6, none⟩ = some (.slice a7 p.cks.length c7)) := ⟨fun w hw => by have := hBx.out w hw; rw [hop] at this; exact this⟩
  clear hE1
  obtain rfl : op = 5 := hop.symm.trans ho
  clear hop ho
  rw [if_pos rfl] at hR
  by_cases d0 : x.den < 0
  · have u0 : ¬ (0 : Int) ≤ x.den := by omega
    obtain rfl : R = false := by rw [← hR, show at? p.opts x.den = none by unfold at?; rw [if_neg (by omega)]]
    clear hR hwX hLX hOX
    go_enter Tryz.func98, Tryz.ntmps98
    go_upto_region 4 with fail
    go_quiet (fail)
    have hbn := belT hb0 (drew_below X nq)
    go_wp2
    go_ret
    exact ⟨rfl, hbn⟩
  by_cases d1 : (p.opts.length : Int) ≤ x.den
  · have u0 : (0 : Int) ≤ x.den := by omega
    have u1 : ¬ x.den < (p.opts.length : Int) := by omega
    obtain rfl : R = false := by rw [← hR, show at? p.opts x.den = none by unfold at?; rw [if_pos (by omega)]; exact List.getElem?_eq_none (by omega)]
    clear hR hwX hLX hOX
    go_enter Tryz.func98, Tryz.ntmps98
    go_upto_region 4 with fail
    go_quiet (fail)
    have hbn := belT hb0 (drew_below X nq)
    go_wp2
    go_ret
    exact ⟨rfl, hbn⟩
  have u0 : (0 : Int) ≤ x.den := by omega
  have u1 : x.den < (p.opts.length : Int) := by omega
  obtain ⟨i, hi⟩ := Int.eq_ofNat_of_zero_le u0
  have hlt : i < p.opts.length := by omega
  have hat : at? p.opts x.den = some p.opts[i] := by unfold at?; rw [if_pos u0, hi, Int.toNat_natCast]; exact List.getElem?_eq_getElem hlt
  rw [hat] at hR
  simp only at hR
  obtain ⟨ge, oe, rfl⟩ := hOX.some hlt
  obtain ⟨cs, -, -, ⟨a1, c1, rfl, -⟩, hcs⟩ := hOX.item hlt
  have k1 : X.cell? ⟨ge, oe + i * 2 + 1, none⟩ = some (.slice a1 (p.opts[i]).2.length c1) := hcs 1 (by decide)
  generalize (p.opts[i]).2.length = m at k1 hR
  rw [hi] at hXe y2 u0 u1 v0 v1 v2 v3 v4 v5 v6 ⊢
  replace hBx := hBx
  clear hcs hat hOX d0 d1
  by_cases e0 : x.num < 0
  · have w0 : ¬ (0 : Int) ≤ x.num := by omega
    obtain rfl : R = false := by rw [← hR, decide_eq_false w0, Bool.false_and]
    clear hR hwX hLX hi
    go_enter Tryz.func98, Tryz.ntmps98
    clear hBx
    go_upto_region 4 with fail
    go_quiet (fail)
    have hbn := belT hb0 (drew_below X nq)
    go_wp2
    go_ret
    exact ⟨rfl, hbn⟩
  have w0 : (0 : Int) ≤ x.num := by omega
  by_cases e1 : x.num < (m : Int)
  · obtain rfl : R = true := by rw [← hR, decide_eq_true w0, decide_eq_true e1]; rfl
    clear hR hwX hLX hi
    go_enter Tryz.func98, Tryz.ntmps98
    clear hBx
    go_upto_region 4 with fail
    go_quiet (fail)
    have hbn := belT hb0 (drew_below X nq)
    go_wp2
    go_ret
    exact ⟨rfl, hbn⟩
  · obtain rfl : R = false := by rw [← hR, decide_eq_false e1, Bool.and_false]
    clear hR hwX hLX hi
    go_enter Tryz.func98, Tryz.ntmps98
    clear hBx
    go_upto_region 4 with fail
    go_quiet (fail)
    have hbn := belT hb0 (drew_below X nq)
    go_wp2
    go_ret
    exact ⟨rfl, hbn⟩
end Go.Proofs.YtmklkcefbabhbaaGreat.R6

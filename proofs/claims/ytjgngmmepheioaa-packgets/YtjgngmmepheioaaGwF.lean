import Derived.Test.YtjgngmmepheioaaGwE
import Derived.Deep.RegionLaw
namespace Go.Proofs.Ytjgngmmepheioaa.G
open Go.RowKit

set_option maxRecDepth 8000 in
set_option maxHeartbeats 8000000 in
theorem expr_yes (d : Nat) (c : Rc) (W : World) (at_ ft er : Nat) (h : CS c W at_ ft er) (he : er = 0) (hd : d ≤ 64) (ih : ExG (d + 1)) : Calls Try.prog 19 #[.pointer (some ⟨c.r, 0, none⟩), .int .i64 (d : Int)] W (Xd (rExpr (65 - d)) (VE eE) c at_ ft er W) := by
  have hr := h.lt
  have hs1 : (W.alloc (.cells #[.int .i64 0, .int .i64 0, .int .i64 0, .int .i64 0, .slice none 0 0] 77)).heap.size = W.heap.size + 1 := by simp
  have hb0 := bx_new W #[.int .i64 0, .int .i64 0, .int .i64 0, .int .i64 0, .slice none 0 0] 77
  have hb1 := bx_new (W.alloc (.cells #[.int .i64 0, .int .i64 0, .int .i64 0, .int .i64 0, .slice none 0 0] 77)) #[.int .i64 0, .int .i64 0, .int .i64 0, .int .i64 0, .slice none 0 0] 77
  rw [hs1] at hb1
  obtain ⟨X, hX⟩ : ∃ X, (W.alloc (.cells #[.int .i64 0, .int .i64 0, .int .i64 0, .int .i64 0, .slice none 0 0] 77)).alloc (.cells #[.int .i64 0, .int .i64 0, .int .i64 0, .int .i64 0, .slice none 0 0] 77) = X := ⟨_, rfl⟩
  have hS0 : ES c W W.heap.size (W.heap.size + 1) [.int .i64 0, .int .i64 0, .int .i64 0, .int .i64 0, .slice none 0 0] [.int .i64 0, .int .i64 0, .int .i64 0, .int .i64 0, .slice none 0 0] at_ ft er X := by
    rw [← hX]
    exact ⟨(h.alloc _).alloc _, (World.grownBy_alloc _ _ _).trans (World.grownBy_alloc _ _ _), hb0.kept (World.grownBy_alloc _ _ none) (by simp), hb1, hr, h.below, Nat.le_refl _, Nat.le_succ _, by omega⟩
  have c3 := hS0.cs.c3
  clear h hb0 hb1 hs1
  subst he
  have hd' : ¬ (64 : Int) < (d : Int) := by omega
  have hdc : ((d + 1 : Nat) : Int) = (d : Int) + 1 := by omega
  have hd64 : (d : Int) ≤ 64 := by omega
  have hd1 : Hid (65 - d = (65 - (d + 1)) + 1) := ⟨by omega⟩
  have hc := int_any c X hS0.cs
  go_enter Try.func19, Try.ntmps19
  go_wp2_with (go_at_call 18; fail)
  clear hX
  refine hc.mono ?_
  rintro e w1 ⟨x1, at1, ft1, er1, rfl, rg1, hC, hg, hp1⟩
  have hT := hS0.call hC hg
  have o0 : w1.cell? ⟨W.heap.size + 1, 0, none⟩ = some (.int .i64 0) := hT.ex.2.1 0 (show 0 < 5 by decide)
  have of0 : w1.frozen? ⟨W.heap.size + 1, 0, none⟩ = false := hT.ex.2.2 0
  have hU := hT.sete 0 (.int .i64 x1)
  obtain ⟨V1, hV1⟩ : ∃ Y, w1.setCell ⟨W.heap.size + 1, 0, none⟩ (.int .i64 x1) = Y := ⟨_, rfl⟩
  have hS1 : ES c W W.heap.size (W.heap.size + 1) [.int .i64 0, .int .i64 0, .int .i64 0, .int .i64 0, .slice none 0 0] [.int .i64 x1, .int .i64 0, .int .i64 0, .int .i64 0, .slice none 0 0] at1 ft1 er1 V1 := by rw [← hV1]; exact hU
  clear hc hC hg hT hU hS0
  have hc : Calls Try.prog 47 #[.pointer (some ⟨c.r, 0, none⟩), .int .u8 15] V1 _ := byte_any 15 (by decide) c V1 hS1.cs
  go_wp2_with (go_at_call 47; fail)
  clear hV1 o0 of0 c3
  refine hc.mono ?_
  rintro e w2 ⟨b, at2, ft2, er2, rfl, hb15, hC, hg, hp2⟩
  have hS2 := hS1.call hC hg
  clear hc hC hg hS1
  obtain ⟨b0, b1, b2, b3⟩ := bit15 hb15
  have hbI : 0 ≤ (b : Int) ∧ (b : Int) ≤ 15 := by omega
  obtain ⟨t0, ht0⟩ : ∃ t, Nat.testBit b 0 = t := ⟨_, rfl⟩
  rw [ht0] at b0
  replace ht0 := Hid.mk ht0
  obtain ⟨t1, ht1⟩ : ∃ t, Nat.testBit b 1 = t := ⟨_, rfl⟩
  rw [ht1] at b1
  replace ht1 := Hid.mk ht1
  obtain ⟨t2, ht2⟩ : ∃ t, Nat.testBit b 2 = t := ⟨_, rfl⟩
  rw [ht2] at b2
  replace ht2 := Hid.mk ht2
  obtain ⟨t3, ht3⟩ : ∃ t, Nat.testBit b 3 = t := ⟨_, rfl⟩
  rw [ht3] at b3
  replace ht3 := Hid.mk ht3
  have hc := some_any t0 c w2 hS2.cs
  go_wp2_with (go_at_call 48; fail)
  refine hc.mono ?_
  rintro e w3 ⟨x3, at3, ft3, er3, rfl, rg3, hC, hg, hp3⟩
  have hT := hS2.call hC hg
  have o0 : w3.cell? ⟨W.heap.size + 1, 1, none⟩ = some (.int .i64 0) := hT.ex.2.1 1 (show 1 < 5 by decide)
  have of0 : w3.frozen? ⟨W.heap.size + 1, 1, none⟩ = false := hT.ex.2.2 1
  have hU := hT.sete 1 (.int .i64 x3)
  obtain ⟨V3, hV3⟩ : ∃ Y, w3.setCell ⟨W.heap.size + 1, 1, none⟩ (.int .i64 x3) = Y := ⟨_, rfl⟩
  have hS3 : ES c W W.heap.size (W.heap.size + 1) [.int .i64 0, .int .i64 0, .int .i64 0, .int .i64 0, .slice none 0 0] [.int .i64 x1, .int .i64 x3, .int .i64 0, .int .i64 0, .slice none 0 0] at3 ft3 er3 V3 := by rw [← hV3]; exact hU
  clear hc hC hg hT hU hS2
  have hc := some_any t1 c V3 hS3.cs
  go_wp2_with (go_at_call 48; fail)
  clear hV3 o0 of0
  refine hc.mono ?_
  rintro e w4 ⟨x4, at4, ft4, er4, rfl, rg4, hC, hg, hp4⟩
  have hT := hS3.call hC hg
  have o0 : w4.cell? ⟨W.heap.size + 1, 2, none⟩ = some (.int .i64 0) := hT.ex.2.1 2 (show 2 < 5 by decide)
  have of0 : w4.frozen? ⟨W.heap.size + 1, 2, none⟩ = false := hT.ex.2.2 2
  have hU := hT.sete 2 (.int .i64 x4)
  obtain ⟨V4, hV4⟩ : ∃ Y, w4.setCell ⟨W.heap.size + 1, 2, none⟩ (.int .i64 x4) = Y := ⟨_, rfl⟩
  have hS4 : ES c W W.heap.size (W.heap.size + 1) [.int .i64 0, .int .i64 0, .int .i64 0, .int .i64 0, .slice none 0 0] [.int .i64 x1, .int .i64 x3, .int .i64 x4, .int .i64 0, .slice none 0 0] at4 ft4 er4 V4 := by rw [← hV4]; exact hU
  clear hc hC hg hT hU hS3
  have hc := some_any t2 c V4 hS4.cs
  go_wp2_with (go_at_call 48; fail)
  clear hV4 o0 of0
  refine hc.mono ?_
  rintro e w5 ⟨x5, at5, ft5, er5, rfl, rg5, hC, hg, hp5⟩
  have hT := hS4.call hC hg
  have o0 : w5.cell? ⟨W.heap.size + 1, 3, none⟩ = some (.int .i64 0) := hT.ex.2.1 3 (show 3 < 5 by decide)
  have of0 : w5.frozen? ⟨W.heap.size + 1, 3, none⟩ = false := hT.ex.2.2 3
  have hU := hT.sete 3 (.int .i64 x5)
  obtain ⟨V5, hV5⟩ : ∃ Y, w5.setCell ⟨W.heap.size + 1, 3, none⟩ (.int .i64 x5) = Y := ⟨_, rfl⟩
  have hS5 : ES c W W.heap.size (W.heap.size + 1) [.int .i64 0, .int .i64 0, .int .i64 0, .int .i64 0, .slice none 0 0] [.int .i64 x1, .int .i64 x3, .int .i64 x4, .int .i64 x5, .slice none 0 0] at5 ft5 er5 V5 := by rw [← hV5]; exact hU
  clear hc hC hg hT hU hS4
  clear b0 b1 b2
  cases t3 with
  | false =>
    have e0 : V5.cell? ⟨W.heap.size + 1, 0, none⟩ = some (.int .i64 x1) := hS5.ex.2.1 0 (show 0 < 5 by decide)
    have e1 : V5.cell? ⟨W.heap.size + 1, 1, none⟩ = some (.int .i64 x3) := hS5.ex.2.1 1 (show 1 < 5 by decide)
    have e2 : V5.cell? ⟨W.heap.size + 1, 2, none⟩ = some (.int .i64 x4) := hS5.ex.2.1 2 (show 2 < 5 by decide)
    have e3 : V5.cell? ⟨W.heap.size + 1, 3, none⟩ = some (.int .i64 x5) := hS5.ex.2.1 3 (show 3 < 5 by decide)
    have e4 : V5.cell? ⟨W.heap.size + 1, 4, none⟩ = some (.slice none 0 0) := hS5.ex.2.1 4 (show 4 < 5 by decide)
    have r0 : V5.cell? ⟨W.heap.size, 0, none⟩ = some (.int .i64 0) := hS5.rx.2.1 0 (show 0 < 5 by decide)
    have rf0 : V5.frozen? ⟨W.heap.size, 0, none⟩ = false := hS5.rx.2.2 0
    have hr0 := hS5.setr 0 (.int .i64 x1)
    obtain ⟨Y0, hY0⟩ : ∃ Y, V5.setCell ⟨W.heap.size, 0, none⟩ (.int .i64 x1) = Y := ⟨_, rfl⟩
    have hr0 : ES c W W.heap.size (W.heap.size + 1) [.int .i64 x1, .int .i64 0, .int .i64 0, .int .i64 0, .slice none 0 0] [.int .i64 x1, .int .i64 x3, .int .i64 x4, .int .i64 x5, .slice none 0 0] at5 ft5 er5 Y0 := by rw [← hY0]; exact hr0
    have r1 : Y0.cell? ⟨W.heap.size, 1, none⟩ = some (.int .i64 0) := hr0.rx.2.1 1 (show 1 < 5 by decide)
    have rf1 : Y0.frozen? ⟨W.heap.size, 1, none⟩ = false := hr0.rx.2.2 1
    have hr1 := hr0.setr 1 (.int .i64 x3)
    obtain ⟨Y1, hY1⟩ : ∃ Y, Y0.setCell ⟨W.heap.size, 1, none⟩ (.int .i64 x3) = Y := ⟨_, rfl⟩
    have hr1 : ES c W W.heap.size (W.heap.size + 1) [.int .i64 x1, .int .i64 x3, .int .i64 0, .int .i64 0, .slice none 0 0] [.int .i64 x1, .int .i64 x3, .int .i64 x4, .int .i64 x5, .slice none 0 0] at5 ft5 er5 Y1 := by rw [← hY1]; exact hr1
    have r2 : Y1.cell? ⟨W.heap.size, 2, none⟩ = some (.int .i64 0) := hr1.rx.2.1 2 (show 2 < 5 by decide)
    have rf2 : Y1.frozen? ⟨W.heap.size, 2, none⟩ = false := hr1.rx.2.2 2
    have hr2 := hr1.setr 2 (.int .i64 x4)
    obtain ⟨Y2, hY2⟩ : ∃ Y, Y1.setCell ⟨W.heap.size, 2, none⟩ (.int .i64 x4) = Y := ⟨_, rfl⟩
    have hr2 : ES c W W.heap.size (W.heap.size + 1) [.int .i64 x1, .int .i64 x3, .int .i64 x4, .int .i64 0, .slice none 0 0] [.int .i64 x1, .int .i64 x3, .int .i64 x4, .int .i64 x5, .slice none 0 0] at5 ft5 er5 Y2 := by rw [← hY2]; exact hr2
    have r3 : Y2.cell? ⟨W.heap.size, 3, none⟩ = some (.int .i64 0) := hr2.rx.2.1 3 (show 3 < 5 by decide)
    have rf3 : Y2.frozen? ⟨W.heap.size, 3, none⟩ = false := hr2.rx.2.2 3
    have hr3 := hr2.setr 3 (.int .i64 x5)
    obtain ⟨Y3, hY3⟩ : ∃ Y, Y2.setCell ⟨W.heap.size, 3, none⟩ (.int .i64 x5) = Y := ⟨_, rfl⟩
    have hr3 : ES c W W.heap.size (W.heap.size + 1) [.int .i64 x1, .int .i64 x3, .int .i64 x4, .int .i64 x5, .slice none 0 0] [.int .i64 x1, .int .i64 x3, .int .i64 x4, .int .i64 x5, .slice none 0 0] at5 ft5 er5 Y3 := by rw [← hY3]; exact hr3
    have r4 : Y3.cell? ⟨W.heap.size, 4, none⟩ = some (.slice none 0 0) := hr3.rx.2.1 4 (show 4 < 5 by decide)
    have rf4 : Y3.frozen? ⟨W.heap.size, 4, none⟩ = false := hr3.rx.2.2 4
    have hr4 := hr3.setr 4 (.slice none 0 0)
    obtain ⟨Y4, hY4⟩ : ∃ Y, Y3.setCell ⟨W.heap.size, 4, none⟩ (.slice none 0 0) = Y := ⟨_, rfl⟩
    have hr4 : ES c W W.heap.size (W.heap.size + 1) [.int .i64 x1, .int .i64 x3, .int .i64 x4, .int .i64 x5, .slice none 0 0] [.int .i64 x1, .int .i64 x3, .int .i64 x4, .int .i64 x5, .slice none 0 0] at5 ft5 er5 Y4 := by rw [← hY4]; exact hr4
    have q0 : Y4.cell? ⟨W.heap.size, 0, none⟩ = some (.int .i64 x1) := hr4.rx.2.1 0 (show 0 < 5 by decide)
    have q1 : Y4.cell? ⟨W.heap.size, 1, none⟩ = some (.int .i64 x3) := hr4.rx.2.1 1 (show 1 < 5 by decide)
    have q2 : Y4.cell? ⟨W.heap.size, 2, none⟩ = some (.int .i64 x4) := hr4.rx.2.1 2 (show 2 < 5 by decide)
    have q3 : Y4.cell? ⟨W.heap.size, 3, none⟩ = some (.int .i64 x5) := hr4.rx.2.1 3 (show 3 < 5 by decide)
    have q4 : Y4.cell? ⟨W.heap.size, 4, none⟩ = some (.slice none 0 0) := hr4.rx.2.1 4 (show 4 < 5 by decide)
    have hfin : Xd (rExpr (65 - d)) (VE eE) c at_ ft 0 W (.returned (.agg #[.int .i64 x1, .int .i64 x3, .int .i64 x4, .int .i64 x5, .slice none 0 0])) Y4 := ⟨⟨x1, x3, x4, x5, .nil⟩, _, _, _, _, rfl, ⟨[.int .i64 x1, .int .i64 x3, .int .i64 x4, .int .i64 x5, .slice none 0 0], rfl, none, 0, rfl, ⟨rg1, rg3, rg4, rg5⟩, trivial⟩, hr4.cs, hr4.gr, by rw [hd1.out]; exact hp1.bd (hp2.bd (by rw [ht0.out, ht1.out, ht2.out, ht3.out]; exact hp3.bd (hp4.bd (hp5.bd (Xp.bd (M := Except.ok ([], _)) Xp.pure Xp.pure)))))⟩
    clear hp1 hp2 hp3 hp4 hp5
    clear hr0 hr1 hr2 hr3 hr4
    go_wp2
    exact bodyPost_ret (v := .agg #[.int .i64 x1, .int .i64 x3, .int .i64 x4, .int .i64 x5, .slice none 0 0]) (by simp [results, Try.results19, go_sem, q0, q1, q2, q3, q4]) rfl hfin
  | true =>
    have c1 := hS5.cs.c1
    have heb5 := hS5.ex.1
    have hc := list_any c V5 hS5.cs
    go_wp2_with (go_at_call 14; fail)
    clear hV5 o0 of0 c1 b3
    refine hc.mono ?_
    rintro e w6 ⟨n, at6, ft6, er6, rfl, hn2, hn0, hC, hg, hp6⟩
    have hS6 := hS5.call hC hg
    have hg56 := hg
    have hle5 : Hid (er6 = 0 → at5 ≤ c.l.length) := ⟨fun e => hS5.cs.le (by apply Classical.byContradiction; intro h0; have := (hp6.1 h0).2; omega)⟩
    have c3 := hS6.cs.c3
    obtain ⟨item, hitem⟩ : ∃ item : List UInt8 → Nat → Rd Ex, item = rExpr (65 - (d + 1)) := ⟨_, rfl⟩
    obtain ⟨L, hL⟩ : ∃ L : Rd (List Ex), L = rLst item c.l at5 := ⟨_, rfl⟩
    have hq6 : Lq (item c.l) L n 0 ft5 er5 at6 ft6 er6 [] := by rw [hL]; exact Lq.start hp6 hn0
    obtain ⟨A, hA⟩ : ∃ A : Rd (List Ex), A = rArgs item c.l at5 := ⟨_, rfl⟩
    have hAL : Hid (A = bd L (fun es a2 => if es.length = 0 then .error (at5, 71) else .ok (es, a2))) := ⟨by rw [hA, hL]; rfl⟩
    have hAe : Hid (rArg true (rExpr (65 - (d + 1))) c.l at5 = A) := ⟨by rw [hA, hitem]; rfl⟩
    have ihH : Hid (∀ (c : Rc) (W : World) (at_ ft er : Nat), CS c W at_ ft er → Calls Try.prog 19 #[.pointer (some ⟨c.r, 0, none⟩), .int .i64 ((d : Int) + 1)] W (Xd item (VE eE) c at_ ft er W)) := ⟨fun c W a f e h => by rw [hitem, ← hdc]; exact ih c W a f e h⟩
    clear hc hC hg hS5 hp6 hL hA hitem ih hdc
    obtain ⟨bt, hbt⟩ : ∃ b : Bool, b = decide (er6 = 0 ∧ n = 0) := ⟨_, rfl⟩
    go_upto_region 14 with fail
    go_cut [73] (fun bv wx => bv = .bool bt ∧ wx = w6)
    case first =>
      by_cases he : er6 = 0
      · subst he
        by_cases hz : n = 0
        · have hz' : ((n : Int) == 0) = true := by rw [hz]; rfl
          have hb : Hid (true = bt) := ⟨by rw [hbt]; simp [hz]⟩
          clear hbt hz
          go_wp2_with fail
          go_meet
          exact ⟨by rw [hb.out], rfl⟩
        · have hz' : ((n : Int) == 0) = false := by simp; omega
          have hb : Hid (false = bt) := ⟨by rw [hbt]; simp [hz]⟩
          clear hbt hz
          go_wp2_with fail
          go_meet
          exact ⟨by rw [hb.out], rfl⟩
      · have he' : ((er6 : Int) == 0) = false := by simp; omega
        have hb : Hid (false = bt) := ⟨by rw [hbt]; simp [he]⟩
        clear hbt he
        go_wp2_with fail
        go_meet
        exact ⟨by rw [hb.out], rfl⟩
    case rest =>
    obtain ⟨rfl, hwc⟩ := hcut
    have hwd := hwc.symm
    subst hwd
    clear hwc
    replace hbt := Hid.mk hbt
    go_upto_if 73 with fail
    go_cut [6] (fun mv wx => mv = .int .u8 (b : Int) ∧ ∃ (at2 ft2 er2 : Nat), ES c W W.heap.size (W.heap.size + 1) [.int .i64 0, .int .i64 0, .int .i64 0, .int .i64 0, .slice none 0 0] [.int .i64 x1, .int .i64 x3, .int .i64 x4, .int .i64 x5, .slice none 0 0] at2 ft2 er2 wx ∧ V5.grownBy wx (some c.r) ∧ ((er2 ≠ 0 ∧ ∀ es, Xp A ft5 er5 at2 ft2 er2 es) ∨ (er2 = 0 ∧ 0 < n ∧ Lq (item c.l) L n 0 ft5 er5 at2 ft2 er2 [])))
    case first =>
      cases bt with
      | true =>
        have hbb : er6 = 0 ∧ n = 0 := of_decide_eq_true hbt.out.symm
        obtain ⟨he, hz⟩ := hbb
        subst he
        have hft := fault_any c at5 71 (hle5.out rfl) (by omega) w6 hS6.cs
        have hX : ∀ es, Xp A ft5 er5 at6 at5 71 es := fun es => by
          rw [hAL.out]
          have h1 := hq6.done (.inl (by omega)) rfl (Nat.zero_le _)
          exact h1.bd (by simpa using Xp.fail (M := (.error (at5, 71) : Rd (List Ex))) (x := es) (ft := ft6) (er := 0) (a := at6) (fun _ => rfl) (by decide))
        have hXH := Hid.mk hX
        clear hX hz hq6 hbt
        go_wp2_with (go_at_call 12; fail)
        refine hft.mono ?_
        rintro e w7 ⟨rfl, hF, hg7⟩
        rw [if_pos rfl, if_pos rfl] at hF
        have hS7 := hS6.call hF hg7
        clear hft hF c3 hS6
        go_wp2_with fail
        go_meet
        exact ⟨rfl, at6, at5, 71, hS7, hg56.trans hg7, .inl ⟨by decide, hXH.out⟩⟩
      | false =>
        have hbb : ¬ (er6 = 0 ∧ n = 0) := of_decide_eq_false hbt.out.symm
        have hfin : (er6 ≠ 0 ∧ ∀ es, Xp A ft5 er5 at6 ft6 er6 es) ∨ (er6 = 0 ∧ 0 < n ∧ Lq (item c.l) L n 0 ft5 er5 at6 ft6 er6 []) := by
          by_cases he : er6 = 0
          · exact .inr ⟨he, by omega, hq6⟩
          · refine .inl ⟨he, fun es => ?_⟩
            rw [hAL.out]
            exact (hq6.done (.inr he) rfl (Nat.zero_le _)).bd (Xp.stuck he)
        replace hfin := Hid.mk hfin
        clear hbb hq6 hbt
        go_wp2_with fail
        go_meet
        exact ⟨rfl, at6, ft6, er6, hS6, hg56, hfin.out⟩
    case rest =>
    obtain ⟨rfl, a7, f7, e7, hS7, hg7, hl7⟩ := hcut
    obtain ⟨w7, hwn⟩ : ∃ w, w = wc := ⟨_, rfl⟩
    rw [← hwn] at hS7 hg7 ⊢
    replace hl7 := Hid.mk hl7
    clear hwn c3 hS6 hq6 hg56
    go_wp2_with fail
    go_loopw [9] (fun iv wr => ∃ (i : Nat) (xs : List Ex) (lv : Value) (at2 ft2 er2 : Nat), i ≤ n ∧ iv = .int .i64 (i : Int) ∧ Hid (xs.length = i) ∧ ES c W W.heap.size (W.heap.size + 1) [.int .i64 0, .int .i64 0, .int .i64 0, .int .i64 0, .slice none 0 0] [.int .i64 x1, .int .i64 x3, .int .i64 x4, .int .i64 x5, lv]  at2 ft2 er2 wr ∧ V5.heap.size ≤ wr.heap.size ∧ GS eE 77 V5.heap.size wr lv xs ∧ ((er2 ≠ 0 ∧ ∀ es, Xp A ft5 er5 at2 ft2 er2 es) ∨ (er2 = 0 ∧ 0 < n ∧ Lq (item c.l) L n i ft5 er5 at2 ft2 er2 xs))) (fun iv _ => n - (intOf iv).toNat)
    case atStart => exact ⟨0, [], .slice none 0 0, a7, f7, e7, Nat.zero_le _, rfl, ⟨rfl⟩, hS7, hg7.size, gs_nil _ _ _ _, hl7.out⟩
    case round =>
      clear hS7 hg7 hl7
      obtain ⟨i, xs, lv, at8, ft8, er8, hin, rfl, hxl, hS8, hg8, hG8, hl8⟩ := hrel
      have c3 := hS8.cs.c3
      obtain ⟨la, lc, hlv⟩ : ∃ la lc, lv = .slice la xs.length lc := by obtain ⟨cs, ho, -⟩ := hG8; exact own_shapeG ho
      subst hlv
      by_cases hgo : i < n ∧ er8 = 0
      · obtain ⟨hlt, rfl⟩ := hgo
        have hlt' : (i : Int) < (n : Int) := by omega
        have hq8 : Lq (item c.l) L n i ft5 er5 at8 ft8 0 xs ∧ 0 < n := by
          rcases hl8 with ⟨h, -⟩ | ⟨-, h1, h2⟩
          · exact absurd rfl h
          · exact ⟨h2, h1⟩
        replace hq8 := Hid.mk hq8
        have hSd := hS8.drew
        have hcall := ihH.out c wr.drew at8 ft8 0 hSd.cs
        have hw1 : IntKind.i64.wrap ((d : Int) + 1) = (d : Int) + 1 := by rw [IntKind.wrap_i64]; omega
        rw [← hw1] at hcall
        clear hw1
        obtain ⟨i0, hi, hz0, hz1, hz2⟩ := info_parts infoExG
        have s4 : wr.drew.cell? ⟨W.heap.size + 1, 4, none⟩ = some (.slice la xs.length lc) := hSd.ex.2.1 4 (show 4 < 5 by decide)
        have hxl1 : xs.length ≤ 262144 := by have := hxl.out; omega
        have hlo := hg8
        have hown := fun g (e : (Value.slice la xs.length lc).ownBlock = some g) => hG8.choose_spec.1.lt g e
        have hrl : c.r < V5.heap.size := by have := hS8.k1; have := hS8.k4; omega
        have hGd := gs_kept hG8 hrl (⟨rfl, rfl, rfl, Nat.le_refl _, fun _ _ _ => rfl⟩ : wr.grownBy wr.drew (some c.r))
        clear hl8
        have c3 : wr.cell? ⟨c.r, 3, none⟩ = some (.int .i64 0) := c3
        go_wp2_with fail
        go_region_law
          (first
            | (go_simp; go_at_call 19; refine hcall.mono ?_; rintro e w9 ⟨x, v, at9, ft9, er9, rfl, ⟨cs9, rfl, a9, c9, rfl, rg9, hF9⟩, hC9, hg9, hp9⟩; have hS9 := hSd.call hC9 hg9; have s9 : w9.cell? ⟨W.heap.size + 1, 4, none⟩ = some (.slice la xs.length lc) := hS9.ex.2.1 4 (show 4 < 5 by decide); have hGA := gs_alloc (gs_kept hGd hrl hg9) (.cells #[.int .i64 x.op, .int .i64 x.num, .int .i64 x.den, .int .i64 x.mode, .slice a9 x.args.len c9] 77); have hSA := hS9.alloc (.cells #[.int .i64 x.op, .int .i64 x.num, .int .i64 x.den, .int .i64 x.mode, .slice a9 x.args.len c9] 77); have sA : (w9.alloc (.cells #[.int .i64 x.op, .int .i64 x.num, .int .i64 x.den, .int .i64 x.mode, .slice a9 x.args.len c9] 77)).cell? ⟨W.heap.size + 1, 4, none⟩ = some (.slice la xs.length lc) := hSA.ex.2.1 4 (show 4 < 5 by decide); obtain ⟨cs, ho, hEl⟩ := hGA; have hsz : V5.heap.size ≤ (w9.alloc (.cells #[.int .i64 x.op, .int .i64 x.num, .int .i64 x.den, .int .i64 x.mode, .slice a9 x.args.len c9] 77)).heap.size := Nat.le_trans hlo (Nat.le_trans hg9.size (World.grownBy_alloc w9 (.cells #[.int .i64 x.op, .int .i64 x.num, .int .i64 x.den, .int .i64 x.mode, .slice a9 x.args.len c9] 77) none).size))
            | (refine step_append_g (P := Try.prog) _ rfl _ _ 75 rfl V5.heap.size 77 i0 _ 5 56 Try.underlying75 hi hz0 hz1 hz2 rfl (by decide) _ xs.length cs rfl ho ⟨w9.heap.size, 0, none⟩ 1 1 [.int .i64 x.op, .int .i64 x.num, .int .i64 x.den, .int .i64 x.mode, .slice a9 x.args.len c9] rfl rfl (lit_at w9 _ _) (by simp [Value.oneCell']) (by unfold maxLen; omega) (by omega) hsz ?_; intro v' w10 hown' hgrow hat; obtain ⟨ga, ca, rfl⟩ := own_shapeG hown'; have hne10 : some (W.heap.size + 1) ≠ (Value.slice la xs.length lc).ownBlock := (fun e => by have := (hown _ e.symm).1; omega); have s10 : w10.cell? ⟨W.heap.size + 1, 4, none⟩ = some (.slice la xs.length lc) := (gr_cell hgrow hSA.ex.1 hne10 4).trans sA; have sf10 : w10.frozen? ⟨W.heap.size + 1, 4, none⟩ = false := (gr_frozen hgrow hSA.ex.1 hne10 4).trans (hSA.ex.2.2 4)))
        all_goals
          have hS10 : ES c W W.heap.size (W.heap.size + 1) [.int .i64 0, .int .i64 0, .int .i64 0, .int .i64 0, .slice none 0 0] [.int .i64 x1, .int .i64 x3, .int .i64 x4, .int .i64 x5, .slice la xs.length lc] at9 ft9 er9 w10 := hSA.other hgrow (fun g e => by have h1 := (hown g e).1; have h2 := hS8.k4; omega)
          have hS11 := hS10.sete 4 (.slice ga (xs.length + 1) ca)
          have hS11 : ES c W W.heap.size (W.heap.size + 1) [.int .i64 0, .int .i64 0, .int .i64 0, .int .i64 0, .slice none 0 0] [.int .i64 x1, .int .i64 x3, .int .i64 x4, .int .i64 x5, .slice ga (xs.length + 1) ca] at9 ft9 er9 (w10.setCell ⟨W.heap.size + 1, 4, none⟩ (.slice ga (xs.length + 1) ca)) := hS11
          have hEx : eE.E (w9.alloc (.cells #[.int .i64 x.op, .int .i64 x.num, .int .i64 x.den, .int .i64 x.mode, .slice a9 x.args.len c9] 77)) (fun b => wr.heap.size ≤ b) x [.int .i64 x.op, .int .i64 x.num, .int .i64 x.den, .int .i64 x.mode, .slice a9 x.args.len c9] := eE.fr (show eE.E w9 (fun b => wr.heap.size ≤ b) x [.int .i64 x.op, .int .i64 x.num, .int .i64 x.den, .int .i64 x.mode, .slice a9 x.args.len c9] from ⟨a9, c9, rfl, rg9, hF9⟩) (World.grownBy_alloc w9 (.cells #[.int .i64 x.op, .int .i64 x.num, .int .i64 x.den, .int .i64 x.mode, .slice a9 x.args.len c9] 77) none).size (fun b _ hlt => (World.grownBy_alloc w9 (.cells #[.int .i64 x.op, .int .i64 x.num, .int .i64 x.den, .int .i64 x.mode, .slice a9 x.args.len c9] 77) none).block b hlt (by simp))
          have hG10 := gs_step (b0 := wr.heap.size) hEl hEx hlo (fun g e => (hown g e).2) hgrow hat hown'
          have hG11 := gs_kept hG10 heb5 (gr_set w10 (W.heap.size + 1) 4 (.slice ga (xs.length + 1) ca))
          have hsz11 : V5.heap.size ≤ (w10.setCell ⟨W.heap.size + 1, 4, none⟩ (.slice ga (xs.length + 1) ca)).heap.size := Nat.le_trans hsz (Nat.le_trans hgrow.size (gr_set w10 (W.heap.size + 1) 4 (.slice ga (xs.length + 1) ca)).size)
          have hq9 := hq8.out.1.step hlt hp9
          have hl9 : (er9 ≠ 0 ∧ ∀ es, Xp A ft5 er5 at9 ft9 er9 es) ∨ (er9 = 0 ∧ 0 < n ∧ Lq (item c.l) L n (i + 1) ft5 er5 at9 ft9 er9 (xs ++ [x])) := by
            by_cases he : er9 = 0
            · exact .inr ⟨he, hq8.out.2, hq9⟩
            · refine .inl ⟨he, fun es => ?_⟩
              rw [hAL.out]
              exact (hq9.done (.inr he) (by rw [List.length_append, hxl.out]; rfl) (by omega)).bd (Xp.stuck he)
          replace hl9 := Hid.mk hl9
          clear hS10 hSA hS9 hSd hEl ho hcall hgrow hat hown' hC9 hg9 hp9 hF9 hEx hG10 hGd hS8 hG8 hq9 s10 sf10 sA s9 s4
          go_wp2
          go_roundw
          case rel => exact ⟨i + 1, xs ++ [x], _, _, _, _, by omega, by go_num, ⟨by rw [List.length_append, hxl.out]; rfl⟩, hS11, hsz11, hG11, hl9.out⟩
          case measure => simp [intOf]; omega
      · have hxlo := hxl.out
        have hAx : Xp A ft5 er5 at8 ft8 er8 xs := by
          rcases hl8 with ⟨-, h⟩ | ⟨he, h1, h2⟩
          · exact h xs
          · have hni : n ≤ i := by omega
            rw [hAL.out]
            refine (h2.done (.inl hni) hxlo hin).bd ?_
            rw [if_neg (by omega)]
            exact Xp.pure
        have hrow : RowR eE wr (fun b => V5.heap.size ≤ b) xs la := by
          obtain ⟨a, cap, e, h⟩ := gs_done hG8
          simp only [Value.slice.injEq] at e
          rw [e.1]
          exact h
        have hrbl : W.heap.size < V5.heap.size := by omega
        replace hAx := Hid.mk hAx
        clear hl8 hG8 hxlo
        by_cases hlt : i < n
        · have hlt' : (i : Int) < (n : Int) := by omega
          have he8 : er8 ≠ 0 := fun e => hgo ⟨hlt, e⟩
          have he' : ((er8 : Int) == 0) = false := by simp; omega
          clear he8 hgo
          have e0 : wr.cell? ⟨W.heap.size + 1, 0, none⟩ = some (.int .i64 x1) := hS8.ex.2.1 0 (show 0 < 5 by decide)
          have e1 : wr.cell? ⟨W.heap.size + 1, 1, none⟩ = some (.int .i64 x3) := hS8.ex.2.1 1 (show 1 < 5 by decide)
          have e2 : wr.cell? ⟨W.heap.size + 1, 2, none⟩ = some (.int .i64 x4) := hS8.ex.2.1 2 (show 2 < 5 by decide)
          have e3 : wr.cell? ⟨W.heap.size + 1, 3, none⟩ = some (.int .i64 x5) := hS8.ex.2.1 3 (show 3 < 5 by decide)
          have e4 : wr.cell? ⟨W.heap.size + 1, 4, none⟩ = some (.slice la xs.length lc) := hS8.ex.2.1 4 (show 4 < 5 by decide)
          have r0 : wr.cell? ⟨W.heap.size, 0, none⟩ = some (.int .i64 0) := hS8.rx.2.1 0 (show 0 < 5 by decide)
          have rf0 : wr.frozen? ⟨W.heap.size, 0, none⟩ = false := hS8.rx.2.2 0
          have hr0 := hS8.setr 0 (.int .i64 x1)
          obtain ⟨Y0, hY0⟩ : ∃ Y, wr.setCell ⟨W.heap.size, 0, none⟩ (.int .i64 x1) = Y := ⟨_, rfl⟩
          have hr0 : ES c W W.heap.size (W.heap.size + 1) [.int .i64 x1, .int .i64 0, .int .i64 0, .int .i64 0, .slice none 0 0] [.int .i64 x1, .int .i64 x3, .int .i64 x4, .int .i64 x5, .slice la xs.length lc] at8 ft8 er8 Y0 := by rw [← hY0]; exact hr0
          have r1 : Y0.cell? ⟨W.heap.size, 1, none⟩ = some (.int .i64 0) := hr0.rx.2.1 1 (show 1 < 5 by decide)
          have rf1 : Y0.frozen? ⟨W.heap.size, 1, none⟩ = false := hr0.rx.2.2 1
          have hr1 := hr0.setr 1 (.int .i64 x3)
          obtain ⟨Y1, hY1⟩ : ∃ Y, Y0.setCell ⟨W.heap.size, 1, none⟩ (.int .i64 x3) = Y := ⟨_, rfl⟩
          have hr1 : ES c W W.heap.size (W.heap.size + 1) [.int .i64 x1, .int .i64 x3, .int .i64 0, .int .i64 0, .slice none 0 0] [.int .i64 x1, .int .i64 x3, .int .i64 x4, .int .i64 x5, .slice la xs.length lc] at8 ft8 er8 Y1 := by rw [← hY1]; exact hr1
          have r2 : Y1.cell? ⟨W.heap.size, 2, none⟩ = some (.int .i64 0) := hr1.rx.2.1 2 (show 2 < 5 by decide)
          have rf2 : Y1.frozen? ⟨W.heap.size, 2, none⟩ = false := hr1.rx.2.2 2
          have hr2 := hr1.setr 2 (.int .i64 x4)
          obtain ⟨Y2, hY2⟩ : ∃ Y, Y1.setCell ⟨W.heap.size, 2, none⟩ (.int .i64 x4) = Y := ⟨_, rfl⟩
          have hr2 : ES c W W.heap.size (W.heap.size + 1) [.int .i64 x1, .int .i64 x3, .int .i64 x4, .int .i64 0, .slice none 0 0] [.int .i64 x1, .int .i64 x3, .int .i64 x4, .int .i64 x5, .slice la xs.length lc] at8 ft8 er8 Y2 := by rw [← hY2]; exact hr2
          have r3 : Y2.cell? ⟨W.heap.size, 3, none⟩ = some (.int .i64 0) := hr2.rx.2.1 3 (show 3 < 5 by decide)
          have rf3 : Y2.frozen? ⟨W.heap.size, 3, none⟩ = false := hr2.rx.2.2 3
          have hr3 := hr2.setr 3 (.int .i64 x5)
          obtain ⟨Y3, hY3⟩ : ∃ Y, Y2.setCell ⟨W.heap.size, 3, none⟩ (.int .i64 x5) = Y := ⟨_, rfl⟩
          have hr3 : ES c W W.heap.size (W.heap.size + 1) [.int .i64 x1, .int .i64 x3, .int .i64 x4, .int .i64 x5, .slice none 0 0] [.int .i64 x1, .int .i64 x3, .int .i64 x4, .int .i64 x5, .slice la xs.length lc] at8 ft8 er8 Y3 := by rw [← hY3]; exact hr3
          have r4 : Y3.cell? ⟨W.heap.size, 4, none⟩ = some (.slice none 0 0) := hr3.rx.2.1 4 (show 4 < 5 by decide)
          have rf4 : Y3.frozen? ⟨W.heap.size, 4, none⟩ = false := hr3.rx.2.2 4
          have hr4 := hr3.setr 4 (.slice la xs.length lc)
          obtain ⟨Y4, hY4⟩ : ∃ Y, Y3.setCell ⟨W.heap.size, 4, none⟩ (.slice la xs.length lc) = Y := ⟨_, rfl⟩
          have hr4 : ES c W W.heap.size (W.heap.size + 1) [.int .i64 x1, .int .i64 x3, .int .i64 x4, .int .i64 x5, .slice la xs.length lc] [.int .i64 x1, .int .i64 x3, .int .i64 x4, .int .i64 x5, .slice la xs.length lc] at8 ft8 er8 Y4 := by rw [← hY4]; exact hr4
          have q0 : Y4.cell? ⟨W.heap.size, 0, none⟩ = some (.int .i64 x1) := hr4.rx.2.1 0 (show 0 < 5 by decide)
          have q1 : Y4.cell? ⟨W.heap.size, 1, none⟩ = some (.int .i64 x3) := hr4.rx.2.1 1 (show 1 < 5 by decide)
          have q2 : Y4.cell? ⟨W.heap.size, 2, none⟩ = some (.int .i64 x4) := hr4.rx.2.1 2 (show 2 < 5 by decide)
          have q3 : Y4.cell? ⟨W.heap.size, 3, none⟩ = some (.int .i64 x5) := hr4.rx.2.1 3 (show 3 < 5 by decide)
          have q4 : Y4.cell? ⟨W.heap.size, 4, none⟩ = some (.slice la xs.length lc) := hr4.rx.2.1 4 (show 4 < 5 by decide)
          have hgY : wr.grownBy Y4 (some (W.heap.size)) := by rw [← hY4, ← hY3, ← hY2, ← hY1, ← hY0]; exact ((((gr_set _ _ _ _).trans (gr_set _ _ _ _)).trans (gr_set _ _ _ _)).trans (gr_set _ _ _ _)).trans (gr_set _ _ _ _)
          have hfin : Xd (rExpr (65 - d)) (VE eE) c at_ ft 0 W (.returned (.agg #[.int .i64 x1, .int .i64 x3, .int .i64 x4, .int .i64 x5, .slice la xs.length lc])) Y4 := ⟨⟨x1, x3, x4, x5, ofL xs⟩, _, _, _, _, rfl, ⟨[.int .i64 x1, .int .i64 x3, .int .i64 x4, .int .i64 x5, .slice la xs.length lc], rfl, la, lc, by rw [ofL_len], ⟨rg1, rg3, rg4, rg5⟩, fo_of_row ((hrow.fr hgY.size (fun b hb hlt => hgY.block b hlt (fun e => by have := Option.some.inj e; omega))).mo (fun b _ hb => Nat.le_trans (Nat.le_of_lt hrbl) hb))⟩, hr4.cs, hr4.gr, by rw [hd1.out]; exact hp1.bd (hp2.bd (by rw [ht0.out, ht1.out, ht2.out, ht3.out]; exact hp3.bd (hp4.bd (hp5.bd (Xp.bd (M := rArg true (rExpr (65 - (d + 1))) c.l at5) (by rw [hAe.out]; exact hAx.out) Xp.pure)))))⟩
          clear hp1 hp2 hp3 hp4 hp5 hgY hrow
          clear hr0 hr1 hr2 hr3 hr4
          go_wp2
          exact bodyPost_ret (v := .agg #[.int .i64 x1, .int .i64 x3, .int .i64 x4, .int .i64 x5, .slice la xs.length lc]) (by simp [results, Try.results19, go_sem, q0, q1, q2, q3, q4]) rfl hfin
        · have hlt' : ¬ (i : Int) < (n : Int) := by omega
          clear hgo
          have e0 : wr.cell? ⟨W.heap.size + 1, 0, none⟩ = some (.int .i64 x1) := hS8.ex.2.1 0 (show 0 < 5 by decide)
          have e1 : wr.cell? ⟨W.heap.size + 1, 1, none⟩ = some (.int .i64 x3) := hS8.ex.2.1 1 (show 1 < 5 by decide)
          have e2 : wr.cell? ⟨W.heap.size + 1, 2, none⟩ = some (.int .i64 x4) := hS8.ex.2.1 2 (show 2 < 5 by decide)
          have e3 : wr.cell? ⟨W.heap.size + 1, 3, none⟩ = some (.int .i64 x5) := hS8.ex.2.1 3 (show 3 < 5 by decide)
          have e4 : wr.cell? ⟨W.heap.size + 1, 4, none⟩ = some (.slice la xs.length lc) := hS8.ex.2.1 4 (show 4 < 5 by decide)
          have r0 : wr.cell? ⟨W.heap.size, 0, none⟩ = some (.int .i64 0) := hS8.rx.2.1 0 (show 0 < 5 by decide)
          have rf0 : wr.frozen? ⟨W.heap.size, 0, none⟩ = false := hS8.rx.2.2 0
          have hr0 := hS8.setr 0 (.int .i64 x1)
          obtain ⟨Y0, hY0⟩ : ∃ Y, wr.setCell ⟨W.heap.size, 0, none⟩ (.int .i64 x1) = Y := ⟨_, rfl⟩
          have hr0 : ES c W W.heap.size (W.heap.size + 1) [.int .i64 x1, .int .i64 0, .int .i64 0, .int .i64 0, .slice none 0 0] [.int .i64 x1, .int .i64 x3, .int .i64 x4, .int .i64 x5, .slice la xs.length lc] at8 ft8 er8 Y0 := by rw [← hY0]; exact hr0
          have r1 : Y0.cell? ⟨W.heap.size, 1, none⟩ = some (.int .i64 0) := hr0.rx.2.1 1 (show 1 < 5 by decide)
          have rf1 : Y0.frozen? ⟨W.heap.size, 1, none⟩ = false := hr0.rx.2.2 1
          have hr1 := hr0.setr 1 (.int .i64 x3)
          obtain ⟨Y1, hY1⟩ : ∃ Y, Y0.setCell ⟨W.heap.size, 1, none⟩ (.int .i64 x3) = Y := ⟨_, rfl⟩
          have hr1 : ES c W W.heap.size (W.heap.size + 1) [.int .i64 x1, .int .i64 x3, .int .i64 0, .int .i64 0, .slice none 0 0] [.int .i64 x1, .int .i64 x3, .int .i64 x4, .int .i64 x5, .slice la xs.length lc] at8 ft8 er8 Y1 := by rw [← hY1]; exact hr1
          have r2 : Y1.cell? ⟨W.heap.size, 2, none⟩ = some (.int .i64 0) := hr1.rx.2.1 2 (show 2 < 5 by decide)
          have rf2 : Y1.frozen? ⟨W.heap.size, 2, none⟩ = false := hr1.rx.2.2 2
          have hr2 := hr1.setr 2 (.int .i64 x4)
          obtain ⟨Y2, hY2⟩ : ∃ Y, Y1.setCell ⟨W.heap.size, 2, none⟩ (.int .i64 x4) = Y := ⟨_, rfl⟩
          have hr2 : ES c W W.heap.size (W.heap.size + 1) [.int .i64 x1, .int .i64 x3, .int .i64 x4, .int .i64 0, .slice none 0 0] [.int .i64 x1, .int .i64 x3, .int .i64 x4, .int .i64 x5, .slice la xs.length lc] at8 ft8 er8 Y2 := by rw [← hY2]; exact hr2
          have r3 : Y2.cell? ⟨W.heap.size, 3, none⟩ = some (.int .i64 0) := hr2.rx.2.1 3 (show 3 < 5 by decide)
          have rf3 : Y2.frozen? ⟨W.heap.size, 3, none⟩ = false := hr2.rx.2.2 3
          have hr3 := hr2.setr 3 (.int .i64 x5)
          obtain ⟨Y3, hY3⟩ : ∃ Y, Y2.setCell ⟨W.heap.size, 3, none⟩ (.int .i64 x5) = Y := ⟨_, rfl⟩
          have hr3 : ES c W W.heap.size (W.heap.size + 1) [.int .i64 x1, .int .i64 x3, .int .i64 x4, .int .i64 x5, .slice none 0 0] [.int .i64 x1, .int .i64 x3, .int .i64 x4, .int .i64 x5, .slice la xs.length lc] at8 ft8 er8 Y3 := by rw [← hY3]; exact hr3
          have r4 : Y3.cell? ⟨W.heap.size, 4, none⟩ = some (.slice none 0 0) := hr3.rx.2.1 4 (show 4 < 5 by decide)
          have rf4 : Y3.frozen? ⟨W.heap.size, 4, none⟩ = false := hr3.rx.2.2 4
          have hr4 := hr3.setr 4 (.slice la xs.length lc)
          obtain ⟨Y4, hY4⟩ : ∃ Y, Y3.setCell ⟨W.heap.size, 4, none⟩ (.slice la xs.length lc) = Y := ⟨_, rfl⟩
          have hr4 : ES c W W.heap.size (W.heap.size + 1) [.int .i64 x1, .int .i64 x3, .int .i64 x4, .int .i64 x5, .slice la xs.length lc] [.int .i64 x1, .int .i64 x3, .int .i64 x4, .int .i64 x5, .slice la xs.length lc] at8 ft8 er8 Y4 := by rw [← hY4]; exact hr4
          have q0 : Y4.cell? ⟨W.heap.size, 0, none⟩ = some (.int .i64 x1) := hr4.rx.2.1 0 (show 0 < 5 by decide)
          have q1 : Y4.cell? ⟨W.heap.size, 1, none⟩ = some (.int .i64 x3) := hr4.rx.2.1 1 (show 1 < 5 by decide)
          have q2 : Y4.cell? ⟨W.heap.size, 2, none⟩ = some (.int .i64 x4) := hr4.rx.2.1 2 (show 2 < 5 by decide)
          have q3 : Y4.cell? ⟨W.heap.size, 3, none⟩ = some (.int .i64 x5) := hr4.rx.2.1 3 (show 3 < 5 by decide)
          have q4 : Y4.cell? ⟨W.heap.size, 4, none⟩ = some (.slice la xs.length lc) := hr4.rx.2.1 4 (show 4 < 5 by decide)
          have hgY : wr.grownBy Y4 (some (W.heap.size)) := by rw [← hY4, ← hY3, ← hY2, ← hY1, ← hY0]; exact ((((gr_set _ _ _ _).trans (gr_set _ _ _ _)).trans (gr_set _ _ _ _)).trans (gr_set _ _ _ _)).trans (gr_set _ _ _ _)
          have hfin : Xd (rExpr (65 - d)) (VE eE) c at_ ft 0 W (.returned (.agg #[.int .i64 x1, .int .i64 x3, .int .i64 x4, .int .i64 x5, .slice la xs.length lc])) Y4 := ⟨⟨x1, x3, x4, x5, ofL xs⟩, _, _, _, _, rfl, ⟨[.int .i64 x1, .int .i64 x3, .int .i64 x4, .int .i64 x5, .slice la xs.length lc], rfl, la, lc, by rw [ofL_len], ⟨rg1, rg3, rg4, rg5⟩, fo_of_row ((hrow.fr hgY.size (fun b hb hlt => hgY.block b hlt (fun e => by have := Option.some.inj e; omega))).mo (fun b _ hb => Nat.le_trans (Nat.le_of_lt hrbl) hb))⟩, hr4.cs, hr4.gr, by rw [hd1.out]; exact hp1.bd (hp2.bd (by rw [ht0.out, ht1.out, ht2.out, ht3.out]; exact hp3.bd (hp4.bd (hp5.bd (Xp.bd (M := rArg true (rExpr (65 - (d + 1))) c.l at5) (by rw [hAe.out]; exact hAx.out) Xp.pure)))))⟩
          clear hp1 hp2 hp3 hp4 hp5 hgY hrow
          clear hr0 hr1 hr2 hr3 hr4
          go_wp2
          exact bodyPost_ret (v := .agg #[.int .i64 x1, .int .i64 x3, .int .i64 x4, .int .i64 x5, .slice la xs.length lc]) (by simp [results, Try.results19, go_sem, q0, q1, q2, q3, q4]) rfl hfin

theorem expr_any : ∀ (k d : Nat), d + k = 65 → ExG d
  | 0, d, hd => fun c W at_ ft er h => by
    by_cases he : er = 0
    · exact expr_deep d c W at_ ft er h he (by omega)
    · exact expr_no d c W at_ ft er h he
  | k + 1, d, hd => fun c W at_ ft er h => by
    by_cases he : er = 0
    · exact expr_yes d c W at_ ft er h he (by omega) (expr_any k (d + 1) (by omega))
    · exact expr_no d c W at_ ft er h he
theorem expr_one (c : Rc) (W : World) {at_ ft er : Nat} (h : CS c W at_ ft er) : Calls Try.prog 19 #[.pointer (some ⟨c.r, 0, none⟩), .int .i64 1] W (Xd (rExpr 64) (VE eE) c at_ ft er W) := expr_any 64 1 rfl c W at_ ft er h

end Go.Proofs.Ytjgngmmepheioaa.G

import Derived.Test.YtjgngmmepheioaaGwF
import Derived.Test.YtjgngmmepheioaaPxC
namespace Go.Proofs.Ytjgngmmepheioaa.G
open Go.RowKit

/-- A round under way since W2: a variable of its own. -/
structure E3 (c : Rc) (W W2 : World) (rb eb kb : Nat) (rv vs kv : List Value) (at_ ft er : Nat) (w : World) : Prop where
  es : ES c W rb eb rv vs at_ ft er w
  kx : Bx w kb kv
  gw : W2.grownBy w (some c.r)
  h1 : W2.heap.size ≤ kb
  h2 : rb < W2.heap.size
  h3 : eb < W2.heap.size
  h4 : W.heap.size ≤ W2.heap.size
theorem E3.call {c : Rc} {W W2 : World} {rb eb kb : Nat} {rv vs kv : List Value} {a f e a2 f2 e2 : Nat} {w w' : World} (h : E3 c W W2 rb eb kb rv vs kv a f e w) (h2 : CS c w' a2 f2 e2) (hg : w.grownBy w' (some c.r)) : E3 c W W2 rb eb kb rv vs kv a2 f2 e2 w' := ⟨h.es.call h2 hg, h.kx.kept hg (fun e => by have := Option.some.inj e; have := h.es.k1; have := h.h1; have := h.h4; omega), h.gw.trans hg, h.h1, h.h2, h.h3, h.h4⟩
theorem E3.setk {c : Rc} {W W2 : World} {rb eb kb : Nat} {rv vs kv : List Value} {a f e : Nat} {w : World} (h : E3 c W W2 rb eb kb rv vs kv a f e w) (i : Nat) (v : Value) : E3 c W W2 rb eb kb rv vs (kv.set i v) a f e (w.setCell ⟨kb, i, none⟩ v) := ⟨h.es.other (gr_set w kb i v) (fun g e => by have := Option.some.inj e; have := h.h1; have := h.h2; have := h.h3; have := h.h4; omega), h.kx.set i v, gr_setO h.gw h.h1, h.h1, h.h2, h.h3, h.h4⟩
theorem E3.alloc {c : Rc} {W W2 : World} {rb eb kb : Nat} {rv vs kv : List Value} {a f e : Nat} {w : World} (h : E3 c W W2 rb eb kb rv vs kv a f e w) (ob : Obj) : E3 c W W2 rb eb kb rv vs kv a f e (w.alloc ob) := h.call (h.es.cs.alloc ob) (World.grownBy_alloc w ob _)
/-- The variable is new. -/
theorem E3.new {c : Rc} {W : World} {rb eb : Nat} {rv vs : List Value} {a f e : Nat} {w : World} (h : ES c W rb eb rv vs a f e w) (cs : Array Value) (t : TypeId) : E3 c W w rb eb w.heap.size rv vs cs.toList a f e (w.alloc (.cells cs t)) := ⟨h.alloc _, bx_new w cs t, World.grownBy_alloc w _ _, Nat.le_refl _, h.rx.1, h.ex.1, h.gr.size⟩
theorem infoClG : (Try.prog.info? 103).map (fun i => (i.zero, i.size, i.bytes)) = some (some (.agg #[.int .i64 0, .bool false, .int .i64 0, .int .i64 0, .int .i64 0, .int .i64 0, .slice none 0 0, .int .i64 0, .int .i64 0, .int .i64 0, .int .i64 0, .slice none 0 0]), 12, 128) := by kernel_rfl
/-- An expression stays while what was there before is turned. -/
theorem fo_keep {w w' : World} {f : Fo} {a : Option Addr} {sz : Nat} {r : Nat} (h : FoAt w (fun b => sz ≤ b) f a) (hg : w.grownBy w' (some r)) (hr : r < sz) : FoAt w' (fun b => sz ≤ b) f a := FoAt.fr hg.size (fun b hb hlt => hg.block b hlt (fun e => by have := Option.some.inj e; omega)) _ _ h

set_option maxRecDepth 8000 in
set_option maxHeartbeats 8000000 in
theorem line_any (c : Rc) (W : World) {at_ ft er : Nat} (h : CS c W at_ ft er) : Calls Try.prog 15 #[.pointer (some ⟨c.r, 0, none⟩)] W (Xd rLine (VE eL) c at_ ft er W) := by
  have hr := h.lt
  have hs1 : (W.alloc (.cells #[.string ⟨#[]⟩, .bool false, .bool false, .int .i64 0, .int .i64 0, .int .i64 0, .slice none 0 0] 73)).heap.size = W.heap.size + 1 := by simp
  have hb0 := bx_new W #[.string ⟨#[]⟩, .bool false, .bool false, .int .i64 0, .int .i64 0, .int .i64 0, .slice none 0 0] 73
  have hb1 := bx_new (W.alloc (.cells #[.string ⟨#[]⟩, .bool false, .bool false, .int .i64 0, .int .i64 0, .int .i64 0, .slice none 0 0] 73)) #[.string ⟨#[]⟩, .bool false, .bool false, .int .i64 0, .int .i64 0, .int .i64 0, .slice none 0 0] 73
  rw [hs1] at hb1
  obtain ⟨V0, hX⟩ : ∃ X, (W.alloc (.cells #[.string ⟨#[]⟩, .bool false, .bool false, .int .i64 0, .int .i64 0, .int .i64 0, .slice none 0 0] 73)).alloc (.cells #[.string ⟨#[]⟩, .bool false, .bool false, .int .i64 0, .int .i64 0, .int .i64 0, .slice none 0 0] 73) = X := ⟨_, rfl⟩
  have hS0 : ES c W W.heap.size (W.heap.size + 1) [.string ⟨#[]⟩, .bool false, .bool false, .int .i64 0, .int .i64 0, .int .i64 0, .slice none 0 0] [.string ⟨#[]⟩, .bool false, .bool false, .int .i64 0, .int .i64 0, .int .i64 0, .slice none 0 0] at_ ft er V0 := by
    rw [← hX]
    exact ⟨(h.alloc _).alloc _, (World.grownBy_alloc _ _ _).trans (World.grownBy_alloc _ _ _), hb0.kept (World.grownBy_alloc _ _ none) (by simp), hb1, hr, h.below, Nat.le_refl _, Nat.le_succ _, by omega⟩
  clear h hb0 hb1 hs1
  go_enter Try.func15, Try.ntmps15
  have hc := text_any c V0 hS0.cs
  go_wp2_with (go_at_call 16; fail)
  clear hX
  refine hc.mono ?_
  rintro e w1 ⟨s1, at1, ft1, er1, rfl, hC, hg, hp1⟩
  have hT := hS0.call hC hg
  have o0 : w1.cell? ⟨W.heap.size + 1, 0, none⟩ = some (.string ⟨#[]⟩) := hT.ex.2.1 0 (show 0 < 7 by decide)
  have of0 : w1.frozen? ⟨W.heap.size + 1, 0, none⟩ = false := hT.ex.2.2 0
  have hU := hT.sete 0 (.string ⟨s1.toArray⟩)
  obtain ⟨V1, hV1⟩ : ∃ Y, w1.setCell ⟨W.heap.size + 1, 0, none⟩ (.string ⟨s1.toArray⟩) = Y := ⟨_, rfl⟩
  have hS1 : ES c W W.heap.size (W.heap.size + 1) [.string ⟨#[]⟩, .bool false, .bool false, .int .i64 0, .int .i64 0, .int .i64 0, .slice none 0 0] [.string ⟨s1.toArray⟩, .bool false, .bool false, .int .i64 0, .int .i64 0, .int .i64 0, .slice none 0 0] at1 ft1 er1 V1 := by rw [← hV1]; exact hU
  clear hc hC hg hT hU hS0
  have hc := flag_any c V1 hS1.cs
  go_wp2_with (go_at_call 17; fail)
  clear hV1 o0 of0
  refine hc.mono ?_
  rintro e w2 ⟨b2, at2, ft2, er2, rfl, hC, hg, hp2⟩
  have hT := hS1.call hC hg
  have o0 : w2.cell? ⟨W.heap.size + 1, 1, none⟩ = some (.bool false) := hT.ex.2.1 1 (show 1 < 7 by decide)
  have of0 : w2.frozen? ⟨W.heap.size + 1, 1, none⟩ = false := hT.ex.2.2 1
  have hU := hT.sete 1 (.bool b2)
  obtain ⟨V2, hV2⟩ : ∃ Y, w2.setCell ⟨W.heap.size + 1, 1, none⟩ (.bool b2) = Y := ⟨_, rfl⟩
  have hS2 : ES c W W.heap.size (W.heap.size + 1) [.string ⟨#[]⟩, .bool false, .bool false, .int .i64 0, .int .i64 0, .int .i64 0, .slice none 0 0] [.string ⟨s1.toArray⟩, .bool b2, .bool false, .int .i64 0, .int .i64 0, .int .i64 0, .slice none 0 0] at2 ft2 er2 V2 := by rw [← hV2]; exact hU
  clear hc hC hg hT hU hS1
  have hc := flag_any c V2 hS2.cs
  go_wp2_with (go_at_call 17; fail)
  clear hV2 o0 of0
  refine hc.mono ?_
  rintro e w3 ⟨b3, at3, ft3, er3, rfl, hC, hg, hp3⟩
  have hT := hS2.call hC hg
  have o0 : w3.cell? ⟨W.heap.size + 1, 2, none⟩ = some (.bool false) := hT.ex.2.1 2 (show 2 < 7 by decide)
  have of0 : w3.frozen? ⟨W.heap.size + 1, 2, none⟩ = false := hT.ex.2.2 2
  have hU := hT.sete 2 (.bool b3)
  obtain ⟨V3, hV3⟩ : ∃ Y, w3.setCell ⟨W.heap.size + 1, 2, none⟩ (.bool b3) = Y := ⟨_, rfl⟩
  have hS3 : ES c W W.heap.size (W.heap.size + 1) [.string ⟨#[]⟩, .bool false, .bool false, .int .i64 0, .int .i64 0, .int .i64 0, .slice none 0 0] [.string ⟨s1.toArray⟩, .bool b2, .bool b3, .int .i64 0, .int .i64 0, .int .i64 0, .slice none 0 0] at3 ft3 er3 V3 := by rw [← hV3]; exact hU
  clear hc hC hg hT hU hS2
  have hc := int_any c V3 hS3.cs
  go_wp2_with (go_at_call 18; fail)
  clear hV3 o0 of0
  refine hc.mono ?_
  rintro e w4 ⟨z4, at4, ft4, er4, rfl, rg4, hC, hg, hp4⟩
  have hT := hS3.call hC hg
  have o0 : w4.cell? ⟨W.heap.size + 1, 3, none⟩ = some (.int .i64 0) := hT.ex.2.1 3 (show 3 < 7 by decide)
  have of0 : w4.frozen? ⟨W.heap.size + 1, 3, none⟩ = false := hT.ex.2.2 3
  have hU := hT.sete 3 (.int .i64 z4)
  obtain ⟨V4, hV4⟩ : ∃ Y, w4.setCell ⟨W.heap.size + 1, 3, none⟩ (.int .i64 z4) = Y := ⟨_, rfl⟩
  have hS4 : ES c W W.heap.size (W.heap.size + 1) [.string ⟨#[]⟩, .bool false, .bool false, .int .i64 0, .int .i64 0, .int .i64 0, .slice none 0 0] [.string ⟨s1.toArray⟩, .bool b2, .bool b3, .int .i64 z4, .int .i64 0, .int .i64 0, .slice none 0 0] at4 ft4 er4 V4 := by rw [← hV4]; exact hU
  clear hc hC hg hT hU hS3
  have hc := int_any c V4 hS4.cs
  go_wp2_with (go_at_call 18; fail)
  clear hV4 o0 of0
  refine hc.mono ?_
  rintro e w5 ⟨z5, at5, ft5, er5, rfl, rg5, hC, hg, hp5⟩
  have hT := hS4.call hC hg
  have o0 : w5.cell? ⟨W.heap.size + 1, 4, none⟩ = some (.int .i64 0) := hT.ex.2.1 4 (show 4 < 7 by decide)
  have of0 : w5.frozen? ⟨W.heap.size + 1, 4, none⟩ = false := hT.ex.2.2 4
  have hU := hT.sete 4 (.int .i64 z5)
  obtain ⟨V5, hV5⟩ : ∃ Y, w5.setCell ⟨W.heap.size + 1, 4, none⟩ (.int .i64 z5) = Y := ⟨_, rfl⟩
  have hS5 : ES c W W.heap.size (W.heap.size + 1) [.string ⟨#[]⟩, .bool false, .bool false, .int .i64 0, .int .i64 0, .int .i64 0, .slice none 0 0] [.string ⟨s1.toArray⟩, .bool b2, .bool b3, .int .i64 z4, .int .i64 z5, .int .i64 0, .slice none 0 0] at5 ft5 er5 V5 := by rw [← hV5]; exact hU
  clear hc hC hg hT hU hS4
  have hc := int_any c V5 hS5.cs
  go_wp2_with (go_at_call 18; fail)
  clear hV5 o0 of0
  refine hc.mono ?_
  rintro e w6 ⟨z6, at6, ft6, er6, rfl, rg6, hC, hg, hp6⟩
  have hT := hS5.call hC hg
  have o0 : w6.cell? ⟨W.heap.size + 1, 5, none⟩ = some (.int .i64 0) := hT.ex.2.1 5 (show 5 < 7 by decide)
  have of0 : w6.frozen? ⟨W.heap.size + 1, 5, none⟩ = false := hT.ex.2.2 5
  have hU := hT.sete 5 (.int .i64 z6)
  obtain ⟨V6, hV6⟩ : ∃ Y, w6.setCell ⟨W.heap.size + 1, 5, none⟩ (.int .i64 z6) = Y := ⟨_, rfl⟩
  have hS6 : ES c W W.heap.size (W.heap.size + 1) [.string ⟨#[]⟩, .bool false, .bool false, .int .i64 0, .int .i64 0, .int .i64 0, .slice none 0 0] [.string ⟨s1.toArray⟩, .bool b2, .bool b3, .int .i64 z4, .int .i64 z5, .int .i64 z6, .slice none 0 0] at6 ft6 er6 V6 := by rw [← hV6]; exact hU
  clear hc hC hg hT hU hS5
  have heb6 := hS6.ex.1
  have hc := list_any c V6 hS6.cs
  go_wp2_with (go_at_call 14; fail)
  clear hV6 o0 of0
  refine hc.mono ?_
  rintro e w7 ⟨n, at7, ft7, er7, rfl, hn2, hn0, hC, hg, hp7⟩
  have hS7 := hS6.call hC hg
  have hsz7 := hg.size
  have hq7 := Lq.start (item := rClause) hp7 hn0
  clear hc hC hg hS6 hp7
  replace hq7 := Hid.mk hq7
  go_wp2_with fail
  go_loopw [5] (fun iv wr => ∃ (i : Nat) (xs : List Cl) (lv : Value) (at2 ft2 er2 : Nat), i ≤ n ∧ iv = .int .i64 (i : Int) ∧ Hid (xs.length = i) ∧ ES c W W.heap.size (W.heap.size + 1) [.string ⟨#[]⟩, .bool false, .bool false, .int .i64 0, .int .i64 0, .int .i64 0, .slice none 0 0] [.string ⟨s1.toArray⟩, .bool b2, .bool b3, .int .i64 z4, .int .i64 z5, .int .i64 z6, lv] at2 ft2 er2 wr ∧ V6.heap.size ≤ wr.heap.size ∧ GS eC 103 V6.heap.size wr lv xs ∧ Hid (Lq (rClause c.l) (rLst rClause c.l at6) n i ft6 er6 at2 ft2 er2 xs)) (fun iv _ => n - (intOf iv).toNat)
  case atStart => exact ⟨0, [], .slice none 0 0, at7, ft7, er7, Nat.zero_le _, rfl, ⟨rfl⟩, hS7, hsz7, gs_nil _ _ _ _, hq7⟩
  case round =>
    clear hS7 hsz7 hq7
    obtain ⟨i, xs, lv, at8, ft8, er8, hin, rfl, hxl, hS8, hlo, hG8, hq8⟩ := hrel
    have c3 := hS8.cs.c3
    obtain ⟨la, lc, hlv⟩ : ∃ la lc, lv = .slice la xs.length lc := by obtain ⟨cs, ho, -⟩ := hG8; exact own_shapeG ho
    subst hlv
    by_cases hgo : i < n ∧ er8 = 0
    · obtain ⟨hlt, rfl⟩ := hgo
      have hlt' : (i : Int) < (n : Int) := by omega
      have hxl1 : xs.length ≤ 262144 := by have := hxl.out; omega
      have hown := fun g (e : (Value.slice la xs.length lc).ownBlock = some g) => hG8.choose_spec.1.lt g e
      have hrl : c.r < V6.heap.size := by have := hS8.k1; have := hS8.k4; omega
      have c3 : wr.cell? ⟨c.r, 3, none⟩ = some (.int .i64 0) := c3
      have hK := E3.new hS8 #[.int .i64 0, .bool false, .int .i64 0, .int .i64 0, .int .i64 0, .int .i64 0, .slice none 0 0, .int .i64 0, .int .i64 0, .int .i64 0, .int .i64 0, .slice none 0 0] 103
      obtain ⟨U0, hU0⟩ : ∃ Y, wr.alloc (.cells #[.int .i64 0, .bool false, .int .i64 0, .int .i64 0, .int .i64 0, .int .i64 0, .slice none 0 0, .int .i64 0, .int .i64 0, .int .i64 0, .int .i64 0, .slice none 0 0] 103) = Y := ⟨_, rfl⟩
      have hK0 : E3 c W wr W.heap.size (W.heap.size + 1) wr.heap.size [.string ⟨#[]⟩, .bool false, .bool false, .int .i64 0, .int .i64 0, .int .i64 0, .slice none 0 0] [.string ⟨s1.toArray⟩, .bool b2, .bool b3, .int .i64 z4, .int .i64 z5, .int .i64 z6, .slice la xs.length lc] [.int .i64 0, .bool false, .int .i64 0, .int .i64 0, .int .i64 0, .int .i64 0, .slice none 0 0, .int .i64 0, .int .i64 0, .int .i64 0, .int .i64 0, .slice none 0 0] at8 ft8 0 U0 := by rw [← hU0]; exact hK
      clear hK
      have hc := int_any c U0 hK0.es.cs
      go_wp2_with (go_at_call 18; fail)
      clear hU0 c3
      refine hc.mono ?_
      rintro e u1 ⟨y1, ak1, fk1, ek1, rfl, rgy, hC, hg, hpk1⟩
      have hT := hK0.call hC hg
      have o0 : u1.cell? ⟨wr.heap.size, 0, none⟩ = some (.int .i64 0) := hT.kx.2.1 0 (show 0 < 12 by decide)
      have of0 : u1.frozen? ⟨wr.heap.size, 0, none⟩ = false := hT.kx.2.2 0
      have hT := hT.setk 0 (.int .i64 y1)
      obtain ⟨U1, hU1⟩ : ∃ Y, u1.setCell ⟨wr.heap.size, 0, none⟩ (.int .i64 y1) = Y := ⟨_, rfl⟩
      have hK1 : E3 c W wr W.heap.size (W.heap.size + 1) wr.heap.size [.string ⟨#[]⟩, .bool false, .bool false, .int .i64 0, .int .i64 0, .int .i64 0, .slice none 0 0] [.string ⟨s1.toArray⟩, .bool b2, .bool b3, .int .i64 z4, .int .i64 z5, .int .i64 z6, .slice la xs.length lc] [.int .i64 y1, .bool false, .int .i64 0, .int .i64 0, .int .i64 0, .int .i64 0, .slice none 0 0, .int .i64 0, .int .i64 0, .int .i64 0, .int .i64 0, .slice none 0 0] ak1 fk1 ek1 U1 := by rw [← hU1]; exact hT
      clear hc hC hg hT hK0
      have hc := flag_any c U1 hK1.es.cs
      go_wp2_with (go_at_call 17; fail)
      clear hU1 o0 of0
      refine hc.mono ?_
      rintro e u2 ⟨y2, ak2, fk2, ek2, rfl, hC, hg, hpk2⟩
      have hT := hK1.call hC hg
      have o0 : u2.cell? ⟨wr.heap.size, 1, none⟩ = some (.bool false) := hT.kx.2.1 1 (show 1 < 12 by decide)
      have of0 : u2.frozen? ⟨wr.heap.size, 1, none⟩ = false := hT.kx.2.2 1
      have hT := hT.setk 1 (.bool y2)
      obtain ⟨U2, hU2⟩ : ∃ Y, u2.setCell ⟨wr.heap.size, 1, none⟩ (.bool y2) = Y := ⟨_, rfl⟩
      have hK2 : E3 c W wr W.heap.size (W.heap.size + 1) wr.heap.size [.string ⟨#[]⟩, .bool false, .bool false, .int .i64 0, .int .i64 0, .int .i64 0, .slice none 0 0] [.string ⟨s1.toArray⟩, .bool b2, .bool b3, .int .i64 z4, .int .i64 z5, .int .i64 z6, .slice la xs.length lc] [.int .i64 y1, .bool y2, .int .i64 0, .int .i64 0, .int .i64 0, .int .i64 0, .slice none 0 0, .int .i64 0, .int .i64 0, .int .i64 0, .int .i64 0, .slice none 0 0] ak2 fk2 ek2 U2 := by rw [← hU2]; exact hT
      clear hc hC hg hT hK1
      have hc := expr_one c U2 hK2.es.cs
      have hklg := hK2.kx.1
      have hwlg := hK2.gw.size
      go_wp2_with (go_at_call 19; fail)
      clear hU2 o0 of0
      refine hc.mono ?_
      rintro e u3 ⟨xg, v, ak3, fk3, ek3, rfl, ⟨csg, rfl, ag, cg, rfl, rgg, hFg⟩, hC, hg, hpk3⟩
      have hT := hK2.call hC hg
      obtain ⟨Ug, hUgE⟩ : ∃ Y, Y = U2 := ⟨_, rfl⟩
      rw [← hUgE] at hFg hklg hwlg
      have hUgs : wr.heap.size ≤ Ug.heap.size := hwlg
      clear hUgE
      have og0 : u3.cell? ⟨wr.heap.size, 2, none⟩ = some (.int .i64 0) := hT.kx.2.1 2 (show 2 < 12 by decide)
      have ofg0 : u3.frozen? ⟨wr.heap.size, 2, none⟩ = false := hT.kx.2.2 2
      have hT := hT.setk 2 (.int .i64 xg.op)
      obtain ⟨Ug0, hUg0⟩ : ∃ Y, u3.setCell ⟨wr.heap.size, 2, none⟩ (.int .i64 xg.op) = Y := ⟨_, rfl⟩
      have hT : E3 c W wr W.heap.size (W.heap.size + 1) wr.heap.size [.string ⟨#[]⟩, .bool false, .bool false, .int .i64 0, .int .i64 0, .int .i64 0, .slice none 0 0] [.string ⟨s1.toArray⟩, .bool b2, .bool b3, .int .i64 z4, .int .i64 z5, .int .i64 z6, .slice la xs.length lc] [.int .i64 y1, .bool y2, .int .i64 xg.op, .int .i64 0, .int .i64 0, .int .i64 0, .slice none 0 0, .int .i64 0, .int .i64 0, .int .i64 0, .int .i64 0, .slice none 0 0] ak3 fk3 ek3 Ug0 := by rw [← hUg0]; exact hT
      have hFg' : FoAt Ug0 (fun b => Ug.heap.size ≤ b) xg.args ag := by rw [← hUg0]; exact fo_keep hFg (gr_set _ _ _ _) hklg
      replace hFg := hFg'
      clear hFg'
      have og1 : Ug0.cell? ⟨wr.heap.size, 3, none⟩ = some (.int .i64 0) := hT.kx.2.1 3 (show 3 < 12 by decide)
      have ofg1 : Ug0.frozen? ⟨wr.heap.size, 3, none⟩ = false := hT.kx.2.2 3
      have hT := hT.setk 3 (.int .i64 xg.num)
      obtain ⟨Ug1, hUg1⟩ : ∃ Y, Ug0.setCell ⟨wr.heap.size, 3, none⟩ (.int .i64 xg.num) = Y := ⟨_, rfl⟩
      have hT : E3 c W wr W.heap.size (W.heap.size + 1) wr.heap.size [.string ⟨#[]⟩, .bool false, .bool false, .int .i64 0, .int .i64 0, .int .i64 0, .slice none 0 0] [.string ⟨s1.toArray⟩, .bool b2, .bool b3, .int .i64 z4, .int .i64 z5, .int .i64 z6, .slice la xs.length lc] [.int .i64 y1, .bool y2, .int .i64 xg.op, .int .i64 xg.num, .int .i64 0, .int .i64 0, .slice none 0 0, .int .i64 0, .int .i64 0, .int .i64 0, .int .i64 0, .slice none 0 0] ak3 fk3 ek3 Ug1 := by rw [← hUg1]; exact hT
      have hFg' : FoAt Ug1 (fun b => Ug.heap.size ≤ b) xg.args ag := by rw [← hUg1]; exact fo_keep hFg (gr_set _ _ _ _) hklg
      replace hFg := hFg'
      clear hFg'
      have og2 : Ug1.cell? ⟨wr.heap.size, 4, none⟩ = some (.int .i64 0) := hT.kx.2.1 4 (show 4 < 12 by decide)
      have ofg2 : Ug1.frozen? ⟨wr.heap.size, 4, none⟩ = false := hT.kx.2.2 4
      have hT := hT.setk 4 (.int .i64 xg.den)
      obtain ⟨Ug2, hUg2⟩ : ∃ Y, Ug1.setCell ⟨wr.heap.size, 4, none⟩ (.int .i64 xg.den) = Y := ⟨_, rfl⟩
      have hT : E3 c W wr W.heap.size (W.heap.size + 1) wr.heap.size [.string ⟨#[]⟩, .bool false, .bool false, .int .i64 0, .int .i64 0, .int .i64 0, .slice none 0 0] [.string ⟨s1.toArray⟩, .bool b2, .bool b3, .int .i64 z4, .int .i64 z5, .int .i64 z6, .slice la xs.length lc] [.int .i64 y1, .bool y2, .int .i64 xg.op, .int .i64 xg.num, .int .i64 xg.den, .int .i64 0, .slice none 0 0, .int .i64 0, .int .i64 0, .int .i64 0, .int .i64 0, .slice none 0 0] ak3 fk3 ek3 Ug2 := by rw [← hUg2]; exact hT
      have hFg' : FoAt Ug2 (fun b => Ug.heap.size ≤ b) xg.args ag := by rw [← hUg2]; exact fo_keep hFg (gr_set _ _ _ _) hklg
      replace hFg := hFg'
      clear hFg'
      have og3 : Ug2.cell? ⟨wr.heap.size, 5, none⟩ = some (.int .i64 0) := hT.kx.2.1 5 (show 5 < 12 by decide)
      have ofg3 : Ug2.frozen? ⟨wr.heap.size, 5, none⟩ = false := hT.kx.2.2 5
      have hT := hT.setk 5 (.int .i64 xg.mode)
      obtain ⟨Ug3, hUg3⟩ : ∃ Y, Ug2.setCell ⟨wr.heap.size, 5, none⟩ (.int .i64 xg.mode) = Y := ⟨_, rfl⟩
      have hT : E3 c W wr W.heap.size (W.heap.size + 1) wr.heap.size [.string ⟨#[]⟩, .bool false, .bool false, .int .i64 0, .int .i64 0, .int .i64 0, .slice none 0 0] [.string ⟨s1.toArray⟩, .bool b2, .bool b3, .int .i64 z4, .int .i64 z5, .int .i64 z6, .slice la xs.length lc] [.int .i64 y1, .bool y2, .int .i64 xg.op, .int .i64 xg.num, .int .i64 xg.den, .int .i64 xg.mode, .slice none 0 0, .int .i64 0, .int .i64 0, .int .i64 0, .int .i64 0, .slice none 0 0] ak3 fk3 ek3 Ug3 := by rw [← hUg3]; exact hT
      have hFg' : FoAt Ug3 (fun b => Ug.heap.size ≤ b) xg.args ag := by rw [← hUg3]; exact fo_keep hFg (gr_set _ _ _ _) hklg
      replace hFg := hFg'
      clear hFg'
      have og4 : Ug3.cell? ⟨wr.heap.size, 6, none⟩ = some (.slice none 0 0) := hT.kx.2.1 6 (show 6 < 12 by decide)
      have ofg4 : Ug3.frozen? ⟨wr.heap.size, 6, none⟩ = false := hT.kx.2.2 6
      have hT := hT.setk 6 (.slice ag xg.args.len cg)
      obtain ⟨Ug4, hUg4⟩ : ∃ Y, Ug3.setCell ⟨wr.heap.size, 6, none⟩ (.slice ag xg.args.len cg) = Y := ⟨_, rfl⟩
      have hT : E3 c W wr W.heap.size (W.heap.size + 1) wr.heap.size [.string ⟨#[]⟩, .bool false, .bool false, .int .i64 0, .int .i64 0, .int .i64 0, .slice none 0 0] [.string ⟨s1.toArray⟩, .bool b2, .bool b3, .int .i64 z4, .int .i64 z5, .int .i64 z6, .slice la xs.length lc] [.int .i64 y1, .bool y2, .int .i64 xg.op, .int .i64 xg.num, .int .i64 xg.den, .int .i64 xg.mode, .slice ag xg.args.len cg, .int .i64 0, .int .i64 0, .int .i64 0, .int .i64 0, .slice none 0 0] ak3 fk3 ek3 Ug4 := by rw [← hUg4]; exact hT
      have hFg' : FoAt Ug4 (fun b => Ug.heap.size ≤ b) xg.args ag := by rw [← hUg4]; exact fo_keep hFg (gr_set _ _ _ _) hklg
      replace hFg := hFg'
      clear hFg'
      have hK3 := hT
      clear hc hC hg hT hK2
      have hc := expr_one c Ug4 hK3.es.cs
      have hklb := hK3.kx.1
      have hwlb := hK3.gw.size
      go_wp2_with (go_at_call 19; fail)
      clear hUg0 og0 ofg0 hUg1 og1 ofg1 hUg2 og2 ofg2 hUg3 og3 ofg3 hUg4 og4 ofg4
      refine hc.mono ?_
      rintro e u4 ⟨xb, v, ak4, fk4, ek4, rfl, ⟨csb, rfl, ab, cb, rfl, rgb, hFb⟩, hC, hg, hpk4⟩
      replace hFg : FoAt u4 (fun b => Ug.heap.size ≤ b) xg.args ag := fo_keep hFg hg (by have := hrl; have := hUgs; omega)
      have hT := hK3.call hC hg
      obtain ⟨Ub, hUbE⟩ : ∃ Y, Y = Ug4 := ⟨_, rfl⟩
      rw [← hUbE] at hFb hklb hwlb
      clear hUbE
      have ob0 : u4.cell? ⟨wr.heap.size, 7, none⟩ = some (.int .i64 0) := hT.kx.2.1 7 (show 7 < 12 by decide)
      have ofb0 : u4.frozen? ⟨wr.heap.size, 7, none⟩ = false := hT.kx.2.2 7
      have hT := hT.setk 7 (.int .i64 xb.op)
      obtain ⟨Ub0, hUb0⟩ : ∃ Y, u4.setCell ⟨wr.heap.size, 7, none⟩ (.int .i64 xb.op) = Y := ⟨_, rfl⟩
      have hT : E3 c W wr W.heap.size (W.heap.size + 1) wr.heap.size [.string ⟨#[]⟩, .bool false, .bool false, .int .i64 0, .int .i64 0, .int .i64 0, .slice none 0 0] [.string ⟨s1.toArray⟩, .bool b2, .bool b3, .int .i64 z4, .int .i64 z5, .int .i64 z6, .slice la xs.length lc] [.int .i64 y1, .bool y2, .int .i64 xg.op, .int .i64 xg.num, .int .i64 xg.den, .int .i64 xg.mode, .slice ag xg.args.len cg, .int .i64 xb.op, .int .i64 0, .int .i64 0, .int .i64 0, .slice none 0 0] ak4 fk4 ek4 Ub0 := by rw [← hUb0]; exact hT
      have hFg' : FoAt Ub0 (fun b => Ug.heap.size ≤ b) xg.args ag := by rw [← hUb0]; exact fo_keep hFg (gr_set _ _ _ _) hklg
      replace hFg := hFg'
      clear hFg'
      have hFb' : FoAt Ub0 (fun b => Ub.heap.size ≤ b) xb.args ab := by rw [← hUb0]; exact fo_keep hFb (gr_set _ _ _ _) hklb
      replace hFb := hFb'
      clear hFb'
      have ob1 : Ub0.cell? ⟨wr.heap.size, 8, none⟩ = some (.int .i64 0) := hT.kx.2.1 8 (show 8 < 12 by decide)
      have ofb1 : Ub0.frozen? ⟨wr.heap.size, 8, none⟩ = false := hT.kx.2.2 8
      have hT := hT.setk 8 (.int .i64 xb.num)
      obtain ⟨Ub1, hUb1⟩ : ∃ Y, Ub0.setCell ⟨wr.heap.size, 8, none⟩ (.int .i64 xb.num) = Y := ⟨_, rfl⟩
      have hT : E3 c W wr W.heap.size (W.heap.size + 1) wr.heap.size [.string ⟨#[]⟩, .bool false, .bool false, .int .i64 0, .int .i64 0, .int .i64 0, .slice none 0 0] [.string ⟨s1.toArray⟩, .bool b2, .bool b3, .int .i64 z4, .int .i64 z5, .int .i64 z6, .slice la xs.length lc] [.int .i64 y1, .bool y2, .int .i64 xg.op, .int .i64 xg.num, .int .i64 xg.den, .int .i64 xg.mode, .slice ag xg.args.len cg, .int .i64 xb.op, .int .i64 xb.num, .int .i64 0, .int .i64 0, .slice none 0 0] ak4 fk4 ek4 Ub1 := by rw [← hUb1]; exact hT
      have hFg' : FoAt Ub1 (fun b => Ug.heap.size ≤ b) xg.args ag := by rw [← hUb1]; exact fo_keep hFg (gr_set _ _ _ _) hklg
      replace hFg := hFg'
      clear hFg'
      have hFb' : FoAt Ub1 (fun b => Ub.heap.size ≤ b) xb.args ab := by rw [← hUb1]; exact fo_keep hFb (gr_set _ _ _ _) hklb
      replace hFb := hFb'
      clear hFb'
      have ob2 : Ub1.cell? ⟨wr.heap.size, 9, none⟩ = some (.int .i64 0) := hT.kx.2.1 9 (show 9 < 12 by decide)
      have ofb2 : Ub1.frozen? ⟨wr.heap.size, 9, none⟩ = false := hT.kx.2.2 9
      have hT := hT.setk 9 (.int .i64 xb.den)
      obtain ⟨Ub2, hUb2⟩ : ∃ Y, Ub1.setCell ⟨wr.heap.size, 9, none⟩ (.int .i64 xb.den) = Y := ⟨_, rfl⟩
      have hT : E3 c W wr W.heap.size (W.heap.size + 1) wr.heap.size [.string ⟨#[]⟩, .bool false, .bool false, .int .i64 0, .int .i64 0, .int .i64 0, .slice none 0 0] [.string ⟨s1.toArray⟩, .bool b2, .bool b3, .int .i64 z4, .int .i64 z5, .int .i64 z6, .slice la xs.length lc] [.int .i64 y1, .bool y2, .int .i64 xg.op, .int .i64 xg.num, .int .i64 xg.den, .int .i64 xg.mode, .slice ag xg.args.len cg, .int .i64 xb.op, .int .i64 xb.num, .int .i64 xb.den, .int .i64 0, .slice none 0 0] ak4 fk4 ek4 Ub2 := by rw [← hUb2]; exact hT
      have hFg' : FoAt Ub2 (fun b => Ug.heap.size ≤ b) xg.args ag := by rw [← hUb2]; exact fo_keep hFg (gr_set _ _ _ _) hklg
      replace hFg := hFg'
      clear hFg'
      have hFb' : FoAt Ub2 (fun b => Ub.heap.size ≤ b) xb.args ab := by rw [← hUb2]; exact fo_keep hFb (gr_set _ _ _ _) hklb
      replace hFb := hFb'
      clear hFb'
      have ob3 : Ub2.cell? ⟨wr.heap.size, 10, none⟩ = some (.int .i64 0) := hT.kx.2.1 10 (show 10 < 12 by decide)
      have ofb3 : Ub2.frozen? ⟨wr.heap.size, 10, none⟩ = false := hT.kx.2.2 10
      have hT := hT.setk 10 (.int .i64 xb.mode)
      obtain ⟨Ub3, hUb3⟩ : ∃ Y, Ub2.setCell ⟨wr.heap.size, 10, none⟩ (.int .i64 xb.mode) = Y := ⟨_, rfl⟩
      have hT : E3 c W wr W.heap.size (W.heap.size + 1) wr.heap.size [.string ⟨#[]⟩, .bool false, .bool false, .int .i64 0, .int .i64 0, .int .i64 0, .slice none 0 0] [.string ⟨s1.toArray⟩, .bool b2, .bool b3, .int .i64 z4, .int .i64 z5, .int .i64 z6, .slice la xs.length lc] [.int .i64 y1, .bool y2, .int .i64 xg.op, .int .i64 xg.num, .int .i64 xg.den, .int .i64 xg.mode, .slice ag xg.args.len cg, .int .i64 xb.op, .int .i64 xb.num, .int .i64 xb.den, .int .i64 xb.mode, .slice none 0 0] ak4 fk4 ek4 Ub3 := by rw [← hUb3]; exact hT
      have hFg' : FoAt Ub3 (fun b => Ug.heap.size ≤ b) xg.args ag := by rw [← hUb3]; exact fo_keep hFg (gr_set _ _ _ _) hklg
      replace hFg := hFg'
      clear hFg'
      have hFb' : FoAt Ub3 (fun b => Ub.heap.size ≤ b) xb.args ab := by rw [← hUb3]; exact fo_keep hFb (gr_set _ _ _ _) hklb
      replace hFb := hFb'
      clear hFb'
      have ob4 : Ub3.cell? ⟨wr.heap.size, 11, none⟩ = some (.slice none 0 0) := hT.kx.2.1 11 (show 11 < 12 by decide)
      have ofb4 : Ub3.frozen? ⟨wr.heap.size, 11, none⟩ = false := hT.kx.2.2 11
      have hT := hT.setk 11 (.slice ab xb.args.len cb)
      obtain ⟨Ub4, hUb4⟩ : ∃ Y, Ub3.setCell ⟨wr.heap.size, 11, none⟩ (.slice ab xb.args.len cb) = Y := ⟨_, rfl⟩
      have hT : E3 c W wr W.heap.size (W.heap.size + 1) wr.heap.size [.string ⟨#[]⟩, .bool false, .bool false, .int .i64 0, .int .i64 0, .int .i64 0, .slice none 0 0] [.string ⟨s1.toArray⟩, .bool b2, .bool b3, .int .i64 z4, .int .i64 z5, .int .i64 z6, .slice la xs.length lc] [.int .i64 y1, .bool y2, .int .i64 xg.op, .int .i64 xg.num, .int .i64 xg.den, .int .i64 xg.mode, .slice ag xg.args.len cg, .int .i64 xb.op, .int .i64 xb.num, .int .i64 xb.den, .int .i64 xb.mode, .slice ab xb.args.len cb] ak4 fk4 ek4 Ub4 := by rw [← hUb4]; exact hT
      have hFg' : FoAt Ub4 (fun b => Ug.heap.size ≤ b) xg.args ag := by rw [← hUb4]; exact fo_keep hFg (gr_set _ _ _ _) hklg
      replace hFg := hFg'
      clear hFg'
      have hFb' : FoAt Ub4 (fun b => Ub.heap.size ≤ b) xb.args ab := by rw [← hUb4]; exact fo_keep hFb (gr_set _ _ _ _) hklb
      replace hFb := hFb'
      clear hFb'
      have hK4 := hT
      clear hc hC hg hT hK3
      have hKA := hK4.alloc (.cells #[.int .i64 y1, .bool y2, .int .i64 xg.op, .int .i64 xg.num, .int .i64 xg.den, .int .i64 xg.mode, .slice ag xg.args.len cg, .int .i64 xb.op, .int .i64 xb.num, .int .i64 xb.den, .int .i64 xb.mode, .slice ab xb.args.len cb] 103)
      have hGA := gs_alloc (gs_kept hG8 hrl hK4.gw) (.cells #[.int .i64 y1, .bool y2, .int .i64 xg.op, .int .i64 xg.num, .int .i64 xg.den, .int .i64 xg.mode, .slice ag xg.args.len cg, .int .i64 xb.op, .int .i64 xb.num, .int .i64 xb.den, .int .i64 xb.mode, .slice ab xb.args.len cb] 103)
      obtain ⟨cs, ho, hEl⟩ := hGA
      have k0 : Ub4.cell? ⟨wr.heap.size, 0, none⟩ = some (.int .i64 y1) := hK4.kx.2.1 0 (show 0 < 12 by decide)
      have k1 : Ub4.cell? ⟨wr.heap.size, 1, none⟩ = some (.bool y2) := hK4.kx.2.1 1 (show 1 < 12 by decide)
      have k2 : Ub4.cell? ⟨wr.heap.size, 2, none⟩ = some (.int .i64 xg.op) := hK4.kx.2.1 2 (show 2 < 12 by decide)
      have k3 : Ub4.cell? ⟨wr.heap.size, 3, none⟩ = some (.int .i64 xg.num) := hK4.kx.2.1 3 (show 3 < 12 by decide)
      have k4 : Ub4.cell? ⟨wr.heap.size, 4, none⟩ = some (.int .i64 xg.den) := hK4.kx.2.1 4 (show 4 < 12 by decide)
      have k5 : Ub4.cell? ⟨wr.heap.size, 5, none⟩ = some (.int .i64 xg.mode) := hK4.kx.2.1 5 (show 5 < 12 by decide)
      have k6 : Ub4.cell? ⟨wr.heap.size, 6, none⟩ = some (.slice ag xg.args.len cg) := hK4.kx.2.1 6 (show 6 < 12 by decide)
      have k7 : Ub4.cell? ⟨wr.heap.size, 7, none⟩ = some (.int .i64 xb.op) := hK4.kx.2.1 7 (show 7 < 12 by decide)
      have k8 : Ub4.cell? ⟨wr.heap.size, 8, none⟩ = some (.int .i64 xb.num) := hK4.kx.2.1 8 (show 8 < 12 by decide)
      have k9 : Ub4.cell? ⟨wr.heap.size, 9, none⟩ = some (.int .i64 xb.den) := hK4.kx.2.1 9 (show 9 < 12 by decide)
      have k10 : Ub4.cell? ⟨wr.heap.size, 10, none⟩ = some (.int .i64 xb.mode) := hK4.kx.2.1 10 (show 10 < 12 by decide)
      have k11 : Ub4.cell? ⟨wr.heap.size, 11, none⟩ = some (.slice ab xb.args.len cb) := hK4.kx.2.1 11 (show 11 < 12 by decide)
      have l6 : Ub4.cell? ⟨W.heap.size + 1, 6, none⟩ = some (.slice la xs.length lc) := hK4.es.ex.2.1 6 (show 6 < 7 by decide)
      have hsz : V6.heap.size ≤ (Ub4.alloc (.cells #[.int .i64 y1, .bool y2, .int .i64 xg.op, .int .i64 xg.num, .int .i64 xg.den, .int .i64 xg.mode, .slice ag xg.args.len cg, .int .i64 xb.op, .int .i64 xb.num, .int .i64 xb.den, .int .i64 xb.mode, .slice ab xb.args.len cb] 103)).heap.size := Nat.le_trans hlo hKA.gw.size
      have lA : (Ub4.alloc (.cells #[.int .i64 y1, .bool y2, .int .i64 xg.op, .int .i64 xg.num, .int .i64 xg.den, .int .i64 xg.mode, .slice ag xg.args.len cg, .int .i64 xb.op, .int .i64 xb.num, .int .i64 xb.den, .int .i64 xb.mode, .slice ab xb.args.len cb] 103)).cell? ⟨W.heap.size + 1, 6, none⟩ = some (.slice la xs.length lc) := hKA.es.ex.2.1 6 (show 6 < 7 by decide)
      obtain ⟨i0, hi, hz0, hz1, hz2⟩ := info_parts infoClG
      go_wp2_with (at_builtin; refine wpList_append_own_at (P := Try.prog) _ rfl _ _ 71 rfl V6.heap.size 103 i0 _ 12 128 Try.underlying71 hi hz0 hz1 hz2 rfl (by decide) _ xs.length cs rfl ho ⟨Ub4.heap.size, 0, none⟩ 1 1 [.int .i64 y1, .bool y2, .int .i64 xg.op, .int .i64 xg.num, .int .i64 xg.den, .int .i64 xg.mode, .slice ag xg.args.len cg, .int .i64 xb.op, .int .i64 xb.num, .int .i64 xb.den, .int .i64 xb.mode, .slice ab xb.args.len cb] rfl rfl (lit_at Ub4 _ _) (by simp [Value.oneCell']) (by unfold maxLen; omega) (by omega) hsz ?_; intro v' w10 hown' hgrow _h hat; clear _h; obtain ⟨ga, ca, rfl⟩ := own_shapeG hown'; have hne10 : some (W.heap.size + 1) ≠ (Value.slice la xs.length lc).ownBlock := (fun e => by have := (hown _ e.symm).1; omega); have s10 : w10.cell? ⟨W.heap.size + 1, 6, none⟩ = some (.slice la xs.length lc) := (gr_cell hgrow hKA.es.ex.1 hne10 6).trans lA; have sf10 : w10.frozen? ⟨W.heap.size + 1, 6, none⟩ = false := (gr_frozen hgrow hKA.es.ex.1 hne10 6).trans (hKA.es.ex.2.2 6); refine dbgM ?_)
      unfold Marker
      have hS10 : ES c W W.heap.size (W.heap.size + 1) [.string ⟨#[]⟩, .bool false, .bool false, .int .i64 0, .int .i64 0, .int .i64 0, .slice none 0 0] [.string ⟨s1.toArray⟩, .bool b2, .bool b3, .int .i64 z4, .int .i64 z5, .int .i64 z6, .slice la xs.length lc] ak4 fk4 ek4 w10 := hKA.es.other hgrow (fun g e => by have h1 := (hown g e).1; have h2 := hS8.k4; omega)
      have hS11 : ES c W W.heap.size (W.heap.size + 1) [.string ⟨#[]⟩, .bool false, .bool false, .int .i64 0, .int .i64 0, .int .i64 0, .slice none 0 0] [.string ⟨s1.toArray⟩, .bool b2, .bool b3, .int .i64 z4, .int .i64 z5, .int .i64 z6, .slice ga (xs.length + 1) ca] ak4 fk4 ek4 (w10.setCell ⟨W.heap.size + 1, 6, none⟩ (.slice ga (xs.length + 1) ca)) := hS10.sete 6 (.slice ga (xs.length + 1) ca)
      have hal := World.grownBy_alloc Ub4 (.cells #[.int .i64 y1, .bool y2, .int .i64 xg.op, .int .i64 xg.num, .int .i64 xg.den, .int .i64 xg.mode, .slice ag xg.args.len cg, .int .i64 xb.op, .int .i64 xb.num, .int .i64 xb.den, .int .i64 xb.mode, .slice ab xb.args.len cb] 103) none
      have hEx : eC.E (Ub4.alloc (.cells #[.int .i64 y1, .bool y2, .int .i64 xg.op, .int .i64 xg.num, .int .i64 xg.den, .int .i64 xg.mode, .slice ag xg.args.len cg, .int .i64 xb.op, .int .i64 xb.num, .int .i64 xb.den, .int .i64 xb.mode, .slice ab xb.args.len cb] 103)) (fun b => wr.heap.size ≤ b) ⟨y1, y2, xg, xb⟩ [.int .i64 y1, .bool y2, .int .i64 xg.op, .int .i64 xg.num, .int .i64 xg.den, .int .i64 xg.mode, .slice ag xg.args.len cg, .int .i64 xb.op, .int .i64 xb.num, .int .i64 xb.den, .int .i64 xb.mode, .slice ab xb.args.len cb] := eC.fr (show eC.E Ub4 (fun b => wr.heap.size ≤ b) ⟨y1, y2, xg, xb⟩ [.int .i64 y1, .bool y2, .int .i64 xg.op, .int .i64 xg.num, .int .i64 xg.den, .int .i64 xg.mode, .slice ag xg.args.len cg, .int .i64 xb.op, .int .i64 xb.num, .int .i64 xb.den, .int .i64 xb.mode, .slice ab xb.args.len cb] from ⟨ag, cg, ab, cb, rfl, rgy, ⟨rgg, rgb⟩, FoAt.mo (fun b _ hb => Nat.le_trans hwlg hb) _ _ hFg, FoAt.mo (fun b _ hb => Nat.le_trans hwlb hb) _ _ hFb⟩) hal.size (fun b _ hlt => hal.block b hlt (by simp))
      have hG10 := gs_step (b0 := wr.heap.size) hEl hEx hlo (fun g e => (hown g e).2) hgrow hat hown'
      have hG11 := gs_kept hG10 heb6 (gr_set w10 (W.heap.size + 1) 6 (.slice ga (xs.length + 1) ca))
      have hsz11 : V6.heap.size ≤ (w10.setCell ⟨W.heap.size + 1, 6, none⟩ (.slice ga (xs.length + 1) ca)).heap.size := Nat.le_trans hsz (Nat.le_trans hgrow.size (gr_set w10 (W.heap.size + 1) 6 (.slice ga (xs.length + 1) ca)).size)
      have hq9 := Hid.mk (hq8.out.step hlt (hpk1.bd (hpk2.bd (hpk3.bd (hpk4.bd Xp.pure)))))
      clear hS10 hKA hEl ho hgrow hat hown' hEx hG10 hS8 hG8 lA hK4 hFg hFb k0 k1 k2 k3 k4 k5 k6 k7 k8 k9 k10 k11 l6 hpk1 hpk2 hpk3 hpk4 ob0 ofb0 hUb0 ob1 ofb1 hUb1 ob2 ofb2 hUb2 ob3 ofb3 hUb3 ob4 ofb4 hUb4
      go_wp2
      go_roundw
      case rel => exact ⟨i + 1, xs ++ [⟨y1, y2, xg, xb⟩], _, _, _, _, by omega, by go_num, ⟨by rw [List.length_append, hxl.out]; rfl⟩, hS11, hsz11, hG11, hq9⟩
      case measure => simp [intOf]; omega
    · have hxlo := hxl.out
      have hAx : Xp (rLst rClause c.l at6) ft6 er6 at8 ft8 er8 xs := hq8.out.done (by by_cases h : er8 = 0; exact .inl (by omega); exact .inr h) hxlo hin
      have hrow : RowR eC wr (fun b => V6.heap.size ≤ b) xs la := by
        obtain ⟨a, cap, e, h⟩ := gs_done hG8
        simp only [Value.slice.injEq] at e
        rw [e.1]
        exact h
      have hrbl : W.heap.size < V6.heap.size := by omega
      replace hAx := Hid.mk hAx
      clear hG8 hxlo hq8
      by_cases hlt : i < n
      · have hlt' : (i : Int) < (n : Int) := by omega
        have he8 : er8 ≠ 0 := fun e => hgo ⟨hlt, e⟩
        have he' : ((er8 : Int) == 0) = false := by simp; omega
        clear he8 hgo
        have e0 : wr.cell? ⟨W.heap.size + 1, 0, none⟩ = some (.string ⟨s1.toArray⟩) := hS8.ex.2.1 0 (show 0 < 7 by decide)
        have e1 : wr.cell? ⟨W.heap.size + 1, 1, none⟩ = some (.bool b2) := hS8.ex.2.1 1 (show 1 < 7 by decide)
        have e2 : wr.cell? ⟨W.heap.size + 1, 2, none⟩ = some (.bool b3) := hS8.ex.2.1 2 (show 2 < 7 by decide)
        have e3 : wr.cell? ⟨W.heap.size + 1, 3, none⟩ = some (.int .i64 z4) := hS8.ex.2.1 3 (show 3 < 7 by decide)
        have e4 : wr.cell? ⟨W.heap.size + 1, 4, none⟩ = some (.int .i64 z5) := hS8.ex.2.1 4 (show 4 < 7 by decide)
        have e5 : wr.cell? ⟨W.heap.size + 1, 5, none⟩ = some (.int .i64 z6) := hS8.ex.2.1 5 (show 5 < 7 by decide)
        have e6 : wr.cell? ⟨W.heap.size + 1, 6, none⟩ = some (.slice la xs.length lc) := hS8.ex.2.1 6 (show 6 < 7 by decide)
        have r0 : wr.cell? ⟨W.heap.size, 0, none⟩ = some (.string ⟨#[]⟩) := hS8.rx.2.1 0 (show 0 < 7 by decide)
        have rf0 : wr.frozen? ⟨W.heap.size, 0, none⟩ = false := hS8.rx.2.2 0
        have hr0 := hS8.setr 0 (.string ⟨s1.toArray⟩)
        obtain ⟨Y0, hY0⟩ : ∃ Y, wr.setCell ⟨W.heap.size, 0, none⟩ (.string ⟨s1.toArray⟩) = Y := ⟨_, rfl⟩
        have hr0 : ES c W W.heap.size (W.heap.size + 1) [.string ⟨s1.toArray⟩, .bool false, .bool false, .int .i64 0, .int .i64 0, .int .i64 0, .slice none 0 0] [.string ⟨s1.toArray⟩, .bool b2, .bool b3, .int .i64 z4, .int .i64 z5, .int .i64 z6, .slice la xs.length lc] at8 ft8 er8 Y0 := by rw [← hY0]; exact hr0
        have r1 : Y0.cell? ⟨W.heap.size, 1, none⟩ = some (.bool false) := hr0.rx.2.1 1 (show 1 < 7 by decide)
        have rf1 : Y0.frozen? ⟨W.heap.size, 1, none⟩ = false := hr0.rx.2.2 1
        have hr1 := hr0.setr 1 (.bool b2)
        obtain ⟨Y1, hY1⟩ : ∃ Y, Y0.setCell ⟨W.heap.size, 1, none⟩ (.bool b2) = Y := ⟨_, rfl⟩
        have hr1 : ES c W W.heap.size (W.heap.size + 1) [.string ⟨s1.toArray⟩, .bool b2, .bool false, .int .i64 0, .int .i64 0, .int .i64 0, .slice none 0 0] [.string ⟨s1.toArray⟩, .bool b2, .bool b3, .int .i64 z4, .int .i64 z5, .int .i64 z6, .slice la xs.length lc] at8 ft8 er8 Y1 := by rw [← hY1]; exact hr1
        have r2 : Y1.cell? ⟨W.heap.size, 2, none⟩ = some (.bool false) := hr1.rx.2.1 2 (show 2 < 7 by decide)
        have rf2 : Y1.frozen? ⟨W.heap.size, 2, none⟩ = false := hr1.rx.2.2 2
        have hr2 := hr1.setr 2 (.bool b3)
        obtain ⟨Y2, hY2⟩ : ∃ Y, Y1.setCell ⟨W.heap.size, 2, none⟩ (.bool b3) = Y := ⟨_, rfl⟩
        have hr2 : ES c W W.heap.size (W.heap.size + 1) [.string ⟨s1.toArray⟩, .bool b2, .bool b3, .int .i64 0, .int .i64 0, .int .i64 0, .slice none 0 0] [.string ⟨s1.toArray⟩, .bool b2, .bool b3, .int .i64 z4, .int .i64 z5, .int .i64 z6, .slice la xs.length lc] at8 ft8 er8 Y2 := by rw [← hY2]; exact hr2
        have r3 : Y2.cell? ⟨W.heap.size, 3, none⟩ = some (.int .i64 0) := hr2.rx.2.1 3 (show 3 < 7 by decide)
        have rf3 : Y2.frozen? ⟨W.heap.size, 3, none⟩ = false := hr2.rx.2.2 3
        have hr3 := hr2.setr 3 (.int .i64 z4)
        obtain ⟨Y3, hY3⟩ : ∃ Y, Y2.setCell ⟨W.heap.size, 3, none⟩ (.int .i64 z4) = Y := ⟨_, rfl⟩
        have hr3 : ES c W W.heap.size (W.heap.size + 1) [.string ⟨s1.toArray⟩, .bool b2, .bool b3, .int .i64 z4, .int .i64 0, .int .i64 0, .slice none 0 0] [.string ⟨s1.toArray⟩, .bool b2, .bool b3, .int .i64 z4, .int .i64 z5, .int .i64 z6, .slice la xs.length lc] at8 ft8 er8 Y3 := by rw [← hY3]; exact hr3
        have r4 : Y3.cell? ⟨W.heap.size, 4, none⟩ = some (.int .i64 0) := hr3.rx.2.1 4 (show 4 < 7 by decide)
        have rf4 : Y3.frozen? ⟨W.heap.size, 4, none⟩ = false := hr3.rx.2.2 4
        have hr4 := hr3.setr 4 (.int .i64 z5)
        obtain ⟨Y4, hY4⟩ : ∃ Y, Y3.setCell ⟨W.heap.size, 4, none⟩ (.int .i64 z5) = Y := ⟨_, rfl⟩
        have hr4 : ES c W W.heap.size (W.heap.size + 1) [.string ⟨s1.toArray⟩, .bool b2, .bool b3, .int .i64 z4, .int .i64 z5, .int .i64 0, .slice none 0 0] [.string ⟨s1.toArray⟩, .bool b2, .bool b3, .int .i64 z4, .int .i64 z5, .int .i64 z6, .slice la xs.length lc] at8 ft8 er8 Y4 := by rw [← hY4]; exact hr4
        have r5 : Y4.cell? ⟨W.heap.size, 5, none⟩ = some (.int .i64 0) := hr4.rx.2.1 5 (show 5 < 7 by decide)
        have rf5 : Y4.frozen? ⟨W.heap.size, 5, none⟩ = false := hr4.rx.2.2 5
        have hr5 := hr4.setr 5 (.int .i64 z6)
        obtain ⟨Y5, hY5⟩ : ∃ Y, Y4.setCell ⟨W.heap.size, 5, none⟩ (.int .i64 z6) = Y := ⟨_, rfl⟩
        have hr5 : ES c W W.heap.size (W.heap.size + 1) [.string ⟨s1.toArray⟩, .bool b2, .bool b3, .int .i64 z4, .int .i64 z5, .int .i64 z6, .slice none 0 0] [.string ⟨s1.toArray⟩, .bool b2, .bool b3, .int .i64 z4, .int .i64 z5, .int .i64 z6, .slice la xs.length lc] at8 ft8 er8 Y5 := by rw [← hY5]; exact hr5
        have r6 : Y5.cell? ⟨W.heap.size, 6, none⟩ = some (.slice none 0 0) := hr5.rx.2.1 6 (show 6 < 7 by decide)
        have rf6 : Y5.frozen? ⟨W.heap.size, 6, none⟩ = false := hr5.rx.2.2 6
        have hr6 := hr5.setr 6 (.slice la xs.length lc)
        obtain ⟨Y6, hY6⟩ : ∃ Y, Y5.setCell ⟨W.heap.size, 6, none⟩ (.slice la xs.length lc) = Y := ⟨_, rfl⟩
        have hr6 : ES c W W.heap.size (W.heap.size + 1) [.string ⟨s1.toArray⟩, .bool b2, .bool b3, .int .i64 z4, .int .i64 z5, .int .i64 z6, .slice la xs.length lc] [.string ⟨s1.toArray⟩, .bool b2, .bool b3, .int .i64 z4, .int .i64 z5, .int .i64 z6, .slice la xs.length lc] at8 ft8 er8 Y6 := by rw [← hY6]; exact hr6
        have q0 : Y6.cell? ⟨W.heap.size, 0, none⟩ = some (.string ⟨s1.toArray⟩) := hr6.rx.2.1 0 (show 0 < 7 by decide)
        have q1 : Y6.cell? ⟨W.heap.size, 1, none⟩ = some (.bool b2) := hr6.rx.2.1 1 (show 1 < 7 by decide)
        have q2 : Y6.cell? ⟨W.heap.size, 2, none⟩ = some (.bool b3) := hr6.rx.2.1 2 (show 2 < 7 by decide)
        have q3 : Y6.cell? ⟨W.heap.size, 3, none⟩ = some (.int .i64 z4) := hr6.rx.2.1 3 (show 3 < 7 by decide)
        have q4 : Y6.cell? ⟨W.heap.size, 4, none⟩ = some (.int .i64 z5) := hr6.rx.2.1 4 (show 4 < 7 by decide)
        have q5 : Y6.cell? ⟨W.heap.size, 5, none⟩ = some (.int .i64 z6) := hr6.rx.2.1 5 (show 5 < 7 by decide)
        have q6 : Y6.cell? ⟨W.heap.size, 6, none⟩ = some (.slice la xs.length lc) := hr6.rx.2.1 6 (show 6 < 7 by decide)
        have hgY : wr.grownBy Y6 (some (W.heap.size)) := by rw [← hY6, ← hY5, ← hY4, ← hY3, ← hY2, ← hY1, ← hY0]; exact (((((((gr_set _ _ _ _).trans (gr_set _ _ _ _)).trans (gr_set _ _ _ _)).trans (gr_set _ _ _ _)).trans (gr_set _ _ _ _)).trans (gr_set _ _ _ _)).trans (gr_set _ _ _ _))
        have hfin : Xd rLine (VE eL) c at_ ft er W (.returned (.agg #[.string ⟨s1.toArray⟩, .bool b2, .bool b3, .int .i64 z4, .int .i64 z5, .int .i64 z6, .slice la xs.length lc])) Y6 := ⟨⟨s1, b2, b3, z4, z5, z6, xs⟩, _, _, _, _, rfl, ⟨[.string ⟨s1.toArray⟩, .bool b2, .bool b3, .int .i64 z4, .int .i64 z5, .int .i64 z6, .slice la xs.length lc], rfl, la, lc, rfl, ⟨rg4, rg5, rg6⟩, (hrow.fr hgY.size (fun b hb hlt => hgY.block b hlt (fun e => by have := Option.some.inj e; omega))).mo (fun b _ hb => Nat.le_trans (Nat.le_of_lt hrbl) hb)⟩, hr6.cs, hr6.gr, hp1.bd (hp2.bd (hp3.bd (hp4.bd (hp5.bd (hp6.bd (hAx.out.bd Xp.pure))))))⟩
        clear hr0 hr1 hr2 hr3 hr4 hr5 hr6 hgY hrow hp1 hp2 hp3 hp4 hp5 hp6
        go_wp2
        exact bodyPost_ret (v := .agg #[.string ⟨s1.toArray⟩, .bool b2, .bool b3, .int .i64 z4, .int .i64 z5, .int .i64 z6, .slice la xs.length lc]) (by simp [results, Try.results15, go_sem, q0, q1, q2, q3, q4, q5, q6]) rfl hfin
      · have hlt' : ¬ (i : Int) < (n : Int) := by omega
        clear hgo
        have e0 : wr.cell? ⟨W.heap.size + 1, 0, none⟩ = some (.string ⟨s1.toArray⟩) := hS8.ex.2.1 0 (show 0 < 7 by decide)
        have e1 : wr.cell? ⟨W.heap.size + 1, 1, none⟩ = some (.bool b2) := hS8.ex.2.1 1 (show 1 < 7 by decide)
        have e2 : wr.cell? ⟨W.heap.size + 1, 2, none⟩ = some (.bool b3) := hS8.ex.2.1 2 (show 2 < 7 by decide)
        have e3 : wr.cell? ⟨W.heap.size + 1, 3, none⟩ = some (.int .i64 z4) := hS8.ex.2.1 3 (show 3 < 7 by decide)
        have e4 : wr.cell? ⟨W.heap.size + 1, 4, none⟩ = some (.int .i64 z5) := hS8.ex.2.1 4 (show 4 < 7 by decide)
        have e5 : wr.cell? ⟨W.heap.size + 1, 5, none⟩ = some (.int .i64 z6) := hS8.ex.2.1 5 (show 5 < 7 by decide)
        have e6 : wr.cell? ⟨W.heap.size + 1, 6, none⟩ = some (.slice la xs.length lc) := hS8.ex.2.1 6 (show 6 < 7 by decide)
        have r0 : wr.cell? ⟨W.heap.size, 0, none⟩ = some (.string ⟨#[]⟩) := hS8.rx.2.1 0 (show 0 < 7 by decide)
        have rf0 : wr.frozen? ⟨W.heap.size, 0, none⟩ = false := hS8.rx.2.2 0
        have hr0 := hS8.setr 0 (.string ⟨s1.toArray⟩)
        obtain ⟨Y0, hY0⟩ : ∃ Y, wr.setCell ⟨W.heap.size, 0, none⟩ (.string ⟨s1.toArray⟩) = Y := ⟨_, rfl⟩
        have hr0 : ES c W W.heap.size (W.heap.size + 1) [.string ⟨s1.toArray⟩, .bool false, .bool false, .int .i64 0, .int .i64 0, .int .i64 0, .slice none 0 0] [.string ⟨s1.toArray⟩, .bool b2, .bool b3, .int .i64 z4, .int .i64 z5, .int .i64 z6, .slice la xs.length lc] at8 ft8 er8 Y0 := by rw [← hY0]; exact hr0
        have r1 : Y0.cell? ⟨W.heap.size, 1, none⟩ = some (.bool false) := hr0.rx.2.1 1 (show 1 < 7 by decide)
        have rf1 : Y0.frozen? ⟨W.heap.size, 1, none⟩ = false := hr0.rx.2.2 1
        have hr1 := hr0.setr 1 (.bool b2)
        obtain ⟨Y1, hY1⟩ : ∃ Y, Y0.setCell ⟨W.heap.size, 1, none⟩ (.bool b2) = Y := ⟨_, rfl⟩
        have hr1 : ES c W W.heap.size (W.heap.size + 1) [.string ⟨s1.toArray⟩, .bool b2, .bool false, .int .i64 0, .int .i64 0, .int .i64 0, .slice none 0 0] [.string ⟨s1.toArray⟩, .bool b2, .bool b3, .int .i64 z4, .int .i64 z5, .int .i64 z6, .slice la xs.length lc] at8 ft8 er8 Y1 := by rw [← hY1]; exact hr1
        have r2 : Y1.cell? ⟨W.heap.size, 2, none⟩ = some (.bool false) := hr1.rx.2.1 2 (show 2 < 7 by decide)
        have rf2 : Y1.frozen? ⟨W.heap.size, 2, none⟩ = false := hr1.rx.2.2 2
        have hr2 := hr1.setr 2 (.bool b3)
        obtain ⟨Y2, hY2⟩ : ∃ Y, Y1.setCell ⟨W.heap.size, 2, none⟩ (.bool b3) = Y := ⟨_, rfl⟩
        have hr2 : ES c W W.heap.size (W.heap.size + 1) [.string ⟨s1.toArray⟩, .bool b2, .bool b3, .int .i64 0, .int .i64 0, .int .i64 0, .slice none 0 0] [.string ⟨s1.toArray⟩, .bool b2, .bool b3, .int .i64 z4, .int .i64 z5, .int .i64 z6, .slice la xs.length lc] at8 ft8 er8 Y2 := by rw [← hY2]; exact hr2
        have r3 : Y2.cell? ⟨W.heap.size, 3, none⟩ = some (.int .i64 0) := hr2.rx.2.1 3 (show 3 < 7 by decide)
        have rf3 : Y2.frozen? ⟨W.heap.size, 3, none⟩ = false := hr2.rx.2.2 3
        have hr3 := hr2.setr 3 (.int .i64 z4)
        obtain ⟨Y3, hY3⟩ : ∃ Y, Y2.setCell ⟨W.heap.size, 3, none⟩ (.int .i64 z4) = Y := ⟨_, rfl⟩
        have hr3 : ES c W W.heap.size (W.heap.size + 1) [.string ⟨s1.toArray⟩, .bool b2, .bool b3, .int .i64 z4, .int .i64 0, .int .i64 0, .slice none 0 0] [.string ⟨s1.toArray⟩, .bool b2, .bool b3, .int .i64 z4, .int .i64 z5, .int .i64 z6, .slice la xs.length lc] at8 ft8 er8 Y3 := by rw [← hY3]; exact hr3
        have r4 : Y3.cell? ⟨W.heap.size, 4, none⟩ = some (.int .i64 0) := hr3.rx.2.1 4 (show 4 < 7 by decide)
        have rf4 : Y3.frozen? ⟨W.heap.size, 4, none⟩ = false := hr3.rx.2.2 4
        have hr4 := hr3.setr 4 (.int .i64 z5)
        obtain ⟨Y4, hY4⟩ : ∃ Y, Y3.setCell ⟨W.heap.size, 4, none⟩ (.int .i64 z5) = Y := ⟨_, rfl⟩
        have hr4 : ES c W W.heap.size (W.heap.size + 1) [.string ⟨s1.toArray⟩, .bool b2, .bool b3, .int .i64 z4, .int .i64 z5, .int .i64 0, .slice none 0 0] [.string ⟨s1.toArray⟩, .bool b2, .bool b3, .int .i64 z4, .int .i64 z5, .int .i64 z6, .slice la xs.length lc] at8 ft8 er8 Y4 := by rw [← hY4]; exact hr4
        have r5 : Y4.cell? ⟨W.heap.size, 5, none⟩ = some (.int .i64 0) := hr4.rx.2.1 5 (show 5 < 7 by decide)
        have rf5 : Y4.frozen? ⟨W.heap.size, 5, none⟩ = false := hr4.rx.2.2 5
        have hr5 := hr4.setr 5 (.int .i64 z6)
        obtain ⟨Y5, hY5⟩ : ∃ Y, Y4.setCell ⟨W.heap.size, 5, none⟩ (.int .i64 z6) = Y := ⟨_, rfl⟩
        have hr5 : ES c W W.heap.size (W.heap.size + 1) [.string ⟨s1.toArray⟩, .bool b2, .bool b3, .int .i64 z4, .int .i64 z5, .int .i64 z6, .slice none 0 0] [.string ⟨s1.toArray⟩, .bool b2, .bool b3, .int .i64 z4, .int .i64 z5, .int .i64 z6, .slice la xs.length lc] at8 ft8 er8 Y5 := by rw [← hY5]; exact hr5
        have r6 : Y5.cell? ⟨W.heap.size, 6, none⟩ = some (.slice none 0 0) := hr5.rx.2.1 6 (show 6 < 7 by decide)
        have rf6 : Y5.frozen? ⟨W.heap.size, 6, none⟩ = false := hr5.rx.2.2 6
        have hr6 := hr5.setr 6 (.slice la xs.length lc)
        obtain ⟨Y6, hY6⟩ : ∃ Y, Y5.setCell ⟨W.heap.size, 6, none⟩ (.slice la xs.length lc) = Y := ⟨_, rfl⟩
        have hr6 : ES c W W.heap.size (W.heap.size + 1) [.string ⟨s1.toArray⟩, .bool b2, .bool b3, .int .i64 z4, .int .i64 z5, .int .i64 z6, .slice la xs.length lc] [.string ⟨s1.toArray⟩, .bool b2, .bool b3, .int .i64 z4, .int .i64 z5, .int .i64 z6, .slice la xs.length lc] at8 ft8 er8 Y6 := by rw [← hY6]; exact hr6
        have q0 : Y6.cell? ⟨W.heap.size, 0, none⟩ = some (.string ⟨s1.toArray⟩) := hr6.rx.2.1 0 (show 0 < 7 by decide)
        have q1 : Y6.cell? ⟨W.heap.size, 1, none⟩ = some (.bool b2) := hr6.rx.2.1 1 (show 1 < 7 by decide)
        have q2 : Y6.cell? ⟨W.heap.size, 2, none⟩ = some (.bool b3) := hr6.rx.2.1 2 (show 2 < 7 by decide)
        have q3 : Y6.cell? ⟨W.heap.size, 3, none⟩ = some (.int .i64 z4) := hr6.rx.2.1 3 (show 3 < 7 by decide)
        have q4 : Y6.cell? ⟨W.heap.size, 4, none⟩ = some (.int .i64 z5) := hr6.rx.2.1 4 (show 4 < 7 by decide)
        have q5 : Y6.cell? ⟨W.heap.size, 5, none⟩ = some (.int .i64 z6) := hr6.rx.2.1 5 (show 5 < 7 by decide)
        have q6 : Y6.cell? ⟨W.heap.size, 6, none⟩ = some (.slice la xs.length lc) := hr6.rx.2.1 6 (show 6 < 7 by decide)
        have hgY : wr.grownBy Y6 (some (W.heap.size)) := by rw [← hY6, ← hY5, ← hY4, ← hY3, ← hY2, ← hY1, ← hY0]; exact (((((((gr_set _ _ _ _).trans (gr_set _ _ _ _)).trans (gr_set _ _ _ _)).trans (gr_set _ _ _ _)).trans (gr_set _ _ _ _)).trans (gr_set _ _ _ _)).trans (gr_set _ _ _ _))
        have hfin : Xd rLine (VE eL) c at_ ft er W (.returned (.agg #[.string ⟨s1.toArray⟩, .bool b2, .bool b3, .int .i64 z4, .int .i64 z5, .int .i64 z6, .slice la xs.length lc])) Y6 := ⟨⟨s1, b2, b3, z4, z5, z6, xs⟩, _, _, _, _, rfl, ⟨[.string ⟨s1.toArray⟩, .bool b2, .bool b3, .int .i64 z4, .int .i64 z5, .int .i64 z6, .slice la xs.length lc], rfl, la, lc, rfl, ⟨rg4, rg5, rg6⟩, (hrow.fr hgY.size (fun b hb hlt => hgY.block b hlt (fun e => by have := Option.some.inj e; omega))).mo (fun b _ hb => Nat.le_trans (Nat.le_of_lt hrbl) hb)⟩, hr6.cs, hr6.gr, hp1.bd (hp2.bd (hp3.bd (hp4.bd (hp5.bd (hp6.bd (hAx.out.bd Xp.pure))))))⟩
        clear hr0 hr1 hr2 hr3 hr4 hr5 hr6 hgY hrow hp1 hp2 hp3 hp4 hp5 hp6
        go_wp2
        exact bodyPost_ret (v := .agg #[.string ⟨s1.toArray⟩, .bool b2, .bool b3, .int .i64 z4, .int .i64 z5, .int .i64 z6, .slice la xs.length lc]) (by simp [results, Try.results15, go_sem, q0, q1, q2, q3, q4, q5, q6]) rfl hfin

end Go.Proofs.Ytjgngmmepheioaa.G

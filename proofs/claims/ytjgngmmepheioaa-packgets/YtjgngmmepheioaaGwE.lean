import Derived.Test.YtjgngmmepheioaaGwC
import Derived.Test.YtjgngmmepheioaaPxE
import Derived.Test.YtjgngmmepheioaaPkQc
import Derived.Deep.RegionHeldLaw
namespace Go.Proofs.Ytjgngmmepheioaa.G
open Go.RowKit

theorem step_append_g {P : Program} {ops : Array Oper} {o : Oper} {a : Act} (w : World) {K : Act → World → Prop} {Q : Exit → Act → World → Prop} {E : Prop}
    (hg : o.guard = none) (s x : Operand) (t : TypeId) (ho : o.op = .call { callee := .builtin .append, args := #[s, x], argTypes := #[t, t] })
    (base : Nat) (e : TypeId) (i : TypeInfo) (z : Value) (size bytes : Nat) (ht : P.underlying t = some (.slice e)) (hi : P.info? e = some i) (hz : i.zero = some z)
    (hsize : i.size = size) (hby : i.bytes = bytes) (hzs : z.cells.size = size) (hsz : 0 < size)
    (v : Value) (n : Nat) (xs : List Value) (hs : a.eval s = v) (hown : w.ownsRow base e size v n xs)
    (ad : Addr) (m c : Nat) (news : List Value) (hx : a.eval x = .slice (some ad) m c) (hl : news.length = m * size) (hnews : ∀ j u, news[j]? = some u → w.cell? (ad.add j) = some u) (h1 : ∀ u ∈ news, u.oneCell' = true)
    (h63 : n + m ≤ maxLen) (hbytes : (n + m) * bytes ≤ 140737488355328) (hbase : base ≤ w.heap.size)
    (h : ∀ v' w', w'.ownsRow base e size v' (n + m) (xs ++ news) → w.grownBy w' v.ownBlock → (v'.ownBlock = v.ownBlock ∨ v'.ownBlock = some w.heap.size) → K (a.put o.dst v') w') : if Region.wanted o (yielded ops a.tmps) = true then Oper.wp P o a w K Q else E := by
  rw [if_pos (by simp [Region.wanted, hg])]
  obtain ⟨v', w', hr, h2, h3, -, h5⟩ := run_append_own_at (P := P) w base t o.type e i z size bytes ht hi hz hsize hby hzs hsz v n xs hown ad m c news hl hnews h1 h63 hbytes hbase
  unfold Oper.wp execOp
  simp only [ho, resolve, invoke, builtin, Sem.run_bind, Sem.run_pure, Result.andThen_ok, List.map_toArray, List.map_cons, List.map_nil, hs, hx, hr]
  exact h v' w' h2 h3 h5
/-- A call under way: the cursor, the result's block, a variable's block. -/
structure ES (c : Rc) (W : World) (rb eb : Nat) (rv vs : List Value) (at_ ft er : Nat) (w : World) : Prop where
  cs : CS c w at_ ft er
  gr : W.grownBy w (some c.r)
  rx : Bx w rb rv
  ex : Bx w eb vs
  k1 : c.r < W.heap.size
  k2 : c.l ≠ [] → ∀ b off, c.a = some ⟨b, off, none⟩ → b < W.heap.size
  k3 : W.heap.size ≤ rb
  k4 : W.heap.size ≤ eb
  k5 : rb ≠ eb
theorem ES.call {c : Rc} {W : World} {rb eb : Nat} {rv vs : List Value} {a f e a2 f2 e2 : Nat} {w w' : World} (h : ES c W rb eb rv vs a f e w) (h2 : CS c w' a2 f2 e2) (hg : w.grownBy w' (some c.r)) : ES c W rb eb rv vs a2 f2 e2 w' := ⟨h2, h.gr.trans hg, h.rx.kept hg (fun e => by have := Option.some.inj e; have := h.k1; have := h.k3; omega), h.ex.kept hg (fun e => by have := Option.some.inj e; have := h.k1; have := h.k4; omega), h.k1, h.k2, h.k3, h.k4, h.k5⟩
theorem CS.setO {c : Rc} {W : World} {at_ ft er b i : Nat} {v : Value} {lo : Nat} (h : CS c W at_ ft er) (hb : lo ≤ b) (hr : c.r < lo) (hW : c.l ≠ [] → ∀ b off, c.a = some ⟨b, off, none⟩ → b < lo) : CS c (W.setCell ⟨b, i, none⟩ v) at_ ft er :=
  h.other (gr_set W b i v) (by intro e; injection e with e; omega) (fun h0 b2 off ha e => by
    have := hW h0 b2 off ha
    injection e with e
    omega)
theorem ES.sete {c : Rc} {W : World} {rb eb : Nat} {rv vs : List Value} {a f e : Nat} {w : World} (h : ES c W rb eb rv vs a f e w) (i : Nat) (v : Value) : ES c W rb eb rv (vs.set i v) a f e (w.setCell ⟨eb, i, none⟩ v) := ⟨h.cs.setO h.k4 h.k1 h.k2, gr_setO h.gr h.k4, h.rx.kept (gr_set w eb i v) (fun e => h.k5 (Option.some.inj e)), h.ex.set i v, h.k1, h.k2, h.k3, h.k4, h.k5⟩
theorem ES.setr {c : Rc} {W : World} {rb eb : Nat} {rv vs : List Value} {a f e : Nat} {w : World} (h : ES c W rb eb rv vs a f e w) (i : Nat) (v : Value) : ES c W rb eb (rv.set i v) vs a f e (w.setCell ⟨rb, i, none⟩ v) := ⟨h.cs.setO h.k3 h.k1 h.k2, gr_setO h.gr h.k3, h.rx.set i v, h.ex.kept (gr_set w rb i v) (fun e => h.k5 (Option.some.inj e).symm), h.k1, h.k2, h.k3, h.k4, h.k5⟩
theorem ES.drew {c : Rc} {W : World} {rb eb : Nat} {rv vs : List Value} {a f e : Nat} {w : World} (h : ES c W rb eb rv vs a f e w) : ES c W rb eb rv vs a f e w.drew := h.call h.cs.drew1 ⟨rfl, rfl, rfl, Nat.le_refl _, fun _ _ _ => rfl⟩
theorem ES.alloc {c : Rc} {W : World} {rb eb : Nat} {rv vs : List Value} {a f e : Nat} {w : World} (h : ES c W rb eb rv vs a f e w) (ob : Obj) : ES c W rb eb rv vs a f e (w.alloc ob) := h.call (h.cs.alloc ob) (World.grownBy_alloc w ob _)
theorem own_shapeG {w : World} {base n size : Nat} {e : TypeId} {v : Value} {xs : List Value} (h : w.ownsRow base e size v n xs) : ∃ a cap, v = .slice a n cap := by
  obtain ⟨_, h | ⟨g, cap, cur, rfl, _⟩⟩ := h
  · exact ⟨none, 0, by rw [h.1, h.2]⟩
  · exact ⟨_, _, rfl⟩
theorem infoExG : (Try.prog.info? 77).map (fun i => (i.zero, i.size, i.bytes)) = some (some (.agg #[.int .i64 0, .int .i64 0, .int .i64 0, .int .i64 0, .slice none 0 0]), 5, 56) := by kernel_rfl
theorem ES.other {c : Rc} {W : World} {rb eb : Nat} {rv vs : List Value} {a f e : Nat} {w w' : World} {r : Option Nat} (h : ES c W rb eb rv vs a f e w) (hg : w.grownBy w' r) (hr : ∀ g, r = some g → W.heap.size ≤ g ∧ g ≠ rb ∧ g ≠ eb) : ES c W rb eb rv vs a f e w' := by
  refine ⟨h.cs.other hg (fun e => ?_) (fun h0 b off ha e => ?_), h.gr.andThen hg (fun j hj => .inl (hr j hj).1), h.rx.kept hg (fun e => (hr rb e.symm).2.1 rfl), h.ex.kept hg (fun e => (hr eb e.symm).2.2 rfl), h.k1, h.k2, h.k3, h.k4, h.k5⟩
  · have := (hr _ e.symm).1
    have := h.k1
    omega
  · have := (hr _ e.symm).1
    have := h.k2 h0 b off ha
    omega
/-- What expr does at a depth. -/
def ExG (d : Nat) : Prop := ∀ (c : Rc) (W : World) (at_ ft er : Nat), CS c W at_ ft er → Calls Try.prog 19 #[.pointer (some ⟨c.r, 0, none⟩), .int .i64 (d : Int)] W (Xd (rExpr (65 - d)) (VE eE) c at_ ft er W)
theorem rg0G : Rg 0 := ⟨by decide, by decide⟩
theorem bit15 {b : Nat} (h : b ≤ 15) : ((b : Int) % 2 == 1) = Nat.testBit b 0 ∧ ((b : Int) / 2 % 2 == 1) = Nat.testBit b 1 ∧ ((b : Int) / 4 % 2 == 1) = Nat.testBit b 2 ∧ ((b : Int) / 8 == 1) = Nat.testBit b 3 := by
  have : ∀ b : Fin 16, (((b.val : Nat) : Int) % 2 == 1) = Nat.testBit b.val 0 ∧ (((b.val : Nat) : Int) / 2 % 2 == 1) = Nat.testBit b.val 1 ∧ (((b.val : Nat) : Int) / 4 % 2 == 1) = Nat.testBit b.val 2 ∧ (((b.val : Nat) : Int) / 8 == 1) = Nat.testBit b.val 3 := by decide
  exact this ⟨b, by omega⟩
theorem Xp.any {β : Type} {M : Rd β} {ft er at2 ft2 er2 : Nat} {x : β} (h : Xp M ft er at2 ft2 er2 x) (he : er2 ≠ 0) (y : β) (a : Nat) : Xp M ft er a ft2 er2 y := ⟨h.1, fun h0 => ⟨fun z b hz => absurd ((h.2 h0).1 z b hz).2.2.2 he, (h.2 h0).2⟩⟩
/-- A list under way, behind a fault too; P: what is asked of the whole. -/
def Lq {β : Type} (item : Nat → Rd β) (L : Rd (List β)) (n i ft er at2 ft2 er2 : Nat) (xs : List β) : Prop := (er2 ≠ 0 ∧ ∀ ys, Xp L ft er at2 ft2 er2 ys) ∨ (er2 = 0 ∧ Lp item L n i ft er at2 ft2 er2 xs)
theorem Lq.start {β : Type} {item : List UInt8 → Nat → Rd β} {l : List UInt8} {at_ ft er a1 f1 e1 n : Nat} (h : Xp (rLen l at_) ft er a1 f1 e1 n) (hn : e1 ≠ 0 → n = 0) : Lq (item l) (rLst item l at_) n 0 ft er a1 f1 e1 [] := by
  by_cases he : e1 = 0
  · exact .inr ⟨he, Lp.start h hn⟩
  · exact .inl ⟨he, fun ys => Xp.any (Xp.bd (a2 := a1) h (Xp.stuck (x := []) he)) he ys _⟩
theorem Lq.step {β : Type} {item : Nat → Rd β} {L : Rd (List β)} {n i ft er at2 ft2 at3 ft3 er3 : Nat} {xs : List β} {x : β} (h : Lq item L n i ft er at2 ft2 0 xs) (hi : i < n) (k : Xp (item at2) ft2 0 at3 ft3 er3 x) : Lq item L n (i + 1) ft er at3 ft3 er3 (xs ++ [x]) := by
  rcases h with ⟨h, -⟩ | ⟨-, h⟩
  · exact absurd rfl h
  · by_cases he : er3 = 0
    · subst he
      exact .inr ⟨rfl, h.step hi k⟩
    · exact .inl ⟨he, fun ys => Xp.any (h.bad hi k he) he ys _⟩
theorem Lq.done {β : Type} {item : Nat → Rd β} {L : Rd (List β)} {n i ft er at2 ft2 er2 : Nat} {xs : List β} (h : Lq item L n i ft er at2 ft2 er2 xs) (hi : n ≤ i ∨ er2 ≠ 0) (hx : xs.length = i) (hin : i ≤ n) : Xp L ft er at2 ft2 er2 xs := by
  rcases h with ⟨-, h⟩ | ⟨he, h⟩
  · exact h xs
  · rcases hi with hi | hi
    · exact h.done hi hx hin
    · exact absurd he hi

set_option maxRecDepth 8000 in
set_option maxHeartbeats 8000000 in
theorem expr_no (d : Nat) (c : Rc) (W : World) (at_ ft er : Nat) (h : CS c W at_ ft er) (hno : er ≠ 0) : Calls Try.prog 19 #[.pointer (some ⟨c.r, 0, none⟩), .int .i64 (d : Int)] W (Xd (rExpr (65 - d)) (VE eE) c at_ ft er W) := by
  have hr := h.lt
  have hs1 : (W.alloc (.cells #[.int .i64 0, .int .i64 0, .int .i64 0, .int .i64 0, .slice none 0 0] 77)).heap.size = W.heap.size + 1 := by simp
  have hb0 := bx_new W #[.int .i64 0, .int .i64 0, .int .i64 0, .int .i64 0, .slice none 0 0] 77
  have hb1 := bx_new (W.alloc (.cells #[.int .i64 0, .int .i64 0, .int .i64 0, .int .i64 0, .slice none 0 0] 77)) #[.int .i64 0, .int .i64 0, .int .i64 0, .int .i64 0, .slice none 0 0] 77
  rw [hs1] at hb1
  obtain ⟨X, hX⟩ : ∃ X, (W.alloc (.cells #[.int .i64 0, .int .i64 0, .int .i64 0, .int .i64 0, .slice none 0 0] 77)).alloc (.cells #[.int .i64 0, .int .i64 0, .int .i64 0, .int .i64 0, .slice none 0 0] 77) = X := ⟨_, rfl⟩
  have hS0 : ES c W W.heap.size (W.heap.size + 1) [.int .i64 0, .int .i64 0, .int .i64 0, .int .i64 0, .slice none 0 0] [.int .i64 0, .int .i64 0, .int .i64 0, .int .i64 0, .slice none 0 0] at_ ft er X := by
    rw [← hX]
    exact ⟨(h.alloc _).alloc _, (World.grownBy_alloc _ _ _).trans (World.grownBy_alloc _ _ _), hb0.kept (World.grownBy_alloc _ _ none) (by simp), hb1, hr, h.below, Nat.le_refl _, Nat.le_succ _, by omega⟩
  have c3 := hS0.cs.c3
  clear h hb0 hb1 hs1
  have he1 : ((er : Int) == 0) = false := by simp; omega
  have he2 : ((er : Int) != 0) = true := by simp; omega
  go_enter Try.func19, Try.ntmps19
  have e0 : X.cell? ⟨W.heap.size + 1, 0, none⟩ = some (.int .i64 0) := hS0.ex.2.1 0 (show 0 < 5 by decide)
  have e1 : X.cell? ⟨W.heap.size + 1, 1, none⟩ = some (.int .i64 0) := hS0.ex.2.1 1 (show 1 < 5 by decide)
  have e2 : X.cell? ⟨W.heap.size + 1, 2, none⟩ = some (.int .i64 0) := hS0.ex.2.1 2 (show 2 < 5 by decide)
  have e3 : X.cell? ⟨W.heap.size + 1, 3, none⟩ = some (.int .i64 0) := hS0.ex.2.1 3 (show 3 < 5 by decide)
  have e4 : X.cell? ⟨W.heap.size + 1, 4, none⟩ = some (.slice none 0 0) := hS0.ex.2.1 4 (show 4 < 5 by decide)
  have r0 : X.cell? ⟨W.heap.size, 0, none⟩ = some (.int .i64 0) := hS0.rx.2.1 0 (show 0 < 5 by decide)
  have rf0 : X.frozen? ⟨W.heap.size, 0, none⟩ = false := hS0.rx.2.2 0
  have hr0 := hS0.setr 0 (.int .i64 0)
  obtain ⟨Y0, hY0⟩ : ∃ Y, X.setCell ⟨W.heap.size, 0, none⟩ (.int .i64 0) = Y := ⟨_, rfl⟩
  have hr0 : ES c W W.heap.size (W.heap.size + 1) [.int .i64 0, .int .i64 0, .int .i64 0, .int .i64 0, .slice none 0 0] [.int .i64 0, .int .i64 0, .int .i64 0, .int .i64 0, .slice none 0 0] at_ ft er Y0 := by rw [← hY0]; exact hr0
  have r1 : Y0.cell? ⟨W.heap.size, 1, none⟩ = some (.int .i64 0) := hr0.rx.2.1 1 (show 1 < 5 by decide)
  have rf1 : Y0.frozen? ⟨W.heap.size, 1, none⟩ = false := hr0.rx.2.2 1
  have hr1 := hr0.setr 1 (.int .i64 0)
  obtain ⟨Y1, hY1⟩ : ∃ Y, Y0.setCell ⟨W.heap.size, 1, none⟩ (.int .i64 0) = Y := ⟨_, rfl⟩
  have hr1 : ES c W W.heap.size (W.heap.size + 1) [.int .i64 0, .int .i64 0, .int .i64 0, .int .i64 0, .slice none 0 0] [.int .i64 0, .int .i64 0, .int .i64 0, .int .i64 0, .slice none 0 0] at_ ft er Y1 := by rw [← hY1]; exact hr1
  have r2 : Y1.cell? ⟨W.heap.size, 2, none⟩ = some (.int .i64 0) := hr1.rx.2.1 2 (show 2 < 5 by decide)
  have rf2 : Y1.frozen? ⟨W.heap.size, 2, none⟩ = false := hr1.rx.2.2 2
  have hr2 := hr1.setr 2 (.int .i64 0)
  obtain ⟨Y2, hY2⟩ : ∃ Y, Y1.setCell ⟨W.heap.size, 2, none⟩ (.int .i64 0) = Y := ⟨_, rfl⟩
  have hr2 : ES c W W.heap.size (W.heap.size + 1) [.int .i64 0, .int .i64 0, .int .i64 0, .int .i64 0, .slice none 0 0] [.int .i64 0, .int .i64 0, .int .i64 0, .int .i64 0, .slice none 0 0] at_ ft er Y2 := by rw [← hY2]; exact hr2
  have r3 : Y2.cell? ⟨W.heap.size, 3, none⟩ = some (.int .i64 0) := hr2.rx.2.1 3 (show 3 < 5 by decide)
  have rf3 : Y2.frozen? ⟨W.heap.size, 3, none⟩ = false := hr2.rx.2.2 3
  have hr3 := hr2.setr 3 (.int .i64 0)
  obtain ⟨Y3, hY3⟩ : ∃ Y, Y2.setCell ⟨W.heap.size, 3, none⟩ (.int .i64 0) = Y := ⟨_, rfl⟩
  have hr3 : ES c W W.heap.size (W.heap.size + 1) [.int .i64 0, .int .i64 0, .int .i64 0, .int .i64 0, .slice none 0 0] [.int .i64 0, .int .i64 0, .int .i64 0, .int .i64 0, .slice none 0 0] at_ ft er Y3 := by rw [← hY3]; exact hr3
  have r4 : Y3.cell? ⟨W.heap.size, 4, none⟩ = some (.slice none 0 0) := hr3.rx.2.1 4 (show 4 < 5 by decide)
  have rf4 : Y3.frozen? ⟨W.heap.size, 4, none⟩ = false := hr3.rx.2.2 4
  have hr4 := hr3.setr 4 (.slice none 0 0)
  obtain ⟨Y4, hY4⟩ : ∃ Y, Y3.setCell ⟨W.heap.size, 4, none⟩ (.slice none 0 0) = Y := ⟨_, rfl⟩
  have hr4 : ES c W W.heap.size (W.heap.size + 1) [.int .i64 0, .int .i64 0, .int .i64 0, .int .i64 0, .slice none 0 0] [.int .i64 0, .int .i64 0, .int .i64 0, .int .i64 0, .slice none 0 0] at_ ft er Y4 := by rw [← hY4]; exact hr4
  have q0 : Y4.cell? ⟨W.heap.size, 0, none⟩ = some (.int .i64 0) := hr4.rx.2.1 0 (show 0 < 5 by decide)
  have q1 : Y4.cell? ⟨W.heap.size, 1, none⟩ = some (.int .i64 0) := hr4.rx.2.1 1 (show 1 < 5 by decide)
  have q2 : Y4.cell? ⟨W.heap.size, 2, none⟩ = some (.int .i64 0) := hr4.rx.2.1 2 (show 2 < 5 by decide)
  have q3 : Y4.cell? ⟨W.heap.size, 3, none⟩ = some (.int .i64 0) := hr4.rx.2.1 3 (show 3 < 5 by decide)
  have q4 : Y4.cell? ⟨W.heap.size, 4, none⟩ = some (.slice none 0 0) := hr4.rx.2.1 4 (show 4 < 5 by decide)
  have hfin : Xd (rExpr (65 - d)) (VE eE) c at_ ft er W (.returned (.agg #[.int .i64 0, .int .i64 0, .int .i64 0, .int .i64 0, .slice none 0 0])) Y4 := ⟨⟨0, 0, 0, 0, .nil⟩, _, _, _, _, rfl, ⟨[.int .i64 0, .int .i64 0, .int .i64 0, .int .i64 0, .slice none 0 0], rfl, none, 0, rfl, ⟨rg0G, rg0G, rg0G, rg0G⟩, trivial⟩, hr4.cs, hr4.gr, Xp.stuck hno⟩
  clear hno
  clear hr0 hr1 hr2 hr3 hr4
  go_wp2
  exact bodyPost_ret (v := .agg #[.int .i64 0, .int .i64 0, .int .i64 0, .int .i64 0, .slice none 0 0]) (by simp [results, Try.results19, go_sem, q0, q1, q2, q3, q4]) rfl hfin

set_option maxRecDepth 8000 in
set_option maxHeartbeats 8000000 in
theorem expr_deep (d : Nat) (c : Rc) (W : World) (at_ ft er : Nat) (h : CS c W at_ ft er) (he : er = 0) (hd : d = 65) : Calls Try.prog 19 #[.pointer (some ⟨c.r, 0, none⟩), .int .i64 (d : Int)] W (Xd (rExpr (65 - d)) (VE eE) c at_ ft er W) := by
  have hr := h.lt
  have hs1 : (W.alloc (.cells #[.int .i64 0, .int .i64 0, .int .i64 0, .int .i64 0, .slice none 0 0] 77)).heap.size = W.heap.size + 1 := by simp
  have hb0 := bx_new W #[.int .i64 0, .int .i64 0, .int .i64 0, .int .i64 0, .slice none 0 0] 77
  have hb1 := bx_new (W.alloc (.cells #[.int .i64 0, .int .i64 0, .int .i64 0, .int .i64 0, .slice none 0 0] 77)) #[.int .i64 0, .int .i64 0, .int .i64 0, .int .i64 0, .slice none 0 0] 77
  rw [hs1] at hb1
  obtain ⟨X, hX⟩ : ∃ X, (W.alloc (.cells #[.int .i64 0, .int .i64 0, .int .i64 0, .int .i64 0, .slice none 0 0] 77)).alloc (.cells #[.int .i64 0, .int .i64 0, .int .i64 0, .int .i64 0, .slice none 0 0] 77) = X := ⟨_, rfl⟩
  have hS0 : ES c W W.heap.size (W.heap.size + 1) [.int .i64 0, .int .i64 0, .int .i64 0, .int .i64 0, .slice none 0 0] [.int .i64 0, .int .i64 0, .int .i64 0, .int .i64 0, .slice none 0 0] at_ ft er X := by
    rw [← hX]
    exact ⟨(h.alloc _).alloc _, (World.grownBy_alloc _ _ _).trans (World.grownBy_alloc _ _ _), hb0.kept (World.grownBy_alloc _ _ none) (by simp), hb1, hr, h.below, Nat.le_refl _, Nat.le_succ _, by omega⟩
  have c3 := hS0.cs.c3
  clear h hb0 hb1 hs1
  subst he
  have hd' : (64 : Int) < (d : Int) := by omega
  have c1 := hS0.cs.c1
  have hM : rExpr (65 - d) c.l at_ = .error (at_, 72) := by rw [hd]; rfl
  have hft := fault_any c at_ 72 (hS0.cs.le rfl) (by omega) X hS0.cs
  go_enter Try.func19, Try.ntmps19
  go_wp2_with (go_at_call 12; fail)
  clear hX
  refine hft.mono ?_
  rintro e w1 ⟨rfl, hF, hg1⟩
  rw [if_pos rfl, if_pos rfl] at hF
  have hS1 := hS0.call hF hg1
  clear c3 c1 hft hF hg1 hS0
  have c3 := hS1.cs.c3
  have hdH := Hid.mk hd
  clear hd
  have e0 : w1.cell? ⟨W.heap.size + 1, 0, none⟩ = some (.int .i64 0) := hS1.ex.2.1 0 (show 0 < 5 by decide)
  have e1 : w1.cell? ⟨W.heap.size + 1, 1, none⟩ = some (.int .i64 0) := hS1.ex.2.1 1 (show 1 < 5 by decide)
  have e2 : w1.cell? ⟨W.heap.size + 1, 2, none⟩ = some (.int .i64 0) := hS1.ex.2.1 2 (show 2 < 5 by decide)
  have e3 : w1.cell? ⟨W.heap.size + 1, 3, none⟩ = some (.int .i64 0) := hS1.ex.2.1 3 (show 3 < 5 by decide)
  have e4 : w1.cell? ⟨W.heap.size + 1, 4, none⟩ = some (.slice none 0 0) := hS1.ex.2.1 4 (show 4 < 5 by decide)
  have r0 : w1.cell? ⟨W.heap.size, 0, none⟩ = some (.int .i64 0) := hS1.rx.2.1 0 (show 0 < 5 by decide)
  have rf0 : w1.frozen? ⟨W.heap.size, 0, none⟩ = false := hS1.rx.2.2 0
  have hr0 := hS1.setr 0 (.int .i64 0)
  obtain ⟨Y0, hY0⟩ : ∃ Y, w1.setCell ⟨W.heap.size, 0, none⟩ (.int .i64 0) = Y := ⟨_, rfl⟩
  have hr0 : ES c W W.heap.size (W.heap.size + 1) [.int .i64 0, .int .i64 0, .int .i64 0, .int .i64 0, .slice none 0 0] [.int .i64 0, .int .i64 0, .int .i64 0, .int .i64 0, .slice none 0 0] at_ at_ 72 Y0 := by rw [← hY0]; exact hr0
  have r1 : Y0.cell? ⟨W.heap.size, 1, none⟩ = some (.int .i64 0) := hr0.rx.2.1 1 (show 1 < 5 by decide)
  have rf1 : Y0.frozen? ⟨W.heap.size, 1, none⟩ = false := hr0.rx.2.2 1
  have hr1 := hr0.setr 1 (.int .i64 0)
  obtain ⟨Y1, hY1⟩ : ∃ Y, Y0.setCell ⟨W.heap.size, 1, none⟩ (.int .i64 0) = Y := ⟨_, rfl⟩
  have hr1 : ES c W W.heap.size (W.heap.size + 1) [.int .i64 0, .int .i64 0, .int .i64 0, .int .i64 0, .slice none 0 0] [.int .i64 0, .int .i64 0, .int .i64 0, .int .i64 0, .slice none 0 0] at_ at_ 72 Y1 := by rw [← hY1]; exact hr1
  have r2 : Y1.cell? ⟨W.heap.size, 2, none⟩ = some (.int .i64 0) := hr1.rx.2.1 2 (show 2 < 5 by decide)
  have rf2 : Y1.frozen? ⟨W.heap.size, 2, none⟩ = false := hr1.rx.2.2 2
  have hr2 := hr1.setr 2 (.int .i64 0)
  obtain ⟨Y2, hY2⟩ : ∃ Y, Y1.setCell ⟨W.heap.size, 2, none⟩ (.int .i64 0) = Y := ⟨_, rfl⟩
  have hr2 : ES c W W.heap.size (W.heap.size + 1) [.int .i64 0, .int .i64 0, .int .i64 0, .int .i64 0, .slice none 0 0] [.int .i64 0, .int .i64 0, .int .i64 0, .int .i64 0, .slice none 0 0] at_ at_ 72 Y2 := by rw [← hY2]; exact hr2
  have r3 : Y2.cell? ⟨W.heap.size, 3, none⟩ = some (.int .i64 0) := hr2.rx.2.1 3 (show 3 < 5 by decide)
  have rf3 : Y2.frozen? ⟨W.heap.size, 3, none⟩ = false := hr2.rx.2.2 3
  have hr3 := hr2.setr 3 (.int .i64 0)
  obtain ⟨Y3, hY3⟩ : ∃ Y, Y2.setCell ⟨W.heap.size, 3, none⟩ (.int .i64 0) = Y := ⟨_, rfl⟩
  have hr3 : ES c W W.heap.size (W.heap.size + 1) [.int .i64 0, .int .i64 0, .int .i64 0, .int .i64 0, .slice none 0 0] [.int .i64 0, .int .i64 0, .int .i64 0, .int .i64 0, .slice none 0 0] at_ at_ 72 Y3 := by rw [← hY3]; exact hr3
  have r4 : Y3.cell? ⟨W.heap.size, 4, none⟩ = some (.slice none 0 0) := hr3.rx.2.1 4 (show 4 < 5 by decide)
  have rf4 : Y3.frozen? ⟨W.heap.size, 4, none⟩ = false := hr3.rx.2.2 4
  have hr4 := hr3.setr 4 (.slice none 0 0)
  obtain ⟨Y4, hY4⟩ : ∃ Y, Y3.setCell ⟨W.heap.size, 4, none⟩ (.slice none 0 0) = Y := ⟨_, rfl⟩
  have hr4 : ES c W W.heap.size (W.heap.size + 1) [.int .i64 0, .int .i64 0, .int .i64 0, .int .i64 0, .slice none 0 0] [.int .i64 0, .int .i64 0, .int .i64 0, .int .i64 0, .slice none 0 0] at_ at_ 72 Y4 := by rw [← hY4]; exact hr4
  have q0 : Y4.cell? ⟨W.heap.size, 0, none⟩ = some (.int .i64 0) := hr4.rx.2.1 0 (show 0 < 5 by decide)
  have q1 : Y4.cell? ⟨W.heap.size, 1, none⟩ = some (.int .i64 0) := hr4.rx.2.1 1 (show 1 < 5 by decide)
  have q2 : Y4.cell? ⟨W.heap.size, 2, none⟩ = some (.int .i64 0) := hr4.rx.2.1 2 (show 2 < 5 by decide)
  have q3 : Y4.cell? ⟨W.heap.size, 3, none⟩ = some (.int .i64 0) := hr4.rx.2.1 3 (show 3 < 5 by decide)
  have q4 : Y4.cell? ⟨W.heap.size, 4, none⟩ = some (.slice none 0 0) := hr4.rx.2.1 4 (show 4 < 5 by decide)
  have hfin : Xd (rExpr (65 - d)) (VE eE) c at_ ft 0 W (.returned (.agg #[.int .i64 0, .int .i64 0, .int .i64 0, .int .i64 0, .slice none 0 0])) Y4 := ⟨⟨0, 0, 0, 0, .nil⟩, _, _, _, _, rfl, ⟨[.int .i64 0, .int .i64 0, .int .i64 0, .int .i64 0, .slice none 0 0], rfl, none, 0, rfl, ⟨rg0G, rg0G, rg0G, rg0G⟩, trivial⟩, hr4.cs, hr4.gr, Xp.fail (fun _ => hM) (by decide)⟩
  clear hM
  clear hr0 hr1 hr2 hr3 hr4
  go_wp2
  exact bodyPost_ret (v := .agg #[.int .i64 0, .int .i64 0, .int .i64 0, .int .i64 0, .slice none 0 0]) (by simp [results, Try.results19, go_sem, q0, q1, q2, q3, q4]) rfl hfin


end Go.Proofs.Ytjgngmmepheioaa.G

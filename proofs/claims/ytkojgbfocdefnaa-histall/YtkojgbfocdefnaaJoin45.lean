import Derived.Test.YtkojgbfocdefnaaJoin44
import Derived.RangeFuncWrites
import Derived.Deep.DeepCutAuto
import Derived.Test.YtkojgbfocdefnaaTGet
namespace Go.Proofs.Ytkojgbfocdefnaa
open Go.RowKit Go.Shelf

/-- What a statement's own book-keeping may turn: a block from B on that is no cells. -/
def StepB (B : Nat) (X Y : World) : Prop := ∃ row, X.grownBy Y row ∧ ∀ r, row = some r → B ≤ r ∧ ∃ o : Obj, X.heap[r]? = some o ∧ o.isCells = false
theorem stepB_put {B l : Nat} {X : World} {o : Obj} (o' : Obj) (hl : B ≤ l) (h : X.heap[l]? = some o) (hc : o.isCells = false) : StepB B X (X.putObj l o') :=
  ⟨some l, grownBy_putObj' X l o', fun r e => by cases e; exact ⟨hl, o, h, hc⟩⟩
theorem stepB_alloc (B : Nat) (X : World) (o : Obj) : StepB B X (X.alloc o) := ⟨none, World.grownBy_alloc X o none, fun r e => by cases e⟩
theorem stepB_below (B : Nat) {X Y : World} (h : Below X.heap.size X Y) : StepB B X Y := ⟨none, grown_of_belowB h, fun r e => by cases e⟩
theorem StepB.mono {B B' : Nat} {X Y : World} (h : StepB B X Y) (hb : B' ≤ B) : StepB B' X Y := by
  obtain ⟨row, hg, hr⟩ := h
  exact ⟨row, hg, fun r e => ⟨Nat.le_trans hb (hr r e).1, (hr r e).2⟩⟩
theorem StepB.below {B : Nat} {W X Y : World} (h : StepB B X Y) (hW : Below B W X) (hB : B ≤ X.heap.size) : Below B W Y := by
  obtain ⟨row, hg, hr⟩ := h
  exact hW.grown hg hB (fun k e => (hr k e).1)

theorem lies_off {W : World} {r : Nat} {o : Obj} (ho : W.heap[r]? = some o) (hc : o.isCells = false) : ∀ {t : Tr}, Lies W t → t.avoid r := by
  have key : ∀ {c : Nat} {cs : Array Value} {ty : TypeId} {z : Nat × Nat}, W.heap[c]? = some (.cells cs ty z) → c ≠ r := by
    intro c cs ty z h e
    subst e
    rw [h] at ho
    rw [← Option.some.inj ho] at hc
    cases hc
  intro t
  induction t with
  | nil => intro _; trivial
  | node c kids ih => intro h; exact ⟨key h.1, fun i hi => ih i (h.2 i hi)⟩
  | leaf c s th vk vn => intro h; exact ⟨key h.1, key h.2⟩
theorem lies_stepB {B : Nat} {X Y : World} {t : Tr} (h : Lies X t) (hs : StepB B X Y) : Lies Y t := by
  obtain ⟨row, hg, hr⟩ := hs
  exact lies_grown hg h (fun r e => by obtain ⟨-, o, h1, h2⟩ := hr r e; exact lies_off h1 h2 h)

theorem cell_stepB {B : Nat} {X Y : World} {p : Addr} {v : Value} (h : X.cell? p = some v) (hs : StepB B X Y) : Y.cell? p = some v := by
  obtain ⟨row, hg, hr⟩ := hs
  exact cell_kept h hg (fun r e => (hr r e).2)
theorem frozen_stepB {B : Nat} {X Y : World} {p : Addr} {v : Value} (h : X.cell? p = some v) (hf : X.frozen? p = false) (hs : StepB B X Y) : Y.frozen? p = false := by
  obtain ⟨row, hg, hr⟩ := hs
  exact (frozen_kept h hg (fun r e => (hr r e).2)).trans hf

/-- How a round is left: it goes on, or the function is left. -/
def entPost (B : Nat) (I Ix : List (Nat × (Int × Int)) → World → Prop) (xs : List (Nat × (Int × Int))) (W : World) : Exit → Act → World → Prop
  | .normal, _, W' => KeepsFrom B W W' ∧ I xs W'
  | .ret, _, W' => KeepsFrom B W W' ∧ Ix xs W'
  | _, _, _ => False

theorem roundIn_depth {n m : Nat} {P : Program} {l : Nat} {f : FuncId} {tmps : Array Value} {assign body : Code} {w : World} {R : Ending → World → Prop} (h : RoundIn Fence.wide n P l f tmps assign body w R) : RoundIn Fence.wide m P l f tmps assign body w R :=
  ⟨h.1, fun c cs _ => h.2 c cs (room_wide _)⟩

set_option maxHeartbeats 1000000 in
/-- The statement 'for id, v := range entries', of an iterator over a node; its body may leave the function. -/
theorem range_ents {n : Nat} {g : Operand} {ps : Array Tmp} {assign body : Code} {Q : Exit → Act → World → Prop} {a : Act} {w : World} (b N l : Nat) (hl : l + N = 7) (t : Tr) (hw : t.wf N) (p : Nat) (hp : p + 16 ^ (N + 1) ≤ 4294967296) (hm : p % 16 ^ (N + 1) = 0)
    (hg : a.eval g = .func (.func 70) #[] #[.pointer (some ⟨b, 0, none⟩), .pointer (some ⟨b + 1, 0, none⟩), .pointer (some ⟨b + 1 + 1, 0, none⟩), .pointer (some ⟨b + 1 + 1 + 1, 0, none⟩)]) (hps : ps.size = 2) (I Ix : List (Nat × (Int × Int)) → World → Prop)
    (hI : ∀ pre X Y, I pre X → StepB w.heap.size X Y → I pre Y) (hIx : ∀ pre X Y, Ix pre X → StepB w.heap.size X Y → Ix pre Y) (hLi : ∀ pre X, I pre X → Lies X t) (hLx : ∀ pre X, Ix pre X → Lies X t)
    (hG : IterG w b t l p 0) (h0 : I [] w) (Ax : Nat × (Int × Int) → Act → World → Prop) (hAx : ∀ x a' X Y, Ax x a' X → StepB w.heap.size X Y → Ax x a' Y)
    (hassign : ∀ (l : Nat) (pre : List (Nat × (Int × Int))) (x : Nat × (Int × Int)) (W : World) (K : Act → World → Prop), x.1 < 4294967296 → I pre W → (∀ a' W', KeepsFrom w.heap.size W W' → I pre W' → Ax x a' W' → K a' W') → assign.wpIn (Fence.wide.inRound l) 3 Try.prog (Exit.then K (fun _ _ _ => False)) { tmps := (ps.zip (encE x.1 x.2.1 x.2.2)).foldl (fun t (p, v) => t.setIfInBounds p v) a.tmps, defers := [] } W)
    (hbody : ∀ (l : Nat) (pre : List (Nat × (Int × Int))) (x : Nat × (Int × Int)) (a' : Act) (W : World), x.1 < 4294967296 → I pre W → Ax x a' W → body.wpIn (Fence.wide.inRound l) 3 Try.prog (entPost w.heap.size I Ix (pre ++ [x]) W) a' W)
    (hdone : ∀ (D : Nat) (W : World), w.heap.size ≤ D → I (t.ents N p) W → W.heap[D]? = some (.deferred (some [])) → Q .normal { a with defers := { target := .collected D, args := #[] } :: a.defers } W)
    (hstop : ∀ (D : Nat) (pre : List (Nat × (Int × Int))) (W : World), w.heap.size ≤ D → pre <+: t.ents N p → Ix pre W → W.heap[D]? = some (.deferred (some [])) → Code.ret.wpIn Fence.wide n Try.prog Q { a with defers := { target := .collected D, args := #[] } :: a.defers } W) :
    (Code.rangeFunc g ps assign body).wpIn Fence.wide n Try.prog Q a w := by
  refine wpIn_rangeFunc fun fn hfn => ?_
  obtain ⟨L, hL⟩ : ∃ L : LoopState → Option Code → Loop, L = fun st pe => { state := st, pending := pe, fn := fn, tmps := a.tmps, params := ps, assign := assign, body := body, defers := w.heap.size } := ⟨_, rfl⟩
  obtain ⟨V, hV⟩ : ∃ V, (w.alloc (.deferred (some []))).alloc (.loop (L .ready none)) = V := ⟨_, rfl⟩
  have hV1 : V.heap[w.heap.size + 1]? = some (.loop (L .ready none)) := by
    rw [← hV]
    have := World.alloc_heap_new (w.alloc (.deferred (some []))) (.loop (L .ready none))
    rwa [World.size_alloc] at this
  have hV0 : V.heap[w.heap.size]? = some (.deferred (some [])) := by
    rw [← hV]
    exact (Below.heap_alloc _ _ _ (by simp)).trans (World.alloc_heap_new w _)
  have hIV : I [] V := by rw [← hV]; exact hI _ _ _ (hI _ _ _ h0 (stepB_alloc _ _ _)) (stepB_alloc _ _ _)
  have hGV : IterG V b t l p 0 := by rw [← hV]; exact hG.later (((Below.refl _ _).alloc (Nat.le_refl _) _).alloc (by simp) _)
  have hT : TakesY (w.heap.size + 1) t (fun pre W => I pre W ∧ W.heap[w.heap.size + 1]? = some (.loop (L .ready none)) ∧ W.heap[w.heap.size]? = some (.deferred (some [])))
      (fun pre W => Ix pre W ∧ W.heap[w.heap.size + 1]? = some (.loop (L .done (some .ret))) ∧ W.heap[w.heap.size]? = some (.deferred (some []))) := by
    refine ⟨fun pre W h => hLi _ _ h.1, fun pre W h => hLx _ _ h.1, fun pre W m h => ⟨hI _ _ _ h.1 (stepB_below _ (below_drewN (Below.refl _ _) m)), ?_, ?_⟩, ?_⟩
    · exact ((below_drewN (Below.refl W.heap.size W) m).block _ (Array.getElem?_eq_some_iff.1 h.2.1).1).trans h.2.1
    · exact ((below_drewN (Below.refl W.heap.size W) m).block _ (Array.getElem?_eq_some_iff.1 h.2.2).1).trans h.2.2
    · rintro pre Wr k x y m hk ⟨hi0, h10, h20⟩
      have hy := run_yield (P := Try.prog) (args := encE k x y) h10 (by rw [hL]; exact hps.symm)
      rw [hL] at hy
      refine ⟨fn, _, assign, body, hy, roundIn_depth (n := 3) (roundIn_of_wpIn hfn (hassign _ pre (k, (x, y)) Wr _ hk hi0 fun a' W hkf hi hax => ?_))⟩
      have h1 := hkf.same _ _ (Nat.le_succ _) h10 rfl
      have h2 := hkf.same _ _ (Nat.le_refl _) h20 rfl
      have hlt : w.heap.size + 1 < W.heap.size := (Array.getElem?_eq_some_iff.1 h1).1
      refine ⟨_, run_beginRound h1 (by rw [hL]), ?_⟩
      have s1 := stepB_put (B := w.heap.size) (.loop { L .ready none with state := .busy }) (Nat.le_succ _) h1 rfl
      have k1 : (W.putObj (w.heap.size + 1) (.loop { L .ready none with state := .busy })).heap[w.heap.size + 1]? = some (.loop { L .ready none with state := .busy }) := World.putObj_heap_same hlt
      have k0 : (W.putObj (w.heap.size + 1) (.loop { L .ready none with state := .busy })).heap[w.heap.size]? = some (.deferred (some [])) := (World.putObj_heap_other (by omega)).trans h2
      refine wpIn_mono (hbody _ pre (k, (x, y)) _ _ hk (hI _ _ _ hi s1) (hAx _ _ _ _ hax s1)) ?_
      have fin : ∀ (jump : Option Code) (X : World), KeepsFrom w.heap.size (W.putObj (w.heap.size + 1) (.loop { L .ready none with state := .busy })) X →
          (Instr.endRound (w.heap.size + 1) jump).run Try.prog X = .ok (.bool jump.isNone) (X.putObj (w.heap.size + 1) (.loop (L (if jump.isNone then .ready else .done) jump))) ∧ StepB w.heap.size X (X.putObj (w.heap.size + 1) (.loop (L (if jump.isNone then .ready else .done) jump))) ∧
          (X.putObj (w.heap.size + 1) (.loop (L (if jump.isNone then .ready else .done) jump))).heap[w.heap.size + 1]? = some (.loop (L (if jump.isNone then .ready else .done) jump)) ∧
          (X.putObj (w.heap.size + 1) (.loop (L (if jump.isNone then .ready else .done) jump))).heap[w.heap.size]? = some (.deferred (some [])) := fun jump X hX => by
        have e1 := hX.same _ _ (Nat.le_succ _) k1 rfl
        have e0 := hX.same _ _ (Nat.le_refl _) k0 rfl
        have e2 := run_endRound (P := Try.prog) jump e1
        refine ⟨by rw [hL] at e2 ⊢; exact e2, stepB_put _ (Nat.le_succ _) e1 rfl, World.putObj_heap_same (Array.getElem?_eq_some_iff.1 e1).1, (World.putObj_heap_other (by omega)).trans e0⟩
      rintro e a3 X hp
      cases e with
      | normal =>
        obtain ⟨hX, hi3⟩ := hp
        obtain ⟨hr, hs, e1, e0⟩ := fin none X hX
        exact ⟨_, _, hr, true, rfl, fun _ => ⟨hI _ _ _ hi3 hs, e1, e0⟩, fun e => (by cases e)⟩
      | ret =>
        obtain ⟨hX, hi3⟩ := hp
        obtain ⟨hr, hs, e1, e0⟩ := fin (some .ret) X hX
        exact ⟨_, _, hr, false, rfl, fun e => (by cases e), fun _ => ⟨hIx _ _ _ hi3 hs, e1, e0⟩⟩
      | exit i => exact hp.elim
      | goto t => exact hp.elim
      | panic ch => exact hp.elim
      | outgrown => exact hp.elim
  refine ⟨w.heap.size + 1, [{ target := .collected w.heap.size, args := #[] }], V, { target := .fn (.func 70) #[.pointer (some ⟨b, 0, none⟩), .pointer (some ⟨b + 1, 0, none⟩), .pointer (some ⟨b + 1 + 1, 0, none⟩), .pointer (some ⟨b + 1 + 1 + 1, 0, none⟩)], args := #[.func (.yield (w.heap.size + 1)) #[] #[]] }, V, 70,
    #[.func (.yield (w.heap.size + 1)) #[] #[], .pointer (some ⟨b, 0, none⟩), .pointer (some ⟨b + 1, 0, none⟩), .pointer (some ⟨b + 1 + 1, 0, none⟩), .pointer (some ⟨b + 1 + 1 + 1, 0, none⟩)], V, ?_, ?_, ?_, ?_, fun e => by simp [Fence.wide] at e, ?_⟩
  · rw [← hV, hL]; exact run_enterLoop_outer _ _ _ _ _
  · simp only [resolve, hg]
    simp [go_sem]
  · intro f' _; trivial
  · simp [invoke, go_sem]
  · refine (callsIn_wide.2 (from1Y (w.heap.size + 1) b N l hl t hw p 0 hp hm _ _ hT V hGV ⟨hIV, hV1, hV0⟩)).mono ?_
    rw [fromL_all]
    rintro e X ⟨rfl, ⟨hi, e1, e0⟩ | ⟨pre, hpre, hi, e1, e0⟩⟩
    · have hs := stepB_put (B := w.heap.size) (.loop { L .ready none with state := .exhausted }) (Nat.le_succ _) e1 rfl
      refine ⟨none, _, by have := run_endLoop (P := Try.prog) e1 (by rw [hL]; simp); rw [hL] at this ⊢; exact this, hdone _ _ (Nat.le_refl _) (hI _ _ _ hi hs) ((World.putObj_heap_other (by omega)).trans e0)⟩
    · have hs := stepB_put (B := w.heap.size) (.loop { L .done (some .ret) with state := .exhausted }) (Nat.le_succ _) e1 rfl
      refine ⟨some .ret, _, by have := run_endLoop (P := Try.prog) e1 (by rw [hL]; simp); rw [hL] at this ⊢; exact this, hstop _ pre _ (Nat.le_refl _) hpre (hIx _ _ _ hi hs) ((World.putObj_heap_other (by omega)).trans e0)⟩

end Go.Proofs.Ytkojgbfocdefnaa


namespace Go.Proofs.Ytkojgbfocdefnaa
open Go.RowKit Go.Shelf
attribute [local go_sem] Oper.semAt_some

/-- What is asked of the body of the range that a difference is handed to: the loop's record is block T. B: blocks below are not turned; G: what always stands; off k: the block k is none of the body's. -/
structure TakesD (T : Nat) (B : Nat) (G : World → Prop) (off : Nat → World → Prop) (J Jx : List Ch → World → Prop) : Prop where
  good : ∀ done X, J done X → G X
  goodx : ∀ done X, Jx done X → G X
  low : ∀ done X, J done X → B ≤ X.heap.size
  above : T < B
  step : ∀ done X Y, J done X → StepB B X Y → J done Y
  stepx : ∀ done X Y, Jx done X → StepB B X Y → Jx done Y
  set : ∀ done X k o v, J done X → off k X → B ≤ k → J done (X.setCell ⟨k, o, none⟩ v)
  setx : ∀ done X k o v, Jx done X → off k X → B ≤ k → Jx done (X.setCell ⟨k, o, none⟩ v)
  offNew : ∀ done X k, J done X → X.heap.size ≤ k → off k X
  offStep : ∀ done X Y k, J done X → off k X → StepB B X Y → off k Y
  call : ∀ done X (c : Ch) (k : Nat) (p q : Bool) (x y x' y' : Int) (m : Nat), chL c = [.int .u32 (k : Int), .bool p, .bool q, .int .i64 x, .int .i64 y, .int .i64 x', .int .i64 y'] → J done X →
    YieldAt Fence.wide m Try.prog T #[.agg #[.int .u32 (k : Int), .bool p, .bool q, .int .i64 x, .int .i64 y, .int .i64 x', .int .i64 y']] X fun e X' => ∃ o : Bool, e = .returned (.bool o) ∧ KeepsFrom (T + 1) X X' ∧ (∀ k, off k X → k < X.heap.size → X'.heap[k]? = X.heap[k]? ∧ off k X') ∧ (o = true → J (done ++ [c]) X') ∧ (o = false → Jx (done ++ [c]) X')

theorem TakesD.weak {T : Nat} {B : Nat} {G G' : World → Prop} {off : Nat → World → Prop} {J Jx : List Ch → World → Prop} (h : TakesD T B G off J Jx) (hG : ∀ X, G X → G' X) : TakesD T B G' off J Jx :=
  ⟨fun d X hJ => hG _ (h.good d X hJ), fun d X hJ => hG _ (h.goodx d X hJ), h.low, h.above, h.step, h.stepx, h.set, h.setx, h.offNew, h.offStep, h.call⟩
theorem keepsFrom_up {B B' : Nat} {X Y : World} (h : KeepsFrom B X Y) (hb : B ≤ B') : KeepsFrom B' X Y := ⟨h.size, fun k o hk => h.same k o (Nat.le_trans hb hk)⟩
theorem roundIn_any {l' m m' : Nat} {P : Program} {l : Nat} {f : FuncId} {tmps : Array Value} {assign body : Code} {w : World} {R : Ending → World → Prop} (h : RoundIn Fence.wide m P l f tmps assign body w R) : RoundIn (Fence.wide.inRound l') m' P l f tmps assign body w R :=
  ⟨h.1, fun c cs _ => h.2 c cs (room_wide _)⟩

/-- How a difference ends: all of it was told, or it was told to stop. -/
def EndsC (J Jx : List Ch → World → Prop) (done L : List Ch) (e : Ending) (w' : World) : Prop := ∃ o : Bool, e = .returned (.bool o) ∧ (o = true → J (done ++ L) w') ∧ (o = false → ∃ pre, pre <+: L ∧ Jx (done ++ pre) w')

def yieldVD (T : Nat) : Value := .func (.yield T) #[] #[]

/-- Between two rounds. -/
def gID (off : Nat → World → Prop) (J : List Ch → World → Prop) (f : Nat × (Int × Int) → Ch) (done : List Ch) (T : Nat) (yb : Nat) (pre : List (Nat × (Int × Int))) (X : World) : Prop :=
  J (done ++ pre.map f) X ∧ off yb X ∧ off (yb + 1) X ∧ X.heap[yb]? = some (.cells #[yieldVD T] 101 (0, 0)) ∧ X.heap[yb + 1]? = some (.cells #[.bool false] 4 (0, 0))
def gXD (Jx : List Ch → World → Prop) (f : Nat × (Int × Int) → Ch) (done : List Ch) (yb : Nat) (pre : List (Nat × (Int × Int))) (X : World) : Prop :=
  Jx (done ++ pre.map f) X ∧ X.heap[yb + 1]? = some (.cells #[.bool false] 4 (0, 0))

theorem block_stepB {B : Nat} {X Y : World} {k : Nat} {cs : Array Value} {t : TypeId} {z : Nat × Nat} (h : X.heap[k]? = some (.cells cs t z)) (hs : StepB B X Y) : Y.heap[k]? = some (.cells cs t z) := by
  obtain ⟨row, hg, hr⟩ := hs
  refine (hg.block k (Array.getElem?_eq_some_iff.1 h).1 (fun e => ?_)).trans h
  obtain ⟨-, o, h1, h2⟩ := hr k e.symm
  rw [h] at h1
  rw [← Option.some.inj h1] at h2
  cases h2
theorem gI_stepD {T : Nat} {B : Nat} {G : World → Prop} {off : Nat → World → Prop} {J Jx : List Ch → World → Prop} (hT : TakesD T B G off J Jx) {f : Nat × (Int × Int) → Ch} {done : List Ch} {yb : Nat} {pre : List (Nat × (Int × Int))} {X Y : World} (h : gID off J f done T yb pre X) (hs : StepB B X Y) : gID off J f done T yb pre Y :=
  ⟨hT.step _ _ _ h.1 hs, hT.offStep _ _ _ _ h.1 h.2.1 hs, hT.offStep _ _ _ _ h.1 h.2.2.1 hs, block_stepB h.2.2.2.1 hs, block_stepB h.2.2.2.2 hs⟩
theorem gX_stepD {T : Nat} {B : Nat} {G : World → Prop} {off : Nat → World → Prop} {J Jx : List Ch → World → Prop} (hT : TakesD T B G off J Jx) {f : Nat × (Int × Int) → Ch} {done : List Ch} {yb : Nat} {pre : List (Nat × (Int × Int))} {X Y : World} (h : gXD Jx f done yb pre X) (hs : StepB B X Y) : gXD Jx f done yb pre Y :=
  ⟨hT.stepx _ _ _ h.1 hs, block_stepB h.2 hs⟩

set_option maxRecDepth 10000 in
set_option maxHeartbeats 1000000 in
theorem gained_anyD (T : Nat) (B : Nat) (G : World → Prop) (off : Nat → World → Prop) (J Jx : List Ch → World → Prop) (hT : TakesD T B G off J Jx) (b N l : Nat) (hl : l + N = 7) (t : Tr) (hw : t.wf N) (hGL : ∀ X, G X → Lies X t) (p : Nat) (hp : p + 16 ^ (N + 1) ≤ 4294967296) (hm : p % 16 ^ (N + 1) = 0) (done : List Ch) (w : World) (hI : IterG w b t l p 0) (h : J done w) :
    Calls Try.prog 58 #[iterV b, yieldVD T] w (EndsC J Jx done ((t.ents N p).map gainC)) := by
  refine (callsIn_wide (n := 5)).1 ?_
  have hlow := hT.low _ _ h
  have hab := hT.above
  have ha1 := (Below.refl w.heap.size w).alloc (Nat.le_refl _) (.cells #[yieldVD T] 101)
  have ha2 : Below w.heap.size w ((w.alloc (.cells #[yieldVD T] 101)).alloc (.cells #[.bool false] 4)) := ha1.alloc (by simp) _
  have hs12 := stepB_below B ha2
  have hb0 : ((w.alloc (.cells #[yieldVD T] 101)).alloc (.cells #[.bool false] 4)).heap[w.heap.size]? = some (.cells #[yieldVD T] 101 (0, 0)) := (Below.heap_alloc _ _ _ (by simp)).trans (heap_alloc_last w _)
  have hb1 : ((w.alloc (.cells #[yieldVD T] 101)).alloc (.cells #[.bool false] 4)).heap[w.heap.size + 1]? = some (.cells #[.bool false] 4 (0, 0)) := by
    have := heap_alloc_last (w.alloc (.cells #[yieldVD T] 101)) (.cells #[.bool false] 4)
    simpa using this
  have hI0 : gID off J gainC done T w.heap.size [] ((w.alloc (.cells #[yieldVD T] 101)).alloc (.cells #[.bool false] 4)) :=
    ⟨by rw [List.map_nil, List.append_nil]; exact hT.step _ _ _ h hs12, hT.offStep _ _ _ _ h (hT.offNew _ _ _ h (Nat.le_refl _)) hs12, hT.offStep _ _ _ _ h (hT.offNew _ _ _ h (Nat.le_succ _)) hs12, hb0, hb1⟩
  have hIt := hI.later ha2
  refine callsIn_of_wp_marks Try.func58 rfl trivial ?_ rfl
  simp only [Try.ntmps58, List.size_toArray, List.length_cons, List.length_nil, Nat.reduceAdd, Nat.reduceSub, Array.replicate_succ, Array.replicate_zero, List.push_toArray, List.append_toArray, List.nil_append, List.cons_append]
  unfold yieldVD iterV at *
  gi_wp2
  have hsz : ((w.alloc (.cells #[Value.func (.yield T) #[] #[]] 101)).alloc (.cells #[.bool false] 4)).heap.size = w.heap.size + 1 + 1 := by simp
  generalize ((w.alloc (.cells #[Value.func (.yield T) #[] #[]] 101)).alloc (.cells #[.bool false] 4)) = wb at *
  clear hI ha1 ha2 hs12 hb0 hb1
  have hBb : B ≤ wb.heap.size := by omega
  refine range_ents b N l hl t hw p hp hm rfl rfl (gID off J gainC done T w.heap.size) (gXD Jx gainC done w.heap.size) (fun pre X Y h hs => gI_stepD hT h (hs.mono hBb)) (fun pre X Y h hs => gX_stepD hT h (hs.mono hBb)) (fun pre X h => hGL _ (hT.good _ _ h.1)) (fun pre X h => hGL _ (hT.goodx _ _ h.1)) hIt hI0
    (fun x a' X => ∃ vb, wb.heap.size ≤ vb ∧ a' = { tmps := #[Value.func (.func 70) #[] #[.pointer (some ⟨b, 0, none⟩), .pointer (some ⟨b + 1, 0, none⟩), .pointer (some ⟨b + 1 + 1, 0, none⟩), .pointer (some ⟨b + 1 + 1 + 1, 0, none⟩)], Value.func (.yield T) #[] #[], undef, .pointer (some ⟨w.heap.size, 0, none⟩), .pointer (some ⟨w.heap.size + 1, 0, none⟩), .int .u32 (x.1 : Int), .pointer (some ⟨vb, 0, none⟩), Value.func (.func 70) #[] #[.pointer (some ⟨b, 0, none⟩), .pointer (some ⟨b + 1, 0, none⟩), .pointer (some ⟨b + 1 + 1, 0, none⟩), .pointer (some ⟨b + 1 + 1 + 1, 0, none⟩)], .int .u32 (x.1 : Int), .agg #[.int .i64 x.2.1, .int .i64 x.2.2], undef, undef, undef, undef, undef, undef], defers := [] } ∧ X.cell? ⟨vb, 0, none⟩ = some (.int .i64 x.2.1) ∧ X.cell? ⟨vb, 1, none⟩ = some (.int .i64 x.2.2))
    (fun x a' X Y ⟨vb, h1, h2, h3, h4⟩ hs => ⟨vb, h1, h2, cell_stepB h3 hs, cell_stepB h4 hs⟩) ?assign ?body ?done ?stop
  case assign =>
    intro l' pre x W K hx hIW hK'
    gi_wp2
    have hBl : w.heap.size + 1 < W.heap.size := (Array.getElem?_eq_some_iff.1 hIW.2.2.2.2).1
    refine hK' _ _ ((KeepsOthers.alloc W _).from _) (gI_stepD hT hIW (stepB_alloc _ _ _)) ⟨W.heap.size, by omega, rfl, by simp, by simp⟩
  case body =>
    rintro l' pre x a' W hx hIW ⟨vb, hvb, rfl, v0, v1⟩
    have c0 : W.cell? ⟨w.heap.size, 0, none⟩ = some (Value.func (.yield T) #[] #[]) := cell_of_row _ _ 0 _ _ _ hIW.2.2.2.1
    obtain ⟨fn, tm, asg, bod, hy, hR⟩ := hT.call _ W (gainC x) x.1 false true 0 0 x.2.1 x.2.2 3 rfl hIW.1
    gi_wp2
    refine (roundIn_any hR).mono ?_
    clear hR hy
    rintro _ X ⟨o, rfl, hKO, hoff, hJ, hX⟩
    have hlt0 := (Array.getElem?_eq_some_iff.1 hIW.2.2.2.1).1
    have hlt1 := (Array.getElem?_eq_some_iff.1 hIW.2.2.2.2).1
    obtain ⟨o0, o0'⟩ := hoff _ hIW.2.1 hlt0
    obtain ⟨o1, o1'⟩ := hoff _ hIW.2.2.1 hlt1
    have r0 := o0.trans hIW.2.2.2.1
    have r1 := o1.trans hIW.2.2.2.2
    have c1 : X.cell? ⟨w.heap.size + 1, 0, none⟩ = some (.bool false) := cell_of_row _ _ 0 _ _ _ r1
    have f1 := frozen_of_row r1 0
    have e1 : (done ++ pre.map gainC) ++ [gainC x] = done ++ (pre ++ [x]).map gainC := by simp
    rw [e1] at hJ hX
    clear o0 o1 hoff e1
    cases o with
    | true =>
      have hJ6 := hJ rfl
      clear hX hJ
      gi_wp2
      exact ⟨keepsFrom_up hKO (by omega), hJ6, o0', o1', r0, r1⟩
    | false =>
      have hX2 := hT.setx _ _ (w.heap.size + 1) 0 (.bool false) (hX rfl) o1' (by omega)
      clear hJ hX
      have r2 := heap_setCell_same X (w.heap.size + 1) 0 _ _ (.bool false) r1
      have hK2 := (keepsFrom_up hKO (show T + 1 ≤ wb.heap.size by omega)).trans ((KeepsOthers.setCell X ⟨w.heap.size + 1, 0, none⟩ (.bool false)).from _)
      gi_wp2
      exact ⟨hK2, hX2, r2⟩
  case done =>
    intro D W hD hIW hdef
    have r1 := hIW.2.2.2.2
    have c1 : W.cell? ⟨w.heap.size + 1, 0, none⟩ = some (.bool false) := cell_of_row _ _ 0 _ _ _ r1
    have f1 := frozen_of_row r1 0
    have hJ2 := hT.set _ _ (w.heap.size + 1) 0 (.bool true) hIW.1 hIW.2.2.1 (by omega)
    have hdef2 : (W.setCell ⟨w.heap.size + 1, 0, none⟩ (.bool true)).heap[D]? = some (.deferred (some [])) := (Below.heap_setCell _ _ _ D (by simp; omega)).trans hdef
    have r2 := heap_setCell_same W (w.heap.size + 1) 0 _ _ (.bool true) r1
    have hst := stepB_put (B := B) (.deferred none) (by omega) hdef2 rfl
    have r3 := block_stepB r2 hst
    have hc3 : ((W.setCell ⟨w.heap.size + 1, 0, none⟩ (.bool true)).putObj D (.deferred none)).cell? ⟨w.heap.size + 1, 0, none⟩ = some (.bool true) := cell_of_row _ _ 0 _ _ _ r3
    have hJ3 := hT.step _ _ _ hJ2 hst
    gi_wp2
    refine ⟨by simp, .inl ⟨_, _, rfl, run_takeDeferred hdef2, ?_⟩⟩
    exact ⟨.bool true, by simp [results, Try.results58, go_sem, hc3], true, rfl, fun _ => hJ3, fun e => (by cases e)⟩
  case stop =>
    intro D pre W hD hpre hIW hdef
    have hst := stepB_put (B := B) (.deferred none) (by omega) hdef rfl
    have r3 := block_stepB hIW.2 hst
    have hc3 : (W.putObj D (.deferred none)).cell? ⟨w.heap.size + 1, 0, none⟩ = some (.bool false) := cell_of_row _ _ 0 _ _ _ r3
    have hJ3 := hT.stepx _ _ _ hIW.1 hst
    gi_wp2
    refine ⟨by simp, .inl ⟨_, _, rfl, run_takeDeferred hdef, ?_⟩⟩
    exact ⟨.bool false, by simp [results, Try.results58, go_sem, hc3], false, rfl, fun e => (by cases e), fun _ => ⟨_, hpre.map _, hJ3⟩⟩

end Go.Proofs.Ytkojgbfocdefnaa


namespace Go.Proofs.Ytkojgbfocdefnaa
open Go.RowKit Go.Shelf
attribute [local go_sem] Oper.semAt_some

set_option maxRecDepth 10000 in
set_option maxHeartbeats 1000000 in
theorem lost_anyD (T : Nat) (B : Nat) (G : World → Prop) (off : Nat → World → Prop) (J Jx : List Ch → World → Prop) (hT : TakesD T B G off J Jx) (b N l : Nat) (hl : l + N = 7) (t : Tr) (hw : t.wf N) (hGL : ∀ X, G X → Lies X t) (p : Nat) (hp : p + 16 ^ (N + 1) ≤ 4294967296) (hm : p % 16 ^ (N + 1) = 0) (done : List Ch) (w : World) (hI : IterG w b t l p 0) (h : J done w) :
    Calls Try.prog 60 #[iterV b, yieldVD T] w (EndsC J Jx done ((t.ents N p).map loseC)) := by
  refine (callsIn_wide (n := 5)).1 ?_
  have hlow := hT.low _ _ h
  have hab := hT.above
  have ha1 := (Below.refl w.heap.size w).alloc (Nat.le_refl _) (.cells #[yieldVD T] 101)
  have ha2 : Below w.heap.size w ((w.alloc (.cells #[yieldVD T] 101)).alloc (.cells #[.bool false] 4)) := ha1.alloc (by simp) _
  have hs12 := stepB_below B ha2
  have hb0 : ((w.alloc (.cells #[yieldVD T] 101)).alloc (.cells #[.bool false] 4)).heap[w.heap.size]? = some (.cells #[yieldVD T] 101 (0, 0)) := (Below.heap_alloc _ _ _ (by simp)).trans (heap_alloc_last w _)
  have hb1 : ((w.alloc (.cells #[yieldVD T] 101)).alloc (.cells #[.bool false] 4)).heap[w.heap.size + 1]? = some (.cells #[.bool false] 4 (0, 0)) := by
    have := heap_alloc_last (w.alloc (.cells #[yieldVD T] 101)) (.cells #[.bool false] 4)
    simpa using this
  have hI0 : gID off J loseC done T w.heap.size [] ((w.alloc (.cells #[yieldVD T] 101)).alloc (.cells #[.bool false] 4)) :=
    ⟨by rw [List.map_nil, List.append_nil]; exact hT.step _ _ _ h hs12, hT.offStep _ _ _ _ h (hT.offNew _ _ _ h (Nat.le_refl _)) hs12, hT.offStep _ _ _ _ h (hT.offNew _ _ _ h (Nat.le_succ _)) hs12, hb0, hb1⟩
  have hIt := hI.later ha2
  refine callsIn_of_wp_marks Try.func60 rfl trivial ?_ rfl
  simp only [Try.ntmps60, List.size_toArray, List.length_cons, List.length_nil, Nat.reduceAdd, Nat.reduceSub, Array.replicate_succ, Array.replicate_zero, List.push_toArray, List.append_toArray, List.nil_append, List.cons_append]
  unfold yieldVD iterV at *
  gi_wp2
  have hsz : ((w.alloc (.cells #[Value.func (.yield T) #[] #[]] 101)).alloc (.cells #[.bool false] 4)).heap.size = w.heap.size + 1 + 1 := by simp
  generalize ((w.alloc (.cells #[Value.func (.yield T) #[] #[]] 101)).alloc (.cells #[.bool false] 4)) = wb at *
  clear hI ha1 ha2 hs12 hb0 hb1
  have hBb : B ≤ wb.heap.size := by omega
  refine range_ents b N l hl t hw p hp hm rfl rfl (gID off J loseC done T w.heap.size) (gXD Jx loseC done w.heap.size) (fun pre X Y h hs => gI_stepD hT h (hs.mono hBb)) (fun pre X Y h hs => gX_stepD hT h (hs.mono hBb)) (fun pre X h => hGL _ (hT.good _ _ h.1)) (fun pre X h => hGL _ (hT.goodx _ _ h.1)) hIt hI0
    (fun x a' X => ∃ vb, wb.heap.size ≤ vb ∧ a' = { tmps := #[Value.func (.func 70) #[] #[.pointer (some ⟨b, 0, none⟩), .pointer (some ⟨b + 1, 0, none⟩), .pointer (some ⟨b + 1 + 1, 0, none⟩), .pointer (some ⟨b + 1 + 1 + 1, 0, none⟩)], Value.func (.yield T) #[] #[], undef, .pointer (some ⟨w.heap.size, 0, none⟩), .pointer (some ⟨w.heap.size + 1, 0, none⟩), .int .u32 (x.1 : Int), .pointer (some ⟨vb, 0, none⟩), Value.func (.func 70) #[] #[.pointer (some ⟨b, 0, none⟩), .pointer (some ⟨b + 1, 0, none⟩), .pointer (some ⟨b + 1 + 1, 0, none⟩), .pointer (some ⟨b + 1 + 1 + 1, 0, none⟩)], .int .u32 (x.1 : Int), .agg #[.int .i64 x.2.1, .int .i64 x.2.2], undef, undef, undef, undef, undef, undef], defers := [] } ∧ X.cell? ⟨vb, 0, none⟩ = some (.int .i64 x.2.1) ∧ X.cell? ⟨vb, 1, none⟩ = some (.int .i64 x.2.2))
    (fun x a' X Y ⟨vb, h1, h2, h3, h4⟩ hs => ⟨vb, h1, h2, cell_stepB h3 hs, cell_stepB h4 hs⟩) ?assign ?body ?done ?stop
  case assign =>
    intro l' pre x W K hx hIW hK'
    gi_wp2
    have hBl : w.heap.size + 1 < W.heap.size := (Array.getElem?_eq_some_iff.1 hIW.2.2.2.2).1
    refine hK' _ _ ((KeepsOthers.alloc W _).from _) (gI_stepD hT hIW (stepB_alloc _ _ _)) ⟨W.heap.size, by omega, rfl, by simp, by simp⟩
  case body =>
    rintro l' pre x a' W hx hIW ⟨vb, hvb, rfl, v0, v1⟩
    have c0 : W.cell? ⟨w.heap.size, 0, none⟩ = some (Value.func (.yield T) #[] #[]) := cell_of_row _ _ 0 _ _ _ hIW.2.2.2.1
    obtain ⟨fn, tm, asg, bod, hy, hR⟩ := hT.call _ W (loseC x) x.1 true false x.2.1 x.2.2 0 0 3 rfl hIW.1
    gi_wp2
    refine (roundIn_any hR).mono ?_
    clear hR hy
    rintro _ X ⟨o, rfl, hKO, hoff, hJ, hX⟩
    have hlt0 := (Array.getElem?_eq_some_iff.1 hIW.2.2.2.1).1
    have hlt1 := (Array.getElem?_eq_some_iff.1 hIW.2.2.2.2).1
    obtain ⟨o0, o0'⟩ := hoff _ hIW.2.1 hlt0
    obtain ⟨o1, o1'⟩ := hoff _ hIW.2.2.1 hlt1
    have r0 := o0.trans hIW.2.2.2.1
    have r1 := o1.trans hIW.2.2.2.2
    have c1 : X.cell? ⟨w.heap.size + 1, 0, none⟩ = some (.bool false) := cell_of_row _ _ 0 _ _ _ r1
    have f1 := frozen_of_row r1 0
    have e1 : (done ++ pre.map loseC) ++ [loseC x] = done ++ (pre ++ [x]).map loseC := by simp
    rw [e1] at hJ hX
    clear o0 o1 hoff e1
    cases o with
    | true =>
      have hJ6 := hJ rfl
      clear hX hJ
      gi_wp2
      exact ⟨keepsFrom_up hKO (by omega), hJ6, o0', o1', r0, r1⟩
    | false =>
      have hX2 := hT.setx _ _ (w.heap.size + 1) 0 (.bool false) (hX rfl) o1' (by omega)
      clear hJ hX
      have r2 := heap_setCell_same X (w.heap.size + 1) 0 _ _ (.bool false) r1
      have hK2 := (keepsFrom_up hKO (show T + 1 ≤ wb.heap.size by omega)).trans ((KeepsOthers.setCell X ⟨w.heap.size + 1, 0, none⟩ (.bool false)).from _)
      gi_wp2
      exact ⟨hK2, hX2, r2⟩
  case done =>
    intro D W hD hIW hdef
    have r1 := hIW.2.2.2.2
    have c1 : W.cell? ⟨w.heap.size + 1, 0, none⟩ = some (.bool false) := cell_of_row _ _ 0 _ _ _ r1
    have f1 := frozen_of_row r1 0
    have hJ2 := hT.set _ _ (w.heap.size + 1) 0 (.bool true) hIW.1 hIW.2.2.1 (by omega)
    have hdef2 : (W.setCell ⟨w.heap.size + 1, 0, none⟩ (.bool true)).heap[D]? = some (.deferred (some [])) := (Below.heap_setCell _ _ _ D (by simp; omega)).trans hdef
    have r2 := heap_setCell_same W (w.heap.size + 1) 0 _ _ (.bool true) r1
    have hst := stepB_put (B := B) (.deferred none) (by omega) hdef2 rfl
    have r3 := block_stepB r2 hst
    have hc3 : ((W.setCell ⟨w.heap.size + 1, 0, none⟩ (.bool true)).putObj D (.deferred none)).cell? ⟨w.heap.size + 1, 0, none⟩ = some (.bool true) := cell_of_row _ _ 0 _ _ _ r3
    have hJ3 := hT.step _ _ _ hJ2 hst
    gi_wp2
    refine ⟨by simp, .inl ⟨_, _, rfl, run_takeDeferred hdef2, ?_⟩⟩
    exact ⟨.bool true, by simp [results, Try.results60, go_sem, hc3], true, rfl, fun _ => hJ3, fun e => (by cases e)⟩
  case stop =>
    intro D pre W hD hpre hIW hdef
    have hst := stepB_put (B := B) (.deferred none) (by omega) hdef rfl
    have r3 := block_stepB hIW.2 hst
    have hc3 : (W.putObj D (.deferred none)).cell? ⟨w.heap.size + 1, 0, none⟩ = some (.bool false) := cell_of_row _ _ 0 _ _ _ r3
    have hJ3 := hT.stepx _ _ _ hIW.1 hst
    gi_wp2
    refine ⟨by simp, .inl ⟨_, _, rfl, run_takeDeferred hdef, ?_⟩⟩
    exact ⟨.bool false, by simp [results, Try.results60, go_sem, hc3], false, rfl, fun e => (by cases e), fun _ => ⟨_, hpre.map _, hJ3⟩⟩

end Go.Proofs.Ytkojgbfocdefnaa


namespace Go.Proofs.Ytkojgbfocdefnaa
open Go.RowKit Go.Shelf
attribute [local go_sem] Oper.semAt_some

/-- Trees that hang on one node hold the same. -/
theorem lies_get {X : World} : ∀ (n : Nat) {a b : Tr}, a.wf n → b.wf n → Lies X a → Lies X b → a.ptr = b.ptr → ∀ r, a.get n r = b.get n r
  | 0, a, b, ha, hb, la, lb, he, r => by
    cases a with
    | node => exact absurd ha.1 (by omega)
    | nil =>
      cases b with
      | nil => rfl
      | node => cases he
      | leaf => cases he
    | leaf c s th vk vn =>
      cases b with
      | nil => cases he
      | node => exact absurd hb.1 (by omega)
      | leaf c' s' th' vk' vn' =>
        obtain rfl : c = c' := congrArg Addr.block (Option.some.inj (Value.pointer.inj he))
        have hs : s = s' := by
          have h1 := la.1.shelf
          have h2 := lb.1.shelf
          rw [h1] at h2
          exact congrArg Addr.block (Option.some.inj (Value.pointer.inj (Option.some.inj h2)))
        subst hs
        have hd := dg_lt r 0
        have t1 := la.2.th hd
        rw [lb.2.th hd] at t1
        have e1 : th' (dg r 0) = th (dg r 0) := Value.bool.inj (Option.some.inj t1)
        have v1 := (la.2.val hd).1
        rw [(lb.2.val hd).1] at v1
        have e2 : vk' (dg r 0) = vk (dg r 0) := (Value.int.inj (Option.some.inj v1)).2
        have v2 := (la.2.val hd).2
        rw [(lb.2.val hd).2] at v2
        have e3 : vn' (dg r 0) = vn (dg r 0) := (Value.int.inj (Option.some.inj v2)).2
        show (if th (dg r 0) = true then some (vk (dg r 0), vn (dg r 0)) else none) = (if th' (dg r 0) = true then some (vk' (dg r 0), vn' (dg r 0)) else none)
        rw [e1, e2, e3]
  | n + 1, a, b, ha, hb, la, lb, he, r => by
    cases a with
    | leaf => exact absurd ha.1 (by omega)
    | nil =>
      cases b with
      | nil => rfl
      | node => cases he
      | leaf => cases he
    | node c kids =>
      cases b with
      | nil => cases he
      | leaf => exact absurd hb.1 (by omega)
      | node c' kids' =>
        obtain rfl : c = c' := congrArg Addr.block (Option.some.inj (Value.pointer.inj he))
        have hd := dg_lt r (n + 1)
        have h1 := la.1.kid hd
        rw [lb.1.kid hd] at h1
        have e1 : (kids' (dg r (n + 1))).ptr = (kids (dg r (n + 1))).ptr := Option.some.inj h1
        exact lies_get n (ha.2.1 _ hd) (hb.2.1 _ hd) (la.2 _ hd) (lb.2 _ hd) e1.symm r

theorem dif_one {X : World} {n : Nat} {a b : Tr} (ha : a.wf n) (hb : b.wf n) (la : Lies X a) (lb : Lies X b) (he : a.ptr = b.ptr) (p : Nat) : a.dif b n p = [] := by
  unfold Tr.dif
  rw [List.filterMap_eq_nil_iff]
  intro r _
  rw [if_pos (lies_get n ha hb la lb he r)]

theorem at_leaf {b s : Nat} {th : Nat → Bool} {vk vn : Nat → Int} (hw : (Tr.leaf b s th vk vn).wf 0) {i : Nat} (hi : i < 16) : ((Tr.leaf b s th vk vn).at i).isSome = th i ∧ ((Tr.leaf b s th vk vn).at i).getD (0, 0) = (vk i, vn i) := by
  unfold Tr.at
  show (if th i = true then some (vk i, vn i) else none).isSome = th i ∧ (if th i = true then some (vk i, vn i) else none).getD (0, 0) = (vk i, vn i)
  cases h : th i with
  | true => exact ⟨rfl, rfl⟩
  | false =>
    obtain ⟨h1, h2⟩ := hw.2.1 i hi h
    rw [h1, h2]
    exact ⟨rfl, rfl⟩

set_option maxRecDepth 8000 in
set_option maxHeartbeats 1000000 in
theorem shelves_anyD (T : Nat) (B : Nat) (off : Nat → World → Prop) (J Jx : List Ch → World → Prop) (ba sa : Nat) (tha : Nat → Bool) (vka vna : Nat → Int) (bb sb : Nat) (thb : Nat → Bool) (vkb vnb : Nat → Int) (hwa : (Tr.leaf ba sa tha vka vna).wf 0) (hwb : (Tr.leaf bb sb thb vkb vnb).wf 0)
    (hT : TakesD T B (fun X => Lies X (.leaf ba sa tha vka vna) ∧ Lies X (.leaf bb sb thb vkb vnb)) off J Jx) (p : Nat) (hp : p + 16 ≤ 4294967296) (hm : p % 16 = 0) (done : List Ch) (w : World) (h : J done w) :
    Calls Try.prog 61 #[.pointer (some ⟨sa, 0, none⟩), .pointer (some ⟨sb, 0, none⟩), .int .u32 (p : Int), yieldVD T] w (EndsC J Jx done (difl (.leaf ba sa tha vka vna) (.leaf bb sb thb vkb vnb) p 16)) := by
  go_enter Try.func61, Try.ntmps61
  unfold yieldVD
  go_wp2
  go_loopw [11] (fun x wr => ∃ j : Nat, j ≤ 16 ∧ x = .int .i64 j ∧ J (done ++ difl (.leaf ba sa tha vka vna) (.leaf bb sb thb vkb vnb) p j) wr) (fun x _ => 16 - (intOf x).toNat)
  case atStart => exact ⟨0, by omega, rfl, by rw [difl_zero, List.append_nil]; exact h⟩
  case round =>
    obtain ⟨j, hj, rfl, hJ⟩ := hrel
    clear h
    by_cases hlt : j < 16
    · have hlt' : (j : Int) < 16 := by omega
      have hj0 : (0 : Int) ≤ (j : Int) := by omega
      obtain ⟨k, hk⟩ : ∃ k, p + j = k := ⟨_, rfl⟩
      have hhd := head_bottom p j k hk (by omega) hm hlt
      have hSh : ∀ X, Below wr.heap.size wr X → ShelfAt X sa tha vka vna ∧ ShelfAt X sb thb vkb vnb := fun X hb => by
        have := hT.good _ _ (hT.step _ _ X hJ (stepB_below B hb))
        exact ⟨this.1.2, this.2.2⟩
      have hbA : ∀ o, Below wr.heap.size wr (wr.alloc o) := fun o => (Below.refl _ _).alloc (Nat.le_refl _) o
      have aA := at_leaf hwa hlt
      have aB := at_leaf hwb hlt
      have hch : chL (k, ((Tr.leaf ba sa tha vka vna).at j, (Tr.leaf bb sb thb vkb vnb).at j)) = [.int .u32 (k : Int), .bool (tha j), .bool (thb j), .int .i64 (vka j), .int .i64 (vna j), .int .i64 (vkb j), .int .i64 (vnb j)] := by
        simp only [chL]
        rw [aA.1, aA.2, aB.1, aB.2]
      have hNe : Hid ((Tr.leaf ba sa tha vka vna).at j = (Tr.leaf bb sb thb vkb vnb).at j ↔ tha j = thb j ∧ vka j = vkb j ∧ vna j = vnb j) := by
        constructor
        · intro e
          have e1 := aA.1
          have e2 := aA.2
          rw [e, aB.1] at e1
          rw [e, aB.2] at e2
          exact ⟨e1.symm, (congrArg Prod.fst e2).symm, (congrArg Prod.snd e2).symm⟩
        · rintro ⟨e1, e2, e3⟩
          show (if tha j = true then some (vka j, vna j) else none) = (if thb j = true then some (vkb j, vnb j) else none)
          rw [e1, e2, e3]
      have hK : Hid (p + j = k) := hk
      have hCh : Hid (chL (k, ((Tr.leaf ba sa tha vka vna).at j, (Tr.leaf bb sb thb vkb vnb).at j)) = [.int .u32 (k : Int), .bool (tha j), .bool (thb j), .int .i64 (vka j), .int .i64 (vna j), .int .i64 (vkb j), .int .i64 (vnb j)]) := hch
      have hLa := fun X hb => look_any sa j hlt tha vka vna X (hSh X hb).1
      have hLb := fun X hb => look_any sb j hlt thb vkb vnb X (hSh X hb).2
      have hSame : Hid ((Tr.leaf ba sa tha vka vna).at j = (Tr.leaf bb sb thb vkb vnb).at j → difl (.leaf ba sa tha vka vna) (.leaf bb sb thb vkb vnb) p (j + 1) = difl (.leaf ba sa tha vka vna) (.leaf bb sb thb vkb vnb) p j) := fun e => difl_same e
      have hOther : Hid (¬ (Tr.leaf ba sa tha vka vna).at j = (Tr.leaf bb sb thb vkb vnb).at j → difl (.leaf ba sa tha vka vna) (.leaf bb sb thb vkb vnb) p (j + 1) = difl (.leaf ba sa tha vka vna) (.leaf bb sb thb vkb vnb) p j ++ [(k, ((Tr.leaf ba sa tha vka vna).at j, (Tr.leaf bb sb thb vkb vnb).at j))]) := fun e => by rw [difl_other e, hk]
      have hJs : ∀ X, Below wr.heap.size wr X → J (done ++ difl (.leaf ba sa tha vka vna) (.leaf bb sb thb vkb vnb) p j) X := fun X hb => hT.step _ _ X hJ (stepB_below B hb)
      have hcl := fun X hb => hT.call _ X (k, ((Tr.leaf ba sa tha vka vna).at j, (Tr.leaf bb sb thb vkb vnb).at j)) k (tha j) (thb j) (vka j) (vna j) (vkb j) (vnb j) 3 hch (hJs X hb)
      generalize (Tr.leaf ba sa tha vka vna).at j = oa at *
      generalize (Tr.leaf bb sb thb vkb vnb).at j = ob at *
      generalize tha j = A at *
      generalize vka j = x at *
      generalize vna j = y at *
      generalize thb j = A' at *
      generalize vkb j = x' at *
      generalize vnb j = y' at *
      clear hk hch aA aB hCh hSh hK
      by_cases heq : oa = ob
      · obtain ⟨rfl, rfl, rfl⟩ := hNe.out.1 heq
        have e0 : (A != A) = false := by cases A <;> rfl
        have e1 : (x == x) = true := by simp
        have e2 : (y == y) = true := by simp
        have hStep := hSame.out heq
        have hSt : Hid (difl (.leaf ba sa tha vka vna) (.leaf bb sb thb vkb vnb) p (j + 1) = difl (.leaf ba sa tha vka vna) (.leaf bb sb thb vkb vnb) p j) := hStep
        clear hStep hSame hOther hNe heq hcl
        go_wp2_with (first | (go_at_call 62; refine (hhd _).mono ?_; rintro e w4 ⟨rfl, h4⟩; subst w4) | (go_at_call_of 66 (Value.pointer (some ⟨sa, 0, none⟩)); refine (hLa _ (hbA _)).mono ?_; rintro e w5 ⟨rfl, hb5⟩; have hbw5 := below_step (hbA _) hb5; have r5 := (hb5.block wr.heap.size (by simp)).trans (heap_alloc_last wr _); have q1 := cell_of_row _ _ 1 _ _ _ r5; have q2 := cell_of_row _ _ 2 _ _ _ r5; have q3 := cell_of_row _ _ 3 _ _ _ r5; have q4 := cell_of_row _ _ 4 _ _ _ r5; have f1 := frozen_of_row r5 1; have f3 := frozen_of_row r5 3; have f4 := frozen_of_row r5 4) | (go_at_call 66; refine (hLb _ (((hbw5.setCell (Nat.le_refl _) _).setCell (Nat.le_refl _) _).setCell (Nat.le_refl _) _)).mono ?_; rintro e w6 ⟨rfl, hb6⟩; have hbw6 := below_step (((hbw5.setCell (p := ⟨wr.heap.size, 3, none⟩) (Nat.le_refl _) (.int .i64 x)).setCell (p := ⟨wr.heap.size, 4, none⟩) (Nat.le_refl _) (.int .i64 y)).setCell (p := ⟨wr.heap.size, 1, none⟩) (Nat.le_refl _) (.bool A)) hb6; have s1 := heap_setCell_same w5 wr.heap.size 3 _ _ (.int .i64 x) r5; have s2 := heap_setCell_same _ wr.heap.size 4 _ _ (.int .i64 y) s1; have s3 := heap_setCell_same _ wr.heap.size 1 _ _ (.bool A) s2; have r6 := (hb6.block wr.heap.size (Array.getElem?_eq_some_iff.1 s3).1).trans s3; have p0 : w6.cell? ⟨wr.heap.size, 0, none⟩ = some (.int .u32 (k : Int)) := cell_of_row _ _ 0 _ _ _ r6; have p1 : w6.cell? ⟨wr.heap.size, 1, none⟩ = some (.bool A) := cell_of_row _ _ 1 _ _ _ r6; have p2 : w6.cell? ⟨wr.heap.size, 2, none⟩ = some (.bool false) := cell_of_row _ _ 2 _ _ _ r6; have p3 : w6.cell? ⟨wr.heap.size, 3, none⟩ = some (.int .i64 x) := cell_of_row _ _ 3 _ _ _ r6; have p4 : w6.cell? ⟨wr.heap.size, 4, none⟩ = some (.int .i64 y) := cell_of_row _ _ 4 _ _ _ r6; have p5 : w6.cell? ⟨wr.heap.size, 5, none⟩ = some (.int .i64 0) := cell_of_row _ _ 5 _ _ _ r6; have p6 : w6.cell? ⟨wr.heap.size, 6, none⟩ = some (.int .i64 0) := cell_of_row _ _ 6 _ _ _ r6; have g2 := frozen_of_row r6 2; have g5 := frozen_of_row r6 5; have g6 := frozen_of_row r6 6; clear q1 q2 q3 q4 f1 f3 f4 s1 s2 s3 r5 hb5 hb6 hbw5))
        go_roundw
        case rel => exact ⟨j + 1, by omega, by go_num, by rw [hSt.out]; exact hJs _ (((hbw6.setCell (Nat.le_refl _) _).setCell (Nat.le_refl _) _).setCell (Nat.le_refl _) _)⟩
        case measure => simp [intOf]; omega
      · have hStep := hOther.out heq
        have hSt : Hid (difl (.leaf ba sa tha vka vna) (.leaf bb sb thb vkb vnb) p (j + 1) = difl (.leaf ba sa tha vka vna) (.leaf bb sb thb vkb vnb) p j ++ [(k, (oa, ob))]) := hStep
        have hcase : ¬ A = A' ∨ (A = A' ∧ ¬ x = x') ∨ (A = A' ∧ x = x' ∧ ¬ y = y') := by
          by_cases h1 : A = A'
          · by_cases h2 : x = x'
            · by_cases h3 : y = y'
              · exact absurd (hNe.out.2 ⟨h1, h2, h3⟩) heq
              · exact .inr (.inr ⟨h1, h2, h3⟩)
            · exact .inr (.inl ⟨h1, h2⟩)
          · exact .inl h1
        clear hStep hSame hOther hNe heq
        have hbZ : ∀ X, Below wr.heap.size wr X → ∀ u v b, Below wr.heap.size wr (((X.setCell ⟨wr.heap.size, 5, none⟩ u).setCell ⟨wr.heap.size, 6, none⟩ v).setCell ⟨wr.heap.size, 2, none⟩ b) := fun X hX u v b => ((hX.setCell (p := ⟨wr.heap.size, 5, none⟩) (Nat.le_refl _) _).setCell (p := ⟨wr.heap.size, 6, none⟩) (Nat.le_refl _) _).setCell (p := ⟨wr.heap.size, 2, none⟩) (Nat.le_refl _) _
        rcases hcase with e0 | ⟨rfl, e1⟩ | ⟨rfl, rfl, e2⟩
        all_goals
          go_upto_region 7 with (first | (go_at_call 62; refine (hhd _).mono ?_; rintro e w4 ⟨rfl, h4⟩; subst w4) | (go_at_call_of 66 (Value.pointer (some ⟨sa, 0, none⟩)); refine (hLa _ (hbA _)).mono ?_; rintro e w5 ⟨rfl, hb5⟩; have hbw5 := below_step (hbA _) hb5; have r5 := (hb5.block wr.heap.size (by simp)).trans (heap_alloc_last wr _); have q1 := cell_of_row _ _ 1 _ _ _ r5; have q2 := cell_of_row _ _ 2 _ _ _ r5; have q3 := cell_of_row _ _ 3 _ _ _ r5; have q4 := cell_of_row _ _ 4 _ _ _ r5; have f1 := frozen_of_row r5 1; have f3 := frozen_of_row r5 3; have f4 := frozen_of_row r5 4) | (go_at_call 66; refine (hLb _ (((hbw5.setCell (Nat.le_refl _) _).setCell (Nat.le_refl _) _).setCell (Nat.le_refl _) _)).mono ?_; rintro e w6 ⟨rfl, hb6⟩; have hbw6 := below_step (((hbw5.setCell (p := ⟨wr.heap.size, 3, none⟩) (Nat.le_refl _) (.int .i64 x)).setCell (p := ⟨wr.heap.size, 4, none⟩) (Nat.le_refl _) (.int .i64 y)).setCell (p := ⟨wr.heap.size, 1, none⟩) (Nat.le_refl _) (.bool A)) hb6; have s1 := heap_setCell_same w5 wr.heap.size 3 _ _ (.int .i64 x) r5; have s2 := heap_setCell_same _ wr.heap.size 4 _ _ (.int .i64 y) s1; have s3 := heap_setCell_same _ wr.heap.size 1 _ _ (.bool A) s2; have r6 := (hb6.block wr.heap.size (Array.getElem?_eq_some_iff.1 s3).1).trans s3; have p0 : w6.cell? ⟨wr.heap.size, 0, none⟩ = some (.int .u32 (k : Int)) := cell_of_row _ _ 0 _ _ _ r6; have p1 : w6.cell? ⟨wr.heap.size, 1, none⟩ = some (.bool A) := cell_of_row _ _ 1 _ _ _ r6; have p2 : w6.cell? ⟨wr.heap.size, 2, none⟩ = some (.bool false) := cell_of_row _ _ 2 _ _ _ r6; have p3 : w6.cell? ⟨wr.heap.size, 3, none⟩ = some (.int .i64 x) := cell_of_row _ _ 3 _ _ _ r6; have p4 : w6.cell? ⟨wr.heap.size, 4, none⟩ = some (.int .i64 y) := cell_of_row _ _ 4 _ _ _ r6; have p5 : w6.cell? ⟨wr.heap.size, 5, none⟩ = some (.int .i64 0) := cell_of_row _ _ 5 _ _ _ r6; have p6 : w6.cell? ⟨wr.heap.size, 6, none⟩ = some (.int .i64 0) := cell_of_row _ _ 6 _ _ _ r6; have g2 := frozen_of_row r6 2; have g5 := frozen_of_row r6 5; have g6 := frozen_of_row r6 6; clear q1 q2 q3 q4 f1 f3 f4 s1 s2 s3 r5 hb5 hb6 hbw5))
          first
            | have hYd := hcl _ (hbZ w6 hbw6 (.int .i64 x') (.int .i64 y') (.bool A'))
            | have hYd := hcl _ (hbZ w6 hbw6 (.int .i64 x') (.int .i64 y') (.bool A))
            | have hYd := hcl _ (hbZ w6 hbw6 (.int .i64 x) (.int .i64 y') (.bool A))
          obtain ⟨fn, tm, asg, bod, hy, hR⟩ := hYd
          refine (wpIn_wide (n := 4)).1 ?_
          gi_wp2
          refine (roundIn_depth hR).mono ?_
          rintro e w7 ⟨o, rfl, -, -, hJ7, hX7⟩
          rw [List.append_assoc, ← hSt.out] at hJ7 hX7
          cases o with
          | true =>
            have hJ8 := hJ7 rfl
            clear hJ7 hX7
            gi_wp2
            go_wp2
            go_roundw
            case rel => exact ⟨j + 1, by omega, by go_num, hJ8⟩
            case measure => simp [intOf]; omega
          | false =>
            have hX8 := hX7 rfl
            clear hJ7 hX7
            gi_wp2
            go_wp2
            go_ret
            exact ⟨false, rfl, fun e => (by cases e), fun _ => ⟨_, difl_prefix _ _ _ (by omega), hX8⟩⟩
    · obtain rfl : j = 16 := by omega
      go_wp2
      go_ret
      exact ⟨true, rfl, fun _ => hJ, fun e => (by cases e)⟩

end Go.Proofs.Ytkojgbfocdefnaa

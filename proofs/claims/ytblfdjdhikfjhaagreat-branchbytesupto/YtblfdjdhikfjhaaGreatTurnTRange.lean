import Derived.Test.YtblfdjdhikfjhaaGreatTurnTSrchY
import Derived.Test.YtblfdjdhikfjhaaGreatJoin36
import Derived.RangeFuncWrites
namespace Go.Proofs.YtblfdjdhikfjhaaGreat
open Go.RowKit Go.Shelf

/-- What a statement's own book-keeping may turn: a block from B on that is no cells. -/
def StepB (B : Nat) (X Y : World) : Prop := ∃ row, X.grownBy Y row ∧ ∀ r, row = some r → B ≤ r ∧ ∃ o : Obj, X.heap[r]? = some o ∧ o.isCells = false
theorem stepB_put {B l : Nat} {X : World} {o : Obj} (o' : Obj) (hl : B ≤ l) (h : X.heap[l]? = some o) (hc : o.isCells = false) : StepB B X (X.putObj l o') :=
  ⟨some l, grownBy_putObj' X l o', fun r e => by cases e; exact ⟨hl, o, h, hc⟩⟩
theorem stepB_alloc (B : Nat) (X : World) (o : Obj) : StepB B X (X.alloc o) := ⟨none, World.grownBy_alloc X o none, fun r e => by cases e⟩
theorem stepB_below (B : Nat) {X Y : World} (h : Below X.heap.size X Y) : StepB B X Y := ⟨none, grown_of_belowB h, fun r e => by cases e⟩
theorem StepB.mono {B B' : Nat} {X Y : World} (h : StepB B X Y) (hb : B' ≤ B) : StepB B' X Y := by
  obtain ⟨row, hg, hr⟩ := h
  exact ⟨row, hg, fun r e => ⟨Nat.le_trans hb (hr r e).1, (hr r e).2⟩⟩
theorem StepB.below {B : Nat} {W X Y : World} (h : StepB B X Y) (hW : Below B W X) (hB : B ≤ X.heap.size) : Below B W Y := by
  obtain ⟨row, hg, hr⟩ := h
  exact hW.grown hg hB (fun k e => (hr k e).1)

theorem lies_off {W : World} {r : Nat} {o : Obj} (ho : W.heap[r]? = some o) (hc : o.isCells = false) : ∀ {t : Tr}, Lies W t → t.avoid r := by
  have key : ∀ {c : Nat} {cs : Array Value} {ty : TypeId} {z : Nat × Nat}, W.heap[c]? = some (.cells cs ty z) → c ≠ r := by
    intro c cs ty z h e
    subst e
    rw [h] at ho
    rw [← Option.some.inj ho] at hc
    cases hc
  intro t
  induction t with
  | nil => intro _; trivial
  | node c kids ih => intro h; exact ⟨key h.1, fun i hi => ih i (h.2 i hi)⟩
  | leaf c s th vk vn => intro h; exact ⟨key h.1, key h.2⟩
theorem lies_stepB {B : Nat} {X Y : World} {t : Tr} (h : Lies X t) (hs : StepB B X Y) : Lies Y t := by
  obtain ⟨row, hg, hr⟩ := hs
  exact lies_grown hg h (fun r e => by obtain ⟨-, o, h1, h2⟩ := hr r e; exact lies_off h1 h2 h)

theorem cell_stepB {B : Nat} {X Y : World} {p : Addr} {v : Value} (h : X.cell? p = some v) (hs : StepB B X Y) : Y.cell? p = some v := by
  obtain ⟨row, hg, hr⟩ := hs
  exact cell_kept h hg (fun r e => (hr r e).2)
theorem frozen_stepB {B : Nat} {X Y : World} {p : Addr} {v : Value} (h : X.cell? p = some v) (hf : X.frozen? p = false) (hs : StepB B X Y) : Y.frozen? p = false := by
  obtain ⟨row, hg, hr⟩ := hs
  exact (frozen_kept h hg (fun r e => (hr r e).2)).trans hf

/-- How a round is left: it goes on, or the function is left. -/
def entPost (B : Nat) (I Ix : List (Nat × (Int × Int)) → World → Prop) (xs : List (Nat × (Int × Int))) (W : World) : Exit → Act → World → Prop
  | .normal, _, W' => KeepsFrom B W W' ∧ I xs W'
  | .ret, _, W' => KeepsFrom B W W' ∧ Ix xs W'
  | _, _, _ => False

theorem roundIn_depth {n m : Nat} {P : Program} {l : Nat} {f : FuncId} {tmps : Array Value} {assign body : Code} {w : World} {R : Ending → World → Prop} (h : RoundIn Fence.wide n P l f tmps assign body w R) : RoundIn Fence.wide m P l f tmps assign body w R :=
  ⟨h.1, fun c cs _ => h.2 c cs (room_wide _)⟩

set_option maxHeartbeats 1000000 in
/-- The statement 'for id, v := range entries', of an iterator over a node; its body may leave the function. -/
theorem range_ents {n : Nat} {g : Operand} {ps : Array Tmp} {assign body : Code} {Q : Exit → Act → World → Prop} {a : Act} {w : World} (b N l : Nat) (hl : l + N = 7) (t : Tr) (hw : t.wf N) (p : Nat) (hp : p + 16 ^ (N + 1) ≤ 4294967296) (hm : p % 16 ^ (N + 1) = 0)
    (hg : a.eval g = .func (.func 79) #[] #[.pointer (some ⟨b, 0, none⟩), .pointer (some ⟨b + 1, 0, none⟩), .pointer (some ⟨b + 1 + 1, 0, none⟩), .pointer (some ⟨b + 1 + 1 + 1, 0, none⟩)]) (hps : ps.size = 2) (I Ix : List (Nat × (Int × Int)) → World → Prop)
    (hI : ∀ pre X Y, I pre X → StepB w.heap.size X Y → I pre Y) (hIx : ∀ pre X Y, Ix pre X → StepB w.heap.size X Y → Ix pre Y) (hLi : ∀ pre X, I pre X → Lies X t) (hLx : ∀ pre X, Ix pre X → Lies X t)
    (hG : IterG w b t l p 0) (h0 : I [] w) (Ax : Nat × (Int × Int) → Act → World → Prop) (hAx : ∀ x a' X Y, Ax x a' X → StepB w.heap.size X Y → Ax x a' Y)
    (hassign : ∀ (l : Nat) (pre : List (Nat × (Int × Int))) (x : Nat × (Int × Int)) (W : World) (K : Act → World → Prop), x.1 < 4294967296 → I pre W → (∀ a' W', KeepsFrom w.heap.size W W' → I pre W' → Ax x a' W' → K a' W') → assign.wpIn (Fence.wide.inRound l) 3 Tryz.prog (Exit.then K (fun _ _ _ => False)) { tmps := (ps.zip (encE x.1 x.2.1 x.2.2)).foldl (fun t (p, v) => t.setIfInBounds p v) a.tmps, defers := [] } W)
    (hbody : ∀ (l : Nat) (pre : List (Nat × (Int × Int))) (x : Nat × (Int × Int)) (a' : Act) (W : World), x.1 < 4294967296 → pre ++ [x] <+: t.ents N p → I pre W → Ax x a' W → body.wpIn (Fence.wide.inRound l) 3 Tryz.prog (entPost w.heap.size I Ix (pre ++ [x]) W) a' W)
    (hdone : ∀ (D : Nat) (W : World), w.heap.size ≤ D → I (t.ents N p) W → W.heap[D]? = some (.deferred (some [])) → Q .normal { a with defers := { target := .collected D, args := #[] } :: a.defers } W)
    (hstop : ∀ (D : Nat) (pre : List (Nat × (Int × Int))) (W : World), w.heap.size ≤ D → pre <+: t.ents N p → Ix pre W → W.heap[D]? = some (.deferred (some [])) → Code.ret.wpIn Fence.wide n Tryz.prog Q { a with defers := { target := .collected D, args := #[] } :: a.defers } W) :
    (Code.rangeFunc g ps assign body).wpIn Fence.wide n Tryz.prog Q a w := by
  refine wpIn_rangeFunc fun fn hfn => ?_
  obtain ⟨L, hL⟩ : ∃ L : LoopState → Option Code → Loop, L = fun st pe => { state := st, pending := pe, fn := fn, tmps := a.tmps, params := ps, assign := assign, body := body, defers := w.heap.size } := ⟨_, rfl⟩
  obtain ⟨V, hV⟩ : ∃ V, (w.alloc (.deferred (some []))).alloc (.loop (L .ready none)) = V := ⟨_, rfl⟩
  have hV1 : V.heap[w.heap.size + 1]? = some (.loop (L .ready none)) := by
    rw [← hV]
    have := World.alloc_heap_new (w.alloc (.deferred (some []))) (.loop (L .ready none))
    rwa [World.size_alloc] at this
  have hV0 : V.heap[w.heap.size]? = some (.deferred (some [])) := by
    rw [← hV]
    exact (Below.heap_alloc _ _ _ (by simp)).trans (World.alloc_heap_new w _)
  have hIV : I [] V := by rw [← hV]; exact hI _ _ _ (hI _ _ _ h0 (stepB_alloc _ _ _)) (stepB_alloc _ _ _)
  have hGV : IterG V b t l p 0 := by rw [← hV]; exact hG.later (((Below.refl _ _).alloc (Nat.le_refl _) _).alloc (by simp) _)
  have hT : TakesY (w.heap.size + 1) t (fun pre e => pre ++ [e] <+: t.ents N p) (fun pre W => I pre W ∧ W.heap[w.heap.size + 1]? = some (.loop (L .ready none)) ∧ W.heap[w.heap.size]? = some (.deferred (some [])))
      (fun pre W => Ix pre W ∧ W.heap[w.heap.size + 1]? = some (.loop (L .done (some .ret))) ∧ W.heap[w.heap.size]? = some (.deferred (some []))) := by
    refine ⟨fun pre W h => hLi _ _ h.1, fun pre W h => hLx _ _ h.1, fun pre W m h => ⟨hI _ _ _ h.1 (stepB_below _ (below_drewN (Below.refl _ _) m)), ?_, ?_⟩, ?_⟩
    · exact ((below_drewN (Below.refl W.heap.size W) m).block _ (Array.getElem?_eq_some_iff.1 h.2.1).1).trans h.2.1
    · exact ((below_drewN (Below.refl W.heap.size W) m).block _ (Array.getElem?_eq_some_iff.1 h.2.2).1).trans h.2.2
    · rintro pre Wr k x y m hk hpx ⟨hi0, h10, h20⟩
      have hy := run_yield (P := Tryz.prog) (args := encE k x y) h10 (by rw [hL]; exact hps.symm)
      rw [hL] at hy
      refine ⟨fn, _, assign, body, hy, roundIn_depth (n := 3) (roundIn_of_wpIn hfn (hassign _ pre (k, (x, y)) Wr _ hk hi0 fun a' W hkf hi hax => ?_))⟩
      have h1 := hkf.same _ _ (Nat.le_succ _) h10 rfl
      have h2 := hkf.same _ _ (Nat.le_refl _) h20 rfl
      have hlt : w.heap.size + 1 < W.heap.size := (Array.getElem?_eq_some_iff.1 h1).1
      refine ⟨_, run_beginRound h1 (by rw [hL]), ?_⟩
      have s1 := stepB_put (B := w.heap.size) (.loop { L .ready none with state := .busy }) (Nat.le_succ _) h1 rfl
      have k1 : (W.putObj (w.heap.size + 1) (.loop { L .ready none with state := .busy })).heap[w.heap.size + 1]? = some (.loop { L .ready none with state := .busy }) := World.putObj_heap_same hlt
      have k0 : (W.putObj (w.heap.size + 1) (.loop { L .ready none with state := .busy })).heap[w.heap.size]? = some (.deferred (some [])) := (World.putObj_heap_other (by omega)).trans h2
      refine wpIn_mono (hbody _ pre (k, (x, y)) _ _ hk hpx (hI _ _ _ hi s1) (hAx _ _ _ _ hax s1)) ?_
      have fin : ∀ (jump : Option Code) (X : World), KeepsFrom w.heap.size (W.putObj (w.heap.size + 1) (.loop { L .ready none with state := .busy })) X →
          (Instr.endRound (w.heap.size + 1) jump).run Tryz.prog X = .ok (.bool jump.isNone) (X.putObj (w.heap.size + 1) (.loop (L (if jump.isNone then .ready else .done) jump))) ∧ StepB w.heap.size X (X.putObj (w.heap.size + 1) (.loop (L (if jump.isNone then .ready else .done) jump))) ∧
          (X.putObj (w.heap.size + 1) (.loop (L (if jump.isNone then .ready else .done) jump))).heap[w.heap.size + 1]? = some (.loop (L (if jump.isNone then .ready else .done) jump)) ∧
          (X.putObj (w.heap.size + 1) (.loop (L (if jump.isNone then .ready else .done) jump))).heap[w.heap.size]? = some (.deferred (some [])) := fun jump X hX => by
        have e1 := hX.same _ _ (Nat.le_succ _) k1 rfl
        have e0 := hX.same _ _ (Nat.le_refl _) k0 rfl
        have e2 := run_endRound (P := Tryz.prog) jump e1
        refine ⟨by rw [hL] at e2 ⊢; exact e2, stepB_put _ (Nat.le_succ _) e1 rfl, World.putObj_heap_same (Array.getElem?_eq_some_iff.1 e1).1, (World.putObj_heap_other (by omega)).trans e0⟩
      rintro e a3 X hp
      cases e with
      | normal =>
        obtain ⟨hX, hi3⟩ := hp
        obtain ⟨hr, hs, e1, e0⟩ := fin none X hX
        exact ⟨_, _, hr, true, rfl, fun _ => ⟨hI _ _ _ hi3 hs, e1, e0⟩, fun e => (by cases e)⟩
      | ret =>
        obtain ⟨hX, hi3⟩ := hp
        obtain ⟨hr, hs, e1, e0⟩ := fin (some .ret) X hX
        exact ⟨_, _, hr, false, rfl, fun e => (by cases e), fun _ => ⟨hIx _ _ _ hi3 hs, e1, e0⟩⟩
      | exit i => exact hp.elim
      | goto t => exact hp.elim
      | panic ch => exact hp.elim
      | outgrown => exact hp.elim
  refine ⟨w.heap.size + 1, [{ target := .collected w.heap.size, args := #[] }], V, { target := .fn (.func 79) #[.pointer (some ⟨b, 0, none⟩), .pointer (some ⟨b + 1, 0, none⟩), .pointer (some ⟨b + 1 + 1, 0, none⟩), .pointer (some ⟨b + 1 + 1 + 1, 0, none⟩)], args := #[.func (.yield (w.heap.size + 1)) #[] #[]] }, V, 79,
    #[.func (.yield (w.heap.size + 1)) #[] #[], .pointer (some ⟨b, 0, none⟩), .pointer (some ⟨b + 1, 0, none⟩), .pointer (some ⟨b + 1 + 1, 0, none⟩), .pointer (some ⟨b + 1 + 1 + 1, 0, none⟩)], V, ?_, ?_, ?_, ?_, fun e => by simp [Fence.wide] at e, ?_⟩
  · rw [← hV, hL]; exact run_enterLoop_outer _ _ _ _ _
  · simp only [resolve, hg]
    simp [go_sem]
  · intro f' _; trivial
  · simp [invoke, go_sem]
  · refine (callsIn_wide.2 (from1Y (w.heap.size + 1) b N l hl t hw p 0 hp hm _ _ _ hT V hGV ⟨hIV, hV1, hV0⟩ (fun pre e he => by rw [fromL_all] at he; exact he))).mono ?_
    rw [fromL_all]
    rintro e X ⟨rfl, ⟨hi, e1, e0⟩ | ⟨pre, hpre, hi, e1, e0⟩⟩
    · have hs := stepB_put (B := w.heap.size) (.loop { L .ready none with state := .exhausted }) (Nat.le_succ _) e1 rfl
      refine ⟨none, _, by have := run_endLoop (P := Tryz.prog) e1 (by rw [hL]; simp); rw [hL] at this ⊢; exact this, hdone _ _ (Nat.le_refl _) (hI _ _ _ hi hs) ((World.putObj_heap_other (by omega)).trans e0)⟩
    · have hs := stepB_put (B := w.heap.size) (.loop { L .done (some .ret) with state := .exhausted }) (Nat.le_succ _) e1 rfl
      refine ⟨some .ret, _, by have := run_endLoop (P := Tryz.prog) e1 (by rw [hL]; simp); rw [hL] at this ⊢; exact this, hstop _ pre _ (Nat.le_refl _) hpre (hIx _ _ _ hi hs) ((World.putObj_heap_other (by omega)).trans e0)⟩

end Go.Proofs.YtblfdjdhikfjhaaGreat

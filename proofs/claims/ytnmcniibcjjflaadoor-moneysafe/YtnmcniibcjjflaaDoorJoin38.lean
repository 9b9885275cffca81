import Derived.Test.YtnmcniibcjjflaaDoorJoin37
import Derived.Defers
import Derived.Recover
import Derived.RecoverIn
namespace Go.Proofs.YtnmcniibcjjflaaDoor
open Go.RowKit Go.Shelf

/-- What the statement's own book-keeping may turn: a block from B on that is no cells. -/
def StepB (B : Nat) (X Y : World) : Prop := ∃ row, X.grownBy Y row ∧ ∀ r, row = some r → B ≤ r ∧ ∃ o : Obj, X.heap[r]? = some o ∧ o.isCells = false
theorem stepB_put {B l : Nat} {X : World} {o : Obj} (o' : Obj) (hl : B ≤ l) (h : X.heap[l]? = some o) (hc : o.isCells = false) : StepB B X (X.putObj l o') :=
  ⟨some l, grownBy_putObj' X l o', fun r e => by cases e; exact ⟨hl, o, h, hc⟩⟩
theorem stepB_alloc (B : Nat) (X : World) (o : Obj) : StepB B X (X.alloc o) := ⟨none, World.grownBy_alloc X o none, fun r e => by cases e⟩
theorem Vals.stepB {B : Nat} {X Y : World} {a : Option Addr} {vs : List (Int × Int)} (h : Vals X a vs) (hs : StepB B X Y) : Vals Y a vs := by
  obtain ⟨row, hg, hr⟩ := hs
  obtain ⟨h0, h | ⟨b, off, rfl, hlt, hc⟩⟩ := h
  · exact ⟨h0, .inl h⟩
  · exact ⟨h0, .inr ⟨b, off, rfl, Nat.lt_of_lt_of_le hlt hg.size, fun i hi => ⟨cell_kept (hc i hi).1 hg (fun r e => (hr r e).2), cell_kept (hc i hi).2 hg (fun r e => (hr r e).2)⟩⟩⟩
theorem Giv.stepB {B G : Nat} {X Y : World} {a : Option Addr} {cap : Nat} {vs : List (Int × Int)} {t : Int} (h : Giv X G a cap vs t) (hs : StepB B X Y) : Giv Y G a cap vs t := by
  obtain ⟨h0, h1, h2, h3, h4⟩ := h
  have h3' := h3.stepB hs
  obtain ⟨row, hg, hr⟩ := hs
  exact ⟨cell_kept h0 hg (fun r e => (hr r e).2), cell_kept h1 hg (fun r e => (hr r e).2), (frozen_kept h1 hg (fun r e => (hr r e).2)).trans h2, h3', (frozen_kept h0 hg (fun r e => (hr r e).2)).trans h4⟩
theorem heap_set {X : World} {G o k : Nat} {v : Value} (h : k ≠ G) : (X.setCell ⟨G, o, none⟩ v).heap[k]? = X.heap[k]? := Below.heap_setCell _ _ _ k h

/-- How a round of the loop over the law's iterator is left. -/
def allPost (B G : Nat) (av : Option Addr) (cap : Nat) (vs : List (Int × Int)) (I Ix : List (Int × Int) → World → Prop) (id : Nat) (xs : List (Int × Int)) (W : World) : Exit → Act → World → Prop
  | .normal, _, W' => KeepsFrom B W W' ∧ KpG G av cap vs W W' ∧ I xs W'
  | .exit i, _, W' => i = id ∧ KeepsFrom B W W' ∧ KpG G av cap vs W W' ∧ Ix xs W'
  | _, _, _ => False

set_option maxHeartbeats 1000000 in
/-- The statement 'for v := range g.all': the iterator counts what it gives, in memory that lay ahead of the loop. -/
theorem range_all {n : Nat} (hn : 3 ≤ n) {g : Operand} {ps : Array Tmp} {assign body : Code} {Q : Exit → Act → World → Prop} {a : Act} {w : World} (G : Nat) (av : Option Addr) (cap : Nat) (vs : List (Int × Int)) (hl : vs.length ≤ 20000)
    (hg : a.eval g = .func (.func 7) #[.pointer (some ⟨G, 0, none⟩)] #[]) (hps : ps.size = 1) (I Ix : List (Int × Int) → World → Prop) (id : Nat)
    (hI : ∀ pre X Y, I pre X → StepB w.heap.size X Y → I pre Y) (hIx : ∀ pre X Y, Ix pre X → StepB w.heap.size X Y → Ix pre Y) (hIs : ∀ pre X v, I pre X → I pre (X.setCell ⟨G, 1, none⟩ v))
    (hVs : ∀ X v, Vals X av vs → Vals (X.setCell ⟨G, 1, none⟩ v) av vs) (hG : Giv w G av cap vs 0) (h0 : I [] w) (Ax : Int × Int → Act → World → Prop) (hAx : ∀ x a' X Y, Ax x a' X → StepB w.heap.size X Y → Ax x a' Y)
    (hassign : ∀ (l : Nat) (pre : List (Int × Int)) (x : Int × Int) (W : World) (K : Act → World → Prop), I pre W → (∀ a' W', KeepsFrom w.heap.size W W' → KpG G av cap vs W W' → I pre W' → Ax x a' W' → K a' W') → assign.wpIn (Fence.wide.inRound l) (n - 1 - 1) Tryd.prog (Exit.then K (fun _ _ _ => False)) { tmps := (ps.zip (encV x)).foldl (fun t (p, v) => t.setIfInBounds p v) a.tmps, defers := [] } W)
    (hbody : ∀ (l : Nat) (pre : List (Int × Int)) (x : Int × Int) (a' : Act) (W : World), I pre W → Ax x a' W → pre.length < 20000 → body.wpIn (Fence.wide.inRound l) (n - 1 - 1) Tryd.prog (allPost w.heap.size G av cap vs I Ix id (pre ++ [x]) W) a' W)
    (hdone : ∀ (D : Nat) (W : World), w.heap.size ≤ D → Giv W G av cap vs (vs.length : Int) → I vs W → W.heap[D]? = some (.deferred (some [])) → Q .normal { a with defers := { target := .collected D, args := #[] } :: a.defers } W)
    (hstop : ∀ (D j : Nat) (W : World), w.heap.size ≤ D → j ≤ vs.length → Giv W G av cap vs (j : Int) → Ix (vs.take j) W → W.heap[D]? = some (.deferred (some [])) → (Code.exit id).wpIn Fence.wide n Tryd.prog Q { a with defers := { target := .collected D, args := #[] } :: a.defers } W) :
    (Code.rangeFunc g ps assign body).wpIn Fence.wide n Tryd.prog Q a w := by
  have hGw : G < w.heap.size := World.block_lt_of_cell? _ _ hG.1
  refine wpIn_rangeFunc fun fn hfn => ?_
  obtain ⟨L, hL⟩ : ∃ L : LoopState → Option Code → Loop, L = fun st pe => { state := st, pending := pe, fn := fn, tmps := a.tmps, params := ps, assign := assign, body := body, defers := w.heap.size } := ⟨_, rfl⟩
  obtain ⟨V, hV⟩ : ∃ V, (w.alloc (.deferred (some []))).alloc (.loop (L .ready none)) = V := ⟨_, rfl⟩
  have hV1 : V.heap[w.heap.size + 1]? = some (.loop (L .ready none)) := by
    rw [← hV]
    have := World.alloc_heap_new (w.alloc (.deferred (some []))) (.loop (L .ready none))
    rwa [World.size_alloc] at this
  have hV0 : V.heap[w.heap.size]? = some (.deferred (some [])) := by
    rw [← hV]
    exact (Below.heap_alloc _ _ _ (by simp)).trans (World.alloc_heap_new w _)
  have hIV : I [] V := by rw [← hV]; exact hI _ _ _ (hI _ _ _ h0 (stepB_alloc _ _ _)) (stepB_alloc _ _ _)
  have hGV : Giv V G av cap vs 0 := by rw [← hV]; exact (hG.stepB (stepB_alloc w.heap.size _ _)).stepB (stepB_alloc w.heap.size _ _)
  refine ⟨w.heap.size + 1, [{ target := .collected w.heap.size, args := #[] }], V, { target := .fn (.func 7) #[], args := #[.pointer (some ⟨G, 0, none⟩), .func (.yield (w.heap.size + 1)) #[] #[]] }, V, 7,
    #[.pointer (some ⟨G, 0, none⟩), .func (.yield (w.heap.size + 1)) #[] #[]], V, ?_, ?_, ?_, ?_, fun _ => by omega, ?_⟩
  · rw [← hV, hL]; exact run_enterLoop_outer _ _ _ _ _
  · simp only [resolve, hg]
    simp [go_sem]
  · intro f' _; trivial
  · simp [invoke, go_sem]
  · refine (all_stops (n - 1) (by omega) G av cap vs hl (w.heap.size + 1)
      (fun pre W => I pre W ∧ W.heap[w.heap.size + 1]? = some (.loop (L .ready none)) ∧ W.heap[w.heap.size]? = some (.deferred (some [])))
      (fun pre W => Ix pre W ∧ W.heap[w.heap.size + 1]? = some (.loop (L .done (some (.exit id)))) ∧ W.heap[w.heap.size]? = some (.deferred (some [])))
      V (fun pre X v h => ⟨hIs pre X v h.1, (heap_set (by omega)).trans h.2.1, (heap_set (by omega)).trans h.2.2⟩) hVs ?round ⟨hIV, hV1, hV0⟩ hGV).mono ?_
    case round =>
      rintro pre x Wr ⟨hi0, h10, h20⟩ hlen
      have hy := run_yield (P := Tryd.prog) (args := encV x) h10 (by rw [hL]; exact hps.symm)
      rw [hL] at hy
      refine ⟨fn, _, assign, body, hy, roundIn_of_wpIn hfn (hassign _ pre x Wr _ hi0 fun a' W hkf hkp hi hax => ?_)⟩
      have h1 := hkf.same _ _ (Nat.le_succ _) h10 rfl
      have h2 := hkf.same _ _ (Nat.le_refl _) h20 rfl
      have hlt : w.heap.size + 1 < W.heap.size := (Array.getElem?_eq_some_iff.1 h1).1
      refine ⟨_, run_beginRound h1 (by rw [hL]), ?_⟩
      have s1 := stepB_put (B := w.heap.size) (.loop { L .ready none with state := .busy }) (Nat.le_succ _) h1 rfl
      have k1 : (W.putObj (w.heap.size + 1) (.loop { L .ready none with state := .busy })).heap[w.heap.size + 1]? = some (.loop { L .ready none with state := .busy }) := World.putObj_heap_same hlt
      have k0 : (W.putObj (w.heap.size + 1) (.loop { L .ready none with state := .busy })).heap[w.heap.size]? = some (.deferred (some [])) := (World.putObj_heap_other (by omega)).trans h2
      refine wpIn_mono (hbody _ pre x _ _ (hI _ _ _ hi s1) (hAx _ _ _ _ hax s1) hlen) ?_
      have fin : ∀ (jump : Option Code) (X : World), KeepsFrom w.heap.size (W.putObj (w.heap.size + 1) (.loop { L .ready none with state := .busy })) X →
          (Instr.endRound (w.heap.size + 1) jump).run Tryd.prog X = .ok (.bool jump.isNone) (X.putObj (w.heap.size + 1) (.loop (L (if jump.isNone then .ready else .done) jump))) ∧ StepB w.heap.size X (X.putObj (w.heap.size + 1) (.loop (L (if jump.isNone then .ready else .done) jump))) ∧
          (X.putObj (w.heap.size + 1) (.loop (L (if jump.isNone then .ready else .done) jump))).heap[w.heap.size + 1]? = some (.loop (L (if jump.isNone then .ready else .done) jump)) ∧
          (X.putObj (w.heap.size + 1) (.loop (L (if jump.isNone then .ready else .done) jump))).heap[w.heap.size]? = some (.deferred (some [])) := fun jump X hX => by
        have e1 := hX.same _ _ (Nat.le_succ _) k1 rfl
        have e0 := hX.same _ _ (Nat.le_refl _) k0 rfl
        have e2 := run_endRound (P := Tryd.prog) jump e1
        refine ⟨by rw [hL] at e2 ⊢; exact e2, stepB_put _ (Nat.le_succ _) e1 rfl, World.putObj_heap_same (Array.getElem?_eq_some_iff.1 e1).1, (World.putObj_heap_other (by omega)).trans e0⟩
      rintro e a3 X hp
      cases e with
      | normal =>
        obtain ⟨hX, hk, hi3⟩ := hp
        obtain ⟨hr, hs, e1, e0⟩ := fin none X hX
        exact ⟨_, _, hr, fun t ht => (hk t ((hkp t ht).stepB s1)).stepB hs, .inl ⟨rfl, hI _ _ _ hi3 hs, e1, e0⟩⟩
      | exit i =>
        obtain ⟨rfl, hX, hk, hi3⟩ := hp
        obtain ⟨hr, hs, e1, e0⟩ := fin (some (.exit i)) X hX
        exact ⟨_, _, hr, fun t ht => (hk t ((hkp t ht).stepB s1)).stepB hs, .inr ⟨rfl, hIx _ _ _ hi3 hs, e1, e0⟩⟩
      | ret => exact hp.elim
      | goto t => exact hp.elim
      | panic ch => exact hp.elim
      | outgrown => exact hp.elim
    rintro e X ⟨⟨v, rfl⟩, j, hj, hGj, ⟨rfl, hi, e1, e0⟩ | ⟨hi, e1, e0⟩⟩
    · have hs := stepB_put (B := w.heap.size) (.loop { L .ready none with state := .exhausted }) (Nat.le_succ _) e1 rfl
      refine ⟨none, _, by have := run_endLoop (P := Tryd.prog) e1 (by rw [hL]; simp); rw [hL] at this ⊢; exact this, hdone _ _ (Nat.le_refl _) (hGj.stepB hs) (hI _ _ _ hi hs) ((World.putObj_heap_other (by omega)).trans e0)⟩
    · have hs := stepB_put (B := w.heap.size) (.loop { L .done (some (.exit id)) with state := .exhausted }) (Nat.le_succ _) e1 rfl
      refine ⟨some (.exit id), _, by have := run_endLoop (P := Tryd.prog) e1 (by rw [hL]; simp); rw [hL] at this ⊢; exact this, hstop _ j _ (Nat.le_refl _) hj (hGj.stepB hs) (hIx _ _ _ hi hs) ((World.putObj_heap_other (by omega)).trans e0)⟩

end Go.Proofs.YtnmcniibcjjflaaDoor


namespace Go.Proofs.YtnmcniibcjjflaaDoor
open Go.RowKit Go.Shelf
attribute [local go_sem] Oper.semAt_some

set_option maxRecDepth 10000 in
set_option maxHeartbeats 1000000 in
/-- gather's deferred closure, of a frame that returns: recover finds nothing. -/
theorem gather_idle (n : Nat) (p : Addr) (w : World) :
    CallsDIn Fence.wide n Tryd.prog 51 #[.pointer (some p)] .returning w fun e u' w' => e = .returned (.tuple #[]) ∧ u' = .returning ∧ w' = w := by
  refine callsDIn_of_wpSIn Tryd.func51 rfl trivial fun c₀ cs hu => ?_
  apply wpSIn_seq
  apply wpSIn_region
  simp [wpOpsSIn, go_sem, recoverD, hu, Tryd.ntmps51, Exit.thenS]
  refine wpSIn_cond (t := false) (by simp [Act.eval, Array.replicate]) ?_
  simp only [Bool.false_eq_true, if_false]
  refine wpSIn_of_wpIn rfl (wpIn_skip ?_)
  cases c₀
  simp_all [bodyPostS, results, Tryd.results51]

/-- All but the iterator's and the tally's blocks lies as it lay. -/
structure Off (G T : Nat) (w X : World) : Prop where
  os : X.os = w.os
  tape : X.tape = w.tape
  output : X.output = w.output
  size : w.heap.size ≤ X.heap.size
  block : ∀ k, k < w.heap.size → k ≠ G → k ≠ T → X.heap[k]? = w.heap[k]?
theorem Off.step {G T : Nat} {w X Y : World} (h : Off G T w X) {row : Option Nat} (hg : X.grownBy Y row) (hr : ∀ r, row = some r → r = G ∨ r = T ∨ w.heap.size ≤ r) : Off G T w Y :=
  ⟨hg.os.trans h.os, hg.tape.trans h.tape, hg.output.trans h.output, Nat.le_trans h.size hg.size, fun k hk h1 h2 => (hg.block k (Nat.lt_of_lt_of_le hk h.size) (fun e => by rcases hr k e.symm with h | h | h <;> omega)).trans (h.block k hk h1 h2)⟩
theorem grown_set (X : World) (G o : Nat) (v : Value) : X.grownBy (X.setCell ⟨G, o, none⟩ v) (some G) := ⟨rfl, rfl, rfl, by simp, fun k _ hk => Below.heap_setCell _ _ _ k (fun e => hk (by rw [e]))⟩

theorem Kinds.grown {X Y : World} {T : Nat} (h : Kinds X) (hg : X.grownBy Y (some T)) (hT : T ≠ 0) : Kinds Y := by
  have hb := hg.block 0 h.1 (fun e => hT (Option.some.inj e).symm)
  refine ⟨Nat.lt_of_lt_of_le h.1 hg.size, fun i hi => ?_⟩
  obtain ⟨a, b, c⟩ := h.2 i hi
  exact ⟨(World.cell?_of_block hb).trans a, (World.cell?_of_block hb).trans b, (World.cell?_of_block hb).trans c⟩

set_option maxHeartbeats 400000 in
theorem take_any (T : Nat) (kind S k n : Int) (W : World) (hK : Kinds W) (hT : Tal W T kind S 0 0) (hk : kind = 1 ∨ kind = 2) (hS : -400000000000000000 ≤ S ∧ S ≤ 400000000000000000) :
    Calls Tryd.prog 52 #[.pointer (some ⟨T, 0, none⟩), .agg #[.int .i64 k, .int .i64 n]] W fun e W' => e = .returned (.tuple #[]) ∧ W.grownBy W' (some T) ∧
      ((∃ S', Tal W' T kind S' 0 0 ∧ Hid (∀ l j, M.tk kind S j ((k, n) :: l) = M.tk kind S' (j + 1) l) ∧ -10000000000000 ≤ S' - S ∧ S' - S ≤ 10000000000000) ∨ ∃ f0 f1, (f0 != 0) = true ∧ Tal W' T kind S f0 f1 ∧ Hid (∀ l j, M.tk kind S j ((k, n) :: l) = ((f0, f1), j + 1))) := by
  cases hv : M.valid k n with
  | false => exact (take_bad T kind S 0 0 k n W hK hT hv).mono fun e W' ⟨h1, h2, h3⟩ => ⟨h1, h3, .inr ⟨6, 5, rfl, h2, fun l j => M.tk_bad hv⟩⟩
  | true =>
    by_cases h0 : k = 0
    · have hn : n = 0 := by subst h0; simpa [M.valid] using hv
      exact (take_blank T kind S 0 0 k n W hK hT h0 hv).mono fun e W' ⟨h1, h2, h3⟩ => ⟨h1, h3, .inl ⟨S, h2, fun l j => by rw [h0, hn, M.tk_blank], by omega, by omega⟩⟩
    · by_cases h6 : k = 6
      · exact (take_fault T kind S 0 0 k n W hK hT h6 hv).mono fun e W' ⟨h1, h2, h3⟩ => ⟨h1, h3, .inr ⟨k, n, by rw [h6]; rfl, h2, fun l j => by subst h6; exact M.tk_fault hv⟩⟩
      · by_cases hkk : k = kind
        · have hn : -10000000000000 ≤ n ∧ n ≤ 10000000000000 := by subst hkk; simp [M.valid] at hv; omega
          exact (take_add T kind S 0 0 k n W hK hT hkk (by simpa using h0) (by simpa using h6) hv (by omega) (by omega)).mono fun e W' ⟨h1, h2, h3⟩ => ⟨h1, h3, .inl ⟨S + n, h2, fun l j => by subst hkk; exact M.tk_add h0 hv h6, by omega, by omega⟩⟩
        · exact (take_other T kind S 0 0 k n W hK hT (by simpa using h0) (by simpa using h6) (by simpa using hkk) hv).mono fun e W' ⟨h1, h2, h3⟩ => ⟨h1, h3, .inr ⟨6, 5, rfl, h2, fun l j => M.tk_other h0 hv h6 hkk⟩⟩

end Go.Proofs.YtnmcniibcjjflaaDoor

import Derived.Test.YtblfdjdhikfjhaaGreatTurnDYDiffer
namespace Go.Proofs.YtblfdjdhikfjhaaGreat
open Go.RowKit Go.Shelf

def diffV (b : Nat) : Value := .func (.func 105) #[] #[.pointer (some ⟨b, 0, none⟩), .pointer (some ⟨b + 1, 0, none⟩)]
def DiffAt (W : World) (b ma mb : Nat) : Prop := b + 1 < W.heap.size ∧ W.cell? ⟨b, 0, none⟩ = some (.pointer (some ⟨ma, 0, none⟩)) ∧ W.cell? ⟨b + 1, 0, none⟩ = some (.pointer (some ⟨mb, 0, none⟩))
theorem DiffAt.later {W W' : World} {b ma mb : Nat} (h : DiffAt W b ma mb) (hb : Below W.heap.size W W') : DiffAt W' b ma mb := by
  obtain ⟨h0, h1, h2⟩ := h
  exact ⟨Nat.lt_of_lt_of_le h0 hb.size, (hb.cell (p := ⟨b, 0, none⟩) (by simp; omega)).trans h1, (hb.cell (p := ⟨b + 1, 0, none⟩) (by simp; omega)).trans h2⟩

theorem diff_iter (ma mb : Nat) (w : World) : Calls Tryz.prog 85 #[.pointer (some ⟨ma, 0, none⟩), .pointer (some ⟨mb, 0, none⟩)] w fun e w' => e = .returned (diffV w.heap.size) ∧ DiffAt w' w.heap.size ma mb ∧ Below w.heap.size w w' := by
  go_enter Tryz.func85, Tryz.ntmps85
  go_wp2
  go_ret
  refine ⟨rfl, ⟨by simp, by simp, by simp⟩, ((Below.refl _ _).alloc (Nat.le_refl _) _).alloc (by simp) _⟩

set_option maxRecDepth 4000 in
set_option maxHeartbeats 1000000 in
theorem diff1_anyD (T : Nat) (B : Nat) (off : Nat → World → Prop) (Q : List Ch → Ch → Prop) (J Jx : List Ch → World → Prop) (b ma mb : Nat) (a c : Tr) (D : List Ch) (hDD : a.dif c 7 0 = D) (hT : TakesD T B (fun X => Lies X a ∧ Lies X c) off Q J Jx) (w : World) (hD : DiffAt w b ma mb) (hA : MapT w ma a) (hC : MapT w mb c) (h : J [] w) (hQ : ∀ pre c, pre ++ [c] <+: D → Q pre c) :
    Calls Tryz.prog 105 #[yieldVD T, .pointer (some ⟨b, 0, none⟩), .pointer (some ⟨b + 1, 0, none⟩)] w fun e w' => e = .returned (.tuple #[]) ∧ (J D w' ∨ ∃ pre, pre <+: D ∧ Jx pre w') := by
  obtain ⟨-, d0, d1⟩ := hD
  obtain ⟨u, hu⟩ := ptr_pointer a
  obtain ⟨v, hv⟩ := ptr_pointer c
  have m0 := hA.2.1
  have m1 := hC.2.1
  rw [hu] at m0
  rw [hv] at m1
  have hJd := hT.step _ _ w.drew h (stepB_below B (Below.refl w.heap.size w).drew)
  have hdf := differ_anyD T B off Q J Jx 7 0 rfl a c hA.2.2.2.2 hC.2.2.2.2 hT 0 (by decide) (by decide) [] w.drew hJd (fun pre c he => hQ pre c (by rw [← hDD]; exact he))
  rw [hu, hv, hDD, show (((0 : Nat)) : Int) = 0 from rfl] at hdf
  clear hDD
  go_enter Tryz.func105, Tryz.ntmps105
  go_wp2_with fail
  go_region_with (go_at_call 106; refine hdf.mono ?_; rintro e w5 ⟨o, rfl, hJ5, hX5⟩)
  all_goals
    have hE : J D w5 ∨ ∃ pre, pre <+: D ∧ Jx pre w5 := by
      cases o with
      | true => exact .inl (by simpa using hJ5)
      | false =>
        obtain ⟨pre, hp, hx⟩ := hX5 (by first | rfl | trivial)
        exact .inr ⟨pre, hp, by simpa using hx⟩
    clear hJ5 hX5
    go_wp2
    go_end0
    exact ⟨rfl, hE⟩

/-- How a round is left: it goes on, or the function is left. -/
def chPost (B : Nat) (I Ix : List Ch → World → Prop) (xs : List Ch) (W : World) : Exit → Act → World → Prop
  | .normal, _, W' => KeepsFrom B W W' ∧ I xs W'
  | .ret, _, W' => KeepsFrom B W W' ∧ Ix xs W'
  | _, _, _ => False


end Go.Proofs.YtblfdjdhikfjhaaGreat


namespace Go.Proofs.YtblfdjdhikfjhaaGreat
open Go.RowKit Go.Shelf

def chV (c : Ch) : Value := .agg #[.int .u32 (c.1 : Int), .bool c.2.1.isSome, .bool c.2.2.isSome, .int .i64 (c.2.1.getD (0, 0)).1, .int .i64 (c.2.1.getD (0, 0)).2, .int .i64 (c.2.2.getD (0, 0)).1, .int .i64 (c.2.2.getD (0, 0)).2]
/-- How a round is left: it goes on, or the function is left; what is not the body's stays. -/
def chPostO (off : Nat → World → Prop) (B : Nat) (I Ix : List Ch → World → Prop) (xs : List Ch) (W : World) : Exit → Act → World → Prop
  | .normal, _, W' => KeepsFrom B W W' ∧ (∀ k, off k W → k < W.heap.size → W'.heap[k]? = W.heap[k]? ∧ off k W') ∧ I xs W'
  | .ret, _, W' => KeepsFrom B W W' ∧ (∀ k, off k W → k < W.heap.size → W'.heap[k]? = W.heap[k]? ∧ off k W') ∧ Ix xs W'
  | _, _, _ => False

set_option maxHeartbeats 2000000 in
/-- The statement 'for c := range trie.Diff(a, b)'; its body may leave the function. -/
theorem range_diff {n : Nat} {g : Operand} {ps : Array Tmp} {assign body : Code} {Q : Exit → Act → World → Prop} {a : Act} {w : World} (b ma mb : Nat) (ta tb : Tr) (D : List Ch) (hDD : ta.dif tb 7 0 = D)
    (hg : a.eval g = diffV b) (hps : ps.size = 1) (I Ix : List Ch → World → Prop) (off : Nat → World → Prop)
    (hI : ∀ pre X Y, I pre X → StepB w.heap.size X Y → I pre Y) (hIx : ∀ pre X Y, Ix pre X → StepB w.heap.size X Y → Ix pre Y) (hset : ∀ pre X k o v, I pre X → off k X → w.heap.size ≤ k → I pre (X.setCell ⟨k, o, none⟩ v)) (hsetx : ∀ pre X k o v, Ix pre X → off k X → w.heap.size ≤ k → Ix pre (X.setCell ⟨k, o, none⟩ v))
    (hoN : ∀ pre X k, I pre X → X.heap.size ≤ k → off k X) (hoS : ∀ pre X Y k, I pre X → off k X → StepB w.heap.size X Y → off k Y) (hoX : ∀ pre X Y k, Ix pre X → off k X → StepB w.heap.size X Y → off k Y)
    (hLi : ∀ pre X, I pre X → Lies X ta ∧ Lies X tb) (hLx : ∀ pre X, Ix pre X → Lies X ta ∧ Lies X tb)
    (hG : DiffAt w b ma mb) (hA : MapT w ma ta) (hC : MapT w mb tb) (h0 : I [] w) (Ax : Ch → Act → World → Prop) (hAx : ∀ x a' X Y, Ax x a' X → StepB w.heap.size X Y → Ax x a' Y)
    (hassign : ∀ (l : Nat) (pre : List Ch) (x : Ch) (W : World) (K : Act → World → Prop), I pre W → (∀ a' W', Below W.heap.size W W' → Ax x a' W' → K a' W') → assign.wpIn (Fence.wide.inRound l) 3 Tryz.prog (Exit.then K (fun _ _ _ => False)) { tmps := (ps.zip #[chV x]).foldl (fun t (p, v) => t.setIfInBounds p v) a.tmps, defers := [] } W)
    (hbody : ∀ (l : Nat) (pre : List Ch) (x : Ch) (a' : Act) (W : World), pre ++ [x] <+: D → I pre W → Ax x a' W → body.wpIn (Fence.wide.inRound l) 3 Tryz.prog (chPostO off w.heap.size I Ix (pre ++ [x]) W) a' W)
    (hdone : ∀ (R : Nat) (W : World), w.heap.size ≤ R → I D W → W.heap[R]? = some (.deferred (some [])) → Q .normal { a with defers := { target := .collected R, args := #[] } :: a.defers } W)
    (hstop : ∀ (R : Nat) (pre : List Ch) (W : World), w.heap.size ≤ R → pre <+: D → Ix pre W → W.heap[R]? = some (.deferred (some [])) → Code.ret.wpIn Fence.wide n Tryz.prog Q { a with defers := { target := .collected R, args := #[] } :: a.defers } W) :
    (Code.rangeFunc g ps assign body).wpIn Fence.wide n Tryz.prog Q a w := by
  refine wpIn_rangeFunc fun fn hfn => ?_
  obtain ⟨L, hL⟩ : ∃ L : LoopState → Option Code → Loop, L = fun st pe => { state := st, pending := pe, fn := fn, tmps := a.tmps, params := ps, assign := assign, body := body, defers := w.heap.size } := ⟨_, rfl⟩
  obtain ⟨V, hV⟩ : ∃ V, (w.alloc (.deferred (some []))).alloc (.loop (L .ready none)) = V := ⟨_, rfl⟩
  have hV1 : V.heap[w.heap.size + 1]? = some (.loop (L .ready none)) := by
    rw [← hV]
    have := World.alloc_heap_new (w.alloc (.deferred (some []))) (.loop (L .ready none))
    rwa [World.size_alloc] at this
  have hV0 : V.heap[w.heap.size]? = some (.deferred (some [])) := by
    rw [← hV]
    exact (Below.heap_alloc _ _ _ (by simp)).trans (World.alloc_heap_new w _)
  have hVs : V.heap.size = w.heap.size + 2 := by rw [← hV]; simp
  have hbV : Below w.heap.size w V := by rw [← hV]; exact ((Below.refl _ _).alloc (Nat.le_refl _) _).alloc (by simp) _
  have hIV : I [] V := hI _ _ _ h0 (stepB_below _ hbV)
  have hup : ∀ {X Y : World}, StepB V.heap.size X Y → StepB w.heap.size X Y := fun h => h.mono (by omega)
  have keepLow : ∀ {X Y : World} {k : Nat} {o : Obj}, StepB V.heap.size X Y → X.heap[k]? = some o → k < V.heap.size → Y.heap[k]? = some o := fun {X Y k o} hs hk hl => by
    obtain ⟨row, hg', hr⟩ := hs
    refine (hg'.block k (Array.getElem?_eq_some_iff.1 hk).1 (fun e => ?_)).trans hk
    have := (hr k e.symm).1
    omega
  have setLow : ∀ {X : World} {k j o : Nat} {v : Value} {ob : Obj}, X.heap[j]? = some ob → V.heap.size ≤ k → j < V.heap.size → (X.setCell ⟨k, o, none⟩ v).heap[j]? = some ob := fun {X k j o v ob} hj hk hl => (Below.heap_setCell _ _ _ j (by simp; omega)).trans hj
  have hT : TakesD (w.heap.size + 1) V.heap.size (fun X => Lies X ta ∧ Lies X tb) (fun k X => off k X ∧ k ≠ w.heap.size + 1) (fun pre c => pre ++ [c] <+: D) (fun pre W => I pre W ∧ W.heap[w.heap.size + 1]? = some (.loop (L .ready none)) ∧ W.heap[w.heap.size]? = some (.deferred (some [])) ∧ V.heap.size ≤ W.heap.size)
      (fun pre W => Ix pre W ∧ W.heap[w.heap.size + 1]? = some (.loop (L .done (some .ret))) ∧ W.heap[w.heap.size]? = some (.deferred (some []))) := by
    refine ⟨fun pre W h => hLi _ _ h.1, fun pre W h => hLx _ _ h.1, fun pre W h => h.2.2.2, by omega, fun pre X Y h hs => ⟨hI _ _ _ h.1 (hup hs), keepLow hs h.2.1 (by omega), keepLow hs h.2.2.1 (by omega), ?_⟩, fun pre X Y h hs => ⟨hIx _ _ _ h.1 (hup hs), keepLow hs h.2.1 (by omega), keepLow hs h.2.2 (by omega)⟩,
      fun pre X k o v h hk hB => ⟨hset _ _ _ _ _ h.1 hk.1 (by omega), setLow h.2.1 hB (by omega), setLow h.2.2.1 hB (by omega), by simpa using h.2.2.2⟩, fun pre X k o v h hk hB => ⟨hsetx _ _ _ _ _ h.1 hk.1 (by omega), setLow h.2.1 hB (by omega), setLow h.2.2 hB (by omega)⟩,
      fun pre X k h hk => ⟨hoN _ _ _ h.1 hk, by have := h.2.2.2; omega⟩, fun pre X Y k h hk hs => ⟨hoS _ _ _ _ h.1 hk.1 (hup hs), hk.2⟩, ?_⟩
    · obtain ⟨row, hg', hr⟩ := hs
      exact Nat.le_trans h.2.2.2 hg'.size
    · rintro pre Wr c k p q x y x' y' m hch hpx ⟨hi0, h10, h20, hVW⟩
      have hcv : chV c = .agg #[.int .u32 (k : Int), .bool p, .bool q, .int .i64 x, .int .i64 y, .int .i64 x', .int .i64 y'] := by
        simp only [chL, List.cons.injEq, and_true] at hch
        obtain ⟨e1, e2, e3, e4, e5, e6, e7⟩ := hch
        unfold chV
        rw [e1, e2, e3, e4, e5, e6, e7]
      have hy := run_yield (P := Tryz.prog) (args := #[chV c]) h10 (by rw [hL]; exact hps.symm)
      rw [hL] at hy
      rw [← hcv]
      refine ⟨fn, _, assign, body, hy, roundIn_depth (n := 3) (roundIn_of_wpIn hfn (hassign _ pre c Wr _ hi0 fun a' W hbW hax => ?_))⟩
      have hi := hI _ _ _ hi0 (stepB_below _ hbW)
      have h1 := (hbW.block _ (Array.getElem?_eq_some_iff.1 h10).1).trans h10
      have h2 := (hbW.block _ (Array.getElem?_eq_some_iff.1 h20).1).trans h20
      have hlt : w.heap.size + 1 < W.heap.size := (Array.getElem?_eq_some_iff.1 h1).1
      refine ⟨_, run_beginRound h1 (by rw [hL]), ?_⟩
      have s1 := stepB_put (B := w.heap.size) (.loop { L .ready none with state := .busy }) (Nat.le_succ _) h1 rfl
      have k1 : (W.putObj (w.heap.size + 1) (.loop { L .ready none with state := .busy })).heap[w.heap.size + 1]? = some (.loop { L .ready none with state := .busy }) := World.putObj_heap_same hlt
      have k0 : (W.putObj (w.heap.size + 1) (.loop { L .ready none with state := .busy })).heap[w.heap.size]? = some (.deferred (some [])) := (World.putObj_heap_other (by omega)).trans h2
      refine wpIn_mono (hbody _ pre c _ _ hpx (hI _ _ _ hi s1) (hAx _ _ _ _ hax s1)) ?_
      -- what one round leaves
      have fin : ∀ (jump : Option Code) (X : World), KeepsFrom w.heap.size (W.putObj (w.heap.size + 1) (.loop { L .ready none with state := .busy })) X → (∀ k, off k (W.putObj (w.heap.size + 1) (.loop { L .ready none with state := .busy })) → k < (W.putObj (w.heap.size + 1) (.loop { L .ready none with state := .busy })).heap.size → X.heap[k]? = (W.putObj (w.heap.size + 1) (.loop { L .ready none with state := .busy })).heap[k]? ∧ off k X) → (∀ k Y, off k X → StepB w.heap.size X Y → off k Y) →
          (Instr.endRound (w.heap.size + 1) jump).run Tryz.prog X = .ok (.bool jump.isNone) (X.putObj (w.heap.size + 1) (.loop (L (if jump.isNone then .ready else .done) jump))) ∧ StepB w.heap.size X (X.putObj (w.heap.size + 1) (.loop (L (if jump.isNone then .ready else .done) jump))) ∧
          (X.putObj (w.heap.size + 1) (.loop (L (if jump.isNone then .ready else .done) jump))).heap[w.heap.size + 1]? = some (.loop (L (if jump.isNone then .ready else .done) jump)) ∧
          (X.putObj (w.heap.size + 1) (.loop (L (if jump.isNone then .ready else .done) jump))).heap[w.heap.size]? = some (.deferred (some [])) ∧
          KeepsFrom (w.heap.size + 1 + 1) Wr (X.putObj (w.heap.size + 1) (.loop (L (if jump.isNone then .ready else .done) jump))) ∧
          (∀ k, off k Wr ∧ k ≠ w.heap.size + 1 → k < Wr.heap.size → (X.putObj (w.heap.size + 1) (.loop (L (if jump.isNone then .ready else .done) jump))).heap[k]? = Wr.heap[k]? ∧ off k (X.putObj (w.heap.size + 1) (.loop (L (if jump.isNone then .ready else .done) jump))) ∧ k ≠ w.heap.size + 1) := fun jump X hX hO hOs => by
        have e1 := hX.same _ _ (Nat.le_succ _) k1 rfl
        have e0 := hX.same _ _ (Nat.le_refl _) k0 rfl
        have e2 := run_endRound (P := Tryz.prog) jump e1
        have hsE := stepB_put (B := w.heap.size) (.loop (L (if jump.isNone then .ready else .done) jump)) (Nat.le_succ _) e1 rfl
        refine ⟨by rw [hL] at e2 ⊢; exact e2, hsE, World.putObj_heap_same (Array.getElem?_eq_some_iff.1 e1).1, (World.putObj_heap_other (by omega)).trans e0, ⟨?_, fun k o hk hko ho => ?_⟩, fun k hk hkl => ?_⟩
        · have z1 := hbW.size
          have z2 := hX.size
          have z3 : (W.putObj (w.heap.size + 1) (.loop { L .ready none with state := .busy })).heap.size = W.heap.size := by simp [World.putObj]
          have z4 : (X.putObj (w.heap.size + 1) (.loop (L (if jump.isNone then .ready else .done) jump))).heap.size = X.heap.size := by simp [World.putObj]
          omega
        · have y1 := (hbW.block k (Array.getElem?_eq_some_iff.1 hko).1).trans hko
          have y2 : (W.putObj (w.heap.size + 1) (.loop { L .ready none with state := .busy })).heap[k]? = some o := (World.putObj_heap_other (by omega)).trans y1
          have y3 := hX.same k o (by omega) y2 ho
          exact (World.putObj_heap_other (by omega)).trans y3
        · have o1 := hoS _ _ _ k hi0 hk.1 (stepB_below _ hbW)
          have o2 := hoS _ _ _ k hi o1 s1
          have z3 : (W.putObj (w.heap.size + 1) (.loop { L .ready none with state := .busy })).heap.size = W.heap.size := by simp [World.putObj]
          obtain ⟨y3, o3⟩ := hO k o2 (by have := hbW.size; omega)
          have y2 : (W.putObj (w.heap.size + 1) (.loop { L .ready none with state := .busy })).heap[k]? = W.heap[k]? := World.putObj_heap_other (by omega)
          exact ⟨(World.putObj_heap_other (by omega)).trans (y3.trans (y2.trans (hbW.block k hkl))), hOs k _ o3 hsE, hk.2⟩
      rintro e a3 X hp
      cases e with
      | normal =>
        obtain ⟨hX, hO, hi3⟩ := hp
        obtain ⟨hr, hs, e1, e0, eK, eO⟩ := fin none X hX hO (fun k Y hk hs => hoS _ _ _ _ hi3 hk hs)
        refine ⟨_, _, hr, true, rfl, eK, eO, fun _ => ⟨hI _ _ _ hi3 hs, e1, e0, ?_⟩, fun e => (by cases e)⟩
        exact Nat.le_trans hVW eK.size
      | ret =>
        obtain ⟨hX, hO, hi3⟩ := hp
        obtain ⟨hr, hs, e1, e0, eK, eO⟩ := fin (some .ret) X hX hO (fun k Y hk hs => hoX _ _ _ _ hi3 hk hs)
        exact ⟨_, _, hr, false, rfl, eK, eO, fun e => (by cases e), fun _ => ⟨hIx _ _ _ hi3 hs, e1, e0⟩⟩
      | exit i => exact hp.elim
      | goto t => exact hp.elim
      | panic ch => exact hp.elim
      | outgrown => exact hp.elim
  refine ⟨w.heap.size + 1, [{ target := .collected w.heap.size, args := #[] }], V, { target := .fn (.func 105) #[.pointer (some ⟨b, 0, none⟩), .pointer (some ⟨b + 1, 0, none⟩)], args := #[.func (.yield (w.heap.size + 1)) #[] #[]] }, V, 105,
    #[.func (.yield (w.heap.size + 1)) #[] #[], .pointer (some ⟨b, 0, none⟩), .pointer (some ⟨b + 1, 0, none⟩)], V, ?_, ?_, ?_, ?_, fun e => by simp [Fence.wide] at e, ?_⟩
  · rw [← hV, hL]; exact run_enterLoop_outer _ _ _ _ _
  · simp only [resolve, hg, diffV]
    simp [go_sem]
  · intro f' _; trivial
  · simp [invoke, go_sem]
  · refine (callsIn_wide.2 (diff1_anyD (w.heap.size + 1) V.heap.size _ _ _ _ b ma mb ta tb D hDD hT V (hG.later hbV) (hA.later hbV) (hC.later hbV) ⟨hIV, hV1, hV0, Nat.le_refl _⟩ (fun _ _ he => he))).mono ?_
    rintro e X ⟨rfl, ⟨hi, e1, e0, -⟩ | ⟨pre, hpre, hi, e1, e0⟩⟩
    · have hs := stepB_put (B := w.heap.size) (.loop { L .ready none with state := .exhausted }) (Nat.le_succ _) e1 rfl
      refine ⟨none, _, by have := run_endLoop (P := Tryz.prog) e1 (by rw [hL]; simp); rw [hL] at this ⊢; exact this, hdone _ _ (Nat.le_refl _) (hI _ _ _ hi hs) ((World.putObj_heap_other (by omega)).trans e0)⟩
    · have hs := stepB_put (B := w.heap.size) (.loop { L .done (some .ret) with state := .exhausted }) (Nat.le_succ _) e1 rfl
      refine ⟨some .ret, _, by have := run_endLoop (P := Tryz.prog) e1 (by rw [hL]; simp); rw [hL] at this ⊢; exact this, hstop _ pre _ (Nat.le_refl _) hpre (hIx _ _ _ hi hs) ((World.putObj_heap_other (by omega)).trans e0)⟩

end Go.Proofs.YtblfdjdhikfjhaaGreat

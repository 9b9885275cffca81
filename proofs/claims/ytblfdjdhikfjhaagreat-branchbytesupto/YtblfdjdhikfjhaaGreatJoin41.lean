import Derived.Test.YtblfdjdhikfjhaaGreatTurnTRange
import Derived.Test.YtblfdjdhikfjhaaGreatJoin37
namespace Go.Proofs.YtblfdjdhikfjhaaGreat
open Go.RowKit Go.Shelf
attribute [local go_sem] Oper.semAt_some

/-- What is asked of the body of the range that a difference is handed to: the loop's record is block T. B: blocks below are not turned; G: what always stands; off k: the block k is none of the body's. -/
structure TakesD (T : Nat) (B : Nat) (G : World → Prop) (off : Nat → World → Prop) (Q : List Ch → Ch → Prop) (J Jx : List Ch → World → Prop) : Prop where
  good : ∀ done X, J done X → G X
  goodx : ∀ done X, Jx done X → G X
  low : ∀ done X, J done X → B ≤ X.heap.size
  above : T < B
  step : ∀ done X Y, J done X → StepB B X Y → J done Y
  stepx : ∀ done X Y, Jx done X → StepB B X Y → Jx done Y
  set : ∀ done X k o v, J done X → off k X → B ≤ k → J done (X.setCell ⟨k, o, none⟩ v)
  setx : ∀ done X k o v, Jx done X → off k X → B ≤ k → Jx done (X.setCell ⟨k, o, none⟩ v)
  offNew : ∀ done X k, J done X → X.heap.size ≤ k → off k X
  offStep : ∀ done X Y k, J done X → off k X → StepB B X Y → off k Y
  call : ∀ done X (c : Ch) (k : Nat) (p q : Bool) (x y x' y' : Int) (m : Nat), chL c = [.int .u32 (k : Int), .bool p, .bool q, .int .i64 x, .int .i64 y, .int .i64 x', .int .i64 y'] → Q done c → J done X →
    YieldAt Fence.wide m Tryz.prog T #[.agg #[.int .u32 (k : Int), .bool p, .bool q, .int .i64 x, .int .i64 y, .int .i64 x', .int .i64 y']] X fun e X' => ∃ o : Bool, e = .returned (.bool o) ∧ KeepsFrom (T + 1) X X' ∧ (∀ k, off k X → k < X.heap.size → X'.heap[k]? = X.heap[k]? ∧ off k X') ∧ (o = true → J (done ++ [c]) X') ∧ (o = false → Jx (done ++ [c]) X')

theorem TakesD.weak {T : Nat} {B : Nat} {G G' : World → Prop} {off : Nat → World → Prop} {Q : List Ch → Ch → Prop} {J Jx : List Ch → World → Prop} (h : TakesD T B G off Q J Jx) (hG : ∀ X, G X → G' X) : TakesD T B G' off Q J Jx :=
  ⟨fun d X hJ => hG _ (h.good d X hJ), fun d X hJ => hG _ (h.goodx d X hJ), h.low, h.above, h.step, h.stepx, h.set, h.setx, h.offNew, h.offStep, h.call⟩
theorem keepsFrom_up {B B' : Nat} {X Y : World} (h : KeepsFrom B X Y) (hb : B ≤ B') : KeepsFrom B' X Y := ⟨h.size, fun k o hk => h.same k o (Nat.le_trans hb hk)⟩
theorem roundIn_any {l' m m' : Nat} {P : Program} {l : Nat} {f : FuncId} {tmps : Array Value} {assign body : Code} {w : World} {R : Ending → World → Prop} (h : RoundIn Fence.wide m P l f tmps assign body w R) : RoundIn (Fence.wide.inRound l') m' P l f tmps assign body w R :=
  ⟨h.1, fun c cs _ => h.2 c cs (room_wide _)⟩

/-- How a difference ends: all of it was told, or it was told to stop. -/
def EndsC (J Jx : List Ch → World → Prop) (done L : List Ch) (e : Ending) (w' : World) : Prop := ∃ o : Bool, e = .returned (.bool o) ∧ (o = true → J (done ++ L) w') ∧ (o = false → ∃ pre, pre <+: L ∧ Jx (done ++ pre) w')

def yieldVD (T : Nat) : Value := .func (.yield T) #[] #[]

/-- Between two rounds. -/
def gID (off : Nat → World → Prop) (J : List Ch → World → Prop) (f : Nat × (Int × Int) → Ch) (done : List Ch) (T : Nat) (yb : Nat) (pre : List (Nat × (Int × Int))) (X : World) : Prop :=
  J (done ++ pre.map f) X ∧ off yb X ∧ off (yb + 1) X ∧ X.heap[yb]? = some (.cells #[yieldVD T] 172 (0, 0)) ∧ X.heap[yb + 1]? = some (.cells #[.bool false] 4 (0, 0))
def gXD (Jx : List Ch → World → Prop) (f : Nat × (Int × Int) → Ch) (done : List Ch) (yb : Nat) (pre : List (Nat × (Int × Int))) (X : World) : Prop :=
  Jx (done ++ pre.map f) X ∧ X.heap[yb + 1]? = some (.cells #[.bool false] 4 (0, 0))

theorem block_stepB {B : Nat} {X Y : World} {k : Nat} {cs : Array Value} {t : TypeId} {z : Nat × Nat} (h : X.heap[k]? = some (.cells cs t z)) (hs : StepB B X Y) : Y.heap[k]? = some (.cells cs t z) := by
  obtain ⟨row, hg, hr⟩ := hs
  refine (hg.block k (Array.getElem?_eq_some_iff.1 h).1 (fun e => ?_)).trans h
  obtain ⟨-, o, h1, h2⟩ := hr k e.symm
  rw [h] at h1
  rw [← Option.some.inj h1] at h2
  cases h2
theorem gI_stepD {T : Nat} {B : Nat} {G : World → Prop} {off : Nat → World → Prop} {Q : List Ch → Ch → Prop} {J Jx : List Ch → World → Prop} (hT : TakesD T B G off Q J Jx) {f : Nat × (Int × Int) → Ch} {done : List Ch} {yb : Nat} {pre : List (Nat × (Int × Int))} {X Y : World} (h : gID off J f done T yb pre X) (hs : StepB B X Y) : gID off J f done T yb pre Y :=
  ⟨hT.step _ _ _ h.1 hs, hT.offStep _ _ _ _ h.1 h.2.1 hs, hT.offStep _ _ _ _ h.1 h.2.2.1 hs, block_stepB h.2.2.2.1 hs, block_stepB h.2.2.2.2 hs⟩
theorem gX_stepD {T : Nat} {B : Nat} {G : World → Prop} {off : Nat → World → Prop} {Q : List Ch → Ch → Prop} {J Jx : List Ch → World → Prop} (hT : TakesD T B G off Q J Jx) {f : Nat × (Int × Int) → Ch} {done : List Ch} {yb : Nat} {pre : List (Nat × (Int × Int))} {X Y : World} (h : gXD Jx f done yb pre X) (hs : StepB B X Y) : gXD Jx f done yb pre Y :=
  ⟨hT.stepx _ _ _ h.1 hs, block_stepB h.2 hs⟩

set_option maxRecDepth 10000 in
set_option maxHeartbeats 1000000 in
theorem gained_anyD (T : Nat) (B : Nat) (G : World → Prop) (off : Nat → World → Prop) (Q : List Ch → Ch → Prop) (J Jx : List Ch → World → Prop) (hT : TakesD T B G off Q J Jx) (b N l : Nat) (hl : l + N = 7) (t : Tr) (hw : t.wf N) (hGL : ∀ X, G X → Lies X t) (p : Nat) (hp : p + 16 ^ (N + 1) ≤ 4294967296) (hm : p % 16 ^ (N + 1) = 0) (done : List Ch) (w : World) (hI : IterG w b t l p 0) (h : J done w) (hQ : ∀ pre c, pre ++ [c] <+: (t.ents N p).map gainC → Q (done ++ pre) c) :
    Calls Tryz.prog 115 #[iterV b, yieldVD T] w (EndsC J Jx done ((t.ents N p).map gainC)) := by
  refine (callsIn_wide (n := 5)).1 ?_
  have hlow := hT.low _ _ h
  have hab := hT.above
  have ha1 := (Below.refl w.heap.size w).alloc (Nat.le_refl _) (.cells #[yieldVD T] 172)
  have ha2 : Below w.heap.size w ((w.alloc (.cells #[yieldVD T] 172)).alloc (.cells #[.bool false] 4)) := ha1.alloc (by simp) _
  have hs12 := stepB_below B ha2
  have hb0 : ((w.alloc (.cells #[yieldVD T] 172)).alloc (.cells #[.bool false] 4)).heap[w.heap.size]? = some (.cells #[yieldVD T] 172 (0, 0)) := (Below.heap_alloc _ _ _ (by simp)).trans (heap_alloc_last w _)
  have hb1 : ((w.alloc (.cells #[yieldVD T] 172)).alloc (.cells #[.bool false] 4)).heap[w.heap.size + 1]? = some (.cells #[.bool false] 4 (0, 0)) := by
    have := heap_alloc_last (w.alloc (.cells #[yieldVD T] 172)) (.cells #[.bool false] 4)
    simpa using this
  have hI0 : gID off J gainC done T w.heap.size [] ((w.alloc (.cells #[yieldVD T] 172)).alloc (.cells #[.bool false] 4)) :=
    ⟨by rw [List.map_nil, List.append_nil]; exact hT.step _ _ _ h hs12, hT.offStep _ _ _ _ h (hT.offNew _ _ _ h (Nat.le_refl _)) hs12, hT.offStep _ _ _ _ h (hT.offNew _ _ _ h (Nat.le_succ _)) hs12, hb0, hb1⟩
  have hIt := hI.later ha2
  refine callsIn_of_wp_marks Tryz.func115 rfl trivial ?_ rfl
  simp only [Tryz.ntmps115, List.size_toArray, List.length_cons, List.length_nil, Nat.reduceAdd, Nat.reduceSub, Array.replicate_succ, Array.replicate_zero, List.push_toArray, List.append_toArray, List.nil_append, List.cons_append]
  unfold yieldVD iterV at *
  gi_wp2
  have hsz : ((w.alloc (.cells #[Value.func (.yield T) #[] #[]] 172)).alloc (.cells #[.bool false] 4)).heap.size = w.heap.size + 1 + 1 := by simp
  generalize ((w.alloc (.cells #[Value.func (.yield T) #[] #[]] 172)).alloc (.cells #[.bool false] 4)) = wb at *
  clear hI ha1 ha2 hs12 hb0 hb1
  have hBb : B ≤ wb.heap.size := by omega
  refine range_ents b N l hl t hw p hp hm rfl rfl (gID off J gainC done T w.heap.size) (gXD Jx gainC done w.heap.size) (fun pre X Y h hs => gI_stepD hT h (hs.mono hBb)) (fun pre X Y h hs => gX_stepD hT h (hs.mono hBb)) (fun pre X h => hGL _ (hT.good _ _ h.1)) (fun pre X h => hGL _ (hT.goodx _ _ h.1)) hIt hI0
    (fun x a' X => ∃ vb, wb.heap.size ≤ vb ∧ a' = { tmps := #[Value.func (.func 79) #[] #[.pointer (some ⟨b, 0, none⟩), .pointer (some ⟨b + 1, 0, none⟩), .pointer (some ⟨b + 1 + 1, 0, none⟩), .pointer (some ⟨b + 1 + 1 + 1, 0, none⟩)], Value.func (.yield T) #[] #[], undef, .pointer (some ⟨w.heap.size, 0, none⟩), .pointer (some ⟨w.heap.size + 1, 0, none⟩), .int .u32 (x.1 : Int), .pointer (some ⟨vb, 0, none⟩), Value.func (.func 79) #[] #[.pointer (some ⟨b, 0, none⟩), .pointer (some ⟨b + 1, 0, none⟩), .pointer (some ⟨b + 1 + 1, 0, none⟩), .pointer (some ⟨b + 1 + 1 + 1, 0, none⟩)], .int .u32 (x.1 : Int), .agg #[.int .i64 x.2.1, .int .i64 x.2.2], undef, undef, undef, undef, undef, undef], defers := [] } ∧ X.cell? ⟨vb, 0, none⟩ = some (.int .i64 x.2.1) ∧ X.cell? ⟨vb, 1, none⟩ = some (.int .i64 x.2.2))
    (fun x a' X Y ⟨vb, h1, h2, h3, h4⟩ hs => ⟨vb, h1, h2, cell_stepB h3 hs, cell_stepB h4 hs⟩) ?assign ?body ?done ?stop
  case assign =>
    intro l' pre x W K hx hIW hK'
    gi_wp2
    have hBl : w.heap.size + 1 < W.heap.size := (Array.getElem?_eq_some_iff.1 hIW.2.2.2.2).1
    refine hK' _ _ ((KeepsOthers.alloc W _).from _) (gI_stepD hT hIW (stepB_alloc _ _ _)) ⟨W.heap.size, by omega, rfl, by simp, by simp⟩
  case body =>
    rintro l' pre x a' W hx hpx hIW ⟨vb, hvb, rfl, v0, v1⟩
    have c0 : W.cell? ⟨w.heap.size, 0, none⟩ = some (Value.func (.yield T) #[] #[]) := cell_of_row _ _ 0 _ _ _ hIW.2.2.2.1
    obtain ⟨fn, tm, asg, bod, hy, hR⟩ := hT.call _ W (gainC x) x.1 false true 0 0 x.2.1 x.2.2 3 rfl (hQ (pre.map gainC) _ (by have := hpx.map gainC; simpa using this)) hIW.1
    gi_wp2
    refine (roundIn_any hR).mono ?_
    clear hR hy
    rintro _ X ⟨o, rfl, hKO, hoff, hJ, hX⟩
    have hlt0 := (Array.getElem?_eq_some_iff.1 hIW.2.2.2.1).1
    have hlt1 := (Array.getElem?_eq_some_iff.1 hIW.2.2.2.2).1
    obtain ⟨o0, o0'⟩ := hoff _ hIW.2.1 hlt0
    obtain ⟨o1, o1'⟩ := hoff _ hIW.2.2.1 hlt1
    have r0 := o0.trans hIW.2.2.2.1
    have r1 := o1.trans hIW.2.2.2.2
    have c1 : X.cell? ⟨w.heap.size + 1, 0, none⟩ = some (.bool false) := cell_of_row _ _ 0 _ _ _ r1
    have f1 := frozen_of_row r1 0
    have e1 : (done ++ pre.map gainC) ++ [gainC x] = done ++ (pre ++ [x]).map gainC := by simp
    rw [e1] at hJ hX
    clear o0 o1 hoff e1
    cases o with
    | true =>
      have hJ6 := hJ rfl
      clear hX hJ
      gi_wp2
      exact ⟨keepsFrom_up hKO (by omega), hJ6, o0', o1', r0, r1⟩
    | false =>
      have hX2 := hT.setx _ _ (w.heap.size + 1) 0 (.bool false) (hX rfl) o1' (by omega)
      clear hJ hX
      have r2 := heap_setCell_same X (w.heap.size + 1) 0 _ _ (.bool false) r1
      have hK2 := (keepsFrom_up hKO (show T + 1 ≤ wb.heap.size by omega)).trans ((KeepsOthers.setCell X ⟨w.heap.size + 1, 0, none⟩ (.bool false)).from _)
      gi_wp2
      exact ⟨hK2, hX2, r2⟩
  case done =>
    intro D W hD hIW hdef
    have r1 := hIW.2.2.2.2
    have c1 : W.cell? ⟨w.heap.size + 1, 0, none⟩ = some (.bool false) := cell_of_row _ _ 0 _ _ _ r1
    have f1 := frozen_of_row r1 0
    have hJ2 := hT.set _ _ (w.heap.size + 1) 0 (.bool true) hIW.1 hIW.2.2.1 (by omega)
    have hdef2 : (W.setCell ⟨w.heap.size + 1, 0, none⟩ (.bool true)).heap[D]? = some (.deferred (some [])) := (Below.heap_setCell _ _ _ D (by simp; omega)).trans hdef
    have r2 := heap_setCell_same W (w.heap.size + 1) 0 _ _ (.bool true) r1
    have hst := stepB_put (B := B) (.deferred none) (by omega) hdef2 rfl
    have r3 := block_stepB r2 hst
    have hc3 : ((W.setCell ⟨w.heap.size + 1, 0, none⟩ (.bool true)).putObj D (.deferred none)).cell? ⟨w.heap.size + 1, 0, none⟩ = some (.bool true) := cell_of_row _ _ 0 _ _ _ r3
    have hJ3 := hT.step _ _ _ hJ2 hst
    gi_wp2
    refine ⟨by simp, .inl ⟨_, _, rfl, run_takeDeferred hdef2, ?_⟩⟩
    exact ⟨.bool true, by simp [results, Tryz.results115, go_sem, hc3], true, rfl, fun _ => hJ3, fun e => (by cases e)⟩
  case stop =>
    intro D pre W hD hpre hIW hdef
    have hst := stepB_put (B := B) (.deferred none) (by omega) hdef rfl
    have r3 := block_stepB hIW.2 hst
    have hc3 : (W.putObj D (.deferred none)).cell? ⟨w.heap.size + 1, 0, none⟩ = some (.bool false) := cell_of_row _ _ 0 _ _ _ r3
    have hJ3 := hT.stepx _ _ _ hIW.1 hst
    gi_wp2
    refine ⟨by simp, .inl ⟨_, _, rfl, run_takeDeferred hdef, ?_⟩⟩
    exact ⟨.bool false, by simp [results, Tryz.results115, go_sem, hc3], false, rfl, fun e => (by cases e), fun _ => ⟨_, hpre.map _, hJ3⟩⟩

end Go.Proofs.YtblfdjdhikfjhaaGreat


namespace Go.Proofs.YtblfdjdhikfjhaaGreat
open Go.RowKit Go.Shelf
attribute [local go_sem] Oper.semAt_some

set_option maxRecDepth 10000 in
set_option maxHeartbeats 1000000 in
theorem lost_anyD (T : Nat) (B : Nat) (G : World → Prop) (off : Nat → World → Prop) (Q : List Ch → Ch → Prop) (J Jx : List Ch → World → Prop) (hT : TakesD T B G off Q J Jx) (b N l : Nat) (hl : l + N = 7) (t : Tr) (hw : t.wf N) (hGL : ∀ X, G X → Lies X t) (p : Nat) (hp : p + 16 ^ (N + 1) ≤ 4294967296) (hm : p % 16 ^ (N + 1) = 0) (done : List Ch) (w : World) (hI : IterG w b t l p 0) (h : J done w) (hQ : ∀ pre c, pre ++ [c] <+: (t.ents N p).map loseC → Q (done ++ pre) c) :
    Calls Tryz.prog 116 #[iterV b, yieldVD T] w (EndsC J Jx done ((t.ents N p).map loseC)) := by
  refine (callsIn_wide (n := 5)).1 ?_
  have hlow := hT.low _ _ h
  have hab := hT.above
  have ha1 := (Below.refl w.heap.size w).alloc (Nat.le_refl _) (.cells #[yieldVD T] 172)
  have ha2 : Below w.heap.size w ((w.alloc (.cells #[yieldVD T] 172)).alloc (.cells #[.bool false] 4)) := ha1.alloc (by simp) _
  have hs12 := stepB_below B ha2
  have hb0 : ((w.alloc (.cells #[yieldVD T] 172)).alloc (.cells #[.bool false] 4)).heap[w.heap.size]? = some (.cells #[yieldVD T] 172 (0, 0)) := (Below.heap_alloc _ _ _ (by simp)).trans (heap_alloc_last w _)
  have hb1 : ((w.alloc (.cells #[yieldVD T] 172)).alloc (.cells #[.bool false] 4)).heap[w.heap.size + 1]? = some (.cells #[.bool false] 4 (0, 0)) := by
    have := heap_alloc_last (w.alloc (.cells #[yieldVD T] 172)) (.cells #[.bool false] 4)
    simpa using this
  have hI0 : gID off J loseC done T w.heap.size [] ((w.alloc (.cells #[yieldVD T] 172)).alloc (.cells #[.bool false] 4)) :=
    ⟨by rw [List.map_nil, List.append_nil]; exact hT.step _ _ _ h hs12, hT.offStep _ _ _ _ h (hT.offNew _ _ _ h (Nat.le_refl _)) hs12, hT.offStep _ _ _ _ h (hT.offNew _ _ _ h (Nat.le_succ _)) hs12, hb0, hb1⟩
  have hIt := hI.later ha2
  refine callsIn_of_wp_marks Tryz.func116 rfl trivial ?_ rfl
  simp only [Tryz.ntmps116, List.size_toArray, List.length_cons, List.length_nil, Nat.reduceAdd, Nat.reduceSub, Array.replicate_succ, Array.replicate_zero, List.push_toArray, List.append_toArray, List.nil_append, List.cons_append]
  unfold yieldVD iterV at *
  gi_wp2
  have hsz : ((w.alloc (.cells #[Value.func (.yield T) #[] #[]] 172)).alloc (.cells #[.bool false] 4)).heap.size = w.heap.size + 1 + 1 := by simp
  generalize ((w.alloc (.cells #[Value.func (.yield T) #[] #[]] 172)).alloc (.cells #[.bool false] 4)) = wb at *
  clear hI ha1 ha2 hs12 hb0 hb1
  have hBb : B ≤ wb.heap.size := by omega
  refine range_ents b N l hl t hw p hp hm rfl rfl (gID off J loseC done T w.heap.size) (gXD Jx loseC done w.heap.size) (fun pre X Y h hs => gI_stepD hT h (hs.mono hBb)) (fun pre X Y h hs => gX_stepD hT h (hs.mono hBb)) (fun pre X h => hGL _ (hT.good _ _ h.1)) (fun pre X h => hGL _ (hT.goodx _ _ h.1)) hIt hI0
    (fun x a' X => ∃ vb, wb.heap.size ≤ vb ∧ a' = { tmps := #[Value.func (.func 79) #[] #[.pointer (some ⟨b, 0, none⟩), .pointer (some ⟨b + 1, 0, none⟩), .pointer (some ⟨b + 1 + 1, 0, none⟩), .pointer (some ⟨b + 1 + 1 + 1, 0, none⟩)], Value.func (.yield T) #[] #[], undef, .pointer (some ⟨w.heap.size, 0, none⟩), .pointer (some ⟨w.heap.size + 1, 0, none⟩), .int .u32 (x.1 : Int), .pointer (some ⟨vb, 0, none⟩), Value.func (.func 79) #[] #[.pointer (some ⟨b, 0, none⟩), .pointer (some ⟨b + 1, 0, none⟩), .pointer (some ⟨b + 1 + 1, 0, none⟩), .pointer (some ⟨b + 1 + 1 + 1, 0, none⟩)], .int .u32 (x.1 : Int), .agg #[.int .i64 x.2.1, .int .i64 x.2.2], undef, undef, undef, undef, undef, undef], defers := [] } ∧ X.cell? ⟨vb, 0, none⟩ = some (.int .i64 x.2.1) ∧ X.cell? ⟨vb, 1, none⟩ = some (.int .i64 x.2.2))
    (fun x a' X Y ⟨vb, h1, h2, h3, h4⟩ hs => ⟨vb, h1, h2, cell_stepB h3 hs, cell_stepB h4 hs⟩) ?assign ?body ?done ?stop
  case assign =>
    intro l' pre x W K hx hIW hK'
    gi_wp2
    have hBl : w.heap.size + 1 < W.heap.size := (Array.getElem?_eq_some_iff.1 hIW.2.2.2.2).1
    refine hK' _ _ ((KeepsOthers.alloc W _).from _) (gI_stepD hT hIW (stepB_alloc _ _ _)) ⟨W.heap.size, by omega, rfl, by simp, by simp⟩
  case body =>
    rintro l' pre x a' W hx hpx hIW ⟨vb, hvb, rfl, v0, v1⟩
    have c0 : W.cell? ⟨w.heap.size, 0, none⟩ = some (Value.func (.yield T) #[] #[]) := cell_of_row _ _ 0 _ _ _ hIW.2.2.2.1
    obtain ⟨fn, tm, asg, bod, hy, hR⟩ := hT.call _ W (loseC x) x.1 true false x.2.1 x.2.2 0 0 3 rfl (hQ (pre.map loseC) _ (by have := hpx.map loseC; simpa using this)) hIW.1
    gi_wp2
    refine (roundIn_any hR).mono ?_
    clear hR hy
    rintro _ X ⟨o, rfl, hKO, hoff, hJ, hX⟩
    have hlt0 := (Array.getElem?_eq_some_iff.1 hIW.2.2.2.1).1
    have hlt1 := (Array.getElem?_eq_some_iff.1 hIW.2.2.2.2).1
    obtain ⟨o0, o0'⟩ := hoff _ hIW.2.1 hlt0
    obtain ⟨o1, o1'⟩ := hoff _ hIW.2.2.1 hlt1
    have r0 := o0.trans hIW.2.2.2.1
    have r1 := o1.trans hIW.2.2.2.2
    have c1 : X.cell? ⟨w.heap.size + 1, 0, none⟩ = some (.bool false) := cell_of_row _ _ 0 _ _ _ r1
    have f1 := frozen_of_row r1 0
    have e1 : (done ++ pre.map loseC) ++ [loseC x] = done ++ (pre ++ [x]).map loseC := by simp
    rw [e1] at hJ hX
    clear o0 o1 hoff e1
    cases o with
    | true =>
      have hJ6 := hJ rfl
      clear hX hJ
      gi_wp2
      exact ⟨keepsFrom_up hKO (by omega), hJ6, o0', o1', r0, r1⟩
    | false =>
      have hX2 := hT.setx _ _ (w.heap.size + 1) 0 (.bool false) (hX rfl) o1' (by omega)
      clear hJ hX
      have r2 := heap_setCell_same X (w.heap.size + 1) 0 _ _ (.bool false) r1
      have hK2 := (keepsFrom_up hKO (show T + 1 ≤ wb.heap.size by omega)).trans ((KeepsOthers.setCell X ⟨w.heap.size + 1, 0, none⟩ (.bool false)).from _)
      gi_wp2
      exact ⟨hK2, hX2, r2⟩
  case done =>
    intro D W hD hIW hdef
    have r1 := hIW.2.2.2.2
    have c1 : W.cell? ⟨w.heap.size + 1, 0, none⟩ = some (.bool false) := cell_of_row _ _ 0 _ _ _ r1
    have f1 := frozen_of_row r1 0
    have hJ2 := hT.set _ _ (w.heap.size + 1) 0 (.bool true) hIW.1 hIW.2.2.1 (by omega)
    have hdef2 : (W.setCell ⟨w.heap.size + 1, 0, none⟩ (.bool true)).heap[D]? = some (.deferred (some [])) := (Below.heap_setCell _ _ _ D (by simp; omega)).trans hdef
    have r2 := heap_setCell_same W (w.heap.size + 1) 0 _ _ (.bool true) r1
    have hst := stepB_put (B := B) (.deferred none) (by omega) hdef2 rfl
    have r3 := block_stepB r2 hst
    have hc3 : ((W.setCell ⟨w.heap.size + 1, 0, none⟩ (.bool true)).putObj D (.deferred none)).cell? ⟨w.heap.size + 1, 0, none⟩ = some (.bool true) := cell_of_row _ _ 0 _ _ _ r3
    have hJ3 := hT.step _ _ _ hJ2 hst
    gi_wp2
    refine ⟨by simp, .inl ⟨_, _, rfl, run_takeDeferred hdef2, ?_⟩⟩
    exact ⟨.bool true, by simp [results, Tryz.results116, go_sem, hc3], true, rfl, fun _ => hJ3, fun e => (by cases e)⟩
  case stop =>
    intro D pre W hD hpre hIW hdef
    have hst := stepB_put (B := B) (.deferred none) (by omega) hdef rfl
    have r3 := block_stepB hIW.2 hst
    have hc3 : (W.putObj D (.deferred none)).cell? ⟨w.heap.size + 1, 0, none⟩ = some (.bool false) := cell_of_row _ _ 0 _ _ _ r3
    have hJ3 := hT.stepx _ _ _ hIW.1 hst
    gi_wp2
    refine ⟨by simp, .inl ⟨_, _, rfl, run_takeDeferred hdef, ?_⟩⟩
    exact ⟨.bool false, by simp [results, Tryz.results116, go_sem, hc3], false, rfl, fun e => (by cases e), fun _ => ⟨_, hpre.map _, hJ3⟩⟩

end Go.Proofs.YtblfdjdhikfjhaaGreat

import Derived.Test.YtdlbfoiiaedicaaDoorTurnWSame
import Derived.Test.YtdlbfoiiaedicaaDoorTurnWR9
namespace Go.Proofs.YtdlbfoiiaedicaaDoor.Q
open Go.RowKit Go.Shelf
attribute [local go_sem] Oper.semAt_some

/-- What is asked of the function that Tokens hands its words to. yb: where Tokens keeps what is its own (three blocks). -/
structure TakesK (f : Nat) (caps : Array Value) (yb : Nat) (L : List Itm) (J Jx : List Itm → World → Prop) : Prop where
  tabs : ∀ pre X, J pre X → Cls X ∧ ErrR X ∧ Mon X ∧ Sgn X
  ent : ∀ (gs : Array Value) (W : World), Sem.run Tryd.prog (callFunc f gs) W = .ok (.enter f gs) W
  low : ∀ pre X, J pre X → yb ≤ X.heap.size
  step : ∀ pre X Y, J pre X → StepB yb X Y → J pre Y
  stepx : ∀ pre X Y, Jx pre X → StepB yb X Y → Jx pre Y
  set : ∀ pre X v, J pre X → J pre (X.setCell ⟨yb + 1, 0, none⟩ v)
  call : ∀ pre X (x : Itm), J pre X → yb + 3 ≤ X.heap.size → pre ++ [x] <+: L → x.2.2 = 0 → (∀ y ∈ pre, y.2.2 = 0) →
    Calls Tryd.prog f (#[.int .i64 (pre.length : Int), .agg #[.int .i64 (x.1.1 : Int), .int .i64 (x.2.1 : Int), .string ⟨x.1.2.1.toArray⟩, .int .i64 (x.1.2.2.1 : Int), .int .i64 (x.1.2.2.2 : Int)]] ++ caps) X fun e X' => ∃ o : Bool, e = .returned (.bool o) ∧ KeepsOthers X X' ∧ (∀ k, yb ≤ k → k < yb + 3 → X'.heap[k]? = X.heap[k]?) ∧ (o = true → J (pre ++ [x]) X') ∧ (o = false → Jx (pre ++ [x]) X')

def kI (f : Nat) (caps : Array Value) (yb : Nat) (s : ByteArray) (J : List Itm → World → Prop) (pre : List Itm) (X : World) : Prop :=
  J pre X ∧ X.heap[yb]? = some (.cells #[.func (.func f) #[] caps] 41 (0, 0)) ∧ X.heap[yb + 1]? = some (.cells #[.int .i64 (pre.length : Int)] 3 (0, 0)) ∧ X.heap[yb + 2]? = some (.cells #[.string s] 9 (0, 0)) ∧ (∀ y ∈ pre, y.2.2 = 0)
/-- Left early: the function said so, or an error was met. -/
def kX (J Jx : List Itm → World → Prop) (pre : List Itm) (X : World) : Prop := (Jx pre X ∧ ∀ y ∈ pre, y.2.2 = 0) ∨ ∃ pre' x, pre = pre' ++ [x] ∧ x.2.2 ≠ 0 ∧ (∀ y ∈ pre', y.2.2 = 0) ∧ J pre' X
theorem kI_step {f : Nat} {caps : Array Value} {yb : Nat} {L : List Itm} {J Jx : List Itm → World → Prop} (hT : TakesK f caps yb L J Jx) {s : ByteArray} {pre : List Itm} {X Y : World} (h : kI f caps yb s J pre X) (hs : StepB yb X Y) : kI f caps yb s J pre Y :=
  ⟨hT.step _ _ _ h.1 hs, block_stepB h.2.1 hs, block_stepB h.2.2.1 hs, block_stepB h.2.2.2.1 hs, h.2.2.2.2⟩
theorem kX_step {f : Nat} {caps : Array Value} {yb : Nat} {L : List Itm} {J Jx : List Itm → World → Prop} (hT : TakesK f caps yb L J Jx) {pre : List Itm} {X Y : World} (h : kX J Jx pre X) (hs : StepB yb X Y) : kX J Jx pre Y := by
  rcases h with ⟨h, h2⟩ | ⟨pre', x, h1, h2, h3, h4⟩
  · exact .inl ⟨hT.stepx _ _ _ h hs, h2⟩
  · exact .inr ⟨pre', x, h1, h2, h3, hT.step _ _ _ h4 hs⟩
/-- How Tokens ends: all ahead of the first error was told, or the function said stop. -/
def EndsK (L : List Itm) (J Jx : List Itm → World → Prop) (e : Ending) (w' : World) : Prop := e = .returned (.tuple #[]) ∧ ((∃ pre, (L = pre ∨ ∃ x, L = pre ++ [x] ∧ x.2.2 ≠ 0) ∧ (∀ y ∈ pre, y.2.2 = 0) ∧ J pre w') ∨ ∃ pre, pre <+: L ∧ (∀ y ∈ pre, y.2.2 = 0) ∧ Jx pre w')

set_option maxRecDepth 10000 in
set_option maxHeartbeats 4000000 in
theorem tokens1_any (f : Nat) (caps : Array Value) (b : Nat) (s : ByteArray) (w : World) (J Jx : List Itm → World → Prop) (hT : TakesK f caps w.heap.size (foundL s.data.toList) J Jx) (hb : w.cell? ⟨b, 0, none⟩ = some (.string s)) (h : J [] w) :
    Calls Tryd.prog 24 #[.func (.func f) #[] caps, .pointer (some ⟨b, 0, none⟩)] w (EndsK (foundL s.data.toList) J Jx) := by
  refine (callsIn_wide (n := 5)).1 ?_
  have hfi := fun W => (callsIn_wide (n := 4)).2 (found_iter s W)
  have ha : Below w.heap.size w (((w.alloc (.cells #[.func (.func f) #[] caps] 41)).alloc (.cells #[.int .i64 0] 3)).alloc (.cells #[.string s] 9)) := (((Below.refl _ _).alloc (Nat.le_refl _) _).alloc (by simp) _).alloc (by simp <;> omega) _
  have e1 : ∀ (X : World) (o : Obj) (k : Nat), k < X.heap.size → (X.alloc o).heap[k]? = X.heap[k]? := fun X o k h => Below.heap_alloc _ _ _ h
  have hI0 : kI f caps w.heap.size s J [] (((w.alloc (.cells #[.func (.func f) #[] caps] 41)).alloc (.cells #[.int .i64 0] 3)).alloc (.cells #[.string s] 9)) := by
    refine ⟨hT.step _ _ _ h (stepB_below _ ha), ?_, ?_, ?_, fun y hy => (by simp at hy)⟩
    · rw [e1 _ _ _ (by simp <;> omega), e1 _ _ _ (by simp)]; exact World.alloc_heap_new w _
    · rw [e1 _ _ _ (by simp)]; have := World.alloc_heap_new (w.alloc (.cells #[.func (.func f) #[] caps] 41)) (.cells #[.int .i64 0] 3); rwa [World.size_alloc] at this
    · have := World.alloc_heap_new ((w.alloc (.cells #[.func (.func f) #[] caps] 41)).alloc (.cells #[.int .i64 0] 3)) (.cells #[.string s] 9); rwa [World.size_alloc, World.size_alloc] at this
  have hblt := World.block_lt_of_cell? _ _ hb
  refine callsIn_of_wp_marks Tryd.func24 rfl trivial ?_ rfl
  simp only [Tryd.ntmps24, List.size_toArray, List.length_cons, List.length_nil, Nat.reduceAdd, Nat.reduceSub, Array.replicate_succ, Array.replicate_zero, List.push_toArray, List.append_toArray, List.nil_append, List.cons_append]
  gi_wp2_with (refine ⟨trivial, ?_⟩; gi_at_call 15; refine (hfi _).mono ?_; rintro e w1 ⟨rfl, hw1⟩; subst w1)
  have hsz : (((w.alloc (.cells #[.func (.func f) #[] caps] 41)).alloc (.cells #[.int .i64 0] 3)).alloc (.cells #[.string s] 9)).heap.size = w.heap.size + 3 := by simp
  generalize (((w.alloc (.cells #[.func (.func f) #[] caps] 41)).alloc (.cells #[.int .i64 0] 3)).alloc (.cells #[.string s] 9)) = wb at *
  have hyw : w.heap.size ≤ wb.heap.size := by omega
  refine range_found (w.heap.size + 2) s rfl rfl (kI f caps w.heap.size s J) (kX J Jx) (fun pre X Y h hs => kI_step hT h (hs.mono hyw)) (fun pre X Y h hs => kX_step hT h (hs.mono hyw)) (fun pre X h => ⟨(hT.tabs _ _ h.1).1, (hT.tabs _ _ h.1).2.1, (hT.tabs _ _ h.1).2.2.1, (hT.tabs _ _ h.1).2.2.2, cell_of_row _ _ 0 _ _ _ h.2.2.2.1⟩) hI0
    (fun x a' X => ∃ vb, w.heap.size + 3 ≤ vb ∧ a' = { tmps := #[.func (.func f) #[] caps, .pointer (some ⟨b, 0, none⟩), .pointer (some ⟨w.heap.size, 0, none⟩), .pointer (some ⟨w.heap.size + 1, 0, none⟩), .pointer (some ⟨vb, 0, none⟩), .int .i64 (x.2.2 : Int), .string s, .func (.func 25) #[] #[.pointer (some ⟨w.heap.size + 2, 0, none⟩)], .agg #[.int .i64 (x.1.1 : Int), .int .i64 (x.2.1 : Int), .string ⟨x.1.2.1.toArray⟩, .int .i64 (x.1.2.2.1 : Int), .int .i64 (x.1.2.2.2 : Int)], .int .i64 (x.2.2 : Int), undef, undef, undef, undef, undef, undef, undef, undef, undef, undef, undef], defers := [] } ∧ X.heap[vb]? = some (.cells #[.int .i64 (x.1.1 : Int), .int .i64 (x.2.1 : Int), .string ⟨x.1.2.1.toArray⟩, .int .i64 (x.1.2.2.1 : Int), .int .i64 (x.1.2.2.2 : Int)] 35 (0, 0)))
    (fun x a' X Y ⟨vb, h1, h2, h3⟩ hs => ⟨vb, h1, h2, block_stepB h3 hs⟩) ?assign ?body ?done ?stop
  case assign =>
    intro l' pre x W K hIW hK'
    have hWs : w.heap.size + 2 < W.heap.size := (Array.getElem?_eq_some_iff.1 hIW.2.2.2.1).1
    dsimp only [encI, tokC]
    gi_wp2
    refine hK' _ _ ((KeepsOthers.alloc W _).from _) (kI_step hT hIW (stepB_alloc _ _ _)) ⟨W.heap.size, by omega, rfl, World.alloc_heap_new W _⟩
  case body =>
    rintro l' pre x a' W hpre hIW ⟨vb, hvb, rfl, hv⟩
    obtain ⟨hJ, hy, hn, ht, h5⟩ := hIW
    have hWs : w.heap.size + 2 < W.heap.size := (Array.getElem?_eq_some_iff.1 ht).1
    have t0 : W.cell? ⟨vb, 0, none⟩ = some (.int .i64 (x.1.1 : Int)) := cell_of_row _ _ 0 _ _ _ hv
    have t1 : W.cell? ⟨vb, 1, none⟩ = some (.int .i64 (x.2.1 : Int)) := cell_of_row _ _ 1 _ _ _ hv
    have t2 : W.cell? ⟨vb, 2, none⟩ = some (.string ⟨x.1.2.1.toArray⟩) := cell_of_row _ _ 2 _ _ _ hv
    have t3 : W.cell? ⟨vb, 3, none⟩ = some (.int .i64 (x.1.2.2.1 : Int)) := cell_of_row _ _ 3 _ _ _ hv
    have t4 : W.cell? ⟨vb, 4, none⟩ = some (.int .i64 (x.1.2.2.2 : Int)) := cell_of_row _ _ 4 _ _ _ hv
    have c0 : W.cell? ⟨w.heap.size, 0, none⟩ = some (.func (.func f) #[] caps) := cell_of_row _ _ 0 _ _ _ hy
    have c1 : W.cell? ⟨w.heap.size + 1, 0, none⟩ = some (.int .i64 (pre.length : Int)) := cell_of_row _ _ 0 _ _ _ hn
    have hlen : pre.length ≤ 16002 := by
      have := hpre.length_le
      rw [List.length_append] at this
      have := foundL_len s.data.toList
      omega
    by_cases herr : x.2.2 = 0
    · have he' : ((x.2.2 : Int) != 0) = false := by rw [herr]; rfl
      have hcl := hT.call pre W x hJ (by omega) hpre herr h5
      have hne := hT.ent
      gi_wp2_with fail
      refine ⟨trivial, (CallsIn.inRound l' (callsIn_wide.2 hcl)).mono ?_⟩
      clear hcl
      rintro _ X ⟨o, rfl, hKO, hoff, hJ2, hX2⟩
      have r0 := (hoff w.heap.size (Nat.le_refl _) (by omega)).trans hy
      have r1 := (hoff (w.heap.size + 1) (by omega) (by omega)).trans hn
      have r2 := (hoff (w.heap.size + 2) (by omega) (by omega)).trans ht
      have d1 : X.cell? ⟨w.heap.size + 1, 0, none⟩ = some (.int .i64 (pre.length : Int)) := cell_of_row _ _ 0 _ _ _ r1
      have g1 := Go.frozen_of_row _ _ 0 _ _ r1
      have hall : ∀ y ∈ pre ++ [x], y.2.2 = 0 := fun y hy => by
        rcases List.mem_append.1 hy with hy | hy
        · exact h5 y hy
        · rw [List.mem_singleton.1 hy]; exact herr
      clear hoff c0 c1
      cases o with
      | true =>
        have hJ3 := hT.set _ _ (.int .i64 ((pre.length : Int) + 1)) (hJ2 rfl)
        have o3 : ∀ k, k ≠ w.heap.size + 1 → (X.setCell ⟨w.heap.size + 1, 0, none⟩ (.int .i64 ((pre.length : Int) + 1))).heap[k]? = X.heap[k]? := fun k hk => Below.heap_setCell _ _ _ k (by simpa using hk)
        have q0 := (o3 w.heap.size (by omega)).trans r0
        have q2 := (o3 (w.heap.size + 2) (by omega)).trans r2
        have q1 := Go.heap_setCell_same X (w.heap.size + 1) 0 _ _ (.int .i64 ((pre.length : Int) + 1)) r1
        have hfin : Hid (kI f caps w.heap.size s J (pre ++ [x]) (X.setCell ⟨w.heap.size + 1, 0, none⟩ (.int .i64 ((pre.length : Int) + 1)))) := ⟨hJ3, q0, by simpa using q1, q2, hall⟩
        have hK2 := hKO.trans (KeepsOthers.setCell X ⟨w.heap.size + 1, 0, none⟩ (.int .i64 ((pre.length : Int) + 1)))
        clear hJ2 hX2 hJ3 o3 q0 q1 q2
        gi_wp2
        exact ⟨hK2.from _, hfin.out⟩
      | false =>
        have hX3 := hX2 rfl
        clear hJ2 hX2
        gi_wp2
        exact ⟨hKO.from _, .inl ⟨hX3, hall⟩⟩
    · have he' : ((x.2.2 : Int) != 0) = true := by simp; omega
      gi_wp2_with (first | (refine ⟨fun _ hf => (by cases hf), ?_⟩; go_at_K))
      exact ⟨(KeepsOthers.refl W).from _, .inr ⟨pre, x, rfl, herr, h5, hJ⟩⟩
  case done =>
    intro D W hD hIW hdef
    have hst := stepB_put (B := w.heap.size) (.deferred none) (by omega) hdef rfl
    have hJ3 := hT.step _ _ _ hIW.1 hst
    gi_wp2
    refine ⟨by simp, .inl ⟨_, _, rfl, run_takeDeferred hdef, ?_⟩⟩
    exact ⟨.tuple #[], by simp [results, Tryd.results24, go_sem], rfl, .inl ⟨_, .inl rfl, hIW.2.2.2.2, hJ3⟩⟩
  case stop =>
    intro D pre W hD hpre hIW hdef
    have hst := stepB_put (B := w.heap.size) (.deferred none) (by omega) hdef rfl
    gi_wp2
    refine ⟨by simp, .inl ⟨_, _, rfl, run_takeDeferred hdef, ?_⟩⟩
    refine ⟨.tuple #[], by simp [results, Tryd.results24, go_sem], rfl, ?_⟩
    rcases kX_step hT hIW hst with ⟨h1, h2⟩ | ⟨pre', x, rfl, hx, h2, h3⟩
    · exact .inr ⟨pre, hpre, h2, h1⟩
    · exact .inl ⟨pre', .inr ⟨x, (foundL_last _ _ _ hx hpre).symm, hx⟩, h2, h3⟩

end Go.Proofs.YtdlbfoiiaedicaaDoor.Q

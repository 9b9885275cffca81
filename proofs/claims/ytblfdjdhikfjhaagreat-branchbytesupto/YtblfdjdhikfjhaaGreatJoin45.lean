import Derived.Test.YtblfdjdhikfjhaaGreatJoin44
import Derived.Test.YtblfdjdhikfjhaaGreatJoin8
import Derived.Test.YtblfdjdhikfjhaaGreatTurnBzM
import Derived.Maps.AppendAt
import Derived.RangeFuncBox
namespace Go.Proofs.YtblfdjdhikfjhaaGreat.BZ
open Go.RowKit Go.Shelf
attribute [local go_sem] Oper.semAt_some

set_option maxRecDepth 4000 in
set_option maxHeartbeats 2000000 in
/-- A history's versions, given to the body of a range. -/
theorem throughY (T hb g cap : Nat) (vs : Nat → Nat) (p n : Nat) (hl : n ≤ 33) (hp : p < 100) (J : Nat → World → Prop) (hgood : ∀ i X, J i X → ∀ k, k < n → X.cell? ⟨g, k, none⟩ = some (.pointer (some ⟨vs k, 0, none⟩)))
    (hcall : ∀ i X m, i < n → J i X → YieldAt Fence.wide m Tryz.prog T #[.int .i64 ((i : Int) - (p : Int)), .pointer (some ⟨vs i, 0, none⟩)] X fun e X' => e = .returned (.bool true) ∧ J (i + 1) X') (w : World) (c0 : w.cell? ⟨hb, 0, none⟩ = some (.slice (some ⟨g, 0, none⟩) n cap)) (c1 : w.cell? ⟨hb, 1, none⟩ = some (.int .i64 (p : Int))) (h : J 0 w) :
    Calls Tryz.prog 87 #[.pointer (some ⟨hb, 0, none⟩), .func (.yield T) #[] #[]] w fun e w' => e = .returned (.tuple #[]) ∧ J n w' := by
  refine (callsIn_wide (n := 3)).1 ?_
  refine callsIn_of_wp Tryz.func87 rfl trivial ?_ rfl
  simp only [Tryz.ntmps87, List.size_toArray, List.length_cons, List.length_nil, Nat.reduceAdd, Nat.reduceSub, Array.replicate_succ, Array.replicate_zero, List.push_toArray, List.append_toArray, List.nil_append, List.cons_append]
  gi_wp2
  gi_loopw [16] (fun x wr => ∃ j : Nat, j ≤ n ∧ x = .int .i64 j ∧ J j wr) (fun x _ => n - (intOf x).toNat)
  case atStart => exact ⟨0, by omega, rfl, h⟩
  case round =>
    obtain ⟨j, hj, rfl, hJ⟩ := hrel
    clear h c0 c1
    by_cases hlt : j < n
    · have hlt' : (j : Int) < (n : Int) := by omega
      have hj0 : (0 : Int) ≤ (j : Int) := by omega
      have cj := hgood j _ hJ j hlt
      have hwr : IntKind.i64.wrap ((j : Int) - (p : Int)) = (j : Int) - (p : Int) := by rw [IntKind.wrap_i64]; omega
      have hwr3 : wrap64 ((j : Int) - (p : Int)) = (j : Int) - (p : Int) := by unfold wrap64; omega
      obtain ⟨fn, tmps, assign, body, hy, hR⟩ := hcall j _ 2 hlt hJ
      gi_wp2
      refine hR.mono ?_
      rintro e w5 ⟨rfl, hJ5⟩
      gi_wp2
      exact ⟨⟨j + 1, by omega, by go_num, hJ5⟩, by simp [intOf]; omega⟩
    · have hlt' : ¬ (j : Int) < (n : Int) := by omega
      obtain rfl : j = n := by omega
      gi_wp2
      go_end0
      exact ⟨rfl, hJ⟩

set_option maxHeartbeats 2000000 in
/-- The statement 'for _, m := range h.Steps()': its body goes on. -/
theorem range_steps {n : Nat} {g : Operand} {ps : Array Tmp} {assign body : Code} {Q : Exit → Act → World → Prop} {a : Act} {w : World} (hb g0 cap : Nat) (vs : Nat → Nat) (p N : Nat) (hl : N ≤ 33) (hp : p < 100)
    (hg : a.eval g = .func (.func 87) #[.pointer (some ⟨hb, 0, none⟩)] #[]) (hps : ps.size = 2) (I : Nat → World → Prop)
    (hI : ∀ i X Y, I i X → StepB w.heap.size X Y → I i Y) (hgood : ∀ i X, I i X → ∀ k, k < N → X.cell? ⟨g0, k, none⟩ = some (.pointer (some ⟨vs k, 0, none⟩)))
    (c0 : w.cell? ⟨hb, 0, none⟩ = some (.slice (some ⟨g0, 0, none⟩) N cap)) (c1 : w.cell? ⟨hb, 1, none⟩ = some (.int .i64 (p : Int))) (h0 : I 0 w) (A : Nat → Act)
    (hassign : ∀ (l i : Nat) (W : World) (K : Act → World → Prop), i < N → K (A i) W → assign.wpIn (Fence.wide.inRound l) 3 Tryz.prog (Exit.then K (fun _ _ _ => False)) { tmps := (ps.zip #[.int .i64 ((i : Int) - (p : Int)), .pointer (some ⟨vs i, 0, none⟩)]).foldl (fun t (p, v) => t.setIfInBounds p v) a.tmps, defers := [] } W)
    (hbody : ∀ (l i : Nat) (W : World), i < N → I i W → body.wpIn (Fence.wide.inRound l) 3 Tryz.prog (fun e _ W' => e = .normal ∧ KeepsFrom w.heap.size W W' ∧ I (i + 1) W') (A i) W)
    (hdone : ∀ (R : Nat) (W : World), w.heap.size ≤ R → I N W → W.heap[R]? = some (.deferred (some [])) → Q .normal { a with defers := { target := .collected R, args := #[] } :: a.defers } W) :
    (Code.rangeFunc g ps assign body).wpIn Fence.wide n Tryz.prog Q a w := by
  refine wpIn_rangeFunc fun fn hfn => ?_
  obtain ⟨L, hL⟩ : ∃ L : LoopState → Option Code → Loop, L = fun st pe => { state := st, pending := pe, fn := fn, tmps := a.tmps, params := ps, assign := assign, body := body, defers := w.heap.size } := ⟨_, rfl⟩
  obtain ⟨V, hV⟩ : ∃ V, (w.alloc (.deferred (some []))).alloc (.loop (L .ready none)) = V := ⟨_, rfl⟩
  have hV1 : V.heap[w.heap.size + 1]? = some (.loop (L .ready none)) := by
    rw [← hV]
    have := World.alloc_heap_new (w.alloc (.deferred (some []))) (.loop (L .ready none))
    rwa [World.size_alloc] at this
  have hV0 : V.heap[w.heap.size]? = some (.deferred (some [])) := by
    rw [← hV]
    exact (Below.heap_alloc _ _ _ (by simp)).trans (World.alloc_heap_new w _)
  have hbV : Below w.heap.size w V := by rw [← hV]; exact ((Below.refl _ _).alloc (Nat.le_refl _) _).alloc (by simp) _
  have hIV : I 0 V := hI _ _ _ h0 (stepB_below _ hbV)
  have d0 : V.cell? ⟨hb, 0, none⟩ = some (.slice (some ⟨g0, 0, none⟩) N cap) := (hbV.cell (p := ⟨hb, 0, none⟩) (World.block_lt_of_cell? _ _ c0)).trans c0
  have d1 : V.cell? ⟨hb, 1, none⟩ = some (.int .i64 (p : Int)) := (hbV.cell (p := ⟨hb, 1, none⟩) (World.block_lt_of_cell? _ _ c1)).trans c1
  have hcall : ∀ i X m, i < N → (I i X ∧ X.heap[w.heap.size + 1]? = some (.loop (L .ready none)) ∧ X.heap[w.heap.size]? = some (.deferred (some []))) → YieldAt Fence.wide m Tryz.prog (w.heap.size + 1) #[.int .i64 ((i : Int) - (p : Int)), .pointer (some ⟨vs i, 0, none⟩)] X fun e X' => e = .returned (.bool true) ∧ (I (i + 1) X' ∧ X'.heap[w.heap.size + 1]? = some (.loop (L .ready none)) ∧ X'.heap[w.heap.size]? = some (.deferred (some []))) := by
    rintro i W m hi ⟨hi0, h10, h20⟩
    have hy := run_yield (P := Tryz.prog) (args := #[.int .i64 ((i : Int) - (p : Int)), .pointer (some ⟨vs i, 0, none⟩)]) h10 (by rw [hL]; exact hps.symm)
    rw [hL] at hy
    refine ⟨fn, _, assign, body, hy, roundIn_depth (n := 3) (roundIn_of_wpIn hfn (hassign _ i W _ hi ?_))⟩
    have hlt : w.heap.size + 1 < W.heap.size := (Array.getElem?_eq_some_iff.1 h10).1
    refine ⟨_, run_beginRound h10 (by rw [hL]), ?_⟩
    have s1 := stepB_put (B := w.heap.size) (.loop { L .ready none with state := .busy }) (Nat.le_succ _) h10 rfl
    have k1 : (W.putObj (w.heap.size + 1) (.loop { L .ready none with state := .busy })).heap[w.heap.size + 1]? = some (.loop { L .ready none with state := .busy }) := World.putObj_heap_same hlt
    have k0 : (W.putObj (w.heap.size + 1) (.loop { L .ready none with state := .busy })).heap[w.heap.size]? = some (.deferred (some [])) := (World.putObj_heap_other (by omega)).trans h20
    refine wpIn_mono (hbody _ i _ hi (hI _ _ _ hi0 s1)) ?_
    rintro e a3 X ⟨rfl, hX, hi3⟩
    have e1 := hX.same _ _ (Nat.le_succ _) k1 rfl
    have e0 := hX.same _ _ (Nat.le_refl _) k0 rfl
    have e2 := run_endRound (P := Tryz.prog) none e1
    have hs := stepB_put (B := w.heap.size) (.loop (L .ready none)) (Nat.le_succ _) e1 rfl
    refine ⟨_, _, by rw [hL] at e2 ⊢; exact e2, rfl, hI _ _ _ hi3 hs, World.putObj_heap_same (Array.getElem?_eq_some_iff.1 e1).1, (World.putObj_heap_other (by omega)).trans e0⟩
  have hth := throughY (w.heap.size + 1) hb g0 cap vs p N hl hp (fun i W => I i W ∧ W.heap[w.heap.size + 1]? = some (.loop (L .ready none)) ∧ W.heap[w.heap.size]? = some (.deferred (some []))) (fun i X h => hgood i X h.1) hcall V d0 d1 ⟨hIV, hV1, hV0⟩
  refine ⟨w.heap.size + 1, [{ target := .collected w.heap.size, args := #[] }], V, { target := .fn (.func 87) #[], args := #[.pointer (some ⟨hb, 0, none⟩), .func (.yield (w.heap.size + 1)) #[] #[]] }, V, 87,
    #[.pointer (some ⟨hb, 0, none⟩), .func (.yield (w.heap.size + 1)) #[] #[]], V, ?_, ?_, ?_, ?_, fun e => by simp [Fence.wide] at e, ?_⟩
  · rw [← hV, hL]; exact run_enterLoop_outer _ _ _ _ _
  · simp only [resolve, hg]
    simp [go_sem]
  · intro f' _; trivial
  · simp [invoke, go_sem]
  · refine (callsIn_wide.2 hth).mono ?_
    rintro e X ⟨rfl, hi, e1, e0⟩
    have hs := stepB_put (B := w.heap.size) (.loop { L .ready none with state := .exhausted }) (Nat.le_succ _) e1 rfl
    exact ⟨none, _, by have := run_endLoop (P := Tryz.prog) e1 (by rw [hL]; simp); rw [hL] at this ⊢; exact this, hdone _ _ (Nat.le_refl _) (hI _ _ _ hi hs) ((World.putObj_heap_other (by omega)).trans e0)⟩

end Go.Proofs.YtblfdjdhikfjhaaGreat.BZ


namespace Go.Proofs.YtblfdjdhikfjhaaGreat.BZ
open Go.RowKit Go.Shelf
attribute [local go_sem] Oper.semAt_some

/-- An append inside a fence, the new row's block told. -/
theorem wpListIn_append_at {F : Fence} {n : Nat} {P : Program} (w : World) {ops : Array Oper} {rest : List Oper} {o : Oper} {a : Act} {Q : Exit → Act → World → Prop}
    (hg : o.guard = none) (s x : Operand) (t : TypeId) (hop : o.op = Op.call { callee := Callee.builtin Builtin.append, args := #[s, x], argTypes := #[t, t] })
    (base : Nat) (e : TypeId) (i : TypeInfo) (z : Value) (size bytes : Nat) (h1 : P.underlying t = some (.slice e)) (h2 : P.info? e = some i) (h3 : i.zero = some z) (h4 : i.size = size) (h5 : i.bytes = bytes) (h6 : z.cells.size = size) (h7 : 0 < size)
    (v : Value) (k : Nat) (xs : List Value) (hs : a.eval s = v) (hown : w.ownsRow base e size v k xs) (ad : Addr) (m c : Nat) (news : List Value) (hx : a.eval x = .slice (some ad) m c) (hn : news.length = m * size)
    (hc : ∀ j u, news[j]? = some u → w.cell? (ad.add j) = some u) (h1c : ∀ u ∈ news, u.oneCell' = true) (b1 : k + m ≤ maxLen) (b2 : (k + m) * bytes ≤ 140737488355328) (b3 : base ≤ w.heap.size)
    (hK : ∀ v' w', w'.ownsRow base e size v' (k + m) (xs ++ news) → w.grownBy w' v.ownBlock → (v'.ownBlock = v.ownBlock ∨ v'.ownBlock = some w.heap.size) → wpListIn F n P ops Q rest (a.put o.dst v') w') :
    wpListIn F n P ops Q (o :: rest) a w := by
  refine wpListIn_plain hg fun K hK' => ?_
  obtain ⟨v', w', hrun, r1, r2, r3, r4⟩ := run_append_own_at (P := P) w base t o.type e i z size bytes h1 h2 h3 h4 h5 h6 h7 v k xs hown ad m c news hn hc h1c b1 b2 b3
  unfold Oper.wpIn
  refine ⟨?_, ?_⟩
  · simp [Oper.about, hop, resolve, Target.leads, Sem.run_pure]
  · rw [Oper.semAt_plain F _ _ (by rw [hop]; intro c hc'; cases hc')]
    simp [execOp, hop, resolve, invoke, builtin, hs, hx, hrun, Result.andThen]
    exact hK' _ _ (hK v' w' r1 r2 r4)

theorem infoCh : (Tryz.prog.info? 150).map (fun i => (i.zero, i.size, i.bytes)) = some (some (.agg #[.int .u32 0, .bool false, .bool false, .int .i64 0, .int .i64 0, .int .i64 0, .int .i64 0]), 7, 40) := by kernel_rfl

/-- The box of the list under way: what came up to here. -/
def CgAt (X : World) (B : Nat) (pre : List Ch) : Prop := ∃ v, X.heap[B]? = some (.cells #[v] 147 (0, 0)) ∧ X.ownsRow B 150 7 v pre.length (flat7 pre)
def offC (B k : Nat) (X : World) : Prop := k ≠ B ∧ ∀ v : Value, X.cell? ⟨B, 0, none⟩ = some v → v.ownBlock ≠ some k
theorem own_stepC {B base n size : Nat} {X Y : World} {e : TypeId} {v : Value} {xs : List Value} (h : X.ownsRow base e size v n xs) (hs : StepB B X Y) : Y.ownsRow base e size v n xs := by
  obtain ⟨row, hg, hr⟩ := hs
  refine h.kept hg ?_
  obtain ⟨_, ⟨rfl, _⟩ | ⟨g, cap, cur, rfl, _, hgb, _⟩⟩ := h
  · exact .inl rfl
  · refine .inr fun e2 => ?_
    obtain ⟨-, o, h3, h4⟩ := hr g e2.symm
    rw [hgb] at h3
    cases h3
    cases h4
theorem CgAt.step {B B' : Nat} {X Y : World} {pre : List Ch} (h : CgAt X B pre) (hs : StepB B' X Y) : CgAt Y B pre := by
  obtain ⟨v, h1, h2⟩ := h
  exact ⟨v, block_stepB h1 hs, own_stepC h2 hs⟩
theorem CgAt.set {B : Nat} {X : World} {pre : List Ch} (h : CgAt X B pre) {k : Nat} (hk : offC B k X) (o : Nat) (v : Value) : CgAt (X.setCell ⟨k, o, none⟩ v) B pre := by
  obtain ⟨u, h1, h2⟩ := h
  exact ⟨u, (Below.heap_setCell _ _ _ B (Ne.symm hk.1)).trans h1, h2.kept (grown_set X k o v) (.inr (hk.2 u (cell_of_row _ _ 0 _ _ _ h1)))⟩
theorem CgAt.new {B : Nat} {X : World} {pre : List Ch} (h : CgAt X B pre) {k : Nat} (hk : X.heap.size ≤ k) : offC B k X := by
  obtain ⟨u, h1, h2⟩ := h
  have hl := (Array.getElem?_eq_some_iff.1 h1).1
  have hc : X.cell? ⟨B, 0, none⟩ = some u := cell_of_row _ _ 0 _ _ _ h1
  refine ⟨by omega, fun v hv e => ?_⟩
  rw [hc] at hv
  obtain rfl := Option.some.inj hv
  have := (h2.lt k e).2
  omega
theorem CgAt.offStep {B B' : Nat} {X Y : World} {pre : List Ch} (h : CgAt X B pre) {k : Nat} (hk : offC B k X) (hs : StepB B' X Y) : offC B k Y := by
  obtain ⟨u, h1, h2⟩ := h
  have hc : X.cell? ⟨B, 0, none⟩ = some u := cell_of_row _ _ 0 _ _ _ h1
  have hc2 : Y.cell? ⟨B, 0, none⟩ = some u := cell_of_row _ _ 0 _ _ _ (block_stepB h1 hs)
  refine ⟨hk.1, fun v hv => ?_⟩
  rw [hc2] at hv
  obtain rfl := Option.some.inj hv
  exact hk.2 _ hc
def apI (W0 : World) (pre : List Ch) (X : World) : Prop := CgAt X W0.heap.size pre ∧ Below W0.heap.size W0 X

theorem ch_new (W : World) (x : Ch) : ∀ j u, (chL x)[j]? = some u → (W.alloc (.cells (chL x).toArray 150)).cell? ((⟨W.heap.size, 0, none⟩ : Addr).add j) = some u := fun j u h => by
  rw [Go.WideShapes.add_plain, Nat.zero_add, cell_of_row _ _ j _ _ _ (heap_alloc_last W _)]
  simpa using h
theorem ch_one (x : Ch) : ∀ u ∈ chL x, u.oneCell' = true := by
  intro u hu
  simp only [chL, List.mem_cons, List.not_mem_nil, or_false] at hu
  rcases hu with rfl | rfl | rfl | rfl | rfl | rfl | rfl <;> rfl
theorem own_sl {W : World} {base n size : Nat} {e : TypeId} {v : Value} {xs : List Value} (h : W.ownsRow base e size v n xs) : ∃ p cap, v = .slice p n cap := by
  obtain ⟨_, ⟨e, h0⟩ | ⟨g, cap, cur, e, _⟩⟩ := h
  · exact ⟨none, 0, by rw [e, h0]⟩
  · exact ⟨_, cap, e⟩
/-- What is off the list stays off it. -/
theorem off_app {W w1 : World} {B : Nat} {v v' : Value} {tmp : Obj} (hv1 : Boxed (w1.setCell ⟨B, 0, none⟩ v') B 147 v') (hvW : W.cell? ⟨B, 0, none⟩ = some v) (hg : (W.alloc tmp).grownBy w1 v.ownBlock) (hloc : v'.ownBlock = v.ownBlock ∨ v'.ownBlock = some (W.alloc tmp).heap.size) :
    ∀ k, offC B k W → k < W.heap.size → (w1.setCell ⟨B, 0, none⟩ v').heap[k]? = W.heap[k]? ∧ offC B k (w1.setCell ⟨B, 0, none⟩ v') := fun k hk hl => by
  have h5 := hk.2 _ hvW
  refine ⟨(Below.heap_setCell _ _ _ k (Ne.symm hk.1 |> fun h => by simpa using fun e => h e.symm)).trans ((hg.block k (by simp; omega) (fun e => h5 e.symm)).trans (((Below.refl W.heap.size W).alloc (Nat.le_refl _) tmp).block k hl)), hk.1, fun u hu => ?_⟩
  rw [hv1.cell] at hu
  rw [← Option.some.inj hu]
  intro e
  rcases hloc with h | h
  · exact h5 (h ▸ e)
  · rw [h] at e
    have := Option.some.inj e
    simp at this
    omega

set_option maxRecDepth 4000 in
set_option maxHeartbeats 4000000 in
theorem appseq_any (b ma mb : Nat) (ta tb : Tr) (D : List Ch) (hDD : ta.dif tb 7 0 = D) (hlen : D.length ≤ 10000000000) (w : World) (hD : DiffAt w b ma mb) (hA : MapT w ma ta) (hC : MapT w mb tb) :
    Calls Tryz.prog 104 #[.slice none 0 0, diffV b] w fun e w' => ∃ v, e = .returned v ∧ w'.ownsRow w.heap.size 150 7 v D.length (flat7 D) ∧ Below w.heap.size w w' := by
  have hb1 := (Below.refl w.heap.size w).alloc (Nat.le_refl _) (.cells #[.slice none 0 0] 147)
  have hB0 := heap_alloc_last w (.cells #[.slice none 0 0] 147)
  have hD1 := hD.later hb1
  have hA1 := hA.later hb1
  have hC1 := hC.later hb1
  have hI0 : apI w [] (w.alloc (.cells #[.slice none 0 0] 147)) := ⟨⟨_, hB0, ⟨rfl, .inl ⟨rfl, rfl⟩⟩⟩, hb1⟩
  refine (callsIn_wide (n := 6)).1 ?_
  refine callsIn_of_wp_marks Tryz.func104 rfl trivial ?_ rfl
  simp only [Tryz.ntmps104, List.size_toArray, List.length_cons, List.length_nil, Nat.reduceAdd, Nat.reduceSub, Array.replicate_succ, Array.replicate_zero, List.push_toArray, List.append_toArray, List.nil_append, List.cons_append]
  unfold diffV
  gi_wp2
  have hle : w.heap.size ≤ (w.alloc (.cells #[.slice none 0 0] 147)).heap.size := hb1.size
  have hlt1 : w.heap.size < (w.alloc (.cells #[.slice none 0 0] 147)).heap.size := by simp
  generalize hwa : w.alloc (.cells #[.slice none 0 0] 147) = wa at *
  clear hb1 hB0 hwa
  refine range_diff b ma mb ta tb D hDD rfl rfl (apI w) (fun _ _ => False) (offC w.heap.size) (fun pre X Y h hs => ⟨h.1.step hs, (hs.mono hle).below h.2 h.2.size⟩) (fun _ _ _ h _ => h.elim) (fun pre X k o v h hk hl => ⟨h.1.set hk o v, h.2.setCell (p := ⟨k, o, none⟩) (Nat.le_trans hle hl) v⟩) (fun _ _ _ _ _ h _ _ => h.elim)
    (fun pre X k h hk => h.1.new hk) (fun pre X Y k h hk hs => h.1.offStep hk hs) (fun _ _ _ _ h _ _ => h.elim) (fun pre X h => ⟨(hA.later h.2).2.2.2.1, (hC.later h.2).2.2.2.1⟩) (fun _ _ h => h.elim) hD1 hA1 hC1 hI0
    (fun x a' X => ∃ vb, a' = { tmps := #[.slice none 0 0, .func (.func 105) #[] #[.pointer (some ⟨b, 0, none⟩), .pointer (some ⟨b + 1, 0, none⟩)], .pointer (some ⟨w.heap.size, 0, none⟩), undef, .slice none 0 0, .pointer (some ⟨vb, 0, none⟩), .func (.func 105) #[] #[.pointer (some ⟨b, 0, none⟩), .pointer (some ⟨b + 1, 0, none⟩)], chV x, undef, undef, undef, undef, undef], defers := [] } ∧ X.heap[vb]? = some (.cells (chL x).toArray 150 (0, 0)))
    (fun x a' X Y ⟨vb, h1, h2⟩ hs => ⟨vb, h1, block_stepB h2 hs⟩) ?assign ?body ?done ?stop
  case assign =>
    intro l' pre x W K hIW hK'
    unfold chV
    gi_wp2
    exact hK' _ _ ((Below.refl _ _).alloc (Nat.le_refl _) _) ⟨W.heap.size, rfl, heap_alloc_last W _⟩
  case body =>
    rintro l' pre x a' W hpx hIW ⟨vb, rfl, v0⟩
    obtain ⟨⟨v, hv, hrow⟩, hBl⟩ := hIW
    have hpl : pre.length < D.length := by have := hpx.length_le; simp at this; omega
    obtain ⟨i0, hi, hz0, hz1, hz2⟩ := info_parts infoCh
    obtain ⟨p, cap, rfl⟩ := own_sl hrow
    have hvb : Boxed W w.heap.size 147 (.slice p pre.length cap) := hv
    have cB := hvb.cell
    have c0 := cell_of_row _ _ 0 _ _ _ v0
    have c1 := cell_of_row _ _ 1 _ _ _ v0
    have c2 := cell_of_row _ _ 2 _ _ _ v0
    have c3 := cell_of_row _ _ 3 _ _ _ v0
    have c4 := cell_of_row _ _ 4 _ _ _ v0
    have c5 := cell_of_row _ _ 5 _ _ _ v0
    have c6 := cell_of_row _ _ 6 _ _ _ v0
    simp only [chL, List.getElem?_toArray, List.getElem?_cons_zero, List.getElem?_cons_succ] at c0 c1 c2 c3 c4 c5 c6
    have hnw := ch_new W x
    have hno := ch_one x
    have hfl : flat7 (pre ++ [x]) = flat7 pre ++ chL x := flat7_snoc pre x
    have hln : (pre ++ [x]).length = pre.length + 1 := by simp
    gi_wp2_with (gi_at_builtin; refine wpListIn_append_at _ rfl _ _ 147 rfl w.heap.size 150 i0 _ 7 40 Tryz.underlying147 hi hz0 hz1 hz2 rfl (by decide) _ pre.length (flat7 pre) rfl (hrow.alloc _) ⟨W.heap.size, 0, none⟩ 1 1 (chL x) rfl rfl hnw hno (by unfold maxLen; omega) (by omega) (by have := hBl.size; simp; omega) ?_; intro v' w1 hown' hgrow hloc; obtain ⟨g', cap', rfl⟩ := ownsRow_succ hown'; obtain ⟨hv1, hv2, hr2, hk2, hb2⟩ := hvb.appended (by decide) hrow hBl.size (Nat.le_refl _) hown' hgrow; have hoff := off_app hv2 cB hgrow hloc; have hc1 := hv1.cell; have hf1 := hv1.frozen)
    exact ⟨hk2.from _, hoff, ⟨_, hv2, by rw [hfl, hln]; exact hr2⟩, hBl.trans hb2⟩
  case done =>
    intro R W hR hIW hdef
    obtain ⟨⟨v, hv, hrow⟩, hBl⟩ := hIW
    have hst := stepB_put (B := wa.heap.size) (.deferred none) hR hdef rfl
    have hrow2 := own_stepC hrow hst
    have hBl2 := (hst.mono hle).below hBl hBl.size
    obtain ⟨p, cap, rfl⟩ := own_sl hrow
    have hvb : Boxed W w.heap.size 147 (.slice p D.length cap) := hv
    have cB := hvb.cell
    gi_wp2
    refine ⟨by simp, .inl ⟨_, _, rfl, run_takeDeferred hdef, ?_⟩⟩
    exact ⟨.slice p D.length cap, by simp [results, Tryz.results104, go_sem], _, rfl, hrow2, hBl2⟩
  case stop =>
    intro R pre W hR hpre hIW hdef
    exact hIW.elim

/-- slices.Collect of a difference. -/
theorem collect_any (b ma mb : Nat) (ta tb : Tr) (D : List Ch) (hDD : ta.dif tb 7 0 = D) (hlen : D.length ≤ 10000000000) (w : World) (hD : DiffAt w b ma mb) (hA : MapT w ma ta) (hC : MapT w mb tb) :
    Calls Tryz.prog 84 #[diffV b] w fun e w' => ∃ v, e = .returned v ∧ w'.ownsRow w.heap.size 150 7 v D.length (flat7 D) ∧ Below w.heap.size w w' := by
  have hk := appseq_any b ma mb ta tb D hDD hlen w hD hA hC
  unfold diffV at hk ⊢
  go_enter Tryz.func84, Tryz.ntmps84
  go_wp2_with (go_at_call 104; refine hk.mono ?_; rintro e w1 ⟨v, rfl, hr, hb⟩)
  exact bodyPost_ret (v := v) (by simp [results, Tryz.results84, go_sem]) rfl ⟨v, rfl, hr, hb⟩

end Go.Proofs.YtblfdjdhikfjhaaGreat.BZ

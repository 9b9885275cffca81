import Derived.Test.YtnmcniibcjjflaaDoorJoin38
namespace Go.Proofs.YtnmcniibcjjflaaDoor
open Go.RowKit Go.Shelf
attribute [local go_sem] Oper.semAt_some

theorem Tal.grown {X Y : World} {T : Nat} {kind S f0 f1 : Int} (h : Tal X T kind S f0 f1) {row : Option Nat} (hg : X.grownBy Y row) (hr : row ≠ some T) : Tal Y T kind S f0 f1 := by
  have hb := hg.block T h.lt (fun e => hr e.symm)
  have c : ∀ i, Y.cell? ⟨T, i, none⟩ = X.cell? ⟨T, i, none⟩ := fun i => World.cell?_of_block hb
  have f : ∀ i, Y.frozen? ⟨T, i, none⟩ = X.frozen? ⟨T, i, none⟩ := fun i => World.frozen?_of_block hb
  obtain ⟨h0, h1, h2, h3, h4, g1, g2, g3, g4⟩ := h
  exact ⟨(c 0).trans h0, (c 1).trans h1, (c 2).trans h2, (c 3).trans h3, (c 4).trans h4, (f 1).trans g1, (f 2).trans g2, (f 3).trans g3, (f 4).trans g4⟩
theorem Kinds.grown' {X Y : World} {row : Option Nat} (h : Kinds X) (hg : X.grownBy Y row) (hT : row ≠ some 0) : Kinds Y := by
  have hb := hg.block 0 h.1 (fun e => hT e.symm)
  refine ⟨Nat.lt_of_lt_of_le h.1 hg.size, fun i hi => ?_⟩
  obtain ⟨a, b, c⟩ := h.2 i hi
  exact ⟨(World.cell?_of_block hb).trans a, (World.cell?_of_block hb).trans b, (World.cell?_of_block hb).trans c⟩

/-- Between two rounds. -/
def GI (T G : Nat) (kind : Int) (w : World) (pre : List (Int × Int)) (X : World) : Prop := ∃ S, Tal X T kind S 0 0 ∧ -(10000000000000 * (pre.length : Int)) ≤ S ∧ S ≤ 10000000000000 * (pre.length : Int) ∧ Hid (∀ l, M.tk kind 0 0 (pre ++ l) = M.tk kind S pre.length l) ∧ Kinds X ∧ X.cell? ⟨w.heap.size, 0, none⟩ = some (.pointer (some ⟨T, 0, none⟩)) ∧ Off G T w X
/-- Where a round has said no more. -/
def GX (T G : Nat) (kind : Int) (w : World) (pre : List (Int × Int)) (X : World) : Prop := ∃ S f0 f1, (f0 != 0) = true ∧ Tal X T kind S f0 f1 ∧ Hid (∀ l, M.tk kind 0 0 (pre ++ l) = ((f0, f1), pre.length)) ∧ Off G T w X
theorem GI.step {T G : Nat} {kind : Int} {w X Y : World} {pre : List (Int × Int)} (h : GI T G kind w pre X) {row : Option Nat} (hg : X.grownBy Y row) (hr : ∀ r, row = some r → r ≠ T ∧ r ≠ 0 ∧ r ≠ w.heap.size ∧ (r = G ∨ w.heap.size ≤ r)) : GI T G kind w pre Y := by
  obtain ⟨S, h1, h2, h3, h4, h5, h6, h7⟩ := h
  refine ⟨S, h1.grown hg (fun e => (hr T e).1 rfl), h2, h3, h4, h5.grown' hg (fun e => (hr _ e).2.1 rfl), ?_, h7.step hg (fun r e => by rcases (hr r e).2.2.2 with h | h; exact .inl h; exact .inr (.inr h))⟩
  exact (World.cell?_of_block (hg.block w.heap.size (World.block_lt_of_cell? _ _ h6) (fun e => (hr _ e.symm).2.2.1 rfl))).trans h6
theorem GX.step {T G : Nat} {kind : Int} {w X Y : World} {pre : List (Int × Int)} (h : GX T G kind w pre X) {row : Option Nat} (hg : X.grownBy Y row) (hr : ∀ r, row = some r → r ≠ T ∧ (r = G ∨ w.heap.size ≤ r)) : GX T G kind w pre Y := by
  obtain ⟨S, f0, f1, h1, h2, h3, h4⟩ := h
  exact ⟨S, f0, f1, h1, h2.grown hg (fun e => (hr T e).1 rfl), h3, h4.step hg (fun r e => by rcases (hr r e).2 with h | h; exact .inl h; exact .inr (.inr h))⟩

theorem gather_leave (n : Nat) (hn : 1 ≤ n) (p : Addr) (tmps : Array Value) (W : World) (D : Nat) (hdef : W.heap[D]? = some (.deferred (some []))) {R : World → Prop} (hR : R (W.putObj D (.deferred none))) :
    LeavesInM Fence.wide n Tryd.prog Tryd.f19 tmps (fun e w' => e = .returned (.tuple #[]) ∧ R w') [{ target := .collected D, args := #[] }, { target := .fn (.func 51) #[.pointer (some p)], args := #[] }] .returning W := by
  refine ⟨by simp, .inl ⟨_, _, rfl, run_takeDeferred hdef, ?_⟩⟩
  refine ⟨by simp, .inr ⟨fun _ => hn, _, _, 51, #[.pointer (some p)], rfl, by simp [invoke, go_sem], fun _ _ => trivial, ?_⟩⟩
  refine (gather_idle (n - 1) p _).mono ?_
  rintro e u' w' ⟨rfl, rfl, rfl⟩
  exact ⟨.tuple #[], by simp [results, Tryd.results19], rfl, hR⟩

set_option maxRecDepth 10000 in
set_option maxHeartbeats 1000000 in
theorem gather_any (n : Nat) (hn : 5 ≤ n) (T G : Nat) (kind : Int) (hk : kind = 1 ∨ kind = 2) (av : Option Addr) (cap : Nat) (vs : List (Int × Int)) (hl : vs.length ≤ 20000) (w : World) (hK : Kinds w) (hT : Tal w T kind 0 0 0) (hG : Giv w G av cap vs 0)
    (hTG : G ≠ T) (hTk : T ≠ 0) (hGk : G ≠ 0) (hKT : ∀ X Y, X.grownBy Y (some T) → KpG G av cap vs X Y) (hVs : ∀ X v, Vals X av vs → Vals (X.setCell ⟨G, 1, none⟩ v) av vs) :
    CallsIn Fence.wide n Tryd.prog 19 #[.pointer (some ⟨T, 0, none⟩), .func (.func 7) #[.pointer (some ⟨G, 0, none⟩)] #[]] w fun e w' => e = .returned (.tuple #[]) ∧ Off G T w w' ∧ ∃ S f0 f1 j, Tal w' T kind S f0 f1 ∧ Giv w' G av cap vs (j : Nat) ∧
      ((f0 = 0 ∧ -400000000000000000 ≤ S ∧ S ≤ 400000000000000000 ∧ Hid (M.tk kind 0 0 vs = (M.fit true kind S, j))) ∨ ((f0 != 0) = true ∧ Hid (M.tk kind 0 0 vs = ((f0, f1), j)))) := by
  have hmf : ∀ (fn : Fn) (first cap : Array Value) (w : World), (Instr.makeFunc fn first cap).run Tryd.prog w = .ok (.func fn first cap) w := fun _ _ _ _ => rfl
  have hTl := hT.lt
  have hGl : G < w.heap.size := World.block_lt_of_cell? _ _ hG.1
  have hga := World.grownBy_alloc w (.cells #[.pointer (some ⟨T, 0, none⟩)] 65) none
  have hsz : (w.alloc (.cells #[.pointer (some ⟨T, 0, none⟩)] 65)).heap.size = w.heap.size + 1 := by simp
  have hI0 : GI T G kind w [] (w.alloc (.cells #[.pointer (some ⟨T, 0, none⟩)] 65)) :=
    ⟨0, hT.grown hga (by simp), by simp, by simp, fun l => rfl, hK.grown' hga (by simp), by simp, ⟨rfl, rfl, rfl, Nat.le_refl _, fun _ _ _ _ => rfl⟩ |> fun (h : Off G T w w) => h.step hga (fun r e => by cases e)⟩
  have hG0 : Giv (w.alloc (.cells #[.pointer (some ⟨T, 0, none⟩)] 65)) G av cap vs 0 := hG.stepB (stepB_alloc 0 _ _)
  refine callsIn_of_wp_marks Tryd.func19 rfl trivial ?_ rfl
  simp only [Tryd.ntmps19, List.size_toArray, List.length_cons, List.length_nil, Nat.reduceAdd, Nat.reduceSub, Array.replicate_succ, Array.replicate_zero, List.push_toArray, List.append_toArray, List.nil_append, List.cons_append]
  gi_wp2
  generalize w.alloc (.cells #[.pointer (some ⟨T, 0, none⟩)] 65) = wb at *
  have hrow : ∀ r, wb.heap.size ≤ r → r ≠ T ∧ r ≠ 0 ∧ r ≠ w.heap.size ∧ (r = G ∨ w.heap.size ≤ r) := fun r hr => by
    have := hK.1
    omega
  refine range_all (by omega) G av cap vs hl rfl rfl (GI T G kind w) (GX T G kind w) 0 (fun pre X Y h ⟨row, hg, hr⟩ => h.step hg (fun r e => hrow r (hr r e).1)) (fun pre X Y h ⟨row, hg, hr⟩ => h.step hg (fun r e => ⟨(hrow r (hr r e).1).1, (hrow r (hr r e).1).2.2.2⟩))
    (fun pre X v h => h.step (grown_set X G 1 v) (fun r e => by cases e; exact ⟨hTG, hGk, by omega, .inl rfl⟩)) hVs hG0 hI0
    (fun x a' X => ∃ vb, wb.heap.size ≤ vb ∧ a' = { tmps := #[.pointer (some ⟨T, 0, none⟩), .func (.func 7) #[.pointer (some ⟨G, 0, none⟩)] #[], .pointer (some ⟨w.heap.size, 0, none⟩), undef, .pointer (some ⟨vb, 0, none⟩), .func (.func 51) #[] #[.pointer (some ⟨w.heap.size, 0, none⟩)], .func (.func 7) #[.pointer (some ⟨G, 0, none⟩)] #[], .agg #[.int .i64 x.1, .int .i64 x.2], undef, undef, undef, undef, undef, undef, undef, undef, undef], defers := [] } ∧ X.cell? ⟨vb, 0, none⟩ = some (.int .i64 x.1) ∧ X.cell? ⟨vb, 1, none⟩ = some (.int .i64 x.2))
    (fun x a' X Y ⟨vb, h1, h2, h3, h4⟩ ⟨row, hg, hr⟩ => ⟨vb, h1, h2, cell_kept h3 hg (fun r e => (hr r e).2), cell_kept h4 hg (fun r e => (hr r e).2)⟩) ?assign ?body ?done ?stop
  case assign =>
    intro l pre x W K hI hK'
    gi_wp2
    have hBl : w.heap.size < W.heap.size := World.block_lt_of_cell? _ _ hI.choose_spec.2.2.2.2.2.1
    refine hK' _ _ ((KeepsOthers.alloc W _).from _) (fun t ht => ht.stepB (stepB_alloc 0 _ _)) (hI.step (World.grownBy_alloc W _ none) (fun r e => by cases e)) ⟨W.heap.size, by omega, rfl, by simp, by simp⟩
  case body =>
    rintro l pre x a' W ⟨S, hTal, s0, s1, hR, hKW, hB, hOff⟩ ⟨vb, hvb, rfl, v0, v1⟩ hlen
    have hTk' := take_any T kind S x.1 x.2 W hKW hTal hk (by omega)
    have h1n : 1 ≤ n - 1 - 1 := by omega
    gi_wp2_with (refine ⟨trivial, ?_⟩; gi_at_call 52; fail)
    refine ⟨trivial, (CallsIn.inRound l (callsIn_wide.2 hTk')).mono ?_⟩
    clear hTk'
    rintro _ X ⟨rfl, hg, hc⟩
    have hB2 := (World.cell?_of_block (hg.block w.heap.size (World.block_lt_of_cell? _ _ hB) (fun e => by have := Option.some.inj e; omega))).trans hB
    have hKX : KeepsFrom wb.heap.size W X := (KeepsFrom.of_grownBy hg (fun j e => by have := Option.some.inj e; omega))
    have hOX := hOff.step hg (fun r e => by cases e; exact .inr (.inl rfl))
    rcases hc with ⟨S', hT', hR', d0, d1⟩ | ⟨f0, f1, hf, hT', hR'⟩
    · have p3 := hT'.2.2.2.1
      have HR : Hid (∀ l, M.tk kind 0 0 (pre ++ [x] ++ l) = M.tk kind S' (pre ++ [x]).length l) := fun l => by rw [List.append_assoc, List.singleton_append, hR.out, List.length_append]; exact hR'.out l pre.length
      clear hR hR'
      gi_wp2
      exact ⟨hKX, hKT _ _ hg, S', hT', by simp; omega, by simp; omega, HR, hKW.grown hg hTk, hB2, hOX⟩
    · have p3 := hT'.2.2.2.1
      have HR : Hid (∀ l, M.tk kind 0 0 (pre ++ [x] ++ l) = ((f0, f1), (pre ++ [x]).length)) := fun l => by rw [List.append_assoc, List.singleton_append, hR.out, List.length_append]; exact hR'.out l pre.length
      clear hR hR'
      gi_wp2
      exact ⟨rfl, hKX, hKT _ _ hg, S, f0, f1, hf, hT', HR, hOX⟩
  case done =>
    intro D W hD hGW hIW hdef
    obtain ⟨S, hTal, s0, s1, hR, hKW, hB, hOff⟩ := hIW
    have e0 := hR.out []
    rw [List.append_nil] at e0
    rw [M.tk] at e0
    have hs := stepB_put (B := wb.heap.size) (.deferred none) hD hdef rfl
    have hr : ∀ r, (some D : Option Nat) = some r → r ≠ T ∧ (r = G ∨ w.heap.size ≤ r) := fun r e => by cases e; exact ⟨(hrow D hD).1, (hrow D hD).2.2.2⟩
    have hT2 := hTal.grown (grownBy_putObj' W D (.deferred none)) (fun e => (hr T e).1 rfl)
    have hO2 := hOff.step (grownBy_putObj' W D (.deferred none)) (fun r e => by rcases (hr r e).2 with h | h; exact .inl h; exact .inr (.inr h))
    refine gather_leave n (by omega) _ _ W D hdef ⟨hO2, S, 0, 0, vs.length, hT2, hGW.stepB hs, .inl ⟨rfl, by omega, by omega, e0⟩⟩
  case stop =>
    rintro D j W hD hj hGW ⟨S, f0, f1, hf, hTal, hR, hOff⟩ hdef
    have e0 := hR.out (vs.drop j)
    rw [List.take_append_drop, List.length_take, Nat.min_eq_left hj] at e0
    have hs := stepB_put (B := wb.heap.size) (.deferred none) hD hdef rfl
    have hr : ∀ r, (some D : Option Nat) = some r → r ≠ T ∧ (r = G ∨ w.heap.size ≤ r) := fun r e => by cases e; exact ⟨(hrow D hD).1, (hrow D hD).2.2.2⟩
    have hT2 := hTal.grown (grownBy_putObj' W D (.deferred none)) (fun e => (hr T e).1 rfl)
    have hO2 := hOff.step (grownBy_putObj' W D (.deferred none)) (fun r e => by rcases (hr r e).2 with h | h; exact .inl h; exact .inr (.inr h))
    gi_wp2
    refine gather_leave n (by omega) _ _ W D hdef ⟨hO2, S, f0, f1, j, hT2, hGW.stepB hs, .inr ⟨hf, e0⟩⟩

end Go.Proofs.YtnmcniibcjjflaaDoor

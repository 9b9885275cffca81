import Derived.Test.YtnmcniibcjjflaaDoorTurnRangeAll
import Derived.Defers
import Derived.Recover
import Derived.RecoverIn
namespace Go.Proofs.YtnmcniibcjjflaaDoor
open Go.RowKit Go.Shelf
attribute [local go_sem] Oper.semAt_some

set_option maxRecDepth 10000 in
set_option maxHeartbeats 1000000 in
/-- gather's deferred closure, of a frame that returns: recover finds nothing. -/
theorem gather_idle (n : Nat) (p : Addr) (w : World) :
    CallsDIn Fence.wide n Tryd.prog 51 #[.pointer (some p)] .returning w fun e u' w' => e = .returned (.tuple #[]) ∧ u' = .returning ∧ w' = w := by
  refine callsDIn_of_wpSIn Tryd.func51 rfl trivial fun c₀ cs hu => ?_
  apply wpSIn_seq
  apply wpSIn_region
  simp [wpOpsSIn, go_sem, recoverD, hu, Tryd.ntmps51, Exit.thenS]
  refine wpSIn_cond (t := false) (by simp [Act.eval, Array.replicate]) ?_
  simp only [Bool.false_eq_true, if_false]
  refine wpSIn_of_wpIn rfl (wpIn_skip ?_)
  cases c₀
  simp_all [bodyPostS, results, Tryd.results51]

/-- All but the iterator's and the tally's blocks lies as it lay. -/
structure Off (G T : Nat) (w X : World) : Prop where
  os : X.os = w.os
  tape : X.tape = w.tape
  output : X.output = w.output
  size : w.heap.size ≤ X.heap.size
  block : ∀ k, k < w.heap.size → k ≠ G → k ≠ T → X.heap[k]? = w.heap[k]?
theorem Off.step {G T : Nat} {w X Y : World} (h : Off G T w X) {row : Option Nat} (hg : X.grownBy Y row) (hr : ∀ r, row = some r → r = G ∨ r = T ∨ w.heap.size ≤ r) : Off G T w Y :=
  ⟨hg.os.trans h.os, hg.tape.trans h.tape, hg.output.trans h.output, Nat.le_trans h.size hg.size, fun k hk h1 h2 => (hg.block k (Nat.lt_of_lt_of_le hk h.size) (fun e => by rcases hr k e.symm with h | h | h <;> omega)).trans (h.block k hk h1 h2)⟩
theorem grown_set (X : World) (G o : Nat) (v : Value) : X.grownBy (X.setCell ⟨G, o, none⟩ v) (some G) := ⟨rfl, rfl, rfl, by simp, fun k _ hk => Below.heap_setCell _ _ _ k (fun e => hk (by rw [e]))⟩

theorem Kinds.grown {X Y : World} {T : Nat} (h : Kinds X) (hg : X.grownBy Y (some T)) (hT : T ≠ 0) : Kinds Y := by
  have hb := hg.block 0 h.1 (fun e => hT (Option.some.inj e).symm)
  refine ⟨Nat.lt_of_lt_of_le h.1 hg.size, fun i hi => ?_⟩
  obtain ⟨a, b, c⟩ := h.2 i hi
  exact ⟨(World.cell?_of_block hb).trans a, (World.cell?_of_block hb).trans b, (World.cell?_of_block hb).trans c⟩

set_option maxHeartbeats 400000 in
theorem take_any (T : Nat) (kind S k n : Int) (W : World) (hK : Kinds W) (hT : Tal W T kind S 0 0) (hk : kind = 1 ∨ kind = 2) (hS : -400000000000000000 ≤ S ∧ S ≤ 400000000000000000) :
    Calls Tryd.prog 52 #[.pointer (some ⟨T, 0, none⟩), .agg #[.int .i64 k, .int .i64 n]] W fun e W' => e = .returned (.tuple #[]) ∧ W.grownBy W' (some T) ∧
      ((∃ S', Tal W' T kind S' 0 0 ∧ Hid (∀ l j, M.tk kind S j ((k, n) :: l) = M.tk kind S' (j + 1) l) ∧ -10000000000000 ≤ S' - S ∧ S' - S ≤ 10000000000000) ∨ ∃ f0 f1, (f0 != 0) = true ∧ Tal W' T kind S f0 f1 ∧ Hid (∀ l j, M.tk kind S j ((k, n) :: l) = ((f0, f1), j + 1))) := by
  cases hv : M.valid k n with
  | false => exact (take_bad T kind S 0 0 k n W hK hT hv).mono fun e W' ⟨h1, h2, h3⟩ => ⟨h1, h3, .inr ⟨6, 5, rfl, h2, fun l j => M.tk_bad hv⟩⟩
  | true =>
    by_cases h0 : k = 0
    · have hn : n = 0 := by subst h0; simpa [M.valid] using hv
      exact (take_blank T kind S 0 0 k n W hK hT h0 hv).mono fun e W' ⟨h1, h2, h3⟩ => ⟨h1, h3, .inl ⟨S, h2, fun l j => by rw [h0, hn, M.tk_blank], by omega, by omega⟩⟩
    · by_cases h6 : k = 6
      · exact (take_fault T kind S 0 0 k n W hK hT h6 hv).mono fun e W' ⟨h1, h2, h3⟩ => ⟨h1, h3, .inr ⟨k, n, by rw [h6]; rfl, h2, fun l j => by subst h6; exact M.tk_fault hv⟩⟩
      · by_cases hkk : k = kind
        · have hn : -10000000000000 ≤ n ∧ n ≤ 10000000000000 := by subst hkk; simp [M.valid] at hv; omega
          exact (take_add T kind S 0 0 k n W hK hT hkk (by simpa using h0) (by simpa using h6) hv (by omega) (by omega)).mono fun e W' ⟨h1, h2, h3⟩ => ⟨h1, h3, .inl ⟨S + n, h2, fun l j => by subst hkk; exact M.tk_add h0 hv h6, by omega, by omega⟩⟩
        · exact (take_other T kind S 0 0 k n W hK hT (by simpa using h0) (by simpa using h6) (by simpa using hkk) hv).mono fun e W' ⟨h1, h2, h3⟩ => ⟨h1, h3, .inr ⟨6, 5, rfl, h2, fun l j => M.tk_other h0 hv h6 hkk⟩⟩

end Go.Proofs.YtnmcniibcjjflaaDoor

import Derived.Test.YtekapipfaahhcaaGreatDoorWSc
import Derived.Laws.StructEq
import Derived.Deep.QuietTactic
import Derived.BigQuiet
namespace Go.Proofs.YtekapipfaahhcaaGreatDoor.Q
open Go.RowKit Go.Shelf

/-- A slice of tokens, in memory. -/
def TokRow (W : World) (v : Value) (L : List Itm) : Prop := ∃ a cap, v = .slice a L.length cap ∧ (L = [] ∨ ∃ g o, a = some ⟨g, o, none⟩ ∧ g < W.heap.size ∧ ∀ j (h : j < L.length),
  W.cell? ⟨g, o + j * 5, none⟩ = some (.int .i64 ((L[j]).1.1 : Int)) ∧ W.cell? ⟨g, o + j * 5 + 1, none⟩ = some (.int .i64 ((L[j]).2.1 : Int)) ∧ W.cell? ⟨g, o + j * 5 + 2, none⟩ = some (.string ⟨(L[j]).1.2.1.toArray⟩) ∧ W.cell? ⟨g, o + j * 5 + 3, none⟩ = some (.int .i64 ((L[j]).1.2.2.1 : Int)) ∧ W.cell? ⟨g, o + j * 5 + 4, none⟩ = some (.int .i64 ((L[j]).1.2.2.2 : Int)))
theorem TokRow.later {W W' : World} {v : Value} {L : List Itm} (h : TokRow W v L) (hb : Below W.heap.size W W') : TokRow W' v L := by
  obtain ⟨a, cap, rfl, h⟩ := h
  refine ⟨a, cap, rfl, ?_⟩
  rcases h with h | ⟨g, o, rfl, hg, hc⟩
  · exact .inl h
  · refine .inr ⟨g, o, rfl, Nat.lt_of_lt_of_le hg hb.size, fun j hj => ?_⟩
    obtain ⟨h0, h1, h2, h3, h4⟩ := hc j hj
    exact ⟨(hb.cell (p := ⟨g, _, none⟩) hg).trans h0, (hb.cell (p := ⟨g, _, none⟩) hg).trans h1, (hb.cell (p := ⟨g, _, none⟩) hg).trans h2, (hb.cell (p := ⟨g, _, none⟩) hg).trans h3, (hb.cell (p := ⟨g, _, none⟩) hg).trans h4⟩
theorem tokLs_get (L : List Itm) (j i : Nat) (hj : j < L.length) (hi : i < 5) : (tokLs L)[j * 5 + i]? = (tokL L[j])[i]? := by
  induction L generalizing j with
  | nil => simp at hj
  | cons x L ih =>
    have hl : (tokL x).length = 5 := rfl
    show (tokL x ++ tokLs L)[j * 5 + i]? = _
    cases j with
    | zero =>
      rw [List.getElem?_append_left (by omega)]
      simp
    | succ j =>
      rw [List.getElem?_append_right (by omega), hl, show (j + 1) * 5 + i - 5 = j * 5 + i from by omega, ih j (by simpa using hj)]
      simp
theorem tokrow_of_own {W : World} {base : Nat} {v : Value} {L : List Itm} (h : W.ownsRow base 66 5 v L.length (tokLs L)) : TokRow W v L := by
  by_cases hL : L = []
  · subst hL
    obtain ⟨p, m, cap, rfl⟩ := own_slice h
    obtain ⟨-, ⟨e, -⟩ | ⟨g, cap', cur, e, -⟩⟩ := h
    · injection e with e1 e2 e3
      subst e1 e2 e3
      exact ⟨none, 0, rfl, .inl rfl⟩
    · injection e with e1 e2 e3
      subst e1 e2 e3
      exact ⟨_, _, rfl, .inl rfl⟩
  · have hn : 0 < L.length := by cases L with | nil => exact absurd rfl hL | cons x L => simp
    obtain ⟨g, cap, rfl⟩ := own_lit h hn
    refine ⟨_, cap, rfl, .inr ⟨g, 0, rfl, (h.lt g rfl).2, fun j hj => ?_⟩⟩
    have key : ∀ i u, i < 5 → (tokL L[j])[i]? = some u → W.cell? ⟨g, 0 + j * 5 + i, none⟩ = some u := fun i u hi hu => by
      rw [Nat.zero_add]
      exact (h.cellAt (j * 5 + i) (by omega)).trans ((tokLs_get L j i hj hi).trans hu)
    exact ⟨key 0 _ (by omega) rfl, key 1 _ (by omega) rfl, key 2 _ (by omega) rfl, key 3 _ (by omega) rfl, key 4 _ (by omega) rfl⟩
theorem eqTok (a b n d : Int) (t : ByteArray) (w : World) : (Op.equalIn 10000 66 (.agg #[.int .i64 a, .int .i64 b, .string t, .int .i64 n, .int .i64 d]) (.agg #[.int .i64 a, .int .i64 b, .string t, .int .i64 n, .int .i64 d])).run Tryz.prog w = .ok true w := by
  have hS : Tryz.prog.underlying 66 = some (.struct (Tryz.prog.fieldsOf 66)) := by kernel_rfl
  have hp : Tryz.prog.stoodInHeld 66 = false := by kernel_rfl
  rw [show (10000 : Nat) = 9999 + 1 from rfl, run_equalIn_agg w 9999 66 _ _ hS hp]
  simp only [Program.fieldsOf, Tryz.underlying66]
  go_simp

theorem below_drewN {n : Nat} {w W : World} (h : Below n w W) : ∀ k, Below n w (World.drewN W k) := fun k => by first | exact h.drewN k | (induction k with | zero => exact h | succ k ih => exact ih.drew)

set_option maxRecDepth 4000 in
set_option maxHeartbeats 1000000 in
/-- Of two rows that hold the same, same says so. -/
theorem same_toks (va vb : Value) (L : List Itm) (hl : L.length ≤ 1000000000) (w : World) (ha : TokRow w va L) (hb : TokRow w vb L) : Calls Tryz.prog 7 #[va, vb] w fun e w' => e = .returned (.bool true) ∧ Below w.heap.size w w' := by
  obtain ⟨aa, ca, rfl, hda⟩ := ha
  obtain ⟨ab, cb, rfl, hdb⟩ := hb
  have heq := eqTok
  go_enter Tryz.func7, Tryz.ntmps7
  go_wp2
  go_loopw [5] (fun i wr => ∃ j : Nat, j ≤ L.length ∧ i = .int .i64 j ∧ Below w.heap.size w wr) (fun i _ => L.length - (intOf i).toNat)
  case atStart => exact ⟨0, by omega, rfl, Below.refl _ _⟩
  case round =>
    obtain ⟨j, hj, rfl, hB⟩ := hrel
    by_cases hlt : j < L.length
    · have hlt' : (j : Int) < L.length := by omega
      have hj0 : (0 : Int) ≤ (j : Int) := by omega
      rcases hda with h0 | ⟨ga, oa, rfl, hga, hca⟩
      · rw [h0] at hlt; simp at hlt
      rcases hdb with h0 | ⟨gb, ob, rfl, hgb, hcb⟩
      · rw [h0] at hlt; simp at hlt
      obtain ⟨a0, a1, a2, a3, a4⟩ := hca j hlt
      obtain ⟨b0, b1, b2, b3, b4⟩ := hcb j hlt
      generalize L[j] = x at *
      have a0' := (hB.cell (p := ⟨ga, _, none⟩) hga).trans a0
      have a1' := (hB.cell (p := ⟨ga, _, none⟩) hga).trans a1
      have a2' := (hB.cell (p := ⟨ga, _, none⟩) hga).trans a2
      have a3' := (hB.cell (p := ⟨ga, _, none⟩) hga).trans a3
      have a4' := (hB.cell (p := ⟨ga, _, none⟩) hga).trans a4
      have b0' := (hB.cell (p := ⟨gb, _, none⟩) hgb).trans b0
      have b1' := (hB.cell (p := ⟨gb, _, none⟩) hgb).trans b1
      have b2' := (hB.cell (p := ⟨gb, _, none⟩) hgb).trans b2
      have b3' := (hB.cell (p := ⟨gb, _, none⟩) hgb).trans b3
      have b4' := (hB.cell (p := ⟨gb, _, none⟩) hgb).trans b4
      clear a0 a1 a2 a3 a4 b0 b1 b2 b3 b4 hca hcb
      go_wp2_with fail
      go_quiet (fail)
      have hBq := below_drewN hB nq
      go_wp2
      go_roundw
      case rel => exact ⟨j + 1, by omega, by go_num, hBq⟩
      case measure => simp [intOf]; omega
    · have hlt' : ¬ (j : Int) < L.length := by omega
      go_wp2
      go_ret
      exact ⟨rfl, hB⟩

theorem num_any (n : Int) (w : World) : Calls Tryz.prog 6 #[.int .i64 n] w fun e w' => e = .returned (.int .i64 n) ∧ w' = w := by
  go_enter Tryz.func6, Tryz.ntmps6
  go_wp2
  go_ret
  exact ⟨rfl, rfl⟩

end Go.Proofs.YtekapipfaahhcaaGreatDoor.Q

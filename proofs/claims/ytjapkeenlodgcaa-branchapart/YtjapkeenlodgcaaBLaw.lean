import Derived.Test.YtjapkeenlodgcaaBMapOf
import Derived.BigQuiet
namespace Go.Proofs.Ytjapkeenlodgcaa
open Go.RowKit

set_option maxRecDepth 4000 in
set_option maxHeartbeats 1000000 in
/-- Of two lists with the same entries sameEntries says yes. -/
theorem same_ents (va vb : Value) (L : Es) (hl : L.length ≤ 9223372036854775806) (w : World) (ha : EntsAt w va L) (hb : EntsAt w vb L) : Calls Try.prog 18 #[va, vb] w fun e w' => e = .returned (.bool true) ∧ Below w.heap.size w w' := by
  obtain ⟨aa, ca, rfl, hda⟩ := ha
  obtain ⟨ab, cb, rfl, hdb⟩ := hb
  go_enter Try.func18, Try.ntmps18
  go_wp2
  go_loopw [5] (fun i wr => ∃ j : Nat, j ≤ L.length ∧ i = .int .i64 j ∧ Below w.heap.size w wr) (fun i _ => L.length - (intOf i).toNat)
  case atStart => exact ⟨0, by omega, rfl, Below.refl _ _⟩
  case round =>
    obtain ⟨j, hj, rfl, hB⟩ := hrel
    by_cases hlt : j < L.length
    · have hlt' : (j : Int) < L.length := by omega
      have hj0 : (0 : Int) ≤ (j : Int) := by omega
      rcases hda with h0 | ⟨ga, oa, rfl, hga, hca⟩
      · rw [h0] at hlt; simp at hlt
      rcases hdb with h0 | ⟨gb, ob, rfl, hgb, hcb⟩
      · rw [h0] at hlt; simp at hlt
      obtain ⟨a0, a1, a2⟩ := hca j hlt
      obtain ⟨b0, b1, b2⟩ := hcb j hlt
      generalize L[j].1 = k at *
      generalize L[j].2.1 = x at *
      generalize L[j].2.2 = y at *
      replace a0 := (hB.cell (p := ⟨ga, _, none⟩) hga).trans a0
      replace a1 := (hB.cell (p := ⟨ga, _, none⟩) hga).trans a1
      replace a2 := (hB.cell (p := ⟨ga, _, none⟩) hga).trans a2
      replace b0 := (hB.cell (p := ⟨gb, _, none⟩) hgb).trans b0
      replace b1 := (hB.cell (p := ⟨gb, _, none⟩) hgb).trans b1
      replace b2 := (hB.cell (p := ⟨gb, _, none⟩) hgb).trans b2
      clear hca hcb
      go_wp2
      go_quiet (fail)
      go_wp2
      go_roundw
      case rel => exact ⟨j + 1, by omega, by go_num, below_drewN hB nq⟩
      case measure => simp [intOf]; omega
    · have hlt' : ¬ (j : Int) < L.length := by omega
      go_wp2
      go_ret
      exact ⟨rfl, hB⟩

/-- A step of a script. -/
structure OpR where
  kind : Int
  b : Int
  n : Int
  name : ByteArray
  inV : Value
  In : Es
def OpIn (W : World) (o : OpR) : Prop := EntB W o.inV o.In ∧ o.name.size ≤ 140737488355328
def OpsB (W : World) (v : Value) (Os : List OpR) : Prop := ∃ a cap, v = .slice a Os.length cap ∧ Os.length ≤ 9223372036854775807 ∧ (Os = [] ∨ ∃ g off, a = some ⟨g, off, none⟩ ∧ g < W.heap.size ∧ ∀ i (h : i < Os.length), (W.cell? ⟨g, off + i * 5, none⟩ = some (.int .i64 Os[i].kind) ∧ W.cell? ⟨g, off + i * 5 + 1, none⟩ = some (.int .i64 Os[i].b) ∧ W.cell? ⟨g, off + i * 5 + 2, none⟩ = some (.int .i64 Os[i].n) ∧ W.cell? ⟨g, off + i * 5 + 3, none⟩ = some (.string Os[i].name) ∧ W.cell? ⟨g, off + i * 5 + 4, none⟩ = some Os[i].inV) ∧ OpIn W Os[i])
theorem OpIn.later {W W' : World} {o : OpR} (h : OpIn W o) (hb : Below W.heap.size W W') : OpIn W' o := ⟨h.1.later hb, h.2⟩
theorem OpsB.later {W W' : World} {v : Value} {Os : List OpR} (h : OpsB W v Os) (hb : Below W.heap.size W W') : OpsB W' v Os := by
  obtain ⟨a, cap, rfl, h1, h | ⟨g, off, rfl, hg, hc⟩⟩ := h
  · exact ⟨a, cap, rfl, h1, .inl h⟩
  · have e : ∀ j, W'.cell? ⟨g, j, none⟩ = W.cell? ⟨g, j, none⟩ := fun j => hb.cell (p := ⟨g, j, none⟩) hg
    exact ⟨_, cap, rfl, h1, .inr ⟨g, off, rfl, Nat.lt_of_lt_of_le hg hb.size, fun i hi => ⟨⟨(e _).trans (hc i hi).1.1, (e _).trans (hc i hi).1.2.1, (e _).trans (hc i hi).1.2.2.1, (e _).trans (hc i hi).1.2.2.2.1, (e _).trans (hc i hi).1.2.2.2.2⟩, (hc i hi).2.later hb⟩⟩⟩
theorem EntsAt.len {W : World} {v : Value} {L : Es} (h : EntsAt W v L) : ∃ a cap, v = .slice a L.length cap := by
  obtain ⟨a, cap, rfl, -⟩ := h
  exact ⟨a, cap, rfl⟩

/-- A number of 64 bits. -/
def AnI (e : Ending) : Prop := ∃ n : Int, e = .returned (.int .i64 n) ∧ -9223372036854775808 ≤ n ∧ n ≤ 9223372036854775807
set_option maxRecDepth 4000 in
set_option maxHeartbeats 1000000 in
theorem laid_any (va vl : Value) (L : Es) (Os : List OpR) (w : World) (ha : EntB w va L) (hl : OpsB w vl Os) : Calls Try.prog 7 #[va, vl] w fun e w' => AnI e ∧ Below w.heap.size w w' := by
  obtain ⟨a, cap, rfl⟩ := ha.1.len
  have hLl := ha.2.1
  obtain ⟨a2, cap2, rfl, hOl, hO⟩ := hl
  clear ha
  go_enter Try.func7, Try.ntmps7
  go_wp2
  go_loopw [5, 6] (fun n i wr => ∃ (j : Nat) (m : Int), j ≤ Os.length ∧ i = .int .i64 j ∧ n = .int .i64 m ∧ (-9223372036854775808 ≤ m ∧ m ≤ 9223372036854775807) ∧ Below w.heap.size w wr) (fun _ i _ => Os.length - (intOf i).toNat)
  case atStart => exact ⟨0, _, by omega, rfl, rfl, by omega, Below.refl _ _⟩
  case round =>
    obtain ⟨j, m, hj, rfl, rfl, hm, hB⟩ := hrel
    by_cases hlt : j < Os.length
    · have hlt' : (j : Int) < Os.length := by omega
      have hj0 : (0 : Int) ≤ (j : Int) := by omega
      rcases hO with h0 | ⟨g, off, rfl, hg, hc⟩
      · rw [h0] at hlt; simp at hlt
      obtain ⟨⟨-, -, -, -, c4⟩, hI⟩ := hc j hlt
      obtain ⟨a3, cap3, e3⟩ := hI.1.1.len
      rw [e3] at c4
      replace c4 := (hB.cell (p := ⟨g, _, none⟩) hg).trans c4
      clear hc hI e3
      go_wp2
      go_roundw
      case rel => exact ⟨j + 1, _, by omega, by go_num, rfl, by first | (rw [IntKind.wrap_i64]; omega) | (unfold wrap64; omega), hB⟩
      case measure => simp [intOf]; omega
    · have hlt' : ¬ (j : Int) < Os.length := by omega
      go_wp2
      go_ret
      exact ⟨⟨_, rfl, hm⟩, hB⟩

end Go.Proofs.Ytjapkeenlodgcaa

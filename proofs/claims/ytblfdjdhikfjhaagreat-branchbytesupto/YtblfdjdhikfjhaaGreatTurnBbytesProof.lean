import Derived.Test.YtblfdjdhikfjhaaGreatTurnBzK2
import Derived.Test.YtblfdjdhikfjhaaGreatTurnBzO
import Derived.JoinedCond
import Derived.SizedLaws
import Derived.OpenShut
import Derived.Carry
namespace Go.Proofs.YtblfdjdhikfjhaaGreat
open Go.ChangeShapes Go.WideShapes Go.ChangeAt Go.WideMaps Go.WideElems Go.RowKit
open BZ

set_option maxRecDepth 100000 in
set_option maxHeartbeats 2000000 in
theorem bbytes_lifted (os : Os) (started : os.Started) (H : Type) (enc : TypeId × Value → H) (F : Stop.Interp) :
    ReturnsInHanded {} Tryz.checked os 3 .any ((Rows.OpenSpec.upto Rows.branchBytesSpec).pre6 enc Tryz.prog Tryz.f3 Rows.branchBytesUptoRow.domain false)
      (((Rows.OpenSpec.upto Rows.branchBytesSpec).at F).post enc Tryz.prog Tryz.f3 false true false false) := by
  refine returnsInHanded_of_cond (C := Tryz.checked) (s := Rows.OpenSpec.upto Rows.branchBytesSpec) (k := Rows.uptoSmall) rfl own started (by kernel_rfl) Tryz.func3
    (OpenSpec.witness (enc := enc) (C := Tryz.checked) (s := Rows.OpenSpec.upto Rows.branchBytesSpec) (k := Rows.uptoSmall) rfl false ⟨#[], #[.slice none 0 0, .slice none 0 0, .slice none 0 0, .int .i64 0], []⟩ 8 (by kernel_rfl) (by kernel_rfl) (by kernel_rfl) (by kernel_rfl)
      (x := ([.nil, .nil, .nil, .lit (.int .i64 0)], [], [])) (by kernel_rfl) rfl (by kernel_rfl)) ?_
  intro W base args ds gs before hval0 hW _ hkk _
  have hval : ∀ (j : Nat) t v, Tryz.f3.params[j]? = some t → args[j]? = some v → Value.okWide Tryz.prog W .any base t v := hval0
  have hW' := hW
  obtain ⟨p, q, hA0, hV, rfl, hfz, hnd⟩ := hW
  have hA : DataW.TrodAll enc Tryz.prog W 0 (fun _ => true) true Tryz.f3.params.toList args.toList ds p := hA0
  rw [Tryz.params3] at hA hval
  obtain ⟨v0, v1, v2, v3, d0, d1, d2, d3, p0, p1, p2, p3, rfl, rfl, rfl, h0, h1, h2, h3⟩ := trodAll_four hA
  obtain ⟨rfl, rfl⟩ := trodVars_none hV
  have hbulk := of_decide_eq_true hkk
  simp only [List.append_nil, Rows.uptoBulkAll] at hbulk
  have h0k := h0
  have h1k := h1
  have h2k := h2
  have e0 := cells_slice Tryz.underlying22 (hval 0 22 v0 rfl rfl)
  have e1 := cells_slice Tryz.underlying23 (hval 1 23 v1 rfl rfl)
  have e2 := cells_slice Tryz.underlying23 (hval 2 23 v2 rfl rfl)
  obtain ⟨a3, rfl, rfl, rfl, wa3⟩ := open_int Tryz.underlying3 (hval 3 3 v3 rfl rfl) h3
  obtain ⟨f0, hf0⟩ := h0
  obtain ⟨f1, hf1⟩ := h1
  obtain ⟨f2, hf2⟩ := h2
  rw [e0] at hf0
  rw [e1] at hf1
  rw [e2] at hf2
  obtain ⟨L, hL, hR0, hl0⟩ := ents_x (B := 1048576) (by omega) hf0 (by show Rows.uptoBulk d0 ≤ 1048576; omega)
  obtain ⟨Os, hO, hR1, hl1⟩ := ops_x (B := 1048576) (by omega) hf1 (by show Rows.uptoBulk d1 ≤ 1048576; omega)
  obtain ⟨Ts, hT, hR2, hl2⟩ := ops_x (B := 1048576) (by omega) hf2 (by show Rows.uptoBulk d2 ≤ 1048576; omega)
  clear hA0 hval0
  simp only [List.append_nil] at hW'
  refine (bbytes_walk v0 v1 v2 L Os Ts a3 W hL hO hT hR0 hR1 hR2 (by omega) (by omega)).mono fun e W' ⟨he, hb⟩ => ?_
  subst he
  exact ⟨_, rfl, _, _, _, [], _, [], hW', trodAll_mk1 (shut_bool Tryz.underlying4 _), trodAll_mk4 (Below.trod laidOutP (by kernel_rfl) (of_decide_eq_true (by kernel_rfl)) h0k hb (fun x hx => by simpa using hW'.lt x (by simp [hx]))) (Below.trod laidOutP (by kernel_rfl) (of_decide_eq_true (by kernel_rfl)) h1k hb (fun x hx => by simpa using hW'.lt x (by simp [hx]))) (Below.trod laidOutP (by kernel_rfl) (of_decide_eq_true (by kernel_rfl)) h2k hb (fun x hx => by simpa using hW'.lt x (by simp [hx]))) (shut_int Tryz.underlying3 wa3), rfl, hb.frame _, fun h => by cases h⟩

theorem bbytes_holds : Rows.BranchBytesUptoSaid :=
  OpenClaim.holds_of_cond 3 Tryz.f3 rfl rfl rfl rfl rfl rfl rfl ⟨rfl, rfl, rfl, rfl, rfl⟩ rfl rfl rfl rfl rfl (by kernel_rfl) Tryz.func3 (by kernel_rfl)
    (of_decide_eq_true (by kernel_rfl)) (by unfold Func.isWrapper; first | (rw [if_pos (by decide +kernel)]; kernel_rfl) | (rw [if_neg (by decide +kernel)]; exact ⟨rfl, rfl⟩))
    (fun os started H enc _ F => bbytes_lifted os started H enc F)
#print axioms bbytes_holds
end Go.Proofs.YtblfdjdhikfjhaaGreat

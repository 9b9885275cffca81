import Derived.Test.YtjllaobiejahjaaPoT
import Derived.Test.YtjllaobiejahjaaJoin54
namespace Go.Proofs.Ytjllaobiejahjaa
open Go.ChangeShapes Go.WideShapes Go.ChangeAt Go.WideMaps Go.WideElems Go.RowKit

theorem own : ownKnob Try.prog.godebug = none := by kernel_rfl
theorem laidOutP : laidOutB Try.prog = true := by kernel_rfl
set_option maxRecDepth 100000 in
theorem punlike_lifted (os : Os) (started : os.Started) (H : Type) (enc : TypeId × Value → H) :
    ReturnsInHanded {} Try.checked os 4 .any (Rows.packUnlikeSpec.pre6 enc Try.prog Try.f4 Rows.packUnlikeRow.domain false)
      (Rows.packUnlikeSpec.post enc Try.prog Try.f4 false true false false) := by
  refine returnsInHanded_of_change_sized (C := Try.checked) own started (by kernel_rfl) Try.func4
    (ChangeSpec.witness6 (enc := enc) (C := Try.checked) false ⟨#[], #[.agg #[.string ⟨#[]⟩, .int .i64 0, .slice none 0 0, .slice none 0 0, .slice none 0 0, .slice none 0 0, .slice none 0 0], .agg #[.string ⟨#[]⟩, .int .i64 0, .slice none 0 0, .slice none 0 0, .slice none 0 0, .slice none 0 0, .slice none 0 0]], []⟩ 8 (by kernel_rfl) (by kernel_rfl) (by kernel_rfl) (by kernel_rfl)) ?_
  intro W base args ds gs before hval0 hW _ _ _
  have hval : ∀ (j : Nat) t v, Try.f4.params[j]? = some t → args[j]? = some v → Value.okWide Try.prog W .any base t v := hval0
  have hW' := hW
  obtain ⟨p, q, hA0, hV, rfl, hfz, hnd⟩ := hW
  have hA : DataW.TrodAll enc Try.prog W 0 (fun _ => true) true Try.f4.params.toList args.toList ds p := hA0
  rw [Try.params4] at hA hval
  obtain ⟨v0, v1, d0, d1, p0, p1, rfl, rfl, rfl, h0, h1⟩ := trodAll_two hA
  obtain ⟨rfl, rfl⟩ := trodVars_none hV
  have h0k := h0
  have h1k := h1
  obtain ⟨cs, rfl, -⟩ := okWide_struct Try.underlying28 (hval 0 28 v0 rfl rfl)
  obtain ⟨fuel, hf⟩ := h0
  obtain ⟨pk, hE, hz, hr⟩ := open_pack fuel _ _ hf
  have hE0 := hE
  obtain ⟨a3, c3, a4, c4, a5, c5, a6, c6, a7, c7, hcs, -⟩ := hE0
  have hcs2 : cs = (cs.toList).toArray := by simp
  have hE : PkE W AnyB pk cs.toList := hE
  have hcs : cs.toList = _ := hcs
  rw [hcs] at hE hcs2
  obtain ⟨csq, rfl, -⟩ := okWide_struct Try.underlying28 (hval 1 28 v1 rfl rfl)
  obtain ⟨fuelq, hfq⟩ := h1
  obtain ⟨pkq, hEq, hzq, hrq⟩ := open_pack fuelq _ _ hfq
  have hE0q := hEq
  obtain ⟨a3q, c3q, a4q, c4q, a5q, c5q, a6q, c6q, a7q, c7q, hcsq, -⟩ := hE0q
  have hcs2q : csq = (csq.toList).toArray := by simp
  have hEq : PkE W AnyB pkq csq.toList := hEq
  have hcsq : csq.toList = _ := hcsq
  rw [hcsq] at hEq hcs2q
  rw [hcs2] at h0k hW' ⊢
  rw [hcs2q] at h1k hW' ⊢
  clear hA0 hval0
  simp only [List.append_nil] at hW'
  refine (unlike_walk pk pkq a3 a4 a5 a6 a7 a3q a4q a5q a6q a7q c3 c4 c5 c6 c7 c3q c4q c5q c6q c7q hz hr hzq hrq W hE hEq (fun X hX => by
    obtain ⟨_, _, _, _, _, _, _, _, _, _, e, -, g3, g4, g5, g6, g7⟩ := hX
    simp only [List.cons.injEq, Value.slice.injEq, and_true, true_and] at e
    obtain ⟨⟨rfl, -⟩, ⟨rfl, -⟩, ⟨rfl, -⟩, ⟨rfl, -⟩, ⟨rfl, -⟩⟩ := e
    exact small_any pk _ _ _ _ _ _ _ _ _ _ X hz g3 g4 g6 g7) (fun X hX => by
    obtain ⟨_, _, _, _, _, _, _, _, _, _, e, -, g3, g4, g5, g6, g7⟩ := hX
    simp only [List.cons.injEq, Value.slice.injEq, and_true, true_and] at e
    obtain ⟨⟨rfl, -⟩, ⟨rfl, -⟩, ⟨rfl, -⟩, ⟨rfl, -⟩, ⟨rfl, -⟩⟩ := e
    exact small_any pkq _ _ _ _ _ _ _ _ _ _ X hzq g3 g4 g6 g7)).mono fun e W' ⟨he, hb⟩ => ?_
  subst he
  exact ⟨_, rfl, _, _, _, [], _, [], hW', trodAll_mk1 (shut_bool Try.underlying4 _), trodAll_mk2 (Below.trod laidOutP (by kernel_rfl) (of_decide_eq_true (by kernel_rfl)) h0k hb (fun x hx => by simpa using hW'.lt x (by simp [hx]))) (Below.trod laidOutP (by kernel_rfl) (of_decide_eq_true (by kernel_rfl)) h1k hb (fun x hx => by simpa using hW'.lt x (by simp [hx]))), rfl, hb.frame _, fun h => by cases h⟩

theorem punlike_holds : Rows.PackUnlikeSaid :=
  OpenClaim.holds_of_wide 4 Try.f4 rfl rfl rfl rfl rfl rfl rfl ⟨rfl, rfl, rfl, rfl, rfl⟩ rfl rfl rfl rfl rfl (by kernel_rfl) Try.func4 (by kernel_rfl)
    (of_decide_eq_true (by kernel_rfl)) (by unfold Func.isWrapper; first | (rw [if_pos (by decide +kernel)]; kernel_rfl) | (rw [if_neg (by decide +kernel)]; exact ⟨rfl, rfl⟩))
    (fun os started H enc _ => punlike_lifted os started H enc)
#print axioms punlike_holds
end Go.Proofs.Ytjllaobiejahjaa

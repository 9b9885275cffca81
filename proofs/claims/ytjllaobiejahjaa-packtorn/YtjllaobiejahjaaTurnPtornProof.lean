import Derived.Test.YtjllaobiejahjaaTurnPoT
import Derived.Test.YtjllaobiejahjaaTurnPoX
import Derived.Test.YtjllaobiejahjaaJoin53
import Derived.Carry
namespace Go.Proofs.Ytjllaobiejahjaa
open Go.ChangeShapes Go.WideShapes Go.ChangeAt Go.WideMaps Go.WideElems Go.RowKit

set_option maxRecDepth 100000 in
theorem ptorn_lifted (os : Os) (started : os.Started) (H : Type) (enc : TypeId × Value → H) :
    ReturnsInHanded {} Try.checked os 5 .any (Rows.packTornSpec.pre6 enc Try.prog Try.f5 Rows.packTornRow.domain false)
      (Rows.packTornSpec.post enc Try.prog Try.f5 false true false false) := by
  refine returnsInHanded_of_change_sized (C := Try.checked) own started (by kernel_rfl) Try.func5
    (ChangeSpec.witness6 (enc := enc) (C := Try.checked) false ⟨#[], #[.agg #[.string ⟨#[]⟩, .int .i64 0, .slice none 0 0, .slice none 0 0, .slice none 0 0, .slice none 0 0, .slice none 0 0], .int .i64 0, .int .u8 0, .slice none 0 0], []⟩ 8 (by kernel_rfl) (by kernel_rfl) (by kernel_rfl) (by kernel_rfl)) ?_
  intro W base args ds gs before hval0 hW _ _ _
  have hval : ∀ (j : Nat) t v, Try.f5.params[j]? = some t → args[j]? = some v → Value.okWide Try.prog W .any base t v := hval0
  have hW' := hW
  obtain ⟨p, q, hA0, hV, rfl, hfz, hnd⟩ := hW
  have hA : DataW.TrodAll enc Try.prog W 0 (fun _ => true) true Try.f5.params.toList args.toList ds p := hA0
  rw [Try.params5] at hA hval
  obtain ⟨v0, v1, v2, v3, d0, d1, d2, d3, p0, p1, p2, p3, rfl, rfl, rfl, h0, h1, h2, h3⟩ := trodAll_four hA
  obtain ⟨rfl, rfl⟩ := trodVars_none hV
  have h0k := h0
  have h3k := h3
  obtain ⟨z1, rfl, rfl, rfl, w1⟩ := open_int Try.underlying3 (hval 1 3 v1 rfl rfl) h1
  obtain ⟨z2, rfl, rfl, rfl, w2⟩ := open_int Try.underlying5 (hval 2 5 v2 rfl rfl) h2
  obtain ⟨am, cm, m, rfl, hN3⟩ := open_in (hval 3 31 v3 rfl rfl) h3
  have hz2 := u8_nat w2
  obtain ⟨k2, rfl⟩ : ∃ k : Nat, z2 = (k : Int) := ⟨z2.toNat, by omega⟩
  obtain ⟨cs, rfl, -⟩ := okWide_struct Try.underlying28 (hval 0 28 v0 rfl rfl)
  obtain ⟨fuel, hf⟩ := h0
  obtain ⟨pk, hE, hz, hr⟩ := open_pack fuel _ _ hf
  have hE0 := hE
  obtain ⟨a3, c3, a4, c4, a5, c5, a6, c6, a7, c7, hcs, -⟩ := hE0
  have hcs2 : cs = (cs.toList).toArray := by simp
  have hE : PkE W AnyB pk cs.toList := hE
  have hcs : cs.toList = _ := hcs
  rw [hcs] at hE hcs2
  rw [hcs2] at h0k hW' ⊢
  clear hA0 hval0
  simp only [List.append_nil] at hW'
  refine (torn_walk pk a3 a4 a5 a6 a7 c3 c4 c5 c6 c7 z1 k2 (by omega) am cm m hz hr W hE hN3 (fun X hX => by
    obtain ⟨_, _, _, _, _, _, _, _, _, _, e, -, g3, g4, g5, g6, g7⟩ := hX
    simp only [List.cons.injEq, Value.slice.injEq, and_true, true_and] at e
    obtain ⟨⟨rfl, -⟩, ⟨rfl, -⟩, ⟨rfl, -⟩, ⟨rfl, -⟩, ⟨rfl, -⟩⟩ := e
    exact small_any pk _ _ _ _ _ _ _ _ _ _ X hz g3 g4 g6 g7)).mono fun e W' ⟨he, hb⟩ => ?_
  subst he
  exact ⟨_, rfl, _, _, _, [], _, [], hW', trodAll_mk1 (shut_bool Try.underlying4 _), trodAll_mk4 (Below.trod laidOutP (by kernel_rfl) (of_decide_eq_true (by kernel_rfl)) h0k hb (fun x hx => by simpa using hW'.lt x (by simp [hx]))) (shut_int Try.underlying3 w1) (shut_int Try.underlying5 w2) (Below.trod laidOutP (by kernel_rfl) (of_decide_eq_true (by kernel_rfl)) h3k hb (fun x hx => by simpa using hW'.lt x (by simp [hx]))), rfl, hb.frame _, fun h => by cases h⟩

theorem ptorn_holds : Rows.PackTornSaid :=
  OpenClaim.holds_of_wide 5 Try.f5 rfl rfl rfl rfl rfl rfl rfl ⟨rfl, rfl, rfl, rfl, rfl⟩ rfl rfl rfl rfl rfl (by kernel_rfl) Try.func5 (by kernel_rfl)
    (of_decide_eq_true (by kernel_rfl)) (by unfold Func.isWrapper; first | (rw [if_pos (by decide +kernel)]; kernel_rfl) | (rw [if_neg (by decide +kernel)]; exact ⟨rfl, rfl⟩))
    (fun os started H enc _ => ptorn_lifted os started H enc)
#print axioms ptorn_holds
end Go.Proofs.Ytjllaobiejahjaa

import Derived.Test.YtmklkcefbabhbaaGreatTurnPfW
import Derived.Test.YtmklkcefbabhbaaGreatJoin51
namespace Go.Proofs.YtmklkcefbabhbaaGreat
open Go.ChangeShapes Go.WideShapes Go.ChangeAt Go.WideMaps Go.WideElems Go.RowKit

theorem own : ownKnob Tryz.prog.godebug = none := by kernel_rfl
theorem laidOutP : laidOutB Tryz.prog = true := by kernel_rfl
set_option maxRecDepth 100000 in
theorem pfits_lifted (os : Os) (started : os.Started) (H : Type) (enc : TypeId × Value → H) :
    ReturnsInHanded {} Tryz.checked os 3 .any (Rows.packFitsSpec.pre6 enc Tryz.prog Tryz.f3 Rows.packFitsRow.domain false)
      (Rows.packFitsSpec.post enc Tryz.prog Tryz.f3 false true false false) := by
  refine returnsInHanded_of_change_sized (C := Tryz.checked) own started (by kernel_rfl) Tryz.func3
    (ChangeSpec.witness6 (enc := enc) (C := Tryz.checked) false ⟨#[], #[.agg #[.string ⟨#[]⟩, .int .i64 0, .slice none 0 0, .slice none 0 0, .slice none 0 0, .slice none 0 0, .slice none 0 0]], []⟩ 8 (by kernel_rfl) (by kernel_rfl) (by kernel_rfl) (by kernel_rfl)) ?_
  intro W base args ds gs before hval0 hW _ _ _
  have hval : ∀ (j : Nat) t v, Tryz.f3.params[j]? = some t → args[j]? = some v → Value.okWide Tryz.prog W .any base t v := hval0
  have hW' := hW
  obtain ⟨p, q, hA0, hV, rfl, hfz, hnd⟩ := hW
  have hA : DataW.TrodAll enc Tryz.prog W 0 (fun _ => true) true Tryz.f3.params.toList args.toList ds p := hA0
  rw [Tryz.params3] at hA hval
  obtain ⟨v0, d0, rfl, rfl, h0⟩ := trodAll_one hA
  obtain ⟨rfl, rfl⟩ := trodVars_none hV
  have h0k := h0
  obtain ⟨cs, rfl, -⟩ := okWide_struct Tryz.underlying28 (hval 0 28 v0 rfl rfl)
  obtain ⟨fuel, hf⟩ := h0
  obtain ⟨pk, a3q, c3q, hE, ⟨hz, hr⟩, hq2, hOq⟩ := R6.open_packq fuel _ _ hf
  have hE0 := hE
  obtain ⟨a3, c3, a4, c4, a5, c5, a6, c6, a7, c7, hcs, -⟩ := hE0
  have hcs2 : cs = (cs.toList).toArray := by simp
  have hE : PkE W AnyB pk cs.toList := hE
  have hcs : cs.toList = _ := hcs
  rw [hcs] at hE hcs2
  have hq3 : cs.toList[2]? = some (.slice a3q pk.opts.length c3q) := hq2
  rw [hcs] at hq3
  have hq4 : Value.slice a3 pk.opts.length c3 = .slice a3q pk.opts.length c3q := Option.some.inj hq3
  injection hq4 with hq5 _ _
  rw [← hq5] at hOq
  rw [hcs2] at h0k hW' ⊢
  clear hA0 hval0
  simp only [List.append_nil] at hW'
  refine (R6.fits_walk pk a3 a4 a5 a6 a7 c3 c4 c5 c6 c7 hz hr W hE hOq).mono fun e W' ⟨he, hb⟩ => ?_
  subst he
  exact ⟨_, rfl, _, _, _, [], _, [], hW', trodAll_mk1 (shut_bool Tryz.underlying4 _), trodAll_mk1 (Below.trod laidOutP (by kernel_rfl) (of_decide_eq_true (by kernel_rfl)) h0k hb (fun x hx => by simpa using hW'.lt x (by simp [hx]))), rfl, hb.frame _, fun h => by cases h⟩

theorem pfits_holds : Rows.PackFitsSaid :=
  OpenClaim.holds_of_wide 3 Tryz.f3 rfl rfl rfl rfl rfl rfl rfl ⟨rfl, rfl, rfl, rfl, rfl⟩ rfl rfl rfl rfl rfl (by kernel_rfl) Tryz.func3 (by kernel_rfl)
    (of_decide_eq_true (by kernel_rfl)) (by unfold Func.isWrapper; first | (rw [if_pos (by decide +kernel)]; kernel_rfl) | (rw [if_neg (by decide +kernel)]; exact ⟨rfl, rfl⟩))
    (fun os started H enc _ => pfits_lifted os started H enc)
#print axioms pfits_holds
end Go.Proofs.YtmklkcefbabhbaaGreat

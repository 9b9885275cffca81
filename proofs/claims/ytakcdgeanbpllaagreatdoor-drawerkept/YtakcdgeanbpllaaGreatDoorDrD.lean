import Derived.Test.YtakcdgeanbpllaaGreatDoorDrB
/- data[n:]. -/
namespace Go.Proofs.YtakcdgeanbpllaaGreatDoor.DJ
open Go.RowKit

theorem size_u8 (X : World) : (sizeOf (Tryz.prog.elem 23)).run Tryz.prog X = .ok 1 X := by kernel_rfl
theorem under_u8 : Tryz.prog.underlying 23 = some (.slice (Tryz.prog.elem 23)) := by kernel_rfl
theorem slice_from (b off cap : Nat) (bs : List Nat) (sz : Nat) (hsz : sz ≤ bs.length) (hcap : bs.length ≤ cap) : ∃ ad cp, (∀ X, (Instr.slice 23 (.slice (some ⟨b, off, none⟩) bs.length cap) (some (.int .i64 (sz : Int))) none none).run Tryz.prog X = .ok (.slice ad (bs.drop sz).length cp) X) ∧ (bs.drop sz).length ≤ cp ∧ ∀ X, Byts X (some ⟨b, off, none⟩) bs → Byts X ad (bs.drop sz) := by
  refine ⟨if cap = sz then some ⟨b, off, none⟩ else some ⟨b, off + sz, none⟩, cap - sz, fun X => ?_, by rw [List.length_drop]; omega, fun X hX => ?_⟩
  · rw [run_slice_l _ _ _ _ _ under_u8 .i64 (sz : Int) (by omega) (by omega), size_u8, Result.andThen_ok, sliced, Int.toNat_natCast, List.length_drop]
    congr 2
    split
    · rfl
    · simp only [Option.map_some, Go.WideShapes.add_plain, Nat.mul_one]
  · by_cases h : sz < bs.length
    · rw [if_neg (by omega)]
      obtain ⟨b', o', e, h'⟩ := byts_drop hX sz h
      cases e
      exact h'
    · rw [List.drop_of_length_le (by omega)]
      exact ⟨fun x hx => by simp at hx, .inl rfl⟩
end Go.Proofs.YtakcdgeanbpllaaGreatDoor.DJ

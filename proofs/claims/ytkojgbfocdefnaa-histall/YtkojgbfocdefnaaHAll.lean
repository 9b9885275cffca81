import Derived.Test.YtkojgbfocdefnaaHVer
namespace Go.Proofs.Ytkojgbfocdefnaa
open Go.RowKit

set_option maxRecDepth 4000 in
set_option maxHeartbeats 2000000 in
theorem versions_any (hb : Nat) (Ls : List Es) (p : Nat) (w : World) (h : HistAt w hb Ls p) :
    Calls Try.prog 37 #[.func (.func 18) #[.pointer (some ⟨hb, 0, none⟩)] #[], .int .i64 0] w fun e w' => ∃ ov vs, e = .returned (.tuple #[ov, .bool true]) ∧ w'.ownsRow w.heap.size 89 2 ov Ls.length (flat2 vs p Ls.length) ∧ (∀ i (h : i < Ls.length), MapE w' (vs i) Ls[i] ∧ Ls[i].length ≤ 200) ∧ Below w.heap.size w w' := by
  obtain ⟨hpl, hl, g, cap, vs, hH, hcap, hne, hM⟩ := h
  have hnil : ∀ W : World, (binOp BinOp.eql 30 (.func (.func 18) #[.pointer (some ⟨hb, 0, none⟩)] #[]) .nilFunc).run Try.prog W = .ok (.bool false) W := fun _ => rfl
  go_enter Try.func37, Try.ntmps37
  go_wp2_with (go_at_call 18; fail)
  have hJ0 : VJ w w.heap.size vs p 0 ((((w.alloc (.cells #[.int .i64 0] 3)).alloc (.cells #[.slice none 0 0] 83)).alloc (.cells #[.bool false] 4)).alloc (.cells #[.bool true] 4)) := by
    have b1 := (Below.refl w.heap.size w).alloc (Nat.le_refl _) (.cells #[.int .i64 0] 3)
    have e1 := heap_alloc_last w (.cells #[.int .i64 0] 3)
    have s1 : (w.alloc (.cells #[.int .i64 0] 3)).heap.size = w.heap.size + 1 := by simp
    generalize w.alloc (.cells #[.int .i64 0] 3) = X1 at *
    have b2 := (Below.refl X1.heap.size X1).alloc (Nat.le_refl _) (.cells #[.slice none 0 0] 83)
    have e2 := heap_alloc_last X1 (.cells #[.slice none 0 0] 83)
    have s2 : (X1.alloc (.cells #[.slice none 0 0] 83)).heap.size = X1.heap.size + 1 := by simp
    generalize X1.alloc (.cells #[.slice none 0 0] 83) = X2 at *
    have b3 := (Below.refl X2.heap.size X2).alloc (Nat.le_refl _) (.cells #[.bool false] 4)
    have e3 := heap_alloc_last X2 (.cells #[.bool false] 4)
    have s3 : (X2.alloc (.cells #[.bool false] 4)).heap.size = X2.heap.size + 1 := by simp
    generalize X2.alloc (.cells #[.bool false] 4) = X3 at *
    have b4 := (Below.refl X3.heap.size X3).alloc (Nat.le_refl _) (.cells #[.bool true] 4)
    have e4 := heap_alloc_last X3 (.cells #[.bool true] 4)
    generalize X3.alloc (.cells #[.bool true] 4) = X4 at *
    have k2 : X1.heap.size = w.heap.size + 1 := s1
    have k3 : X2.heap.size = w.heap.size + 1 + 1 := by omega
    have k4 : X3.heap.size = w.heap.size + 1 + 1 + 1 := by omega
    rw [k2] at e2
    rw [k3] at e3
    rw [k4] at e4
    refine ⟨_, ?_, (b4.block _ (by omega)).trans ((b3.block _ (by omega)).trans e2), (b4.block _ (by omega)).trans e3, e4, World.ownsRow_nil _ _ _ _, Nat.le_refl _, below_step (below_step (below_step b1 b2) b3) b4⟩
    exact (b4.cell (p := ⟨w.heap.size, 0, none⟩) (by simp; omega)).trans ((b3.cell (p := ⟨w.heap.size, 0, none⟩) (by simp; omega)).trans ((b2.cell (p := ⟨w.heap.size, 0, none⟩) (by simp; omega)).trans (cell_of_row _ _ 0 _ _ _ e1)))
  refine (through_any w w.heap.size hb g cap vs p Ls hl hH hM (by omega) _ hJ0).mono ?_
  rintro e w3 ⟨rfl, ov, hc0, hT, hO, hW, hown, -, hB3⟩
  obtain ⟨ea, el, ec, rfl⟩ := own_slice hown
  have c0 : w3.cell? ⟨w.heap.size + 1, 0, none⟩ = some (.slice ea el ec) := cell_of_row _ _ 0 _ _ _ hT
  have c1 : w3.cell? ⟨w.heap.size + 1 + 1 + 1, 0, none⟩ = some (.bool true) := cell_of_row _ _ 0 _ _ _ hW
  clear hJ0 hc0 hT hO hW
  go_wp2
  go_region
  all_goals
    go_wp2
    go_ret2
    have hb4 := (Below.refl w3.heap.size w3).drew
    have hM4 := hM.later (hB3.drew)
    refine ⟨_, vs, rfl, ?_, fun i hi => (hM4.2 i hi).2, hB3.drew⟩
    obtain ⟨h1, h2⟩ := own_laterB hown hb4
    refine ⟨h1, ?_⟩
    rcases h2 with h2 | ⟨g, cap, cur, e, hg, rest⟩
    · exact .inl h2
    · exact .inr ⟨g, cap, cur, e, by omega, rest⟩

end Go.Proofs.Ytkojgbfocdefnaa

import Derived.Test.YtjllbepecfajeaaDoorLooked
import Derived.Test.YtjllbepecfajeaaDoorAlike
import Derived.Test.YtjllbepecfajeaaDoorFitting
import Derived.Test.YtjllbepecfajeaaDoorPlain3
namespace Go.Proofs.YtjllbepecfajeaaDoor
open Go.RowKit

set_option maxHeartbeats 1000000 in
theorem chosen_any (b c : Nat) (k n m : Int) (os : List (Int × Int)) (ks : List Int) (cap cap' : Nat) (w : World) (hV : Row w b ((k, n) :: os)) (hI : Ints w c ks)
    (r : Int × Int) (hr : Hid (r = M.ans (M.refuse (ks.any fun z => k == z) k n os) (M.fit true k m))) :
    Calls Tryd.prog 47 #[.slice (some ⟨b, 0, none⟩) (os.length + 1) cap, .int .i64 m, .slice (some ⟨c, 0, none⟩) ks.length cap'] w fun e w' => e = .returned (.agg #[.int .i64 r.1, .int .i64 r.2]) ∧ Below w.heap.size w w' := by
  have hR := Box.new w (.int .i64 0) (.int .i64 0) 23
  have hB : Below w.heap.size w (w.alloc (.cells #[.int .i64 0, .int .i64 0] 23)) := (Below.refl _ _).alloc (Nat.le_refl _) _
  have hlook := looked_any (some ⟨b, 0, none⟩) cap ((k, n) :: os) (w.alloc (.cells #[.int .i64 0, .int .i64 0] 23)) (hV.later hB).vals
  cases h1 : M.mish ((k, n) :: os) with
  | some v =>
    obtain ⟨x, y⟩ := v
    rw [h1] at hlook
    dsimp only [M.vk, M.vn, Option.isSome] at hlook
    have HR : Hid (r = (x, y)) := by unfold Hid; rw [hr.out, M.refuse_some h1, M.ans_some]
    clear h1 hr hV hI
    go_enter Tryd.func47, Tryd.ntmps47
    go_wp2_with (go_at_call 44; refine hlook.mono ?_; clear hlook; rintro e w1 ⟨rfl, hb1⟩; obtain ⟨r0, r1, q0, q1⟩ := (hR.later hb1).alloc (.cells #[.int .i64 x, .int .i64 y] 23); have hB1 := below_step hB hb1; clear hb1)
    exact bodyPost_ret (v := .agg #[.int .i64 x, .int .i64 y]) (by simp [results, Tryd.results47, go_sem, r0, r1]) rfl ⟨by rw [HR.out], ((hB1.alloc hB1.size _).setCell (by simp) _).setCell (by simp) _⟩
  | none =>
    rw [h1] at hlook
    dsimp only [M.vk, M.vn, Option.isSome] at hlook
    have HR : Hid (r = M.ans (if M.alike k ((k, n) :: os) ks = true then none else some (6, 5)) (M.fit true k m)) := by unfold Hid; rw [hr.out, M.refuse_alike h1]
    clear h1 hr
    have hal := fun w1 hV1 hI1 => alike_any b c k n os ks cap cap' w1 hV1 hI1
    cases h2 : M.alike k ((k, n) :: os) ks with
    | false =>
      rw [h2] at hal
      have HR' : Hid (r = (6, 5)) := by unfold Hid; rw [HR.out, h2]; rfl
      clear HR h2
      go_enter Tryd.func47, Tryd.ntmps47
      go_wp2_with (first | (go_at_call 44; refine hlook.mono ?_; clear hlook; rintro e w1 ⟨rfl, hb1⟩; have hR1 := (hR.later hb1).alloc (.cells #[.int .i64 0, .int .i64 0] 23); have hB1 := (below_step hB hb1).alloc (below_step hB hb1).size (.cells #[.int .i64 0, .int .i64 0] 23); clear hb1) | (go_at_call 45; refine (hal _ (hV.later hB1) (hI.later hB1)).mono ?_; clear hal; rintro e w2 ⟨rfl, hb2⟩; have hR2 := hR1.later hb2; have hB2 := below_step hB1 hb2; clear hb2) | (go_at_call 35; refine (bad_any _ _).mono ?_; rintro e w3 ⟨rfl, hb3⟩; obtain ⟨r0, r1, q0, q1⟩ := hR2.later hb3; have hB3 := below_step hB2 hb3; clear hb3))
      exact bodyPost_ret (v := .agg #[.int .i64 6, .int .i64 5]) (by simp [results, Tryd.results47, go_sem, r0, r1]) rfl ⟨by rw [HR'.out], (hB3.setCell (by simp) _).setCell (by simp) _⟩
    | true =>
      rw [h2] at hal
      have HR' : Hid (r = M.fit true k m) := by unfold Hid; rw [HR.out, h2]; rfl
      clear HR h2
      have h00 : (0 : Int) < (os.length : Int) + 1 := by omega
      go_enter Tryd.func47, Tryd.ntmps47
      go_wp2_with (first | (go_at_call 44; refine hlook.mono ?_; clear hlook; rintro e w1 ⟨rfl, hb1⟩; have hR1 := (hR.later hb1).alloc (.cells #[.int .i64 0, .int .i64 0] 23); have hB1 := (below_step hB hb1).alloc (below_step hB hb1).size (.cells #[.int .i64 0, .int .i64 0] 23); clear hb1) | (go_at_call 45; refine (hal _ (hV.later hB1) (hI.later hB1)).mono ?_; clear hal; rintro e w2 ⟨rfl, hb2⟩; have hR2 := hR1.later hb2; have hB2 := below_step hB1 hb2; have hc2 := ((hV.later hB2).2.2 0 (by simp)).1; simp only [Nat.zero_mul, List.getD_cons_zero] at hc2; clear hb2) | (go_at_call 36; refine (bounded_any _ _ _).mono ?_; rintro e w3 ⟨rfl, hb3⟩; obtain ⟨r0, r1, q0, q1⟩ := hR2.later hb3; have hB3 := below_step hB2 hb3; clear hb3))
      exact bodyPost_ret (v := .agg #[.int .i64 (M.fit true k m).1, .int .i64 (M.fit true k m).2]) (by simp [results, Tryd.results47, go_sem, r0, r1]) rfl ⟨by rw [HR'.out], (hB3.setCell (by simp) _).setCell (by simp) _⟩

end Go.Proofs.YtjllbepecfajeaaDoor

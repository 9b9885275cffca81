import Derived.Test.YtjllbepecfajeaaDoorRefusal
import Derived.Test.YtjllbepecfajeaaDoorRows2
import Derived.Test.YtjllbepecfajeaaDoorHeld
namespace Go.Proofs.YtjllbepecfajeaaDoor
open Go.RowKit
namespace M

theorem mish_none {vs : List (Int × Int)} (h : mish vs = none) : ∀ x ∈ vs, valid x.1 x.2 = true ∧ x.1 ≠ 6 ∧ x.1 ≠ 0 := by
  induction vs with
  | nil => intro x hx; cases hx
  | cons y r ih =>
    obtain ⟨k, n⟩ := y
    simp only [mish] at h
    by_cases hv : valid k n = false
    · rw [if_pos hv] at h; cases h
    · rw [if_neg hv] at h
      by_cases h6 : k = 6
      · rw [if_pos h6] at h; cases h
      · rw [if_neg h6] at h
        by_cases h0 : k = 0
        · rw [if_pos h0] at h; cases h
        · rw [if_neg h0] at h
          intro x hx
          rcases List.mem_cons.1 hx with rfl | hx
          · exact ⟨by simpa using hv, h6, h0⟩
          · exact ih h x hx

theorem refuse_none {t : Bool} {k n : Int} {os : List (Int × Int)} (h : refuse t k n os = none) : t = true ∧ valid k n = true ∧ ∀ x ∈ os, x.1 = k ∧ valid k x.2 = true := by
  unfold refuse at h
  cases h1 : mish [(k, n)] with
  | some v => simp [h1] at h
  | none =>
    cases h2 : mish os with
    | some v => simp [h1, h2] at h
    | none =>
      cases t with
      | false => simp [h1, h2] at h
      | true =>
        simp [h1, h2] at h
        refine ⟨rfl, (mish_none h1 (k, n) (by simp)).1, fun x hx => ?_⟩
        have e := h x.1 x.2 hx
        have := (mish_none h2 x hx).1
        rw [e] at this
        exact ⟨e, this⟩

end M

set_option maxHeartbeats 1000000 in
theorem clamp_any (k0 n0 k1 n1 k2 n2 : Int) (w : World) (hK : Kinds w) (m : Int) (hm : IsClamp n0 n1 n2 m) (r : Int × Int) (hr : Hid (r = M.ans (M.refuse (takesB k0 2) k0 n0 [(k1, n1), (k2, n2)]) (M.fit true k0 m))) :
    Calls Tryd.prog 20 #[.agg #[.int .i64 k0, .int .i64 n0], .agg #[.int .i64 k1, .int .i64 n1], .agg #[.int .i64 k2, .int .i64 n2]] w fun e w' => e = .returned (.agg #[.int .i64 r.1, .int .i64 r.2]) ∧ Below w.heap.size w w' := by
  have hc := refusal_any 2 k0 n0 (some ⟨w.heap.size + 1 + 1 + 1 + 1, 0, none⟩) 2 [(k1, n1), (k2, n2)] (((((w.alloc (cellsV k0 n0)).alloc (cellsV k1 n1)).alloc (cellsV k2 n2)).alloc (cellsV 0 0)).alloc (cellsV2 k1 n1 k2 n2)) (((((hK.alloc _).alloc _).alloc _).alloc _).alloc _) ((row_two _ k1 n1 k2 n2).of (by simp)).vals
  cases h1 : M.refuse (takesB k0 2) k0 n0 [(k1, n1), (k2, n2)] with
  | some v =>
    obtain ⟨x, y⟩ := v
    rw [h1] at hc hr
    dsimp only [M.vk, M.vn, Option.isSome, List.length] at hc
    clear h1
    go_enter Tryd.func20, Tryd.ntmps20
    go_wp2_with (go_at_call 41; refine hc.mono ?_; clear hc; rintro e w1 ⟨rfl, hb1⟩; obtain ⟨-, -, -, hR1, hB1⟩ := start3 w k0 n0 k1 n1 k2 n2 (over_alloc _ hb1); obtain ⟨r0, r1, q0, q1⟩ := hR1.alloc (cellsV x y); clear hb1)
    exact bodyPost_ret (v := .agg #[.int .i64 x, .int .i64 y]) (by simp [results, Tryd.results20, go_sem, r0, r1]) rfl ⟨by rw [hr.out]; rfl, ((hB1.alloc hB1.size _).setCell (by simp; omega) _).setCell (by simp; omega) _⟩
  | none =>
    obtain ⟨-, hv0, hvs⟩ := M.refuse_none h1
    obtain ⟨e1, v1⟩ := hvs (k1, n1) (by simp)
    obtain ⟨e2, v2⟩ := hvs (k2, n2) (by simp)
    dsimp only at e1 e2 v1 v2
    subst k1 k2
    rw [h1] at hc hr
    dsimp only [M.vk, M.vn, Option.isSome, List.length] at hc
    have hr2 : Hid (r = M.fit true k0 m) := hr
    clear h1 hvs hr
    rcases hm with ⟨c1, hm⟩ | ⟨c1, c2, hm⟩ | ⟨c1, c2, hm⟩
    · have HR : Hid (r = (k0, n1)) := by unfold Hid; rw [hr2.out, hm, M.fit_ok v1]
      clear hr2 hv0 v1 v2 hm
      go_enter Tryd.func20, Tryd.ntmps20
      go_wp2_with (go_at_call 41; refine hc.mono ?_; clear hc; rintro e w1 ⟨rfl, hb1⟩; obtain ⟨hX, hY, hZ, hR1, hB1⟩ := start3 w k0 n0 k0 n1 k0 n2 (over_alloc _ hb1); obtain ⟨r0, r1, q0, q1⟩ := hR1.alloc (cellsV 0 0); obtain ⟨x0, x1, -, -⟩ := hX.alloc (cellsV 0 0); obtain ⟨y0, y1, -, -⟩ := hY.alloc (cellsV 0 0); obtain ⟨z0, z1, -, -⟩ := hZ.alloc (cellsV 0 0); clear hb1 hX hY hZ hR1)
      exact bodyPost_ret (v := .agg #[.int .i64 k0, .int .i64 n1]) (by simp [results, Tryd.results20, go_sem, r0, r1]) rfl ⟨by rw [HR.out], ((hB1.alloc hB1.size _).setCell (by simp; omega) _).setCell (by simp; omega) _⟩
    · have HR : Hid (r = (k0, n2)) := by unfold Hid; rw [hr2.out, hm, M.fit_ok v2]
      clear hr2 hv0 v1 v2 hm
      go_enter Tryd.func20, Tryd.ntmps20
      go_wp2_with (go_at_call 41; refine hc.mono ?_; clear hc; rintro e w1 ⟨rfl, hb1⟩; obtain ⟨hX, hY, hZ, hR1, hB1⟩ := start3 w k0 n0 k0 n1 k0 n2 (over_alloc _ hb1); obtain ⟨r0, r1, q0, q1⟩ := hR1.alloc (cellsV 0 0); obtain ⟨x0, x1, -, -⟩ := hX.alloc (cellsV 0 0); obtain ⟨y0, y1, -, -⟩ := hY.alloc (cellsV 0 0); obtain ⟨z0, z1, -, -⟩ := hZ.alloc (cellsV 0 0); clear hb1 hX hY hZ hR1)
      exact bodyPost_ret (v := .agg #[.int .i64 k0, .int .i64 n2]) (by simp [results, Tryd.results20, go_sem, r0, r1]) rfl ⟨by rw [HR.out], ((hB1.alloc hB1.size _).setCell (by simp; omega) _).setCell (by simp; omega) _⟩
    · have HR : Hid (r = (k0, n0)) := by unfold Hid; rw [hr2.out, hm, M.fit_ok hv0]
      clear hr2 hv0 v1 v2 hm
      go_enter Tryd.func20, Tryd.ntmps20
      go_wp2_with (go_at_call 41; refine hc.mono ?_; clear hc; rintro e w1 ⟨rfl, hb1⟩; obtain ⟨hX, hY, hZ, hR1, hB1⟩ := start3 w k0 n0 k0 n1 k0 n2 (over_alloc _ hb1); obtain ⟨r0, r1, q0, q1⟩ := hR1.alloc (cellsV 0 0); obtain ⟨x0, x1, -, -⟩ := hX.alloc (cellsV 0 0); obtain ⟨y0, y1, -, -⟩ := hY.alloc (cellsV 0 0); obtain ⟨z0, z1, -, -⟩ := hZ.alloc (cellsV 0 0); clear hb1 hX hY hZ hR1)
      exact bodyPost_ret (v := .agg #[.int .i64 k0, .int .i64 n0]) (by simp [results, Tryd.results20, go_sem, r0, r1]) rfl ⟨by rw [HR.out], ((hB1.alloc hB1.size _).setCell (by simp; omega) _).setCell (by simp; omega) _⟩

end Go.Proofs.YtjllbepecfajeaaDoor

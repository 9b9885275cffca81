import Derived.Test.YtnmcniibcjjflaaDoorTurnTaken
import Derived.Test.YtnmcniibcjjflaaDoorJoin24
import Derived.Test.YtnmcniibcjjflaaDoorTurnRefusal
namespace Go.Proofs.YtnmcniibcjjflaaDoor
open Go.RowKit

/-- Bracket, of an operand that it takes. -/
def brk (bs : List (Int × Int)) (m : Int × Bool) : Int × Int := if M.areBands bs = true then M.fit m.2 1 m.1 else (6, 5)

theorem took_lt {bs : List (Int × Int)} {x : Int} (h : M.Rising 0 bs) (hx : x ≤ 9999999999999) : M.took x bs < 18446744073709551616 := by
  have h1 := M.took_le x 0 bs h
  have h2 : (x - 0).toNat ≤ 9999999999999 := by omega
  have h3 : M.took x bs ≤ 9999999999999000000 := Nat.le_trans h1 (Nat.mul_le_mul_right 1000000 h2)
  omega

theorem whole_band (p : Nat) (hp : p < 18446744073709551616) (m : Int × Bool) (hm : m = M.wh false 4 p 1000000) (w : World) :
    Calls Tryd.prog 57 #[.agg #[.bool false, .int .u64 0, .int .u64 (p : Int), .int .u64 1000000], .int .i64 4] w fun e w' => e = .returned (.tuple #[.int .i64 m.1, .bool m.2]) ∧ Below w.heap.size w w' :=
  whole_any false 0 p 1000000 p 4 w (by omega) (by omega) (by omega) (fun _ w1 => div64_small p 1000000 (by omega) hp (by omega) w1) m hm

set_option maxHeartbeats 2000000 in
theorem bracket_any (a : Option Addr) (cap : Nat) (bs : List (Int × Int)) (k0 n0 : Int) (w : World) (hK : Kinds w) (hV : Vals w a bs) (m : Int × Bool) (hm : Hid (m = M.wh false 4 (M.took n0 bs) 1000000)) (r : Int × Int) (hr : Hid (r = M.ans (M.refuse (takesB k0 8) k0 n0 []) (brk bs m))) :
    Calls Tryd.prog 24 #[.slice a bs.length cap, .agg #[.int .i64 k0, .int .i64 n0]] w fun e w' => e = .returned (.agg #[.int .i64 r.1, .int .i64 r.2]) ∧ Below w.heap.size w w' := by
  have hc := refusal_any 8 k0 n0 none 0 [] ((w.alloc (cellsV k0 n0)).alloc (cellsV 0 0)) ((hK.alloc _).alloc _) ⟨by simp, .inl rfl⟩
  cases h1 : M.refuse (takesB k0 8) k0 n0 [] with
  | some v =>
    obtain ⟨x, y⟩ := v
    rw [h1] at hc hr
    dsimp only [M.vk, M.vn, Option.isSome, List.length] at hc
    clear h1
    go_enter Tryd.func24, Tryd.ntmps24
    go_wp2_with (go_at_call 54; refine hc.mono ?_; clear hc; rintro e w1 ⟨rfl, hb1⟩; obtain ⟨-, hR1, hB1⟩ := start1 w k0 n0 hb1; obtain ⟨r0, r1, q0, q1⟩ := hR1.alloc (cellsV x y); clear hb1)
    exact bodyPost_ret (v := .agg #[.int .i64 x, .int .i64 y]) (by simp [results, Tryd.results24, go_sem, r0, r1]) rfl ⟨by rw [hr.out]; rfl, ((hB1.alloc hB1.size _).setCell (by simp) _).setCell (by simp) _⟩
  | none =>
    obtain ⟨t0, v0, -⟩ := M.refuse_none h1
    rw [h1] at hc hr
    dsimp only [M.vk, M.vn, Option.isSome, List.length] at hc
    have hr1 : r = brk bs m := hr
    clear h1 hr
    cases hbs : M.areBands bs with
    | false =>
      have HR : Hid (r = (6, 5)) := by unfold Hid brk at *; rw [hr1, hbs]; rfl
      have hA := fun w1 h => areBands_any a cap bs w1 h false hbs.symm
      clear hr1 t0 v0 hm hbs
      go_enter Tryd.func24, Tryd.ntmps24
      go_wp2_with (first | (go_at_call 54; refine hc.mono ?_; clear hc; rintro e w1 ⟨rfl, hb1⟩; obtain ⟨hX, hR1, hB1⟩ := start1 w k0 n0 hb1; obtain ⟨x0, x1, -, -⟩ := hX.alloc (cellsV 0 0); have hB1' := hB1.alloc hB1.size (cellsV 0 0); have hR1' := hR1.alloc (cellsV 0 0); have hX1 := hX.alloc (cellsV 0 0); clear hb1) | (go_at_call 59; refine (hA _ (hV.later hB1')).mono ?_; clear hA; rintro e w2 ⟨rfl, hb2⟩; have hB2 := below_step hB1' hb2; have hR2 := hR1'.later hb2; clear hb2) | (go_at_call 18; refine (fault_any _ _).mono ?_; rintro e w3 ⟨rfl, hb3⟩; obtain ⟨r0, r1, q0, q1⟩ := hR2.later hb3; have hB3 := below_step hB2 hb3; clear hb3))
      exact bodyPost_ret (v := .agg #[.int .i64 6, .int .i64 5]) (by simp [results, Tryd.results24, go_sem, r0, r1]) rfl ⟨by rw [HR.out], (hB3.setCell (by simp) _).setCell (by simp) _⟩
    | true =>
      have HR : Hid (r = M.fit m.2 1 m.1) := by unfold Hid brk at *; rw [hr1, hbs]; rfl
      have hA := fun w1 h => areBands_any a cap bs w1 h true hbs.symm
      have hris : M.Rising 0 bs := by
        unfold M.areBands at hbs
        rw [Bool.and_eq_true] at hbs
        exact M.rising_of_areB (by omega) bs hbs.2
      rw [takes_8] at t0
      obtain rfl : k0 = 1 := by simpa using t0
      have hv := M.valid_1 v0
      have hlt := took_lt hris hv.2
      have hT := fun w1 h => taken_any a cap bs n0 w1 h hv hris _ rfl
      have hW := whole_band (M.took n0 bs) hlt m hm
      generalize M.took n0 bs = p at *
      clear hr1 t0 v0 hm hbs hris hv hlt
      go_enter Tryd.func24, Tryd.ntmps24
      go_wp2_with (first | (go_at_call 54; refine hc.mono ?_; clear hc; rintro e w1 ⟨rfl, hb1⟩; obtain ⟨hX, hR1, hB1⟩ := start1 w 1 n0 hb1; obtain ⟨x0, x1, -, -⟩ := hX.alloc (cellsV 0 0); have hB1' := hB1.alloc hB1.size (cellsV 0 0); have hR1' := hR1.alloc (cellsV 0 0); have hX1 := hX.alloc (cellsV 0 0); clear hb1) | (go_at_call 59; refine (hA _ (hV.later hB1')).mono ?_; clear hA; rintro e w2 ⟨rfl, hb2⟩; have hB2 := below_step hB1' hb2; have hR2 := hR1'.later hb2; have hX2 := hX1.later hb2; obtain ⟨z0, z1, -, -⟩ := id hX2; clear hb2) | (go_at_call 60; refine (hT _ (hV.later hB2)).mono ?_; clear hT; rintro e w3 ⟨rfl, hb3⟩; have hB3 := below_step hB2 hb3; have hR3 := hR2.later hb3; clear hb3) | (go_at_call 57; refine (hW _).mono ?_; clear hW; rintro e w4 ⟨rfl, hb4⟩; have hB4 := below_step hB3 hb4; have hR4 := hR3.later hb4; clear hb4) | (go_at_call 53; refine (fitting_any _ _ _ _ (hK.later hB4)).mono ?_; rintro e w5 ⟨rfl, hb5⟩; obtain ⟨r0, r1, q0, q1⟩ := hR4.later hb5; have hB5 := below_step hB4 hb5; clear hb5))
      exact bodyPost_ret (v := .agg #[.int .i64 r.1, .int .i64 r.2]) (by rw [HR.out]; simp [results, Tryd.results24, go_sem, r0, r1]) rfl ⟨rfl, (hB5.setCell (by simp) _).setCell (by simp) _⟩

end Go.Proofs.YtnmcniibcjjflaaDoor

import Derived.Test.YtekapipfaahhcaaGreatDoorWNum3
import Derived.Test.YtekapipfaahhcaaGreatDoorDParse
import Derived.Lib.MinMax
namespace Go.Proofs.YtekapipfaahhcaaGreatDoor
open Go.RowKit

/-- The bytes where a date might stand. -/
def dX (l : List UInt8) (a : Nat) : ByteArray := ⟨(slc l a (min (a + 10) l.length)).toArray⟩
def dForm (x : ByteArray) : Prop := x.size = 10 ∧ ∀ i (h : i < x.size), ck i x[i].toNat = true
def dNum (x : ByteArray) : Int × Int := D.num (dval (fun i => cc x (0 + i)) (4 - 0)) (dval (fun i => cc x (5 + i)) (7 - 5)) (dval (fun i => cc x (8 + i)) (10 - 8))
open Classical in
noncomputable def dateS (l : List UInt8) (a : Nat) : Res := if dForm (dX l a) then (if (dNum (dX l a)).2 = 0 ∧ clsAt l (a + 10) &&& 56 = 0 then .ok ((5, [], (dNum (dX l a)).1.toNat, 0), a + 10) else .error (a, 44)) else numberS l a

/-- How far a text keeps to the form. -/
theorem far_form (s : ByteArray) (k : Nat) (hk : k ≤ 10) : (k ≤ s.size ∧ ∀ i (h : i < s.size), i < k → ck i s[i].toNat = true) ∨ ∃ r, r < k ∧ r ≤ s.size ∧ (∀ i (h : i < s.size), i < r → ck i s[i].toNat = true) ∧ (r = s.size ∨ ∃ h : r < s.size, ck r s[r].toNat = false) := by
  induction k with
  | zero => exact .inl ⟨Nat.zero_le _, fun i _ h => absurd h (by omega)⟩
  | succ k ih =>
    rcases ih (by omega) with ⟨h1, h2⟩ | ⟨r, h1, h2⟩
    · by_cases hs : k = s.size
      · exact .inr ⟨k, by omega, h1, h2, .inl hs⟩
      · have hlt : k < s.size := by omega
        cases hc : ck k s[k].toNat with
        | true =>
          refine .inl ⟨by omega, fun i h hi => ?_⟩
          by_cases e : i = k
          · subst e; exact hc
          · exact h2 i h (by omega)
        | false => exact .inr ⟨k, by omega, h1, h2, .inr ⟨hlt, hc⟩⟩
    · exact .inr ⟨r, by omega, h2⟩
theorem dNum_zero (x : ByteArray) : (dNum x).2 = 0 ∨ ((dNum x).2 = 20 ∧ (dNum x).1 = 0) ∨ ((dNum x).2 = 21 ∧ (dNum x).1 = 0) := by
  unfold dNum D.num
  split
  · exact .inr (.inl ⟨rfl, rfl⟩)
  · split
    · exact .inr (.inr ⟨rfl, rfl⟩)
    · exact .inl rfl
theorem dNum_bd (x : ByteArray) : 0 ≤ (dNum x).1 ∧ (dNum x).1 ≤ 2814749767106560 := by
  unfold dNum
  generalize dval (fun i => cc x (0 + i)) (4 - 0) = y
  generalize dval (fun i => cc x (5 + i)) (7 - 5) = m
  generalize dval (fun i => cc x (8 + i)) (10 - 8) = d
  unfold D.num
  split
  · exact ⟨Int.le_refl _, by simp⟩
  · rename_i h1
    split
    · exact ⟨Int.le_refl _, by simp⟩
    · rename_i h2
      have hm : 1 ≤ m ∧ m ≤ 12 := by
        apply Classical.byContradiction
        intro hn
        have := D.last_no y m (by omega)
        omega
      have a := D.ys_bd y (by omega) (by omega)
      have b := D.ms_bd y m (by omega) (by omega)
      have c := D.last_bd0 y m
      show 0 ≤ D.ys y + D.ms y m + d - 1 ∧ D.ys y + D.ms y m + d - 1 ≤ 2814749767106560
      omega
/-- What Parse says of a text that is not formed. -/
theorem parse_unformed (x : ByteArray) (hx : x.size ≤ 10) (h : ¬ dForm x) (w : World) : ∃ A : Int, Calls Tryz.prog 137 #[.string x] w fun e w' => e = .returned (.tuple #[.int .i64 0, .int .i64 A, .int .i64 22]) ∧ Below w.heap.size w w' := by
  rcases far_form x 10 (by omega) with ⟨h1, h2⟩ | ⟨r, h1, h2, h3, h4⟩
  · exact absurd ⟨by omega, fun i hi => h2 i hi (by omega)⟩ h
  · exact ⟨r, parse_bad x r (by omega) h2 h3 (.inr h4) (.inl h1) w⟩

set_option maxRecDepth 8000 in
set_option maxHeartbeats 2000000 in
theorem dateOrNumber_any (s : ByteArray) (a : Nat) (ha : a < s.size) (hs : s.size ≤ 140737488351232) (hd : clsAt s.data.toList a = 32) (w : World) (hC : Cls w) (hE : ErrR w) (hM : Mon w) :
    Calls Tryz.prog 79 #[.string s, .int .i64 a] w fun e w' => e = .returned (resV a (dateS s.data.toList a)) ∧ Below w.heap.size w w' := by
  have hb1 := (Below.refl w.heap.size w).alloc (Nat.le_refl _) (.cells #[.int .i64 0, .int .i64 0, .string ⟨#[]⟩, .int .i64 0, .int .i64 0] 66)
  have hbox := Box5.new w 66
  obtain ⟨l, hl⟩ : ∃ l, s.data.toList = l := ⟨_, rfl⟩
  have hls : l.length = s.size := by rw [← hl]; exact size_list s
  have hnum := fun W h1 h2 => wnumber_any s a (by omega) hs (by
    rw [hl] at hd ⊢
    rw [clsAt_in (by omega)] at hd
    exact rn_pos (by omega) (by rw [hd]; decide)) W h1 h2
  rw [hl] at hd hnum ⊢
  obtain ⟨e, he⟩ : ∃ e, min (a + 10) s.size = e := ⟨_, rfl⟩
  have hes : e ≤ s.size := by omega
  have hea : a ≤ e := by omega
  have hmin : min ((a : Int) + 10) (s.size : Int) = (e : Int) := by omega
  obtain ⟨x, hx⟩ : ∃ x, s.extract a e = x := ⟨_, rfl⟩
  have hxl : dX l a = x := by
    unfold dX
    rw [hls, he, ← hl, ← slice_list, hx]
  have hxs : x.size = e - a := by rw [← hx, ByteArray.size_extract]; omega
  have hsl : ∀ W, (Instr.slice 9 (.string s) (some (.int .i64 (a : Int))) (some (.int .i64 (e : Int))) none).run Tryz.prog W = .ok (.string x) W := fun W => by
    rw [run_slice_string W 9 s .i64 .i64 (a : Int) (e : Int) Tryz.underlying9 (by omega) (by omega) (by omega), ← hx]
    rfl
  obtain ⟨R, hR⟩ : ∃ R, dateS l a = R := ⟨_, rfl⟩
  unfold dateS at hR
  rw [hxl] at hR
  have hR0 : dateS l a = R := by unfold dateS; rw [hxl]; exact hR
  rw [hR0]
  by_cases hf : dForm x
  · rw [if_pos hf] at hR
    have he10 : e = a + 10 := by have := hf.1; omega
    have hp := fun W hW => parse_good x hf.1 hf.2 (dNum x).1 (dNum x).2 (by unfold Hid; rfl) W hW
    obtain ⟨v, hv⟩ : ∃ v, (dNum x).1 = v := ⟨_, rfl⟩
    have hbd := dNum_bd x
    rw [hv] at hbd hp hR
    have hz := dNum_zero x
    rw [hv] at hz
    obtain ⟨z, hz'⟩ : ∃ z, (dNum x).2 = z := ⟨_, rfl⟩
    rw [hz'] at hp hR hz
    clear hf hnum hR0 hxl
    by_cases hz0 : z = 0
    · subst hz0
      have hca := fun W h => classAt_any s e (clsAt l e : Int) (by rw [hl]) W h
      have hbit := and_cls l e 56 (by omega)
      rw [he10.symm] at hR
      by_cases hbad : clsAt l e &&& 56 = 0
      · rw [if_pos ⟨rfl, hbad⟩] at hR
        have hRv : Hid (resV a (.ok ((5, [], v.toNat, 0), e)) = resV a R) := by unfold Hid; rw [hR]
        have hbb : (bits .and .u8 (clsAt l e : Int) 56 != 0) = false := by
          rw [show (56 : Int) = ((56 : Nat) : Int) from rfl, hbit, hbad]
          rfl
        have hv63 : -9223372036854775808 ≤ v ∧ v ≤ 9223372036854775807 := by omega
        clear hR hbit hbad hz he he10
        go_enter Tryz.func79, Tryz.ntmps79
        go_wp2_with (first | (go_at_call 137; refine (hp _ (hM.later hb1)).mono ?_; rintro e w1 ⟨rfl, hb2⟩; have hV := hb2) | (go_at_call 41; refine (hca _ (hC.later (below_step hb1 hV))).mono ?_; rintro e w9 ⟨rfl, hw9⟩; subst w9; have hVa := hV; have hbx := hbox.later hVa; have hbx' := hbx; obtain ⟨⟨v0, c0⟩, ⟨v1, c1⟩, ⟨v2, c2⟩, ⟨v3, c3⟩, ⟨v4, c4⟩, hf⟩ := hbx'; have f0 := hf 0; have f1 := hf 1; have f2 := hf 2; have f3 := hf 3; have f4 := hf 4; clear hf))
        obtain ⟨q0, q1, q2, q3, q4⟩ := set5_cells hbx (.int .i64 5) (.int .i64 (a : Int)) (.string ⟨#[]⟩) (.int .i64 v) (.int .i64 0)
        unfold set5 at q0 q1 q2 q3 q4
        refine bodyPost_ret (v := .tuple #[.agg #[.int .i64 5, .int .i64 (a : Int), .string ⟨#[]⟩, .int .i64 v, .int .i64 0], .int .i64 (e : Int), .int .i64 0]) (by simp [results, Tryz.results79, go_sem, q0, q1, q2, q3, q4]) rfl ⟨?_, set5_below (below_step hb1 hVa) (Nat.le_refl _) _ _ _ _ _⟩
        rw [← hRv.out]
        simp [resV, tokC]
        omega
      · rw [if_neg (fun h => hbad h.2)] at hR
        have hRv : Hid (resV a (.error (a, 44)) = resV a R) := by unfold Hid; rw [hR]
        have hbb : (bits .and .u8 (clsAt l e : Int) 56 != 0) = true := by
          rw [show (56 : Int) = ((56 : Nat) : Int) from rfl, hbit]
          generalize clsAt l e &&& 56 = m at *
          simp
          omega
        clear hR hbit hbad hz he he10
        go_enter Tryz.func79, Tryz.ntmps79
        go_wp2_with (first | (go_at_call 137; refine (hp _ (hM.later hb1)).mono ?_; rintro e w1 ⟨rfl, hb2⟩; have hV := hb2) | (go_at_call 41; refine (hca _ (hC.later (below_step hb1 hV))).mono ?_; rintro e w9 ⟨rfl, hw9⟩; subst w9; skip) | (go_at_call 135; refine (fault_lit (a : Int) 44 _).mono ?_; rintro e w5 ⟨rfl, hb5⟩; have hVa := below_step hV hb5; have hbx := hbox.later hVa; have hbx' := hbx; obtain ⟨⟨v0, c0⟩, ⟨v1, c1⟩, ⟨v2, c2⟩, ⟨v3, c3⟩, ⟨v4, c4⟩, hf⟩ := hbx'; have f0 := hf 0; have f1 := hf 1; have f2 := hf 2; have f3 := hf 3; have f4 := hf 4; clear hf))
        obtain ⟨q0, q1, q2, q3, q4⟩ := set5_cells hbx (.int .i64 0) (.int .i64 (a : Int)) (.string ⟨#[]⟩) (.int .i64 0) (.int .i64 0)
        unfold set5 at q0 q1 q2 q3 q4
        refine bodyPost_ret (v := .tuple #[.agg #[.int .i64 0, .int .i64 (a : Int), .string ⟨#[]⟩, .int .i64 0, .int .i64 0], .int .i64 0, .int .i64 44]) (by simp [results, Tryz.results79, go_sem, q0, q1, q2, q3, q4]) rfl ⟨?_, set5_below (below_step hb1 hVa) (Nat.le_refl _) _ _ _ _ _⟩
        rw [← hRv.out]
        rfl
    · rw [if_neg (fun h => hz0 h.1)] at hR
      have hRv : Hid (resV a (.error (a, 44)) = resV a R) := by unfold Hid; rw [hR]
      have hz2 : z = 20 ∨ z = 21 := by omega
      clear hR hz he he10
      rw [if_neg hz0] at hp
      clear hz0
      rcases hz2 with rfl | rfl
      all_goals
        go_enter Tryz.func79, Tryz.ntmps79
        go_wp2_with (first | (go_at_call 137; refine (hp _ (hM.later hb1)).mono ?_; rintro e w1 ⟨rfl, hb2⟩; have hV := hb2) | (go_at_call 135; refine (fault_lit (a : Int) 44 _).mono ?_; rintro e w5 ⟨rfl, hb5⟩; have hVa := below_step hV hb5; have hbx := hbox.later hVa; have hbx' := hbx; obtain ⟨⟨v0, c0⟩, ⟨v1, c1⟩, ⟨v2, c2⟩, ⟨v3, c3⟩, ⟨v4, c4⟩, hf⟩ := hbx'; have f0 := hf 0; have f1 := hf 1; have f2 := hf 2; have f3 := hf 3; have f4 := hf 4; clear hf))
        obtain ⟨q0, q1, q2, q3, q4⟩ := set5_cells hbx (.int .i64 0) (.int .i64 (a : Int)) (.string ⟨#[]⟩) (.int .i64 0) (.int .i64 0)
        unfold set5 at q0 q1 q2 q3 q4
        refine bodyPost_ret (v := .tuple #[.agg #[.int .i64 0, .int .i64 (a : Int), .string ⟨#[]⟩, .int .i64 0, .int .i64 0], .int .i64 0, .int .i64 44]) (by simp [results, Tryz.results79, go_sem, q0, q1, q2, q3, q4]) rfl ⟨?_, set5_below (below_step hb1 hVa) (Nat.le_refl _) _ _ _ _ _⟩
        rw [← hRv.out]
        rfl
  · rw [if_neg hf] at hR
    obtain ⟨A, hp⟩ := parse_unformed x (by omega) hf (w.alloc (.cells #[.int .i64 0, .int .i64 0, .string ⟨#[]⟩, .int .i64 0, .int .i64 0] 66))
    rw [hR] at hnum
    obtain ⟨K, P, T, N, D, E, Z, hlit⟩ := resV_lit a R
    rw [hlit] at hnum ⊢
    clear hR hf hR0 hxl hlit he hd
    go_enter Tryz.func79, Tryz.ntmps79
    go_wp2_with (first | (go_at_call 137; refine hp.mono ?_; rintro e w1 ⟨rfl, hb2⟩; have hV := hb2) | (go_at_call 138; refine (hnum _ (hC.later (below_step hb1 hV)) (hE.later (below_step hb1 hV))).mono ?_; rintro e w5 ⟨rfl, hb5⟩; have hVa := below_step hV hb5; have hbx := hbox.later hVa; have hbx' := hbx; obtain ⟨⟨v0, c0⟩, ⟨v1, c1⟩, ⟨v2, c2⟩, ⟨v3, c3⟩, ⟨v4, c4⟩, hf⟩ := hbx'; have f0 := hf 0; have f1 := hf 1; have f2 := hf 2; have f3 := hf 3; have f4 := hf 4; clear hf))
    obtain ⟨q0, q1, q2, q3, q4⟩ := set5_cells hbx (.int .i64 K) (.int .i64 P) (.string T) (.int .i64 N) (.int .i64 D)
    unfold set5 at q0 q1 q2 q3 q4
    exact bodyPost_ret (v := .tuple #[.agg #[.int .i64 K, .int .i64 P, .string T, .int .i64 N, .int .i64 D], .int .i64 E, .int .i64 Z]) (by simp [results, Tryz.results79, go_sem, q0, q1, q2, q3, q4]) rfl ⟨rfl, set5_below (below_step hb1 hVa) (Nat.le_refl _) _ _ _ _ _⟩

end Go.Proofs.YtekapipfaahhcaaGreatDoor

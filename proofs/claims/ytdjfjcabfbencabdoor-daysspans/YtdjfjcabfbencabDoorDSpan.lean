import Derived.Test.YtdjfjcabfbencabDoorDAdd
namespace Go.Proofs.YtdjfjcabfbencabDoor
open Go.RowKit

set_option maxHeartbeats 2000000 in
theorem wholeMonths_any (a b k1 d1 k2 d2 : Int) (h1 : D.At a k1 d1) (h2 : D.At b k2 d2) (h : a ≤ b) (w : World) (hM : Mon w) :
    Calls Tryd.prog 43 #[.int .i64 a, .int .i64 b] w fun e w' => e = .returned (.int .i64 (D.whole k1 d1 k2 b)) ∧ Below w.heap.size w w' := by
  have a0 := h1.k0
  have a1 := h1.k1
  have b0 := h2.k0
  have b1 := h2.k1
  have hk := h1.le h2 h
  have hA : Hid (D.AddIs a (k2 - k1) (D.addv k1 d1 (k2 - k1)) 0) := .yes k1 d1 h1 (by omega) (by omega)
  have e1 : wrap64 (k2 - k1) = k2 - k1 := wrap64_id (by omega) (by omega)
  have e2 : wrap64 (k2 - k1 - 1) = k2 - k1 - 1 := wrap64_id (by omega) (by omega)
  have cA := fun W hM => dateOf_any a k1 d1 h1 W hM
  have cB := fun W hM => dateOf_any b k2 d2 h2 W hM
  have cC := monthOf_any k1 (d1 + 1) a0 a1
  have cD := monthOf_any k2 (d2 + 1) b0 b1
  generalize 1900 + k1 / 12 = Y1 at *
  generalize 1900 + k2 / 12 = Y2 at *
  generalize k1 % 12 + 1 = M1 at *
  generalize k2 % 12 + 1 = M2 at *
  have hW : D.whole k1 d1 k2 b = if b < D.addv k1 d1 (k2 - k1) then k2 - k1 - 1 else k2 - k1 := rfl
  generalize D.addv k1 d1 (k2 - k1) = V at *
  generalize D.whole k1 d1 k2 b = R at *
  clear h1 h2
  by_cases c : b < V
  · rw [if_pos c] at hW
    subst hW
    go_enter Tryd.func43, Tryd.ntmps43
    go_wp2_with (first | (go_at_call 34; refine (cB _ hM).mono ?_; clear cB; rintro _ w1 ⟨rfl, hb1⟩; have hM1 := hM.later hb1) | (go_at_call 42; refine (cD _).mono ?_; clear cD; rintro _ w2 ⟨rfl, hb2⟩; have hM2 := hM1.later hb2) | (go_at_call 34; refine (cA _ hM2).mono ?_; clear cA; rintro _ w3 ⟨rfl, hb3⟩; have hM3 := hM2.later hb3) | (go_at_call 42; refine (cC _).mono ?_; clear cC; rintro _ w4 ⟨rfl, hb4⟩; have hM4 := hM3.later hb4; have hB4 := below_step (below_step (below_step hb1 hb2) hb3) hb4) | (go_at_call 20; refine (add_any a (k2 - k1) V 0 _ hM4 hA).mono ?_; rintro _ w5 ⟨rfl, hb5⟩))
    go_ret
    exact ⟨rfl, below_step hB4 hb5⟩
  · rw [if_neg c] at hW
    subst hW
    go_enter Tryd.func43, Tryd.ntmps43
    go_wp2_with (first | (go_at_call 34; refine (cB _ hM).mono ?_; clear cB; rintro _ w1 ⟨rfl, hb1⟩; have hM1 := hM.later hb1) | (go_at_call 42; refine (cD _).mono ?_; clear cD; rintro _ w2 ⟨rfl, hb2⟩; have hM2 := hM1.later hb2) | (go_at_call 34; refine (cA _ hM2).mono ?_; clear cA; rintro _ w3 ⟨rfl, hb3⟩; have hM3 := hM2.later hb3) | (go_at_call 42; refine (cC _).mono ?_; clear cC; rintro _ w4 ⟨rfl, hb4⟩; have hM4 := hM3.later hb4; have hB4 := below_step (below_step (below_step hb1 hb2) hb3) hb4) | (go_at_call 20; refine (add_any a (k2 - k1) V 0 _ hM4 hA).mono ?_; rintro _ w5 ⟨rfl, hb5⟩))
    go_ret
    exact ⟨rfl, below_step hB4 hb5⟩

set_option maxHeartbeats 2000000 in
theorem between_any (a b v e : Int) (w : World) (hM : Mon w) (h : Hid (D.BetIs a b v e)) :
    Calls Tryd.prog 22 #[.int .i64 a, .int .i64 b] w fun en w' => en = .returned (.tuple #[.int .i64 v, .int .i64 e]) ∧ Below w.heap.size w w' := by
  cases h.out with
  | no hn =>
    by_cases ha : 0 ≤ a ∧ a ≤ 109572
    · have hI := isDay_yes a ha.1 ha.2 w
      have hJ := isDay_no b (fun hb => hn ⟨ha, hb⟩) w
      clear h hn hM ha
      go_enter Tryd.func22, Tryd.ntmps22
      go_wp2_with (first | (go_at_call 33; refine hI.mono ?_; clear hI; rintro _ w ⟨rfl, rfl⟩) | (go_at_call 33; refine hJ.mono ?_; clear hJ; rintro _ w ⟨rfl, rfl⟩))
      exact bodyPost_ret (v := .tuple #[.int .i64 0, .int .i64 21]) (by simp [results, Tryd.results22, go_sem]) rfl ⟨rfl, Below.refl _ _⟩
    · have hI := isDay_no a ha w
      clear h hn hM ha
      go_enter Tryd.func22, Tryd.ntmps22
      go_wp2_with (go_at_call 33; refine hI.mono ?_; clear hI; rintro _ w ⟨rfl, rfl⟩)
      exact bodyPost_ret (v := .tuple #[.int .i64 0, .int .i64 21]) (by simp [results, Tryd.results22, go_sem]) rfl ⟨rfl, Below.refl _ _⟩
  | le k1 d1 k2 d2 h1 h2 hl =>
    have hI := isDay_yes a h1.nn.1 h1.nn.2 w
    have hJ := isDay_yes b h2.nn.1 h2.nn.2 w
    have hW := wholeMonths_any a b k1 d1 k2 d2 h1 h2 hl w hM
    have c : ¬ b < a := by omega
    generalize D.whole k1 d1 k2 b = R at *
    clear h h1 h2 hM
    go_enter Tryd.func22, Tryd.ntmps22
    go_wp2_with (first | (go_at_call 33; refine hI.mono ?_; clear hI; rintro _ w ⟨rfl, rfl⟩) | (go_at_call 33; refine hJ.mono ?_; clear hJ; rintro _ w ⟨rfl, rfl⟩) | (go_at_call 43; refine hW.mono ?_; clear hW; rintro _ w1 ⟨rfl, hb1⟩))
    exact bodyPost_ret (v := .tuple #[.int .i64 R, .int .i64 0]) (by simp [results, Tryd.results22, go_sem]) rfl ⟨rfl, hb1⟩
  | gt k1 d1 k2 d2 h1 h2 hl =>
    have hI := isDay_yes a h1.nn.1 h1.nn.2 w
    have hJ := isDay_yes b h2.nn.1 h2.nn.2 w
    have hW := wholeMonths_any b a k2 d2 k1 d1 h2 h1 (by omega) w hM
    have hR := D.whole_bd h2 h1 (by omega)
    generalize D.whole k2 d2 k1 a = R at *
    have e1 : wrap64 (-R) = -R := wrap64_id (by omega) (by omega)
    clear h h1 h2 hM
    go_enter Tryd.func22, Tryd.ntmps22
    go_wp2_with (first | (go_at_call 33; refine hI.mono ?_; clear hI; rintro _ w ⟨rfl, rfl⟩) | (go_at_call 33; refine hJ.mono ?_; clear hJ; rintro _ w ⟨rfl, rfl⟩) | (go_at_call 43; refine hW.mono ?_; clear hW; rintro _ w1 ⟨rfl, hb1⟩))
    exact bodyPost_ret (v := .tuple #[.int .i64 (-R), .int .i64 0]) (by simp [results, Tryd.results22, go_sem]) rfl ⟨rfl, hb1⟩

end Go.Proofs.YtdjfjcabfbencabDoor

import Derived.Test.YtjllbepecfajeaaDoorMishap
namespace Go.Proofs.YtjllbepecfajeaaDoor
open Go.RowKit

/-- Numbers in a row of memory. -/
def Ints (w : World) (b : Nat) (ks : List Int) : Prop := ks.length ≤ maxLen ∧ b < w.heap.size ∧ ∀ i, i < ks.length → w.cell? ⟨b, i, none⟩ = some (.int .i64 (ks.getD i 0))

theorem Ints.later {w w' : World} {b : Nat} {ks : List Int} (h : Ints w b ks) (hb : Below w.heap.size w w') : Ints w' b ks := by
  obtain ⟨h0, hlt, hc⟩ := h
  refine ⟨h0, Nat.lt_of_lt_of_le hlt hb.size, fun i hi => ?_⟩
  rw [hb.cell (p := ⟨b, i, none⟩) hlt]
  exact hc i hi

/-- Values in a row of memory of their own, from its first cell. -/
def Row (w : World) (b : Nat) (vs : List (Int × Int)) : Prop := vs.length ≤ maxLen ∧ b < w.heap.size ∧ ∀ i, i < vs.length → w.cell? ⟨b, i * 2, none⟩ = some (.int .i64 (vs.getD i (0, 0)).1) ∧ w.cell? ⟨b, i * 2 + 1, none⟩ = some (.int .i64 (vs.getD i (0, 0)).2)

theorem Row.later {w w' : World} {b : Nat} {vs : List (Int × Int)} (h : Row w b vs) (hb : Below w.heap.size w w') : Row w' b vs := by
  obtain ⟨h0, hlt, hc⟩ := h
  refine ⟨h0, Nat.lt_of_lt_of_le hlt hb.size, fun i hi => ?_⟩
  rw [hb.cell (p := ⟨b, i * 2, none⟩) hlt, hb.cell (p := ⟨b, i * 2 + 1, none⟩) hlt]
  exact hc i hi

theorem Row.vals {w : World} {b : Nat} {vs : List (Int × Int)} (h : Row w b vs) : Vals w (some ⟨b, 0, none⟩) vs := by
  obtain ⟨h0, hlt, hc⟩ := h
  refine ⟨h0, .inr ⟨b, 0, rfl, hlt, fun i hi => ?_⟩⟩
  have := hc i hi
  simpa using this

set_option maxHeartbeats 1000000 in
theorem alike_any (b c : Nat) (k n : Int) (r : List (Int × Int)) (ks : List Int) (cap cap' : Nat) (w : World) (hV : Row w b ((k, n) :: r)) (hI : Ints w c ks) :
    Calls Tryd.prog 45 #[.slice (some ⟨b, 0, none⟩) (r.length + 1) cap, .slice (some ⟨c, 0, none⟩) ks.length cap'] w fun e w' => e = .returned (.bool (M.alike k ((k, n) :: r) ks)) ∧ Below w.heap.size w w' := by
  have hlen := hV.1
  have hlen' := hI.1
  unfold maxLen at hlen hlen'
  simp only [List.length_cons] at hlen
  have hk := (hV.2.2 0 (by simp)).1
  simp only [Nat.zero_mul, List.getD_cons_zero] at hk
  go_enter Tryd.func45, Tryd.ntmps45
  go_wp2
  go_loopw [5, 6] (fun f i wr => ∃ (j : Nat) (g : Bool), j ≤ ks.length ∧ i = .int .i64 j ∧ f = .bool g ∧ Hid (g = (ks.take j).any (fun x => k == x)) ∧ Below w.heap.size w wr) (fun _ i _ => ks.length - (intOf i).toNat)
  case atStart => exact ⟨0, false, Nat.zero_le _, rfl, rfl, rfl, Below.refl _ _⟩
  case round =>
    obtain ⟨j, g, hj, rfl, rfl, hg, hb⟩ := hrel
    by_cases hlt : j < ks.length
    · have hk' := (hb.cell (p := ⟨b, 0, none⟩) hV.2.1).trans hk
      have hx := (hI.later hb).2.2 j hlt
      have HT : Hid (ks.take (j + 1) = ks.take j ++ [ks.getD j 0]) := by rw [List.take_succ_eq_append_getElem hlt, List.getD_eq_getElem?_getD, List.getElem?_eq_getElem hlt]; rfl
      generalize ks.getD j 0 = x at *
      have hlt' : (j : Int) < ks.length := by omega
      have h0 : (0 : Int) < (r.length : Int) + 1 := by omega
      cases g with
      | true =>
        go_wp2
        go_quiet (fail)
        go_wp2
        go_roundw
        case rel => exact ⟨j + 1, true, by omega, by go_num, rfl, by unfold Hid; rw [HT.out, List.any_append, ← hg.out]; rfl, below_drewN hb _⟩
        case measure => simp [intOf]; omega
      | false =>
        go_wp2
        go_quiet (fail)
        go_wp2
        go_roundw
        case rel => exact ⟨j + 1, k == x, by omega, by go_num, by simp, by unfold Hid; rw [HT.out, List.any_append, ← hg.out]; simp, below_drewN hb _⟩
        case measure => simp [intOf]; omega
    · have hg2 : Hid (g = ks.any (fun x => k == x)) := by
        have e : j = ks.length := by omega
        have := hg.out
        rw [e, List.take_length] at this
        exact this
      have hbx := hb
      have hVb := hV.2.1
      obtain ⟨wo, rfl⟩ : ∃ wo : World, wo = wr := ⟨_, rfl⟩
      clear hg hk hI
      go_wp2
      go_loopw [5, 7] (fun f i wr => ∃ (j : Nat) (q : Bool), j ≤ r.length + 1 ∧ i = .int .i64 j ∧ f = .bool q ∧ Hid (q = (g && (((k, n) :: r).take j).all (fun x => x.1 == k))) ∧ Below w.heap.size w wr) (fun _ i _ => r.length + 1 - (intOf i).toNat)
      case atStart => exact ⟨0, g, Nat.zero_le _, rfl, rfl, by simp [Hid], hbx⟩
      case round =>
        obtain ⟨j, q, hj, rfl, rfl, hq, hb⟩ := hrel
        by_cases hlt : j < r.length + 1
        · have hVr := hV.later hb
          have hk' := (hVr.2.2 0 (by simp)).1
          simp only [Nat.zero_mul, List.getD_cons_zero] at hk'
          have hx := (hVr.2.2 j (by simpa using hlt)).1
          have HT : Hid (((k, n) :: r).take (j + 1) = ((k, n) :: r).take j ++ [((k, n) :: r).getD j (0, 0)]) := by rw [List.take_succ_eq_append_getElem (by simpa using hlt), List.getD_eq_getElem?_getD, List.getElem?_eq_getElem (by simpa using hlt)]; rfl
          generalize ((k, n) :: r).getD j (0, 0) = x at *
          obtain ⟨x, y⟩ := x
          dsimp only at hx
          have hlt' : (j : Int) < (r.length : Int) + 1 := by omega
          have h0 : (0 : Int) < (r.length : Int) + 1 := by omega
          clear hbx hlen' hVr
          cases q with
          | false =>
            go_wp2
            go_quiet (fail)
            go_wp2
            go_roundw
            case rel => exact ⟨j + 1, false, by omega, by go_num, rfl, by unfold Hid; rw [HT.out, List.all_append, ← Bool.and_assoc, ← hq.out]; rfl, below_drewN hb _⟩
            case measure => simp [intOf]; omega
          | true =>
            go_wp2
            go_quiet (fail)
            go_wp2
            go_roundw
            case rel => exact ⟨j + 1, x == k, by omega, by go_num, by simp, by unfold Hid; rw [HT.out, List.all_append, ← Bool.and_assoc, ← hq.out]; simp, below_drewN hb _⟩
            case measure => simp [intOf]; omega
        · have hq2 : Hid (q = M.alike k ((k, n) :: r) ks) := by
            have e : j = ((k, n) :: r).length := by simp; omega
            have := hq.out
            rw [e, List.take_length, hg2.out] at this
            exact this
          clear hq hV
          go_wp2
          go_ret
          exact ⟨ret_bool hq2.out, hb⟩

end Go.Proofs.YtjllbepecfajeaaDoor

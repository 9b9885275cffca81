import Derived.Test.YtmppgcijbeipfaaDoorRfMem
import Derived.BigQuiet
namespace Go.Proofs.YtmppgcijbeipfaaDoor
open Go.RowKit

theorem rf_next {L : Es} {id i : Nat} (hi : i ≤ rfPl L id) (hl : i < L.length) (hlt : L[i].1 < id) : i + 1 ≤ rfPl L id := by
  by_cases h : i = rfPl L id
  · subst h
    exact absurd hlt (rfPl_ge L id hl)
  · omega
theorem rf_stop {L : Es} {id i : Nat} (hi : i ≤ rfPl L id) (h : ∀ hl : i < L.length, ¬ L[i].1 < id) : i = rfPl L id := by
  by_cases h2 : i = rfPl L id
  · exact h2
  · have hl : i < L.length := by have := rfPl_le L id; omega
    exact absurd (rfPl_lt L id i (by omega) hl) (h hl)
theorem rf_has_out {L : Es} {id : Nat} (h : ¬ rfPl L id < L.length) : rfHas L id = false := by
  cases hh : rfHas L id with
  | false => rfl
  | true => exact absurd (rfHas_iff.1 hh).1 h
theorem rf_has_at {L : Es} {id : Nat} (h : rfPl L id < L.length) : rfHas L id = (L[rfPl L id].1 == id) := by
  unfold rfHas
  rw [List.getElem?_eq_getElem h]

set_option maxRecDepth 4000 in
set_option maxHeartbeats 2000000 in
theorem place_rf (b id : Nat) (L : Es) (hl : L.length ≤ 5000000000) (w : World) (h : RfAt w b L) : Calls Tryd.prog 35 #[.pointer (some ⟨b, 0, none⟩), .int .u32 (id : Int)] w fun e w' => e = .returned (.tuple #[.int .i64 (rfPl L id : Int), .bool (rfHas L id)]) ∧ ∃ m, w' = w.drewN m := by
  obtain ⟨ai, av, az, ci, cv, cs, c0, -, -, hc⟩ := h.cells
  clear h
  go_enter Tryd.func35, Tryd.ntmps35
  go_wp2
  go_loopw [6] (fun iv X => ∃ j : Nat, Hid (j ≤ rfPl L id) ∧ iv = .int .i64 (j : Int) ∧ X = w) (fun iv _ => L.length - (intOf iv).toNat)
  case atStart => exact ⟨0, Nat.zero_le _, rfl, rfl⟩
  case round =>
    obtain ⟨j, hj, rfl, rfl⟩ := hrel
    have hout : Hid (rfPl L id ≤ L.length) := rfPl_le L id
    by_cases hlt : j < L.length
    · have hlt' : (j : Int) < (L.length : Int) := Int.ofNat_lt.2 hlt
      have hj0 : (0 : Int) ≤ (j : Int) := Int.natCast_nonneg _
      obtain ⟨gi, gv, gs, rfl, rfl, rfl, hgi, -, -, hcc, -⟩ := hc (Nat.lt_of_le_of_lt (Nat.zero_le _) hlt)
      have a0 := (hcc j hlt).1
      have hnx := fun h => rf_next hj.out hlt (id := id) h
      clear hcc hc
      by_cases hk : L[j].1 < id
      · have hk' : ((L[j].1 : Nat) : Int) < (id : Int) := Int.ofNat_lt.2 hk
        have hnx' : Hid (j + 1 ≤ rfPl L id) := hnx hk
        clear hnx hk
        generalize L[j].1 = x at *
        go_wp2
        exact ⟨⟨j + 1, hnx', by go_num, by first | rfl | trivial⟩, by simp [intOf]; omega⟩
      · have hk' : ¬ ((L[j].1 : Nat) : Int) < (id : Int) := fun h => hk (Int.ofNat_lt.1 h)
        have hjp := rf_stop (L := L) (id := id) (i := j) hj.out fun _ => hk
        have hhs := rf_has_at (L := L) (id := id) (hjp ▸ hlt)
        have hhs2 : Hid (rfHas L id = (L[j].1 == id)) := by show rfHas L id = (L[j].1 == id); rw [hhs]; simp only [← hjp]
        have hjp' : Hid (j = rfPl L id) := hjp
        clear hnx hk hhs hjp
        generalize L[j].1 = x at *
        by_cases he : x = id
        · have he' : ((x : Nat) : Int) = (id : Int) := by rw [he]
          go_wp2
          go_quiet (fail)
          go_wp2
          go_ret2
          exact ⟨by rw [hhs2.out, ← hjp'.out, he]; simp, nq, rfl⟩
        · have he' : ¬ ((x : Nat) : Int) = (id : Int) := fun h => he (Int.ofNat_inj.1 h)
          have he2 : (x == id) = false := by simpa using he
          go_wp2
          go_quiet (fail)
          go_wp2
          go_ret2
          exact ⟨by rw [hhs2.out, ← hjp'.out, he2]; simp [he'], nq, rfl⟩
    · have hlt' : ¬ (j : Int) < (L.length : Int) := fun h => hlt (Int.ofNat_lt.1 h)
      have hjp' : Hid (j = rfPl L id) := rf_stop (L := L) (id := id) (i := j) hj.out fun hl => absurd hl hlt
      have hhs : Hid (rfHas L id = false) := rf_has_out (by rw [← hjp'.out]; exact hlt)
      go_wp2
      go_quiet (fail)
      go_wp2
      go_ret2
      exact ⟨by rw [hhs.out, ← hjp'.out]; simp, nq, rfl⟩

end Go.Proofs.YtmppgcijbeipfaaDoor

import Derived.Test.YtakcdgeanbpllaaGreatDoorDlA
import Derived.Test.YtakcdgeanbpllaaGreatDoorDjC
import Derived.Deep.DeepMust
import Derived.BigQuiet
import Derived.WalkSpells
import Derived.WalkSmall
/- RECORDS IN MEMORY; sameRecords. -/
namespace Go.Proofs.YtakcdgeanbpllaaGreatDoor.DJ
open Go.RowKit

/-- A list of records. -/
def RcAt (w : World) (a : Option Addr) (R : List Rec) : Prop := (∀ r ∈ R, r.1 < 256) ∧ (R = [] ∨ ∃ b off, a = some ⟨b, off, none⟩ ∧ b < w.heap.size ∧ ∀ i (h : i < R.length), w.cell? ⟨b, off + i * 2, none⟩ = some (.int .u8 (R[i].1 : Int)) ∧ ∃ p c, w.cell? ⟨b, off + i * 2 + 1, none⟩ = some (.slice p R[i].2.length c) ∧ Byts w p R[i].2)
theorem RcAt.later {w w' : World} {a : Option Addr} {R : List Rec} (h : RcAt w a R) (hb : Below w.heap.size w w') : RcAt w' a R := by
  obtain ⟨h0, h | ⟨b, off, ha, hlt, hc⟩⟩ := h
  · exact ⟨h0, .inl h⟩
  · refine ⟨h0, .inr ⟨b, off, ha, Nat.lt_of_lt_of_le hlt hb.size, fun i hi => ?_⟩⟩
    obtain ⟨h1, p, c, h2, h3⟩ := hc i hi
    exact ⟨(hb.cell (p := ⟨b, off + i * 2, none⟩) hlt).trans h1, p, c, (hb.cell (p := ⟨b, off + i * 2 + 1, none⟩) hlt).trans h2, h3.later hb⟩

theorem drewN_add (w : World) (m n : Nat) : (w.drewN m).drewN n = w.drewN (m + n) := by
  induction n with
  | zero => rfl
  | succ n ih => exact congrArg World.drew ih
theorem take_same {α : Type} {A B : List α} {k : Nat} (hA : k < A.length) (hB : k < B.length) (h : A.take k = B.take k) (e : A[k] = B[k]) : A.take (k + 1) = B.take (k + 1) := by
  rw [List.take_succ_eq_append_getElem hA, List.take_succ_eq_append_getElem hB, h, e]

set_option maxRecDepth 4000 in
set_option maxHeartbeats 1000000 in
theorem sameRecords_any (A B : List Rec) (hlA : A.length ≤ 9223372036854775807) (a b : Option Addr) (ca cb : Nat) (w : World) (ha : RcAt w a A) (hb : RcAt w b B) :
    Calls Tryz.prog 36 #[.slice a A.length ca, .slice b B.length cb] w fun e w' => e = .returned (.bool (decide (A = B))) ∧ ∃ m, w' = w.drewN m := by
  by_cases hL : A.length = B.length
  case neg =>
    have hne : ((A.length : Int) != (B.length : Int)) = true := by rw [bne_iff_ne]; omega
    have hr : decide (A = B) = false := decide_eq_false (fun e => hL (by rw [e]))
    rw [hr]
    go_enter Tryz.func36, Tryz.ntmps36
    go_wp2
    go_ret
    exact ⟨rfl, 0, rfl⟩
  have hne : ((A.length : Int) != (B.length : Int)) = false := by rw [hL]; simp
  go_enter Tryz.func36, Tryz.ntmps36
  go_wp2
  go_loopw [5] (fun v wr => ∃ k : Nat, k ≤ A.length ∧ v = .int .i64 (k : Int) ∧ A.take k = B.take k ∧ ∃ m, wr = w.drewN m) (fun v _ => A.length - (intOf v).toNat)
  case atStart => exact ⟨0, by omega, rfl, rfl, 0, rfl⟩
  case round =>
    obtain ⟨k, hk, rfl, htk, m0, hm0⟩ := hrel
    have hB : Below w.heap.size w wr := by rw [hm0]; exact below_drewN (Below.refl _ _) _
    have hD : Hid (∀ n, ∃ m, wr.drewN n = w.drewN m) := ⟨fun n => by rw [hm0]; exact ⟨m0 + n, (drewN_add w m0 n)⟩⟩
    have hD0 : Hid (∃ m, wr = w.drewN m) := ⟨⟨m0, hm0⟩⟩
    clear hm0
    by_cases hlt : k < A.length
    · have hlt' : (k : Int) < (A.length : Int) := by omega
      have hltB : k < B.length := by omega
      have hltB' : (k : Int) < (B.length : Int) := by omega
      have hk0 : (0 : Int) ≤ (k : Int) := by omega
      obtain ⟨b1, o1, rfl, -, hc⟩ := (ha.later hB).2.resolve_left (fun e => by rw [e] at hlt; simp at hlt)
      obtain ⟨b2, o2, rfl, -, hc2⟩ := (hb.later hB).2.resolve_left (fun e => by rw [e] at hltB; simp at hltB)
      obtain ⟨p0, pa, pc, p1, pb⟩ := hc k hlt
      obtain ⟨q0, qa, qc, q1, qb⟩ := hc2 k hltB
      have hstep : Hid (A[k] = B[k] → A.take (k + 1) = B.take (k + 1)) := ⟨take_same hlt hltB htk⟩
      have hdif : Hid (A[k] ≠ B[k] → decide (A = B) = false) := ⟨fun h => decide_eq_false (fun e => h (by simp only [e]))⟩
      have hn := fun X (hX : Below wr.heap.size wr X) => sameBytes_any (pb.later hX) (qb.later hX) pc qc
      clear hc hc2
      by_cases hkd : A[k].1 = B[k].1
      · have hkn : ((A[k].1 : Int) != (B[k].1 : Int)) = false := by rw [hkd]; simp
        by_cases hbd : A[k].2 = B[k].2
        · have hs := hstep.out (Prod.ext hkd hbd)
          rw [decide_eq_true hbd] at hn
          clear hstep hdif hkd hbd pb qb
          generalize A[k].1 = x at *
          generalize B[k].1 = y at *
          generalize A[k].2.length = m at *
          generalize B[k].2.length = n at *
          go_wp2_with fail
          go_quiet ((go_at_call 25; go_must (exact Calls.quiet_of_same (hn _ (below_drewN (Below.refl _ _) _)))))
          go_wp2
          go_roundw
          case rel => exact ⟨k + 1, by omega, by go_num, hs, hD.out _⟩
          case measure => simp [intOf]; omega
        · have hs : Hid (decide (A = B) = false) := ⟨hdif.out (fun e => hbd (by rw [e]))⟩
          rw [decide_eq_false hbd] at hn
          clear hstep hdif hkd hbd pb qb
          generalize A[k].1 = x at *
          generalize B[k].1 = y at *
          generalize A[k].2.length = m at *
          generalize B[k].2.length = n at *
          go_wp2_with fail
          go_quiet ((go_at_call 25; go_must (exact Calls.quiet_of_same (hn _ (below_drewN (Below.refl _ _) _)))))
          go_wp2
          go_ret
          rw [hs.out]
          exact ⟨rfl, hD.out _⟩
      · have hkn : ((A[k].1 : Int) != (B[k].1 : Int)) = true := by rw [bne_iff_ne]; omega
        have hs : Hid (decide (A = B) = false) := ⟨hdif.out (fun e => hkd (by rw [e]))⟩
        clear hstep hdif hkd pb qb hn
        generalize A[k].1 = x at *
        generalize B[k].1 = y at *
        generalize A[k].2.length = m at *
        generalize B[k].2.length = n at *
        go_wp2_with fail
        go_quiet (fail)
        go_wp2
        go_ret
        rw [hs.out]
        exact ⟨rfl, hD.out _⟩
    · have hlt' : ¬ (k : Int) < (A.length : Int) := by omega
      obtain rfl : k = A.length := by omega
      have hs : Hid (decide (A = B) = true) := ⟨decide_eq_true (by
        rw [List.take_length, hL, List.take_length] at htk; exact htk)⟩
      go_wp2
      go_ret
      rw [hs.out]
      exact ⟨rfl, hD0.out⟩
end Go.Proofs.YtakcdgeanbpllaaGreatDoor.DJ

import Derived.Test.YtnjnejlldklldaaDoorTOne
import Derived.Deep.RegionHeld3
import Derived.Deep.QuietTactic
import Derived.BigQuiet
namespace Go.Proofs.YtnjnejlldklldaaDoor
open Go.RowKit

theorem take_eq_step {α : Type} {A B : List α} {j : Nat} (ha : j < A.length) (hb : j < B.length) (h : A.take j = B.take j) (he : A[j] = B[j]) : A.take (j + 1) = B.take (j + 1) := by
  rw [List.take_succ_eq_append_getElem ha, List.take_succ_eq_append_getElem hb, h, he]

def SameP (A B : List (Nat × (Int × Int))) (w : World) (e : Ending) (w' : World) : Prop := ∃ o : Bool, e = .returned (.bool o) ∧ (o = true ↔ A = B) ∧ Below w.heap.size w w'

set_option maxRecDepth 4000 in
set_option maxHeartbeats 1000000 in
/-- Of two lists sameEntries says whether they are the same. -/
theorem same_entriesG (va vb : Value) (A B : List (Nat × (Int × Int))) (hl : A.length ≤ 1000000000) (w : World) (ha : EntsAt w va A) (hb : EntsAt w vb B) : Calls Tryd.prog 20 #[va, vb] w (SameP A B w) := by
  obtain ⟨aa, ca, rfl, hda⟩ := ha
  obtain ⟨ab, cb, rfl, hdb⟩ := hb
  by_cases hlen : A.length = B.length
  · have hlb : ((A.length : Int) != (B.length : Int)) = false := by rw [hlen]; simp
    have hlb2 : ¬ (A.length : Int) ≠ (B.length : Int) := by rw [hlen]; simp
    rw [← hlen]
    have hL : Hid (A.length = B.length) := hlen
    clear hlen hlb hlb2
    go_enter Tryd.func20, Tryd.ntmps20
    go_wp2
    go_loopw [5] (fun i wr => ∃ j : Nat, j ≤ A.length ∧ i = .int .i64 j ∧ A.take j = B.take j ∧ Below w.heap.size w wr) (fun i _ => A.length - (intOf i).toNat)
    case atStart => exact ⟨0, by omega, rfl, rfl, Below.refl _ _⟩
    case round =>
      obtain ⟨j, hj, rfl, htk, hB⟩ := hrel
      have hTk : Hid (A.take j = B.take j) := htk
      clear htk
      by_cases hlt : j < A.length
      · have hlt' : (j : Int) < A.length := by omega
        have hltB : j < B.length := by rw [← hL.out]; exact hlt
        have hj0 : (0 : Int) ≤ (j : Int) := by omega
        rcases hda with h0 | ⟨ga, oa, rfl, hga, hca⟩
        · rw [h0] at hlt; simp at hlt
        rcases hdb with h0 | ⟨gb, ob, rfl, hgb, hcb⟩
        · rw [h0] at hltB; simp at hltB
        obtain ⟨a0, a1, a2⟩ := hca j hlt
        obtain ⟨b0, b1, b2⟩ := hcb j hltB
        have hStep : Hid (A[j] = B[j] → A.take (j + 1) = B.take (j + 1)) := fun he => take_eq_step hlt hltB hTk.out he
        have hNo : Hid (A[j] ≠ B[j] → A ≠ B) := fun hn e => hn (by subst e; rfl)
        obtain ⟨⟨k, x, y⟩, hea⟩ : ∃ z, A[j] = z := ⟨_, rfl⟩
        obtain ⟨⟨k', x', y'⟩, heb⟩ : ∃ z, B[j] = z := ⟨_, rfl⟩
        rw [hea] at a0 a1 a2 hStep hNo
        rw [heb] at b0 b1 b2 hStep hNo
        simp only at a0 a1 a2 b0 b1 b2
        have hS : ∀ X, Below w.heap.size w X → X.cell? ⟨ga, oa + j * 3, none⟩ = some (.int .u32 (k : Int)) ∧ X.cell? ⟨ga, oa + j * 3 + 1, none⟩ = some (.int .i64 x) ∧ X.cell? ⟨ga, oa + j * 3 + 2, none⟩ = some (.int .i64 y) ∧ X.cell? ⟨gb, ob + j * 3, none⟩ = some (.int .u32 (k' : Int)) ∧ X.cell? ⟨gb, ob + j * 3 + 1, none⟩ = some (.int .i64 x') ∧ X.cell? ⟨gb, ob + j * 3 + 2, none⟩ = some (.int .i64 y') := fun X hX => ⟨(hX.cell (p := ⟨ga, _, none⟩) hga).trans a0, (hX.cell (p := ⟨ga, _, none⟩) hga).trans a1, (hX.cell (p := ⟨ga, _, none⟩) hga).trans a2, (hX.cell (p := ⟨gb, _, none⟩) hgb).trans b0, (hX.cell (p := ⟨gb, _, none⟩) hgb).trans b1, (hX.cell (p := ⟨gb, _, none⟩) hgb).trans b2⟩
        have hS1 := hS _ hB.drew
        clear a0 a1 a2 b0 b1 b2 hca hcb hea heb
        have hltB' : (j : Int) < A.length := hlt'
        by_cases hk : k = k'
        · subst hk
          have hkk : ((k : Int) != (k : Int)) = false := by simp
          obtain ⟨o, ho⟩ : ∃ o : Bool, (o = true ↔ (x = x' ∧ y = y')) := ⟨decide (x = x' ∧ y = y'), by simp⟩
          have hsv := same_any x y x' y' o ho wr.drew
          have hO : Hid (o = true ↔ (x = x' ∧ y = y')) := ho
          clear ho
          go_wp2
          go_region_held3 (fun X => X.cell? ⟨ga, oa + j * 3, none⟩ = some (.int .u32 (k : Int)) ∧ X.cell? ⟨ga, oa + j * 3 + 1, none⟩ = some (.int .i64 x) ∧ X.cell? ⟨ga, oa + j * 3 + 2, none⟩ = some (.int .i64 y) ∧ X.cell? ⟨gb, ob + j * 3, none⟩ = some (.int .u32 (k : Int)) ∧ X.cell? ⟨gb, ob + j * 3 + 1, none⟩ = some (.int .i64 x') ∧ X.cell? ⟨gb, ob + j * 3 + 2, none⟩ = some (.int .i64 y')) (with_reducible assumption)
            (first | (go_at_call 14; refine hsv.mono ?_; rintro e w5 ⟨rfl, hb5⟩; have hB5 := below_step hB.drew hb5; have hS5 := hS _ hB5))
          clear hS hS1 hS5 hsv
          cases o with
          | true =>
            obtain ⟨e1, e2⟩ := hO.out.1 rfl
            have hS2 := hStep.out (by rw [e1, e2])
            have hS3 : Hid (A.take (j + 1) = B.take (j + 1)) := hS2
            clear hS2 hO hNo hStep e1 e2
            go_wp2
            go_roundw
            case rel => exact ⟨j + 1, by omega, by go_num, hS3.out, hB5⟩
            case measure => simp [intOf]; omega
          | false =>
            have hN : SameP A B w (.returned (.bool false)) w5 := ⟨false, rfl, ⟨fun e => (by cases e), fun e => absurd e (hNo.out (fun he => by
              have h1 := hO.out.2 ⟨congrArg (fun z => z.2.1) he, congrArg (fun z => z.2.2) he⟩
              cases h1))⟩, hB5⟩
            clear hO hNo hStep
            go_wp2
            go_ret
            exact hN
        · have hkk : ((k : Int) != (k' : Int)) = true := by simp; omega
          obtain ⟨s0, s1, s2, s3, s4, s5⟩ := hS _ hB
          have hN : ∀ X, Below w.heap.size w X → SameP A B w (.returned (.bool false)) X := fun X hX => ⟨false, rfl, ⟨fun e => (by cases e), fun e => absurd e (hNo.out (fun he => hk (congrArg (fun z => z.1) he)))⟩, hX⟩
          clear hS1 hS hNo hStep
          go_wp2_with fail
          go_quiet (fail)
          have hBq := below_drewN hB nq
          go_wp2
          go_ret
          exact hN _ hBq
      · have hlt' : ¬ (j : Int) < A.length := by omega
        have hAB : A = B := by
          have h1 := hTk.out
          rwa [List.take_of_length_le (by omega), List.take_of_length_le (by rw [← hL.out]; omega)] at h1
        have hY : SameP A B w (.returned (.bool true)) wr := ⟨true, rfl, ⟨fun _ => hAB, fun _ => rfl⟩, hB⟩
        clear hAB hTk hL
        go_wp2
        go_ret
        exact hY
  · have hlb : ((A.length : Int) != (B.length : Int)) = true := by simp; omega
    have hlb2 : ¬ A.length = B.length := hlen
    have hN : SameP A B w (.returned (.bool false)) w := ⟨false, rfl, ⟨fun e => (by cases e), fun e => absurd (by rw [e]) hlen⟩, Below.refl _ _⟩
    clear hlen
    go_enter Tryd.func20, Tryd.ntmps20
    go_wp2
    go_ret
    exact hN

end Go.Proofs.YtnjnejlldklldaaDoor

import Derived.Test.YtoippgmecnlhcaaGreatDoorTurnWRPw
import Derived.Test.YtoippgmecnlhcaaGreatDoorProg
import Derived.WalkKit
import Derived.WalkSpells
import Derived.WalkLawsBesides
import Derived.Deep.QuietTactic
import Derived.BigQuiet
namespace Go.Proofs.YtoippgmecnlhcaaGreatDoor.Q
open Go.RowKit Go.Shelf

theorem mk_size (l : List UInt8) : (ByteArray.mk l.toArray).size = l.length := by show l.toArray.size = _; simp

set_option maxRecDepth 8000 in
set_option maxHeartbeats 4000000 in
theorem rprint_gen (v : Value) (L : List Tk) (hl : L.length ≤ 1000000) (hr : ∀ t ∈ L, Rng t) (w : World) (hv : TkRow w v L) (hS : RSgn w) : Calls Tryz.prog 11 #[v] w fun e w' => e = .returned (outV (pGo true [] L)) ∧ Below w.heap.size w w' := by
  obtain ⟨aa, ca, rfl, hda⟩ := hv
  by_cases hlong0 : 16000 < L.length
  · have hp : Hid (pGo true [] L = none) := by
      unfold Hid
      cases ho : pGo true [] L with
      | none => rfl
      | some T =>
        have := pGo_len L true [] T (by simp) ho
        simp at this
        omega
    have hl' : (16000 : Int) < (L.length : Int) := by omega
    go_enter Tryz.func11, Tryz.ntmps11
    go_wp2
    exact bodyPost_ret (v := .tuple #[.string ⟨#[]⟩, .int .i64 45]) (by simp [results, Tryz.results11, go_sem]) rfl ⟨by rw [hp.out]; rfl, (Below.refl _ _)⟩
  · have hl' : ¬ (16000 : Int) < (L.length : Int) := by omega
    rw [← rGo_pGo L true [] (by simp)]
    obtain ⟨R, hR⟩ : ∃ R, rGo true [] L = R := ⟨_, rfl⟩
    rw [hR]
    have hwr := fun (x : Tk) (hg : Rng x) W (hb : Below w.heap.size w W) => rwritten_any x hg W (hS.later hb)
    clear hS
    go_enter Tryz.func11, Tryz.ntmps11
    go_wp2
    go_loopw [4, 5, 6] (fun sv fv iv wr => ∃ (j : Nat) (fr : Bool) (acc : List UInt8), j ≤ L.length ∧ sv = .string ⟨acc.toArray⟩ ∧ fv = .bool fr ∧ iv = .int .i64 j ∧ acc.length ≤ 8000 + j ∧ Hid (R = rGo fr acc (L.drop j)) ∧ Below w.heap.size w wr) (fun _ _ iv _ => L.length - (intOf iv).toNat)
    case atStart => exact ⟨0, true, [], by omega, rfl, rfl, rfl, by simp, by unfold Hid; exact hR.symm, Below.refl _ _⟩
    case round =>
      obtain ⟨j, fr, acc, hj, rfl, rfl, rfl, hal, hRa, hB⟩ := hrel
      clear hR
      have hsz := hB.size
      by_cases hlt : j < L.length
      · have hlt' : (j : Int) < L.length := by omega
        have hj0 : (0 : Int) ≤ (j : Int) := by omega
        rcases hda with h0 | ⟨ga, oa, rfl, hga, hca⟩
        · rw [h0] at hlt; simp at hlt
        obtain ⟨a0, a1, a2, a3, a4⟩ := hca j hlt
        have hxr := hr L[j] (List.getElem_mem hlt)
        have hdr : L.drop j = L[j] :: L.drop (j + 1) := List.drop_eq_getElem_cons hlt
        rw [hdr] at hRa
        clear hdr
        obtain ⟨Q, hQ⟩ : ∃ Q, L.drop (j + 1) = Q := ⟨_, rfl⟩
        rw [hQ] at hRa
        have hR' : Hid (L.drop (j + 1) = Q) := hQ
        clear hQ hr
        generalize L[j] = x at *
        have a0' := (hB.cell (p := ⟨ga, _, none⟩) hga).trans a0
        have a1' := (hB.cell (p := ⟨ga, _, none⟩) hga).trans a1
        have a2' := (hB.cell (p := ⟨ga, _, none⟩) hga).trans a2
        have a3' := (hB.cell (p := ⟨ga, _, none⟩) hga).trans a3
        have a4' := (hB.cell (p := ⟨ga, _, none⟩) hga).trans a4
        clear a0 a1 a2 a3 a4 hca
        have hwe := hwr x hxr wr hB
        clear hwr hxr
        unfold rGo at hRa
        obtain ⟨S, hS0⟩ : ∃ S, sayK x = S := ⟨_, rfl⟩
        obtain ⟨ok, hok⟩ : ∃ ok, (okW x).isSome = ok := ⟨_, rfl⟩
        have hsl : ok = true → S.length ≤ 100 := fun h => by
          rw [h] at hok
          obtain ⟨wd, hw⟩ := Option.isSome_iff_exists.1 hok
          rw [← hS0]
          exact (okW_word hw).2.1
        rw [hS0, hok] at hwe hRa
        clear hS0 hok
        obtain ⟨K, A, Tx, N, D0⟩ := x
        simp only at hwe hRa a0' a1' a2' a3' a4'
        have e10 : (ByteArray.mk #[10]).size = 1 := rfl
        by_cases h8 : K = 8
        · subst h8
          rw [if_pos rfl] at hRa
          clear hwe hsl
          cases fr with
          | true =>
            rw [if_pos (.inl rfl)] at hRa
            have hp : Hid (R = none) := hRa
            clear hRa
            go_wp2
            exact bodyPost_ret (v := .tuple #[.string ⟨#[]⟩, .int .i64 45]) (by simp [results, Tryz.results11, go_sem]) rfl ⟨by rw [hp.out]; rfl, hB⟩
          | false =>
            by_cases hz : Tx = [] ∧ N = 0 ∧ D0 = 0
            · rw [if_neg (by simp only [Bool.false_eq_true, false_or, Classical.not_not]; exact hz)] at hRa
              obtain ⟨rfl, rfl, rfl⟩ := hz
              have s1 : ¬ 9223372036854775807 < acc.length + 1 := by omega
              go_wp2
              go_roundw
              case rel => exact ⟨j + 1, true, acc ++ [10], by omega, by rw [← ByteArray.mk_append_mk], rfl, by go_num, by rw [List.length_append, List.length_singleton]; omega, by unfold Hid; rw [hR'.out]; exact hRa.out, hB⟩
              case measure => simp [intOf]; omega
            · rw [if_pos (.inr hz)] at hRa
              have hp : Hid (R = none) := hRa
              clear hRa
              by_cases z1 : Tx = []
              · subst z1
                by_cases z2 : N = 0
                · subst z2
                  have z3 : D0 ≠ 0 := fun h => hz ⟨rfl, rfl, h⟩
                  have z3' : (D0 != 0) = true := by simp [z3]
                  have z3'' : (D0 == 0) = false := by simp [z3]
                  clear hz
                  go_wp2
                  exact bodyPost_ret (v := .tuple #[.string ⟨#[]⟩, .int .i64 45]) (by simp [results, Tryz.results11, go_sem]) rfl ⟨by rw [hp.out]; rfl, hB⟩
                · have z2' : (N != 0) = true := by simp [z2]
                  have z2'' : (N == 0) = false := by simp [z2]
                  clear hz
                  go_wp2
                  exact bodyPost_ret (v := .tuple #[.string ⟨#[]⟩, .int .i64 45]) (by simp [results, Tryz.results11, go_sem]) rfl ⟨by rw [hp.out]; rfl, hB⟩
              · clear hz
                go_wp2
                exact bodyPost_ret (v := .tuple #[.string ⟨#[]⟩, .int .i64 45]) (by simp [results, Tryz.results11, go_sem]) rfl ⟨by rw [hp.out]; rfl, hB⟩
        · have h8' : (K == 8) = false := by simp [h8]
          rw [if_neg h8] at hRa
          cases ok with
          | false =>
            rw [if_pos rfl] at hRa
            have hp : Hid (R = none) := hRa
            clear hRa h8 hsl
            go_wp2_with ((go_at_call 16; refine hwe.mono ?_; rintro e w2 ⟨⟨s2, rfl, hs2⟩, hb2⟩; have hB2 := below_step hB hb2))
            exact bodyPost_ret (v := .tuple #[.string ⟨#[]⟩, .int .i64 45]) (by simp [results, Tryz.results11, go_sem]) rfl ⟨by rw [hp.out]; rfl, hB2⟩
          | true =>
            rw [if_neg (by simp)] at hRa
            have hsl := hsl rfl
            clear h8
            have hsS := mk_size S
            have hsA := mk_size acc
            cases fr with
            | true =>
              have hi8 : (if true = true then acc else acc ++ [32]) = acc := if_pos rfl
              rw [hi8] at hRa
              clear hi8
              have s1 : ¬ 9223372036854775807 < acc.length + S.length := by omega
              by_cases hlong : 8000 < (acc ++ S).length
              · rw [if_pos hlong] at hRa
                have hp : Hid (R = none) := hRa
                rw [List.length_append] at hlong
                have hlong' : (8000 : Int) < (acc.length : Int) + (S.length : Int) := by omega
                clear hRa
                go_wp2_with ((go_at_call 16; refine hwe.mono ?_; rintro e w2 ⟨⟨s2, rfl, hs2⟩, hb2⟩; have hB2 := below_step hB hb2; obtain rfl := hs2 rfl))
                exact bodyPost_ret (v := .tuple #[.string ⟨#[]⟩, .int .i64 45]) (by simp [results, Tryz.results11, go_sem]) rfl ⟨by rw [hp.out]; rfl, hB2⟩
              · rw [if_neg hlong] at hRa
                rw [List.length_append] at hlong
                have hlong' : ¬ (8000 : Int) < (acc.length : Int) + (S.length : Int) := by omega
                go_wp2_with ((go_at_call 16; refine hwe.mono ?_; rintro e w2 ⟨⟨s2, rfl, hs2⟩, hb2⟩; have hB2 := below_step hB hb2; obtain rfl := hs2 rfl))
                go_roundw
                case rel => exact ⟨j + 1, false, acc ++ S, by omega, by rw [← ByteArray.mk_append_mk], rfl, by go_num, by rw [List.length_append]; omega, by unfold Hid; rw [hR'.out]; exact hRa.out, hB2⟩
                case measure => simp [intOf]; omega
            | false =>
              have hi8 : (if false = true then acc else acc ++ [32]) = acc ++ [32] := if_neg (by simp)
              rw [hi8] at hRa
              clear hi8
              have s0 : ¬ 9223372036854775807 < acc.length + 1 := by omega
              have s1 : ¬ 9223372036854775807 < acc.length + 1 + S.length := by omega
              by_cases hlong : 8000 < (acc ++ [32] ++ S).length
              · rw [if_pos hlong] at hRa
                have hp : Hid (R = none) := hRa
                rw [List.length_append, List.length_append, List.length_singleton] at hlong
                have hlong' : (8000 : Int) < (acc.length : Int) + 1 + (S.length : Int) := by omega
                clear hRa
                go_wp2_with ((go_at_call 16; refine hwe.mono ?_; rintro e w2 ⟨⟨s2, rfl, hs2⟩, hb2⟩; have hB2 := below_step hB hb2; obtain rfl := hs2 rfl))
                exact bodyPost_ret (v := .tuple #[.string ⟨#[]⟩, .int .i64 45]) (by simp [results, Tryz.results11, go_sem]) rfl ⟨by rw [hp.out]; rfl, hB2⟩
              · rw [if_neg hlong] at hRa
                rw [List.length_append, List.length_append, List.length_singleton] at hlong
                have hlong' : ¬ (8000 : Int) < (acc.length : Int) + 1 + (S.length : Int) := by omega
                go_wp2_with ((go_at_call 16; refine hwe.mono ?_; rintro e w2 ⟨⟨s2, rfl, hs2⟩, hb2⟩; have hB2 := below_step hB hb2; obtain rfl := hs2 rfl))
                go_roundw
                case rel => exact ⟨j + 1, false, acc ++ [32] ++ S, by omega, by rw [← ByteArray.mk_append_mk, ← ByteArray.mk_append_mk], rfl, by go_num, by rw [List.length_append, List.length_append, List.length_singleton]; omega, by unfold Hid; rw [hR'.out]; exact hRa.out, hB2⟩
                case measure => simp [intOf]; omega
      · have hlt' : ¬ (j : Int) < L.length := by omega
        have hnil : L.drop j = [] := by
          rw [List.drop_eq_nil_iff]
          omega
        rw [hnil] at hRa
        unfold rGo at hRa
        have hsA := mk_size acc
        clear hda hwr hr
        cases fr with
        | true =>
          by_cases hlong : acc.length ≤ 8000
          · rw [if_pos ⟨rfl, hlong⟩] at hRa
            have hp : Hid (R = some acc) := hRa
            have hlong' : ¬ (8000 : Int) < (acc.length : Int) := by omega
            clear hRa
            go_wp2
            exact bodyPost_ret (v := .tuple #[.string ⟨acc.toArray⟩, .int .i64 0]) (by simp [results, Tryz.results11, go_sem]) rfl ⟨by rw [hp.out]; rfl, hB⟩
          · rw [if_neg (fun h => hlong h.2)] at hRa
            have hp : Hid (R = none) := hRa
            have hlong' : (8000 : Int) < (acc.length : Int) := by omega
            clear hRa
            go_wp2
            exact bodyPost_ret (v := .tuple #[.string ⟨#[]⟩, .int .i64 45]) (by simp [results, Tryz.results11, go_sem]) rfl ⟨by rw [hp.out]; rfl, hB⟩
        | false =>
          rw [if_neg (fun h => by cases h.1)] at hRa
          have hp : Hid (R = none) := hRa
          clear hRa
          go_wp2
          exact bodyPost_ret (v := .tuple #[.string ⟨#[]⟩, .int .i64 45]) (by simp [results, Tryz.results11, go_sem]) rfl ⟨by rw [hp.out]; rfl, hB⟩

end Go.Proofs.YtoippgmecnlhcaaGreatDoor.Q


namespace Go.Proofs.YtoippgmecnlhcaaGreatDoor
open Go.RowKit

set_option maxHeartbeats 1000000 in
theorem holdBytes_nil (R : Nat) (W : World) (c : W.cell? ⟨R, 0, none⟩ = some (.slice none 0 0)) : Calls Tryz.prog 17 #[.pointer (some ⟨R, 0, none⟩)] W fun e W' => e = .returned (.bool true) ∧ Below W.heap.size W W' := by
  go_enter Tryz.func17, Tryz.ntmps17
  go_wp2
  refine wp_loop_rounds 1 ?_
  rw [rounds_succ]
  have c2 := fun o => ((Below.refl W.heap.size W).alloc (Nat.le_refl _) o).cell (p := ⟨R, 0, none⟩) (World.block_lt_of_cell? _ _ c)
  simp only [c] at c2
  go_wp2
  go_ret
  exact ⟨rfl, (Below.refl _ _).alloc (Nat.le_refl _) _⟩

set_option maxHeartbeats 1000000 in
theorem holdInts_nil (R : Nat) (W : World) (c : W.cell? ⟨R, 1, none⟩ = some (.slice none 0 0)) : Calls Tryz.prog 18 #[.pointer (some ⟨R, 0, none⟩)] W fun e W' => e = .returned (.bool true) ∧ Below W.heap.size W W' := by
  go_enter Tryz.func18, Tryz.ntmps18
  go_wp2
  refine wp_loop_rounds 1 ?_
  rw [rounds_succ]
  have c2 := fun o => ((Below.refl W.heap.size W).alloc (Nat.le_refl _) o).cell (p := ⟨R, 1, none⟩) (World.block_lt_of_cell? _ _ c)
  simp only [c] at c2
  go_wp2
  go_ret
  exact ⟨rfl, (Below.refl _ _).alloc (Nat.le_refl _) _⟩

set_option maxHeartbeats 1000000 in
theorem holdCells_nil (R : Nat) (W : World) (c : W.cell? ⟨R, 2, none⟩ = some (.slice none 0 0)) : Calls Tryz.prog 19 #[.pointer (some ⟨R, 0, none⟩)] W fun e W' => e = .returned (.bool true) ∧ Below W.heap.size W W' := by
  go_enter Tryz.func19, Tryz.ntmps19
  go_wp2
  refine wp_loop_rounds 1 ?_
  rw [rounds_succ]
  have c2 := fun o => ((Below.refl W.heap.size W).alloc (Nat.le_refl _) o).cell (p := ⟨R, 2, none⟩) (World.block_lt_of_cell? _ _ c)
  simp only [c] at c2
  go_wp2
  go_ret
  exact ⟨rfl, (Below.refl _ _).alloc (Nat.le_refl _) _⟩

set_option maxHeartbeats 1000000 in
theorem holdBools_nil (R : Nat) (W : World) (c : W.cell? ⟨R, 3, none⟩ = some (.slice none 0 0)) : Calls Tryz.prog 20 #[.pointer (some ⟨R, 0, none⟩)] W fun e W' => e = .returned (.bool true) ∧ Below W.heap.size W W' := by
  go_enter Tryz.func20, Tryz.ntmps20
  go_wp2
  refine wp_loop_rounds 1 ?_
  rw [rounds_succ]
  have c2 := fun o => ((Below.refl W.heap.size W).alloc (Nat.le_refl _) o).cell (p := ⟨R, 3, none⟩) (World.block_lt_of_cell? _ _ c)
  simp only [c] at c2
  go_wp2
  go_ret
  exact ⟨rfl, (Below.refl _ _).alloc (Nat.le_refl _) _⟩

set_option maxHeartbeats 1000000 in
theorem holdTexts_nil (R : Nat) (W : World) (c : W.cell? ⟨R, 4, none⟩ = some (.slice none 0 0)) : Calls Tryz.prog 21 #[.pointer (some ⟨R, 0, none⟩)] W fun e W' => e = .returned (.bool true) ∧ Below W.heap.size W W' := by
  go_enter Tryz.func21, Tryz.ntmps21
  go_wp2
  refine wp_loop_rounds 1 ?_
  rw [rounds_succ]
  have c2 := fun o => ((Below.refl W.heap.size W).alloc (Nat.le_refl _) o).cell (p := ⟨R, 4, none⟩) (World.block_lt_of_cell? _ _ c)
  simp only [c] at c2
  go_wp2
  go_ret
  exact ⟨rfl, (Below.refl _ _).alloc (Nat.le_refl _) _⟩

set_option maxHeartbeats 1000000 in
theorem holdValues_nil (R : Nat) (W : World) (c : W.cell? ⟨R, 5, none⟩ = some (.slice none 0 0)) : Calls Tryz.prog 22 #[.pointer (some ⟨R, 0, none⟩)] W fun e W' => e = .returned (.bool true) ∧ Below W.heap.size W W' := by
  go_enter Tryz.func22, Tryz.ntmps22
  go_wp2
  refine wp_loop_rounds 1 ?_
  rw [rounds_succ]
  have c2 := fun o => ((Below.refl W.heap.size W).alloc (Nat.le_refl _) o).cell (p := ⟨R, 5, none⟩) (World.block_lt_of_cell? _ _ c)
  simp only [c] at c2
  go_wp2
  go_ret
  exact ⟨rfl, (Below.refl _ _).alloc (Nat.le_refl _) _⟩

set_option maxHeartbeats 1000000 in
theorem holdBands_nil (R : Nat) (W : World) (c : W.cell? ⟨R, 6, none⟩ = some (.slice none 0 0)) : Calls Tryz.prog 23 #[.pointer (some ⟨R, 0, none⟩)] W fun e W' => e = .returned (.bool true) ∧ Below W.heap.size W W' := by
  go_enter Tryz.func23, Tryz.ntmps23
  go_wp2
  refine wp_loop_rounds 1 ?_
  rw [rounds_succ]
  have c2 := fun o => ((Below.refl W.heap.size W).alloc (Nat.le_refl _) o).cell (p := ⟨R, 6, none⟩) (World.block_lt_of_cell? _ _ c)
  simp only [c] at c2
  go_wp2
  go_ret
  exact ⟨rfl, (Below.refl _ _).alloc (Nat.le_refl _) _⟩

set_option maxHeartbeats 1000000 in
theorem holdTokens_nil (R : Nat) (W : World) (c : W.cell? ⟨R, 7, none⟩ = some (.slice none 0 0)) : Calls Tryz.prog 24 #[.pointer (some ⟨R, 0, none⟩)] W fun e W' => e = .returned (.bool true) ∧ Below W.heap.size W W' := by
  go_enter Tryz.func24, Tryz.ntmps24
  go_wp2
  refine wp_loop_rounds 1 ?_
  rw [rounds_succ]
  have c2 := fun o => ((Below.refl W.heap.size W).alloc (Nat.le_refl _) o).cell (p := ⟨R, 7, none⟩) (World.block_lt_of_cell? _ _ c)
  simp only [c] at c2
  go_wp2
  go_ret
  exact ⟨rfl, (Below.refl _ _).alloc (Nat.le_refl _) _⟩

set_option maxHeartbeats 1000000 in
theorem holdReads_nil (R : Nat) (W : World) (c : W.cell? ⟨R, 8, none⟩ = some (.slice none 0 0)) : Calls Tryz.prog 25 #[.pointer (some ⟨R, 0, none⟩)] W fun e W' => e = .returned (.bool true) ∧ Below W.heap.size W W' := by
  go_enter Tryz.func25, Tryz.ntmps25
  go_wp2
  refine wp_loop_rounds 1 ?_
  rw [rounds_succ]
  have c2 := fun o => ((Below.refl W.heap.size W).alloc (Nat.le_refl _) o).cell (p := ⟨R, 8, none⟩) (World.block_lt_of_cell? _ _ c)
  simp only [c] at c2
  go_wp2
  go_ret
  exact ⟨rfl, (Below.refl _ _).alloc (Nat.le_refl _) _⟩

set_option maxHeartbeats 1000000 in
theorem holdConflicts_nil (R : Nat) (W : World) (c : W.cell? ⟨R, 9, none⟩ = some (.slice none 0 0)) : Calls Tryz.prog 26 #[.pointer (some ⟨R, 0, none⟩)] W fun e W' => e = .returned (.bool true) ∧ Below W.heap.size W W' := by
  go_enter Tryz.func26, Tryz.ntmps26
  go_wp2
  refine wp_loop_rounds 1 ?_
  rw [rounds_succ]
  have c2 := fun o => ((Below.refl W.heap.size W).alloc (Nat.le_refl _) o).cell (p := ⟨R, 9, none⟩) (World.block_lt_of_cell? _ _ c)
  simp only [c] at c2
  go_wp2
  go_ret
  exact ⟨rfl, (Below.refl _ _).alloc (Nat.le_refl _) _⟩

set_option maxHeartbeats 1000000 in
theorem holdPoints_nil (R : Nat) (W : World) (c : W.cell? ⟨R, 10, none⟩ = some (.slice none 0 0)) : Calls Tryz.prog 27 #[.pointer (some ⟨R, 0, none⟩)] W fun e W' => e = .returned (.bool true) ∧ Below W.heap.size W W' := by
  go_enter Tryz.func27, Tryz.ntmps27
  go_wp2
  refine wp_loop_rounds 1 ?_
  rw [rounds_succ]
  have c2 := fun o => ((Below.refl W.heap.size W).alloc (Nat.le_refl _) o).cell (p := ⟨R, 10, none⟩) (World.block_lt_of_cell? _ _ c)
  simp only [c] at c2
  go_wp2
  go_ret
  exact ⟨rfl, (Below.refl _ _).alloc (Nat.le_refl _) _⟩

set_option maxHeartbeats 1000000 in
theorem holdNodes_nil (R : Nat) (W : World) (c : W.cell? ⟨R, 11, none⟩ = some (.slice none 0 0)) : Calls Tryz.prog 28 #[.pointer (some ⟨R, 0, none⟩)] W fun e W' => e = .returned (.bool true) ∧ Below W.heap.size W W' := by
  go_enter Tryz.func28, Tryz.ntmps28
  go_wp2
  refine wp_loop_rounds 1 ?_
  rw [rounds_succ]
  have c2 := fun o => ((Below.refl W.heap.size W).alloc (Nat.le_refl _) o).cell (p := ⟨R, 11, none⟩) (World.block_lt_of_cell? _ _ c)
  simp only [c] at c2
  go_wp2
  go_ret
  exact ⟨rfl, (Below.refl _ _).alloc (Nat.le_refl _) _⟩

set_option maxHeartbeats 1000000 in
theorem holdRecords_nil (R : Nat) (W : World) (c : W.cell? ⟨R, 12, none⟩ = some (.slice none 0 0)) : Calls Tryz.prog 29 #[.pointer (some ⟨R, 0, none⟩)] W fun e W' => e = .returned (.bool true) ∧ Below W.heap.size W W' := by
  go_enter Tryz.func29, Tryz.ntmps29
  go_wp2
  refine wp_loop_rounds 1 ?_
  rw [rounds_succ]
  have c2 := fun o => ((Below.refl W.heap.size W).alloc (Nat.le_refl _) o).cell (p := ⟨R, 12, none⟩) (World.block_lt_of_cell? _ _ c)
  simp only [c] at c2
  go_wp2
  go_ret
  exact ⟨rfl, (Below.refl _ _).alloc (Nat.le_refl _) _⟩

set_option maxHeartbeats 1000000 in
theorem holdFiles_nil (R : Nat) (W : World) (c : W.cell? ⟨R, 13, none⟩ = some (.slice none 0 0)) : Calls Tryz.prog 30 #[.pointer (some ⟨R, 0, none⟩)] W fun e W' => e = .returned (.bool true) ∧ Below W.heap.size W W' := by
  go_enter Tryz.func30, Tryz.ntmps30
  go_wp2
  refine wp_loop_rounds 1 ?_
  rw [rounds_succ]
  have c2 := fun o => ((Below.refl W.heap.size W).alloc (Nat.le_refl _) o).cell (p := ⟨R, 13, none⟩) (World.block_lt_of_cell? _ _ c)
  simp only [c] at c2
  go_wp2
  go_ret
  exact ⟨rfl, (Below.refl _ _).alloc (Nat.le_refl _) _⟩

set_option maxHeartbeats 1000000 in
theorem holdExprs_nil (R : Nat) (W : World) (c : W.cell? ⟨R, 14, none⟩ = some (.slice none 0 0)) : Calls Tryz.prog 31 #[.pointer (some ⟨R, 0, none⟩)] W fun e W' => e = .returned (.bool true) ∧ Below W.heap.size W W' := by
  go_enter Tryz.func31, Tryz.ntmps31
  go_wp2
  refine wp_loop_rounds 1 ?_
  rw [rounds_succ]
  have c2 := fun o => ((Below.refl W.heap.size W).alloc (Nat.le_refl _) o).cell (p := ⟨R, 14, none⟩) (World.block_lt_of_cell? _ _ c)
  simp only [c] at c2
  go_wp2
  go_ret
  exact ⟨rfl, (Below.refl _ _).alloc (Nat.le_refl _) _⟩

set_option maxHeartbeats 1000000 in
theorem holdClauses_nil (R : Nat) (W : World) (c : W.cell? ⟨R, 15, none⟩ = some (.slice none 0 0)) : Calls Tryz.prog 32 #[.pointer (some ⟨R, 0, none⟩)] W fun e W' => e = .returned (.bool true) ∧ Below W.heap.size W W' := by
  go_enter Tryz.func32, Tryz.ntmps32
  go_wp2
  refine wp_loop_rounds 1 ?_
  rw [rounds_succ]
  have c2 := fun o => ((Below.refl W.heap.size W).alloc (Nat.le_refl _) o).cell (p := ⟨R, 15, none⟩) (World.block_lt_of_cell? _ _ c)
  simp only [c] at c2
  go_wp2
  go_ret
  exact ⟨rfl, (Below.refl _ _).alloc (Nat.le_refl _) _⟩

set_option maxHeartbeats 1000000 in
theorem holdLines_nil (R : Nat) (W : World) (c : W.cell? ⟨R, 16, none⟩ = some (.slice none 0 0)) : Calls Tryz.prog 33 #[.pointer (some ⟨R, 0, none⟩)] W fun e W' => e = .returned (.bool true) ∧ Below W.heap.size W W' := by
  go_enter Tryz.func33, Tryz.ntmps33
  go_wp2
  refine wp_loop_rounds 1 ?_
  rw [rounds_succ]
  have c2 := fun o => ((Below.refl W.heap.size W).alloc (Nat.le_refl _) o).cell (p := ⟨R, 16, none⟩) (World.block_lt_of_cell? _ _ c)
  simp only [c] at c2
  go_wp2
  go_ret
  exact ⟨rfl, (Below.refl _ _).alloc (Nat.le_refl _) _⟩

set_option maxHeartbeats 1000000 in
theorem holdChecks_nil (R : Nat) (W : World) (c : W.cell? ⟨R, 17, none⟩ = some (.slice none 0 0)) : Calls Tryz.prog 34 #[.pointer (some ⟨R, 0, none⟩)] W fun e W' => e = .returned (.bool true) ∧ Below W.heap.size W W' := by
  go_enter Tryz.func34, Tryz.ntmps34
  go_wp2
  refine wp_loop_rounds 1 ?_
  rw [rounds_succ]
  have c2 := fun o => ((Below.refl W.heap.size W).alloc (Nat.le_refl _) o).cell (p := ⟨R, 17, none⟩) (World.block_lt_of_cell? _ _ c)
  simp only [c] at c2
  go_wp2
  go_ret
  exact ⟨rfl, (Below.refl _ _).alloc (Nat.le_refl _) _⟩

set_option maxHeartbeats 1000000 in
theorem holdOptions_nil (R : Nat) (W : World) (c : W.cell? ⟨R, 18, none⟩ = some (.slice none 0 0)) : Calls Tryz.prog 35 #[.pointer (some ⟨R, 0, none⟩)] W fun e W' => e = .returned (.bool true) ∧ Below W.heap.size W W' := by
  go_enter Tryz.func35, Tryz.ntmps35
  go_wp2
  refine wp_loop_rounds 1 ?_
  rw [rounds_succ]
  have c2 := fun o => ((Below.refl W.heap.size W).alloc (Nat.le_refl _) o).cell (p := ⟨R, 18, none⟩) (World.block_lt_of_cell? _ _ c)
  simp only [c] at c2
  go_wp2
  go_ret
  exact ⟨rfl, (Below.refl _ _).alloc (Nat.le_refl _) _⟩

set_option maxHeartbeats 1000000 in
theorem holdTables_nil (R : Nat) (W : World) (c : W.cell? ⟨R, 19, none⟩ = some (.slice none 0 0)) : Calls Tryz.prog 36 #[.pointer (some ⟨R, 0, none⟩)] W fun e W' => e = .returned (.bool true) ∧ Below W.heap.size W W' := by
  go_enter Tryz.func36, Tryz.ntmps36
  go_wp2
  refine wp_loop_rounds 1 ?_
  rw [rounds_succ]
  have c2 := fun o => ((Below.refl W.heap.size W).alloc (Nat.le_refl _) o).cell (p := ⟨R, 19, none⟩) (World.block_lt_of_cell? _ _ c)
  simp only [c] at c2
  go_wp2
  go_ret
  exact ⟨rfl, (Below.refl _ _).alloc (Nat.le_refl _) _⟩

set_option maxHeartbeats 1000000 in
theorem holdGroups_nil (R : Nat) (W : World) (c : W.cell? ⟨R, 20, none⟩ = some (.slice none 0 0)) : Calls Tryz.prog 37 #[.pointer (some ⟨R, 0, none⟩)] W fun e W' => e = .returned (.bool true) ∧ Below W.heap.size W W' := by
  go_enter Tryz.func37, Tryz.ntmps37
  go_wp2
  refine wp_loop_rounds 1 ?_
  rw [rounds_succ]
  have c2 := fun o => ((Below.refl W.heap.size W).alloc (Nat.le_refl _) o).cell (p := ⟨R, 20, none⟩) (World.block_lt_of_cell? _ _ c)
  simp only [c] at c2
  go_wp2
  go_ret
  exact ⟨rfl, (Below.refl _ _).alloc (Nat.le_refl _) _⟩

end Go.Proofs.YtoippgmecnlhcaaGreatDoor

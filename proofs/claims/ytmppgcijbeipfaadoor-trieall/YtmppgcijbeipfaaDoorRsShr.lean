import Derived.Test.YtmppgcijbeipfaaDoorRsHas
import Derived.Test.YtmppgcijbeipfaaDoorRfHeld
import Derived.Deep.DeepCutAuto
namespace Go.Proofs.YtmppgcijbeipfaaDoor
open Go.RowKit

open Classical in
/-- What Shared tells of the node at entry i, level l: nothing if it was told before; else whether the other map has it. -/
noncomputable def shOne (A : Es) (σA : Nat → Nat → Int) (B : Es) (σB : Nat → Nat → Int) (i l : Nat) : Option Bool :=
  if h : i < B.length then (if i ≠ 0 ∧ rfPre (B[i - 1]'(by omega)).1 l = rfPre B[i].1 l then none else some (decide (hasS A σA l (rfPre B[i].1 l) (σB l (rfPre B[i].1 l))))) else none
def shAdd (o : Option Bool) (c : Nat × Nat) : Nat × Nat := match o with
  | none => c
  | some true => (c.1 + 1, c.2)
  | some false => (c.1, c.2 + 1)
noncomputable def shC (A : Es) (σA : Nat → Nat → Int) (B : Es) (σB : Nat → Nat → Int) : Nat → Nat × Nat
  | 0 => (0, 0)
  | j + 1 => shAdd (shOne A σA B σB (j / 8) (j % 8)) (shC A σA B σB j)
theorem shC_step (A : Es) (σA : Nat → Nat → Int) (B : Es) (σB : Nat → Nat → Int) (i l : Nat) (hl : l < 8) : shC A σA B σB (i * 8 + (l + 1)) = shAdd (shOne A σA B σB i l) (shC A σA B σB (i * 8 + l)) := by
  rw [← Nat.add_assoc, shC, show (i * 8 + l) / 8 = i from by omega, show (i * 8 + l) % 8 = l from by omega]
theorem shC_le (A : Es) (σA : Nat → Nat → Int) (B : Es) (σB : Nat → Nat → Int) : ∀ j, (shC A σA B σB j).1 ≤ j ∧ (shC A σA B σB j).2 ≤ j
  | 0 => ⟨Nat.le_refl _, Nat.le_refl _⟩
  | j + 1 => by
    have ⟨h1, h2⟩ := shC_le A σA B σB j
    rw [shC]
    unfold shAdd
    split
    · exact ⟨by omega, by omega⟩
    · exact ⟨by simp only; omega, by simp only; omega⟩
    · exact ⟨by simp only; omega, by simp only; omega⟩

theorem shr_w {v i n : Nat} (h : v = i - 1) (h0 : 0 < i) (hn : i < n ∧ n ≤ 5000000000) : IntKind.i64.wrap ((i : Int) - 1) = (v : Int) ∧ wrap64 ((i : Int) - 1) = (v : Int) := by
  constructor
  · rw [IntKind.wrap_i64]; omega
  · unfold wrap64; omega

set_option maxRecDepth 4000 in
set_option maxHeartbeats 8000000 in
theorem shared_rs (a b : Nat) (A B : Es) (σA σB : Nat → Nat → Int) (hkA : ∀ e ∈ A, e.1 < 4294967296) (hkB : ∀ e ∈ B, e.1 < 4294967296) (hA : A.length ≤ 5000000000) (hB : B.length ≤ 5000000000) (w : World) (ha : RsAt w a A σA) (hb : RsAt w b B σB) : Calls Tryd.prog 31 #[.pointer (some ⟨a, 0, none⟩), .pointer (some ⟨b, 0, none⟩)] w fun e w' => e = .returned (.tuple #[.int .i64 ((shC A σA B σB (B.length * 8)).1 : Int), .int .i64 ((shC A σA B σB (B.length * 8)).2 : Int)]) ∧ Below w.heap.size w w' := by
  obtain ⟨bi, bv, bz, di, dv, ds, d0, d1, d2, hd⟩ := hb.rf.cells
  have hbl : Hid (b < w.heap.size) := hb.lt
  have hst : Hid (∀ gs, bz = some ⟨gs, 0, none⟩ → ∀ (i : Nat) (hi : i < B.length) (l : Nat), l < 8 → w.cell? ⟨gs, i * 8 + l, none⟩ = some (.int .i64 (σB l (rfPre B[i].1 l)))) := fun gs e i hi l hl => hb.stamps (by rw [← e]; exact d2) i hi l hl
  have hhas : Hid (∀ (W : World), Below w.heap.size w W → ∀ (id : Nat), id < 4294967296 → ∀ (l : Nat), l < 8 → ∀ (s : Int), Calls Tryd.prog 44 #[.pointer (some ⟨a, 0, none⟩), .int .u32 (id : Int), .int .i64 (l : Int), .int .i64 s] W (hasP W A σA l (rfPre id l) s)) := fun W hW id hid l hl s => has_rs σA a id hid l hl s A hkA hA W (ha.later hW)
  clear ha hb hkA hA
  go_enter Tryd.func31, Tryd.ntmps31
  go_wp2
  go_loopw [6, 7, 8] (fun sv fv iv X => ∃ i : Nat, Hid (i ≤ B.length) ∧ iv = .int .i64 (i : Int) ∧ sv = .int .i64 ((shC A σA B σB (i * 8)).1 : Int) ∧ fv = .int .i64 ((shC A σA B σB (i * 8)).2 : Int) ∧ Below w.heap.size w X) (fun _ _ iv _ => B.length - (intOf iv).toNat)
  case atStart => exact ⟨0, Nat.zero_le _, rfl, rfl, rfl, Below.refl _ _⟩
  case round =>
    obtain ⟨i, hi, rfl, rfl, rfl, hB1⟩ := hrel
    have e0 := (hB1.cell (p := ⟨b, 0, none⟩) hbl.out).trans d0
    by_cases hlt : i < B.length
    · have hlt' : (i : Int) < (B.length : Int) := Int.ofNat_lt.2 hlt
      have hi0 : (0 : Int) ≤ (i : Int) := Int.natCast_nonneg _
      obtain ⟨gi, gv, gs, rfl, rfl, rfl, hgi, -, hgs, hcc, -⟩ := hd (Nat.lt_of_le_of_lt (Nat.zero_le _) hlt)
      have a0 := (hcc i hlt).1
      have hkey := hkB _ (List.getElem_mem hlt)
      have hms : Hid (i < B.length ∧ B.length ≤ 5000000000) := ⟨hlt, hB⟩
      have hS : Hid (∀ (l : Nat), l < 8 → w.cell? ⟨gs, i * 8 + l, none⟩ = some (.int .i64 (σB l (rfPre B[i].1 l)))) := fun l hl => hst.out gs rfl i hlt l hl
      have hpv : Hid (0 < i → ∃ key0 : Nat, key0 < 4294967296 ∧ w.cell? ⟨gi, i - 1, none⟩ = some (.int .u32 (key0 : Int)) ∧ ∀ (l : Nat), (rfPre key0 l = rfPre B[i].1 l → shOne A σA B σB i l = none) ∧ (¬ rfPre key0 l = rfPre B[i].1 l → ∃ d : Bool, (d = true ↔ hasS A σA l (rfPre B[i].1 l) (σB l (rfPre B[i].1 l))) ∧ shOne A σA B σB i l = some d)) := fun h0 => by
        have hj : i - 1 < B.length := by omega
        refine ⟨B[i - 1].1, hkB _ (List.getElem_mem hj), (hcc (i - 1) hj).1, fun l => ⟨fun he => ?_, fun he => ?_⟩⟩
        · unfold shOne
          rw [dif_pos hlt, if_pos ⟨by omega, he⟩]
        · refine ⟨@decide (hasS A σA l (rfPre B[i].1 l) (σB l (rfPre B[i].1 l))) (Classical.propDecidable _), @decide_eq_true_iff _ (Classical.propDecidable _), ?_⟩
          unfold shOne
          rw [dif_pos hlt, if_neg (fun h => he h.2)]
      have hp0 : Hid (i = 0 → ∀ (l : Nat), ∃ d : Bool, (d = true ↔ hasS A σA l (rfPre B[i].1 l) (σB l (rfPre B[i].1 l))) ∧ shOne A σA B σB i l = some d) := fun h0 l => by
        refine ⟨@decide (hasS A σA l (rfPre B[i].1 l) (σB l (rfPre B[i].1 l))) (Classical.propDecidable _), @decide_eq_true_iff _ (Classical.propDecidable _), ?_⟩
        unfold shOne
        rw [dif_pos hlt, if_neg (fun h => h.1 h0)]
      generalize B[i].1 = key at *
      clear hcc hst hd hlt hkB hi
      go_wp2
      go_loopw [6, 7, 9] (fun sv fv lv X => ∃ l : Nat, Hid (l ≤ 8) ∧ lv = .int .i64 (l : Int) ∧ sv = .int .i64 ((shC A σA B σB (i * 8 + l)).1 : Int) ∧ fv = .int .i64 ((shC A σA B σB (i * 8 + l)).2 : Int) ∧ Below w.heap.size w X) (fun _ _ lv _ => 8 - (intOf lv).toNat)
      case atStart => exact ⟨0, Nat.zero_le _, rfl, rfl, rfl, hB1⟩
      case round =>
        clear e0 hB1
        obtain ⟨l, hl, rfl, rfl, rfl, hB2⟩ := hrel
        have hle := shC_le A σA B σB (i * 8 + l)
        have hnx : Hid (l < 8 → shC A σA B σB (i * 8 + (l + 1)) = shAdd (shOne A σA B σB i l) (shC A σA B σB (i * 8 + l))) := fun h => shC_step A σA B σB i l h
        by_cases hl8 : l < 8
        · have hl8' : (l : Int) < 8 := Int.ofNat_lt.2 hl8
          have hl0 : (0 : Int) ≤ (l : Int) := Int.natCast_nonneg _
          have hnx2 : Hid (shC A σA B σB (i * 8 + (l + 1)) = shAdd (shOne A σA B σB i l) (shC A σA B σB (i * 8 + l))) := hnx.out hl8
          have p1 : Hid (∀ X : World, _) := fun X => prefix_rf key l hkey (Nat.le_of_lt hl8) X
          have hbd : Hid ((shC A σA B σB (i * 8 + l)).1 ≤ 50000000000 ∧ (shC A σA B σB (i * 8 + l)).2 ≤ 50000000000 ∧ l < 8) := ⟨by have := hms.out; omega, by have := hms.out; omega, hl8⟩
          have a2 := (hB2.cell (p := ⟨gs, i * 8 + l, none⟩) hgs).trans (hS.out l hl8)
          have a0' := (hB2.cell (p := ⟨gi, i, none⟩) hgi).trans a0
          have e0 := (hB2.cell (p := ⟨b, 0, none⟩) hbl.out).trans d0
          have e2 := (hB2.cell (p := ⟨b, 2, none⟩) hbl.out).trans d2
          have hh : Hid (∀ m : Nat, Calls Tryd.prog 44 #[.pointer (some ⟨a, 0, none⟩), .int .u32 (key : Int), .int .i64 (l : Int), .int .i64 (σB l (rfPre key l))] (wr.drewN m) (hasP (wr.drewN m) A σA l (rfPre key l) (σB l (rfPre key l)))) := fun m => hhas.out _ (below_drewN hB2 m) key hkey l hl8 _
          obtain ⟨c', hc1, hc2, hcs⟩ : ∃ c' : Bool, Hid (c' = true → shOne A σA B σB i l = none) ∧ Hid (c' = false → ∃ d : Bool, (d = true ↔ hasS A σA l (rfPre key l) (σB l (rfPre key l))) ∧ shOne A σA B σB i l = some d) ∧ Hid ((i = 0 ∧ c' = false) ∨ (0 < i ∧ ∃ key0 : Nat, key0 < 4294967296 ∧ w.cell? ⟨gi, i - 1, none⟩ = some (.int .u32 (key0 : Int)) ∧ (c' = true ↔ rfPre key0 l = rfPre key l))) := by
            rcases Nat.eq_zero_or_pos i with h0 | h0
            · exact ⟨false, (fun h => by cases h), (fun _ => hp0.out h0 l), .inl ⟨h0, rfl⟩⟩
            · obtain ⟨key0, k1, k2, k3⟩ := hpv.out h0
              by_cases he : rfPre key0 l = rfPre key l
              · exact ⟨true, (fun _ => (k3 l).1 he), (fun h => by cases h), .inr ⟨h0, key0, k1, k2, ⟨fun _ => he, fun _ => rfl⟩⟩⟩
              · exact ⟨false, (fun h => by cases h), (fun _ => (k3 l).2 he), .inr ⟨h0, key0, k1, k2, ⟨(fun h => by cases h), fun h => absurd h he⟩⟩⟩
          generalize σB l (rfPre key l) = sv at *
          generalize shC A σA B σB (i * 8 + l) = cn at *
          clear hpv hp0 hhas hnx hle hS a0
          go_upto_region 9 with fail
          go_cut [46] (fun dv wx => dv = .bool c' ∧ ∃ m, wx = wr.drewN m)
          case first =>
            rcases hcs.out with ⟨h0, hcf⟩ | ⟨h0, key0, k1, k2, k3⟩
            · subst hcf
              have h0' : ¬ (0 : Int) < (i : Int) := by omega
              have h0n : ¬ 0 < i := by omega
              have h0d : decide ((0 : Int) < (i : Int)) = false := decide_eq_false h0'
              clear h0 hcs hc1 hc2 hnx2 hms hbd hh p1
              have hSd : True := trivial
              refine wp_region_held_drew (S := fun _ => True) (by kernel_rfl) hSd (fun hSd2 => ?_)
              clear hSd2
              refine tkH (i := 0) (d := some 23) (v := ?_) rfl rfl (by kernel_rfl) (by kernel_rfl) (by kernel_rfl) (fun _ _ _ h => h) (by rfl) ?_ (by with_reducible assumption) ?_
              rotate_left
              · (intro w hSw; (try dsimp only at hSw); go_simp; (try with_reducible rfl))
              simp only [Act.put, List.setIfInBounds_toArray, List.set_cons_zero, List.set_cons_succ]
              refine tkH (i := 1) (d := some 24) (v := ?_) rfl rfl (by kernel_rfl) (by kernel_rfl) (by kernel_rfl) (fun _ _ _ h => h) (by rfl) ?_ (by with_reducible assumption) ?_
              rotate_left
              · (intro w hSw; (try dsimp only at hSw); go_simp; (try with_reducible rfl))
              simp only [Act.put, List.setIfInBounds_toArray, List.set_cons_zero, List.set_cons_succ]
              refine tkH (i := 2) (d := some 25) (v := ?_) rfl rfl (by kernel_rfl) (by kernel_rfl) (by kernel_rfl) (fun _ _ _ h => h) (by rfl) ?_ (by with_reducible assumption) ?_
              rotate_left
              · (intro w hSw; (try dsimp only at hSw); go_simp; (try with_reducible rfl))
              simp only [Act.put, List.setIfInBounds_toArray, List.set_cons_zero, List.set_cons_succ]
              refine skH (i := 3) (d := some 26) rfl rfl (by kernel_rfl) (by kernel_rfl) (by kernel_rfl) (fun _ _ _ h => h) (by rfl) (by with_reducible assumption) ?_
              simp only [Act.put, List.setIfInBounds_toArray, List.set_cons_zero, List.set_cons_succ]
              refine skH (i := 4) (d := some 27) rfl rfl (by kernel_rfl) (by kernel_rfl) (by kernel_rfl) (fun _ _ _ h => h) (by rfl) (by with_reducible assumption) ?_
              simp only [Act.put, List.setIfInBounds_toArray, List.set_cons_zero, List.set_cons_succ]
              refine skH (i := 5) (d := some 28) rfl rfl (by kernel_rfl) (by kernel_rfl) (by kernel_rfl) (fun _ _ _ h => h) (by rfl) (by with_reducible assumption) ?_
              simp only [Act.put, List.setIfInBounds_toArray, List.set_cons_zero, List.set_cons_succ]
              refine skH (i := 6) (d := some 29) rfl rfl (by kernel_rfl) (by kernel_rfl) (by kernel_rfl) (fun _ _ _ h => h) (by rfl) (by with_reducible assumption) ?_
              simp only [Act.put, List.setIfInBounds_toArray, List.set_cons_zero, List.set_cons_succ]
              refine skH (i := 7) (d := some 30) rfl rfl (by kernel_rfl) (by kernel_rfl) (by kernel_rfl) (fun _ _ _ h => h) (by rfl) (by with_reducible assumption) ?_
              simp only [Act.put, List.setIfInBounds_toArray, List.set_cons_zero, List.set_cons_succ]
              refine skH (i := 8) (d := some 31) rfl rfl (by kernel_rfl) (by kernel_rfl) (by kernel_rfl) (fun _ _ _ h => h) (by rfl) (by with_reducible assumption) ?_
              simp only [Act.put, List.setIfInBounds_toArray, List.set_cons_zero, List.set_cons_succ]
              refine skH (i := 9) (d := some 32) rfl rfl (by kernel_rfl) (by kernel_rfl) (by kernel_rfl) (fun _ _ _ h => h) (by rfl) (by with_reducible assumption) ?_
              simp only [Act.put, List.setIfInBounds_toArray, List.set_cons_zero, List.set_cons_succ]
              refine skH (i := 10) (d := some 33) rfl rfl (by kernel_rfl) (by kernel_rfl) (by kernel_rfl) (fun _ _ _ h => h) (by rfl) (by with_reducible assumption) ?_
              simp only [Act.put, List.setIfInBounds_toArray, List.set_cons_zero, List.set_cons_succ]
              refine skH (i := 11) (d := some 34) rfl rfl (by kernel_rfl) (by kernel_rfl) (by kernel_rfl) (fun _ _ _ h => h) (by rfl) (by with_reducible assumption) ?_
              simp only [Act.put, List.setIfInBounds_toArray, List.set_cons_zero, List.set_cons_succ]
              refine skH (i := 12) (d := some 35) rfl rfl (by kernel_rfl) (by kernel_rfl) (by kernel_rfl) (fun _ _ _ h => h) (by rfl) (by with_reducible assumption) ?_
              simp only [Act.put, List.setIfInBounds_toArray, List.set_cons_zero, List.set_cons_succ]
              refine skH (i := 13) (d := some 36) rfl rfl (by kernel_rfl) (by kernel_rfl) (by kernel_rfl) (fun _ _ _ h => h) (by rfl) (by with_reducible assumption) ?_
              simp only [Act.put, List.setIfInBounds_toArray, List.set_cons_zero, List.set_cons_succ]
              refine skH (i := 14) (d := some 37) rfl rfl (by kernel_rfl) (by kernel_rfl) (by kernel_rfl) (fun _ _ _ h => h) (by rfl) (by with_reducible assumption) ?_
              simp only [Act.put, List.setIfInBounds_toArray, List.set_cons_zero, List.set_cons_succ]
              refine skH (i := 15) (d := some 38) rfl rfl (by kernel_rfl) (by kernel_rfl) (by kernel_rfl) (fun _ _ _ h => h) (by rfl) (by with_reducible assumption) ?_
              simp only [Act.put, List.setIfInBounds_toArray, List.set_cons_zero, List.set_cons_succ]
              refine skH (i := 16) (d := some 39) rfl rfl (by kernel_rfl) (by kernel_rfl) (by kernel_rfl) (fun _ _ _ h => h) (by rfl) (by with_reducible assumption) ?_
              simp only [Act.put, List.setIfInBounds_toArray, List.set_cons_zero, List.set_cons_succ]
              refine skH (i := 17) (d := some 40) rfl rfl (by kernel_rfl) (by kernel_rfl) (by kernel_rfl) (fun _ _ _ h => h) (by rfl) (by with_reducible assumption) ?_
              simp only [Act.put, List.setIfInBounds_toArray, List.set_cons_zero, List.set_cons_succ]
              refine skH (i := 18) (d := some 41) rfl rfl (by kernel_rfl) (by kernel_rfl) (by kernel_rfl) (fun _ _ _ h => h) (by rfl) (by with_reducible assumption) ?_
              simp only [Act.put, List.setIfInBounds_toArray, List.set_cons_zero, List.set_cons_succ]
              refine skH (i := 19) (d := some 42) rfl rfl (by kernel_rfl) (by kernel_rfl) (by kernel_rfl) (fun _ _ _ h => h) (by rfl) (by with_reducible assumption) ?_
              simp only [Act.put, List.setIfInBounds_toArray, List.set_cons_zero, List.set_cons_succ]
              refine skH (i := 20) (d := some 43) rfl rfl (by kernel_rfl) (by kernel_rfl) (by kernel_rfl) (fun _ _ _ h => h) (by rfl) (by with_reducible assumption) ?_
              simp only [Act.put, List.setIfInBounds_toArray, List.set_cons_zero, List.set_cons_succ]
              refine skH (i := 21) (d := some 44) rfl rfl (by kernel_rfl) (by kernel_rfl) (by kernel_rfl) (fun _ _ _ h => h) (by rfl) (by with_reducible assumption) ?_
              simp only [Act.put, List.setIfInBounds_toArray, List.set_cons_zero, List.set_cons_succ]
              refine skH (i := 22) (d := some 45) rfl rfl (by kernel_rfl) (by kernel_rfl) (by kernel_rfl) (fun _ _ _ h => h) (by rfl) (by with_reducible assumption) ?_
              simp only [Act.put, List.setIfInBounds_toArray, List.set_cons_zero, List.set_cons_succ]
              refine tkH (i := 23) (d := some 46) (v := ?_) rfl rfl (by kernel_rfl) (by kernel_rfl) (by kernel_rfl) (fun _ _ _ h => h) (by rfl) ?_ (by with_reducible assumption) ?_
              rotate_left
              · (intro w hSw; (try dsimp only at hSw); go_simp; (try with_reducible rfl))
              simp only [Act.put, List.setIfInBounds_toArray, List.set_cons_zero, List.set_cons_succ]
              refine wpAnyH_done (by kernel_rfl) ?_ _
              go_wp2_with fail
              go_meet
              exact ⟨rfl, 1, rfl⟩
            · have h0' : (0 : Int) < (i : Int) := by omega
              have x1 := (hB2.cell (p := ⟨gi, i - 1, none⟩) hgi).trans k2
              obtain ⟨iv1, hiv⟩ : ∃ v : Nat, v = i - 1 := ⟨_, rfl⟩
              rw [← hiv] at x1
              obtain ⟨u1, u2⟩ : IntKind.i64.wrap ((i : Int) - 1) = (iv1 : Int) ∧ wrap64 ((i : Int) - 1) = (iv1 : Int) := shr_w hiv h0 hms.out
              have v1 : (0 : Int) ≤ (iv1 : Int) := Int.natCast_nonneg _
              have v2 : (iv1 : Int) < (B.length : Int) := by have := hms.out; omega
              have p0 : Hid (∀ X : World, _) := fun X => prefix_rf key0 l k1 (by have := hbd.out; omega) X
              clear hcs hc1 hc2 hnx2 hms hbd hh k2 hiv
              by_cases he : rfPre key0 l = rfPre key l
              · obtain rfl : c' = true := k3.2 he
                rw [he] at p0
                clear k3 he
                go_quiet ((go_at_call 43; first | with_reducible exact Calls.quiet_of_same (p0.out _) | with_reducible exact Calls.quiet_of_same (p1.out _)))
                go_wp2_with fail
                go_meet
                exact ⟨rfl, nq, rfl⟩
              · obtain rfl : c' = false := by cases hcc : c' with | false => rfl | true => exact absurd (k3.1 hcc) he
                have he1 : ¬ ((rfPre key0 l : Nat) : Int) = ((rfPre key l : Nat) : Int) := fun h => he (Int.ofNat_inj.1 h)
                clear k3 he
                go_quiet ((go_at_call 43; first | with_reducible exact Calls.quiet_of_same (p0.out _) | with_reducible exact Calls.quiet_of_same (p1.out _)))
                go_wp2_with fail
                go_meet
                exact ⟨by first | rfl | simp [he1], nq, rfl⟩
          case rest =>
            obtain ⟨hdv, m, hw⟩ := hcut
            subst hdv hw
            clear hcs p1
            cases c' with
            | true =>
              have hcx : Hid (shC A σA B σB (i * 8 + (l + 1)) = cn) := by show _ = _; rw [hnx2.out, hc1.out rfl]; rfl
              have hB3 := below_drewN hB2 m
              obtain ⟨w1, w2, w3⟩ := hbd.out
              clear hc1 hc2 hnx2 hh
              go_wp2
              exact ⟨⟨l + 1, w3, by go_num, by rw [hcx.out], by rw [hcx.out], hB3⟩, by simp [intOf]; omega⟩
            | false =>
              obtain ⟨d, hdS, hdO⟩ := hc2.out rfl
              have hcx : Hid (shC A σA B σB (i * 8 + (l + 1)) = shAdd (some d) cn) := by show _ = _; rw [hnx2.out, hdO]
              have hq : Hid (∀ n : Nat, Calls Tryd.prog 44 #[.pointer (some ⟨a, 0, none⟩), .int .u32 (key : Int), .int .i64 (l : Int), .int .i64 sv] ((wr.drewN m).drewN n) fun e w' => e = .returned (.bool d) ∧ w' = (wr.drewN m).drewN n) := fun n => by
                rw [World.drewN_drewN]
                refine (hh.out (m + n)).mono ?_
                rintro e w' ⟨d', rfl, hd', rfl⟩
                have hdd : d' = d := by
                  have hx : d' = true ↔ d = true := hd'.trans hdS.symm
                  cases d' <;> cases d <;> simp_all
                rw [hdd]
                exact ⟨rfl, rfl⟩
              have hB3 := below_drewN hB2 m
              have b2 : (wr.drewN m).cell? ⟨gs, i * 8 + l, none⟩ = some (.int .i64 sv) := a2
              have b0 : (wr.drewN m).cell? ⟨gi, i, none⟩ = some (.int .u32 (key : Int)) := a0'
              have g0 : (wr.drewN m).cell? ⟨b, 0, none⟩ = _ := e0
              have g2 : (wr.drewN m).cell? ⟨b, 2, none⟩ = _ := e2
              clear hc1 hc2 hnx2 hh hdS hdO a2 a0' e0 e2 hB2
              generalize wr.drewN m = W5 at *
              go_upto_region 10 with fail
              go_cut [65] (fun dv wx => dv = .bool d ∧ ∃ m', wx = W5.drewN m')
              case first =>
                clear hcx hbd hms
                go_quiet ((go_at_call 44; exact Calls.quiet_of_same (hq.out _)))
                go_wp2_with fail
                go_meet
                exact ⟨rfl, nq, rfl⟩
              case rest =>
                obtain ⟨hdv, m', hw⟩ := hcut
                subst hdv hw
                have hB4 := below_drewN hB3 m'
                clear hq b2 b0 g0 g2 hB3
                have hB3 := hB4
                clear hB4
                generalize W5.drewN m' = W6 at *
                obtain ⟨n1, n2⟩ := cn
                obtain ⟨w1, w2, w3⟩ := hbd.out
                simp only at w1 w2
                cases d with
                | true =>
                  go_wp2
                  exact ⟨⟨l + 1, w3, by go_num, by rw [hcx.out]; show _ = Value.int .i64 ((n1 + 1 : Nat) : Int); go_num, by rw [hcx.out]; rfl, hB3⟩, by simp [intOf]; omega⟩
                | false =>
                  go_wp2
                  exact ⟨⟨l + 1, w3, by go_num, by rw [hcx.out]; rfl, by rw [hcx.out]; show _ = Value.int .i64 ((n2 + 1 : Nat) : Int); go_num, hB3⟩, by simp [intOf]; omega⟩
        · have hl8' : ¬ (l : Int) < 8 := fun h => hl8 (Int.ofNat_lt.1 h)
          obtain rfl : l = 8 := by have := hl.out; omega
          rw [show i * 8 + 8 = (i + 1) * 8 from by omega]
          obtain ⟨hn5, hn4⟩ := hms.out
          clear hhas hpv hp0 hS hnx hle
          go_wp2
          exact ⟨⟨i + 1, hn5, by go_num, rfl, rfl, hB2⟩, by simp [intOf]; omega⟩
    · have hlt' : ¬ (i : Int) < (B.length : Int) := fun h => hlt (Int.ofNat_lt.1 h)
      obtain rfl : i = B.length := by have := hi.out; omega
      clear hd hst hhas hi
      go_wp2
      go_ret2
      exact ⟨rfl, hB1⟩

end Go.Proofs.YtmppgcijbeipfaaDoor

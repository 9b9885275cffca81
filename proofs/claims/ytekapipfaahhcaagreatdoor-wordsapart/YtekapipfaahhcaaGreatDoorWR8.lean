import Derived.Test.YtekapipfaahhcaaGreatDoorWR7
import Derived.Test.YtekapipfaahhcaaGreatDoorWR5
import Derived.Test.YtekapipfaahhcaaGreatDoorWR4
import Derived.Test.YtekapipfaahhcaaGreatDoorWSig
namespace Go.Proofs.YtekapipfaahhcaaGreatDoor.Q
open Go.RowKit

theorem cls_quote (k : Nat) : cls k = 64 ↔ k = 34 := by
  unfold cls
  constructor
  · intro h
    repeat' split at h
    all_goals omega
  · intro h
    repeat rw [if_neg (by omega)]
    rw [if_pos h]
/-- The table of the reference's signs. -/
def RSgn (w : World) : Prop := 0 < w.heap.size ∧ ∀ i (h : i < 15), w.cell? ⟨0, i, none⟩ = some (.string ⟨(refSigns[i]'h).toArray⟩)
theorem RSgn.later {w w' : World} (h : RSgn w) (hb : Below w.heap.size w w') : RSgn w' := ⟨Nat.lt_of_lt_of_le h.1 hb.size, fun i hi => (hb.cell (p := ⟨0, i, none⟩) h.1).trans (h.2 i hi)⟩
theorem rsig_step {x : List UInt8} {j : Nat} (hn : ∀ i, i < j → (refSigns.getD i []).isPrefixOf x = false) : refSigns.find? (fun s => s.isPrefixOf x) = (refSigns.drop j).find? (fun s => s.isPrefixOf x) := by
  have key : ∀ (L : List (List UInt8)) (j : Nat), (∀ i, i < j → i < L.length → (L.getD i []).isPrefixOf x = false) → L.find? (fun s => s.isPrefixOf x) = (L.drop j).find? (fun s => s.isPrefixOf x) := by
    intro L
    induction L with
    | nil => intro j _; simp
    | cons s L ih =>
      intro j hj
      cases j with
      | zero => rfl
      | succ j =>
        have h0 := hj 0 (by omega) (by simp)
        simp only [List.getD_cons_zero] at h0
        rw [List.find?_cons, h0]
        show L.find? _ = (L.drop j).find? _
        exact ih j (fun i hi hl => by have := hj (i + 1) (by omega) (by simpa using hl); simpa using this)
  exact key refSigns j (fun i hi _ => hn i hi)
theorem rsig_get {j : Nat} (h : j < 15) : refSigns.drop j = refSigns.getD j [] :: refSigns.drop (j + 1) := by
  have hl : j < refSigns.length := h
  rw [List.drop_eq_getElem_cons hl]
  simp [List.getD, hl]
theorem refV_lit (R : Res) : ∃ (K : Int) (T : ByteArray) (N D E Z : Int), refV R = .tuple #[.agg #[.int .i64 K, .int .i64 0, .string T, .int .i64 N, .int .i64 D], .int .i64 E, .int .i64 Z] := by
  rcases R with ⟨p, n⟩ | ⟨w, e⟩
  · exact ⟨_, _, _, _, _, _, rfl⟩
  · exact ⟨_, _, _, _, _, _, rfl⟩

set_option maxRecDepth 8000 in
set_option maxHeartbeats 4000000 in
theorem rword_any (s : ByteArray) (a : Nat) (ha : a < s.size) (hs : s.size ≤ 8000) (w : World) (hS : RSgn w) :
    Calls Tryz.prog 38 #[.string s, .int .i64 (a : Int)] w fun e w' => e = .returned (refV (wordS s.data.toList a)) ∧ Below w.heap.size w w' := by
  have hb1 := (Below.refl w.heap.size w).alloc (Nat.le_refl _) (.cells #[.int .i64 0, .int .i64 0, .string ⟨#[]⟩, .int .i64 0, .int .i64 0] 66)
  have hbox := Box5.new w 66
  have hS1 := hS.later hb1
  obtain ⟨l, hl⟩ : ∃ l, s.data.toList = l := ⟨_, rfl⟩
  have hls : l.length = s.size := by rw [← hl]; exact size_list s
  have hal : a < l.length := by omega
  have hix := idx_at s a (by rw [hl]; exact hal)
  simp only [hl] at hix
  obtain ⟨R, hR⟩ : ∃ R, wordS l a = R := ⟨_, rfl⟩
  rw [hl, hR]
  unfold wordS at hR
  have hci := clsAt_in hal
  obtain ⟨k, hk⟩ : ∃ k, l[a].toNat = k := ⟨_, rfl⟩
  rw [hk] at hix hci
  rw [hci] at hR
  by_cases h8 : cls k = 8
  · rw [if_pos h8] at hR
    have hLt := fun W => isLetter_at k true (by simp [h8]) W
    have hrun := fun W => run2_any s a (by omega) (by omega) W
    rw [hl] at hrun
    have hle := rn_le 56 (l.drop a)
    rw [List.length_drop, hls] at hle
    obtain ⟨n, hn⟩ : ∃ n, rn 56 (l.drop a) = n := ⟨_, rfl⟩
    unfold nameS at hR
    rw [hn] at hrun hR hle
    clear h8 hk hci hn hS1 hS hbox
    by_cases hlong : 12 < n
    · rw [if_pos hlong] at hR
      have hl' : (12 : Int) < (n : Int) := by omega
      have hR' : Hid (refV (.error (a, 40)) = refV R) := by unfold Hid; rw [hR]
      clear hR hlong
      go_enter Tryz.func38, Tryz.ntmps38
      go_wp2_with (first | (go_at_call 69; refine (hLt _).mono ?_; rintro e w9 ⟨rfl, hw9⟩; subst w9) | (go_at_call 70; refine (hrun _).mono ?_; rintro e w9 ⟨rfl, hw9⟩; subst w9))
      refine bodyPost_ret (v := .tuple #[.agg #[.int .i64 0, .int .i64 0, .string ⟨#[]⟩, .int .i64 0, .int .i64 0], .int .i64 (a : Int), .int .i64 40]) (by simp [results, Tryz.results38, go_sem]) rfl ⟨?_, (Below.refl _ _).alloc (Nat.le_refl _) _⟩
      rw [← hR'.out]
      rfl
    · rw [if_neg hlong] at hR
      have hl' : ¬ (12 : Int) < (n : Int) := by omega
      have hR' : Hid (refV (.ok ((1, slc l a (a + n), 0, 0), a + n)) = refV R) := by unfold Hid; rw [hR]
      obtain ⟨t, ht⟩ : ∃ t, s.extract a (a + n) = t := ⟨_, rfl⟩
      have htl : Hid (t = ⟨(slc l a (a + n)).toArray⟩) := by
        unfold Hid
        rw [← hl, ← slice_list, ht]
      have hext : ∀ W, (Instr.slice 9 (.string s) (some (.int .i64 (a : Int))) (some (.int .i64 ((a : Int) + (n : Int)))) none).run Tryz.prog W = .ok (.string t) W := fun W => by
        rw [run_slice_string W 9 s .i64 .i64 (a : Int) ((a : Int) + (n : Int)) Tryz.underlying9 (by omega) (by omega) (by omega), ← ht, show ((a : Int) + (n : Int)).toNat = a + n from by omega, show ((a : Int)).toNat = a from rfl]
      clear hR hlong ht
      go_enter Tryz.func38, Tryz.ntmps38
      go_wp2_with (first | (go_at_call 69; refine (hLt _).mono ?_; rintro e w9 ⟨rfl, hw9⟩; subst w9) | (go_at_call 70; refine (hrun _).mono ?_; rintro e w9 ⟨rfl, hw9⟩; subst w9))
      refine bodyPost_ret (v := .tuple #[.agg #[.int .i64 1, .int .i64 0, .string t, .int .i64 0, .int .i64 0], .int .i64 ((a : Int) + (n : Int)), .int .i64 0]) (by simp [results, Tryz.results38, go_sem]) rfl ⟨?_, (Below.refl _ _).alloc (Nat.le_refl _) _⟩
      rw [← hR'.out, htl.out]
      simp [refV, tokC]
  · rw [if_neg h8] at hR
    have hLt := fun W => isLetter_at k false (by simp [h8]) W
    by_cases h32 : cls k = 32
    · rw [if_pos h32] at hR
      have hDg := fun W => isDigit_at k true (by simp [h32]) W
      by_cases hf : dForm (dX l a)
      · have hda := fun W => dateAt_any s a (by omega) (by omega) true (by rw [hl]; simp [hf]) W
        have hg := dated_any s a (by omega) hs (by rw [hl]; exact hf) (w.alloc (.cells #[.int .i64 0, .int .i64 0, .string ⟨#[]⟩, .int .i64 0, .int .i64 0] 66))
        rw [hl, hR] at hg
        obtain ⟨K, T, N, D, E, Z, hlit⟩ := refV_lit R
        rw [hlit] at hg ⊢
        clear hlit hR hl hls h8 h32 hk hci hf hS hS1
        go_enter Tryz.func38, Tryz.ntmps38
        go_wp2_with (first | (go_at_call 69; refine (hLt _).mono ?_; rintro e w9 ⟨rfl, hw9⟩; subst w9) | (go_at_call 71; refine (hDg _).mono ?_; rintro e w9 ⟨rfl, hw9⟩; subst w9) | (go_at_call 72; refine (hda _).mono ?_; rintro e w9 ⟨rfl, hw9⟩; subst w9) | (go_at_call 73; refine hg.mono ?_; rintro e w5 ⟨rfl, hb5⟩; have hVa := hb5; have hbx := hbox.later hVa; have hbx' := hbx; obtain ⟨⟨v0, c0⟩, ⟨v1, c1⟩, ⟨v2, c2⟩, ⟨v3, c3⟩, ⟨v4, c4⟩, hf⟩ := hbx'; have f0 := hf 0; have f1 := hf 1; have f2 := hf 2; have f3 := hf 3; have f4 := hf 4; clear hf))
        obtain ⟨q0, q1, q2, q3, q4⟩ := set5_cells hbx (.int .i64 K) (.int .i64 0) (.string T) (.int .i64 N) (.int .i64 D)
        unfold set5 at q0 q1 q2 q3 q4
        exact bodyPost_ret (v := .tuple #[.agg #[.int .i64 K, .int .i64 0, .string T, .int .i64 N, .int .i64 D], .int .i64 E, .int .i64 Z]) (by simp [results, Tryz.results38, go_sem, q0, q1, q2, q3, q4]) rfl ⟨rfl, set5_below (below_step hb1 hVa) (Nat.le_refl _) _ _ _ _ _⟩
      · have hda := fun W => dateAt_any s a (by omega) (by omega) false (by rw [hl]; simp [hf]) W
        have hR2 : numberS l a = R := by
          unfold dateS at hR
          rwa [if_neg hf] at hR
        have hg := rnumber_any2 s a (by omega) hs (by rw [hl]; exact rn_pos (of := 32) hal (by rw [hk, h32]; decide)) (w.alloc (.cells #[.int .i64 0, .int .i64 0, .string ⟨#[]⟩, .int .i64 0, .int .i64 0] 66))
        rw [hl, hR2] at hg
        obtain ⟨K, T, N, D, E, Z, hlit⟩ := refV_lit R
        rw [hlit] at hg ⊢
        clear hlit hR hR2 hl hls h8 h32 hk hci hf hS hS1
        go_enter Tryz.func38, Tryz.ntmps38
        go_wp2_with (first | (go_at_call 69; refine (hLt _).mono ?_; rintro e w9 ⟨rfl, hw9⟩; subst w9) | (go_at_call 71; refine (hDg _).mono ?_; rintro e w9 ⟨rfl, hw9⟩; subst w9) | (go_at_call 72; refine (hda _).mono ?_; rintro e w9 ⟨rfl, hw9⟩; subst w9) | (go_at_call 74; refine hg.mono ?_; rintro e w5 ⟨rfl, hb5⟩; have hVa := hb5; have hbx := hbox.later hVa; have hbx' := hbx; obtain ⟨⟨v0, c0⟩, ⟨v1, c1⟩, ⟨v2, c2⟩, ⟨v3, c3⟩, ⟨v4, c4⟩, hf⟩ := hbx'; have f0 := hf 0; have f1 := hf 1; have f2 := hf 2; have f3 := hf 3; have f4 := hf 4; clear hf))
        obtain ⟨q0, q1, q2, q3, q4⟩ := set5_cells hbx (.int .i64 K) (.int .i64 0) (.string T) (.int .i64 N) (.int .i64 D)
        unfold set5 at q0 q1 q2 q3 q4
        exact bodyPost_ret (v := .tuple #[.agg #[.int .i64 K, .int .i64 0, .string T, .int .i64 N, .int .i64 D], .int .i64 E, .int .i64 Z]) (by simp [results, Tryz.results38, go_sem, q0, q1, q2, q3, q4]) rfl ⟨rfl, set5_below (below_step hb1 hVa) (Nat.le_refl _) _ _ _ _ _⟩
    · rw [if_neg h32] at hR
      have hDg := fun W => isDigit_at k false (by simp [h32]) W
      by_cases h64 : cls k = 64
      · rw [if_pos h64] at hR
        have h34 : ((k : Int) == 34) = true := by rw [(cls_quote k).1 h64]; rfl
        have hg := text_any s a ha hs (w.alloc (.cells #[.int .i64 0, .int .i64 0, .string ⟨#[]⟩, .int .i64 0, .int .i64 0] 66))
        rw [hl, hR] at hg
        obtain ⟨K, T, N, D, E, Z, hlit⟩ := refV_lit R
        rw [hlit] at hg ⊢
        clear hlit hR hl hls h8 h32 h64 hk hci hS hS1
        go_enter Tryz.func38, Tryz.ntmps38
        go_wp2_with (first | (go_at_call 69; refine (hLt _).mono ?_; rintro e w9 ⟨rfl, hw9⟩; subst w9) | (go_at_call 71; refine (hDg _).mono ?_; rintro e w9 ⟨rfl, hw9⟩; subst w9) | (go_at_call 75; refine hg.mono ?_; rintro e w5 ⟨rfl, hb5⟩; have hVa := hb5; have hbx := hbox.later hVa; have hbx' := hbx; obtain ⟨⟨v0, c0⟩, ⟨v1, c1⟩, ⟨v2, c2⟩, ⟨v3, c3⟩, ⟨v4, c4⟩, hf⟩ := hbx'; have f0 := hf 0; have f1 := hf 1; have f2 := hf 2; have f3 := hf 3; have f4 := hf 4; clear hf))
        obtain ⟨q0, q1, q2, q3, q4⟩ := set5_cells hbx (.int .i64 K) (.int .i64 0) (.string T) (.int .i64 N) (.int .i64 D)
        unfold set5 at q0 q1 q2 q3 q4
        exact bodyPost_ret (v := .tuple #[.agg #[.int .i64 K, .int .i64 0, .string T, .int .i64 N, .int .i64 D], .int .i64 E, .int .i64 Z]) (by simp [results, Tryz.results38, go_sem, q0, q1, q2, q3, q4]) rfl ⟨rfl, set5_below (below_step hb1 hVa) (Nat.le_refl _) _ _ _ _ _⟩
      · rw [if_neg h64] at hR
        have h34 : ((k : Int) == 34) = false := by
          have : k ≠ 34 := fun h => h64 ((cls_quote k).2 h)
          simp
          omega
        have hR' : Hid ((match refSigns.find? (fun s => s.isPrefixOf (l.drop a)) with | some s => .ok ((7, s, 0, 0), a + s.length) | none => .error (a, 41)) = R) := by
          unfold Hid
          rw [signs_same]
          exact hR
        have his := fun (W : World) (g : List UInt8) (hg : 0 < g.length ∧ g.length ≤ 2) (o : Bool) (ho : g.isPrefixOf (l.drop a) = o) => is_any s a (by omega) (by omega) ⟨g.toArray⟩ (by show 0 < g.toArray.size ∧ g.toArray.size ≤ 100; simp only [List.size_toArray]; omega) o (by rw [hl]; exact ho.symm) W
        clear hR h8 h32 h64 hk hci hl hls hal hbox
        go_enter Tryz.func38, Tryz.ntmps38
        go_wp2_with (first | (go_at_call 69; refine (hLt _).mono ?_; rintro e w9 ⟨rfl, hw9⟩; subst w9) | (go_at_call 71; refine (hDg _).mono ?_; rintro e w9 ⟨rfl, hw9⟩; subst w9))
        go_loopw [8] (fun i W => ∃ j : Nat, j ≤ 15 ∧ i = .int .i64 j ∧ (∀ i, i < j → (refSigns.getD i []).isPrefixOf (l.drop a) = false) ∧ W = w.alloc (.cells #[.int .i64 0, .int .i64 0, .string ⟨#[]⟩, .int .i64 0, .int .i64 0] 66)) (fun i _ => 15 - (intOf i).toNat)
        case atStart => exact ⟨0, by omega, rfl, fun i hi => by omega, rfl⟩
        case round =>
          obtain ⟨j, hj, rfl, hno, rfl⟩ := hrel
          by_cases hlt : j < 15
          · have hlt' : (j : Int) < 15 := by omega
            have h0' : (0 : Int) ≤ (j : Int) := by omega
            have hc := hS1.2 j hlt
            have hst := rsig_step hno
            rw [rsig_get hlt, List.find?_cons] at hst
            obtain ⟨g, hg⟩ : ∃ g, refSigns.getD j [] = g := ⟨_, rfl⟩
            have hgj : refSigns[j]'hlt = g := by
              rw [← hg]
              simp [List.getD, show j < refSigns.length from hlt]
              rfl
            have hc2 := (hS.later ((Below.refl w.heap.size w).alloc (Nat.le_refl _) (.cells #[.int .i64 7, .int .i64 0, .string ⟨g.toArray⟩, .int .i64 0, .int .i64 0] 66))).2 j hlt
            rw [hgj] at hc hc2
            have hgl : 0 < g.length ∧ g.length ≤ 2 := by
              rw [← hg]
              have : ∀ k : Fin 15, 0 < (refSigns.getD k.val []).length ∧ (refSigns.getD k.val []).length ≤ 2 := by decide
              exact this ⟨j, hlt⟩
            rw [hg] at hst
            have hgs : (⟨g.toArray⟩ : ByteArray).size = g.length := by show g.toArray.size = _; simp
            cases hpre : g.isPrefixOf (l.drop a) with
            | true =>
              have hp := fun W => his W g hgl true hpre
              rw [hpre] at hst
              have hRv : Hid (R = .ok ((7, g, 0, 0), a + g.length)) := by
                unfold Hid
                rw [← hR'.out, hst]
              clear hst hno hR' hpre hg hgj his hS1 hS
              go_wp2_with (first | (go_at_call 76; refine (hp _).mono ?_; rintro e w9 ⟨rfl, hw9⟩; subst w9))
              go_region
              all_goals
                go_wp2
                refine bodyPost_ret (v := .tuple #[.agg #[.int .i64 7, .int .i64 0, .string ⟨g.toArray⟩, .int .i64 0, .int .i64 0], .int .i64 ((a : Int) + (g.length : Int)), .int .i64 0]) (by simp [results, Tryz.results38, go_sem]) rfl ⟨?_, ?_⟩
                · rw [hRv.out]
                  simp [refV, tokC]
                · first | exact (Below.refl _ _).alloc (Nat.le_refl _) _ | exact ((Below.refl _ _).alloc (Nat.le_refl _) _).drew
            | false =>
              have hp := fun W => his W g hgl false hpre
              have hno2 : Hid (∀ i, i < j + 1 → (refSigns.getD i []).isPrefixOf (l.drop a) = false) := fun i hi => by
                by_cases h : i = j
                · rw [h, hg]; exact hpre
                · exact hno i (by omega)
              clear hst hno hpre hg hgj his hS1 hS hc2
              go_wp2_with (first | (go_at_call 76; refine (hp _).mono ?_; rintro e w9 ⟨rfl, hw9⟩; subst w9))
              go_roundw
              case rel => exact ⟨j + 1, by omega, by go_num, hno2.out, trivial⟩
              case measure => simp [intOf]; omega
          · obtain rfl : j = 15 := by omega
            have hRv : Hid (R = .error (a, 41)) := by
              unfold Hid
              rw [← hR'.out, rsig_step hno]
              rfl
            clear hno hR' his hS1 hS
            go_wp2_with fail
            refine bodyPost_ret (v := .tuple #[.agg #[.int .i64 0, .int .i64 0, .string ⟨#[]⟩, .int .i64 0, .int .i64 0], .int .i64 (a : Int), .int .i64 41]) (by simp [results, Tryz.results38, go_sem]) rfl ⟨?_, (Below.refl _ _).alloc (Nat.le_refl _) _⟩
            rw [hRv.out]
            rfl

end Go.Proofs.YtekapipfaahhcaaGreatDoor.Q

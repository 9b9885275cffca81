import Derived.Test.YtekapipfaahhcaaGreatDoorWR6
import Derived.Test.YtekapipfaahhcaaGreatDoorWSig
namespace Go.Proofs.YtekapipfaahhcaaGreatDoor.Q
open Go.RowKit

/-- What ends a number: nothing that stands in names but digits. -/
theorem end_cases (s : ByteArray) (l : List UInt8) (hl : s.data.toList = l) (e : Nat) : (¬ (e : Int) < (s.size : Int) ∧ clsAt l e &&& 24 = 0) ∨ ((e : Int) < (s.size : Int) ∧ ∃ k : Nat, (∀ W, (Instr.index 9 (.string s) (.int .i64 (e : Int))).run Tryz.prog W = .ok (.int .u8 (k : Int)) W) ∧
    ((clsAt l e &&& 24 ≠ 0 ∧ (∀ W, Calls Tryz.prog 69 #[.int .u8 (k : Int)] W fun e w' => e = .returned (.bool true) ∧ w' = W)) ∨ ((∀ W, Calls Tryz.prog 69 #[.int .u8 (k : Int)] W fun e w' => e = .returned (.bool false) ∧ w' = W) ∧ ((clsAt l e &&& 24 ≠ 0 ∧ ((k : Int) == 95) = true) ∨ (clsAt l e &&& 24 = 0 ∧ ((k : Int) == 95) = false))))) := by
  have hls : l.length = s.size := by rw [← hl]; exact size_list s
  by_cases h : e < l.length
  · refine .inr ⟨by omega, (l[e]).toNat, fun W => ?_, ?_⟩
    · have := idx_at s e (by rw [hl]; exact h) W
      simpa only [hl] using this
    · rw [clsAt_in h]
      obtain ⟨k, hk⟩ : ∃ k, l[e].toNat = k := ⟨_, rfl⟩
      rw [hk]
      by_cases h8 : cls k = 8
      · exact .inl ⟨by rw [h8]; decide, fun W => isLetter_at k true (by simp [h8]) W⟩
      · refine .inr ⟨fun W => isLetter_at k false (by simp [h8]) W, ?_⟩
        by_cases h16 : cls k = 16
        · exact .inl ⟨by rw [h16]; decide, by rw [(cls_under k).1 h16]; rfl⟩
        · refine .inr ⟨?_, ?_⟩
          · apply Classical.byContradiction
            intro hn
            rcases (cls_24 k).1 hn with h | h
            · exact h8 h
            · exact h16 h
          · have : k ≠ 95 := fun h => h16 ((cls_under k).2 h)
            simp
            omega
  · exact .inl ⟨by omega, by rw [clsAt_out (by omega)]; decide⟩

set_option maxRecDepth 8000 in
set_option maxHeartbeats 16000000 in
theorem rnumber_any2 (s : ByteArray) (a : Nat) (ha : a ≤ s.size) (hs : s.size ≤ 8000) (hpos : 0 < rn 32 (s.data.toList.drop a)) (w : World) :
    Calls Tryz.prog 74 #[.string s, .int .i64 (a : Int)] w fun e w' => e = .returned (refV (numberS s.data.toList a)) ∧ Below w.heap.size w w' := by
  have hb1 := (Below.refl w.heap.size w).alloc (Nat.le_refl _) (.cells #[.int .i64 0, .int .i64 0, .string ⟨#[]⟩, .int .i64 0, .int .i64 0] 66)
  have hbox := Box5.new w 66
  obtain ⟨l, hl⟩ : ∃ l, s.data.toList = l := ⟨_, rfl⟩
  have hls : l.length = s.size := by rw [← hl]; exact size_list s
  have hrun1 := fun W => run1_any s a ha (by omega) W
  rw [hl] at hrun1 hpos ⊢
  have hle1 := rn_le 32 (l.drop a)
  rw [List.length_drop, hls] at hle1
  obtain ⟨n1, hn1⟩ : ∃ n1, rn 32 (l.drop a) = n1 := ⟨_, rfl⟩
  rw [hn1] at hrun1 hpos hle1
  obtain ⟨e1, he1⟩ : ∃ e1, a + n1 = e1 := ⟨_, rfl⟩
  have hE1 : nE1 l a = e1 := by unfold nE1; rw [hn1]; exact he1
  have h1s : e1 ≤ s.size := by omega
  obtain ⟨wh, hwh⟩ : ∃ wh, s.extract a e1 = wh := ⟨_, rfl⟩
  have hwl : wh.data.toList = slc l a e1 := by rw [← hwh, slice_list, hl]
  have hws : wh.size = e1 - a := by rw [← size_list, hwl]; unfold slc; rw [List.length_drop, List.length_take]; omega
  have hwd : digs wh.data.toList := by rw [hwl, ← he1, ← hn1, slc_rn]; exact rn_digs _
  have hcast1 : (a : Int) + (n1 : Int) = (e1 : Int) := by omega
  have hx1 : ∀ W, (Instr.slice 9 (.string s) (some (.int .i64 (a : Int))) (some (.int .i64 (e1 : Int))) none).run Tryz.prog W = .ok (.string wh) W := fun W => by
    rw [run_slice_string W 9 s .i64 .i64 (a : Int) (e1 : Int) Tryz.underlying9 (by omega) (by omega) (by omega), ← hwh]
    rfl
  obtain ⟨e2, he2⟩ : ∃ e2, nE2 l a = e2 := ⟨_, rfl⟩
  obtain ⟨R, hR⟩ : ∃ R, numberS l a = R := ⟨_, rfl⟩
  rw [hR]
  obtain ⟨P, pt, hPl, hptI, h2s, hst⟩ : ∃ (P : ByteArray) (pt : Bool), P.data.toList = nPart l a ∧ (pt = true ↔ P.data.toList ≠ []) ∧ e2 ≤ s.size ∧
      ((pt = true ∧ (l[e1]? == some 46) = true ∧ ∃ m : Nat, (0 : Int) < (m : Int) ∧ (e1 : Int) + 1 + (m : Int) = (e2 : Int) ∧ (∀ W, Calls Tryz.prog 70 #[.string s, .int .i64 ((e1 : Int) + 1), .int .i64 1] W fun e w' => e = .returned (.int .i64 (m : Int)) ∧ w' = W) ∧ (∀ W, (Instr.slice 9 (.string s) (some (.int .i64 ((e1 : Int) + 1))) (some (.int .i64 (e2 : Int))) none).run Tryz.prog W = .ok (.string P) W))
      ∨ (pt = false ∧ (l[e1]? == some 46) = true ∧ (∀ W, Calls Tryz.prog 70 #[.string s, .int .i64 ((e1 : Int) + 1), .int .i64 1] W fun e w' => e = .returned (.int .i64 0) ∧ w' = W) ∧ e2 = e1 ∧ P = ⟨#[]⟩)
      ∨ (pt = false ∧ (l[e1]? == some 46) = false ∧ e2 = e1 ∧ P = ⟨#[]⟩)) := by
    unfold nE2 at he2
    unfold nPart nE2
    unfold nPt at he2 ⊢
    rw [hE1] at he2 ⊢
    cases hb : (l[e1]? == some 46) with
    | false =>
      simp only [hb, Bool.false_and, if_neg (show ¬ (false = true) from by simp)] at he2 ⊢
      exact ⟨⟨#[]⟩, false, rfl, by simp, by omega, .inr (.inr ⟨rfl, by simp, he2.symm, rfl⟩)⟩
    | true =>
      have h46 : l[e1]? = some 46 := by simpa using hb
      have he1l : e1 < l.length := (List.getElem?_eq_some_iff.1 h46).1
      have hrun := fun W => run1_any s (e1 + 1) (by omega) (by omega) W
      rw [hl, show ((e1 + 1 : Nat) : Int) = (e1 : Int) + 1 from by omega] at hrun
      by_cases hcl : clsAt l (e1 + 1) = 32
      · simp only [hb, hcl, Bool.true_and, beq_self_eq_true, if_pos] at he2 ⊢
        have hin : e1 + 1 < l.length := by
          apply Classical.byContradiction
          intro hn
          rw [clsAt_out (by omega)] at hcl
          cases hcl
        have hmp := rn_pos (of := 32) hin (by rw [← clsAt_in hin, hcl]; decide)
        have hle2 := rn_le 32 (l.drop (e1 + 1))
        rw [List.length_drop, hls] at hle2
        rw [he2]
        refine ⟨s.extract (e1 + 1) e2, true, by rw [slice_list, hl], ?_, by omega, .inl ⟨rfl, trivial, rn 32 (l.drop (e1 + 1)), by omega, by omega, hrun, fun W => ?_⟩⟩
        · refine ⟨fun _ => ?_, fun _ => rfl⟩
          intro hne
          have := congrArg List.length hne
          rw [slice_list] at this
          unfold slc at this
          rw [List.length_drop, List.length_take, hl] at this
          simp at this
          omega
        · rw [run_slice_string W 9 s .i64 .i64 ((e1 : Int) + 1) (e2 : Int) Tryz.underlying9 (by omega) (by omega) (by omega), show ((e1 : Int) + 1).toNat = e1 + 1 from by omega]
          rfl
      · have hcl' : (clsAt l (e1 + 1) == 32) = false := by simpa using hcl
        simp only [hb, hcl', Bool.and_false, if_neg (show ¬ (false = true) from by simp)] at he2 ⊢
        have hr0 : rn 32 (l.drop (e1 + 1)) = 0 := by
          by_cases hin : e1 + 1 < l.length
          · rw [drop_cons hin, rn_cons, if_neg]
            rw [← clsAt_in hin]
            intro h
            rw [clsAt_in hin] at h hcl
            exact hcl ((cls_32 _).1 h)
          · rw [List.drop_of_length_le (by omega)]
            rfl
        rw [hr0] at hrun
        exact ⟨⟨#[]⟩, false, rfl, by simp, by omega, .inr (.inl ⟨rfl, trivial, hrun, he2.symm, rfl⟩)⟩
  have hPs : P.size ≤ 8000 := by
    rw [← size_list, hPl]
    unfold nPart
    split
    · unfold slc
      rw [List.length_drop, List.length_take]
      omega
    · simp
  have hPd : digs P.data.toList := by
    rw [hPl]
    unfold nPart
    split
    · rename_i h
      unfold nE2
      rw [if_pos h, slc_rn]
      exact rn_digs _
    · intro c hc
      simp at hc
  obtain ⟨pc, hpc⟩ : ∃ pc, (l[e2]? == some 37) = pc := ⟨_, rfl⟩
  have hpc' : nPc l a = pc := by unfold nPc; rw [he2]; exact hpc
  have he3 : nE3 l a = if pc = true then e2 + 1 else e2 := by unfold nE3; rw [hpc', he2]
  obtain ⟨o, ho⟩ : ∃ o, numTok (slc l a e1) (nPart l a) pc = o := ⟨_, rfl⟩
  have hnt := fun W => numbered_any wh P (by omega) (by omega) hPs hwd hPd pt pc hptI W
  rw [hwl, hPl, ho] at hnt
  have hR0 : numEnd l a (nE3 l a) o = R := by
    rw [← hR, numberS_eq, hE1, hpc', ho]
  have hp46 := fun W => is_any s e1 (by omega) (by omega) ⟨#[46]⟩ ⟨by decide, by decide⟩ (l[e1]? == some 46) (by rw [hl]; exact (prefix_one 46 l e1).symm) W
  have hp37 := fun W => is_any s e2 (by omega) (by omega) ⟨#[37]⟩ ⟨by decide, by decide⟩ pc (by rw [hl, ← hpc]; exact (prefix_one 37 l e2).symm) W
  have h2b : pc = true → e2 + 1 ≤ s.size := fun h => by
    rw [h] at hpc
    have : l[e2]? = some 37 := by simpa using hpc
    have := (List.getElem?_eq_some_iff.1 this).1
    omega
  clear hR ho hwl hPl hPd hwd hwh hpc hpc' hE1 hle1 he2 hptI
  cases pc with
  | true =>
    rw [he3, if_pos rfl] at hR0
    have hR' : Hid (numEnd l a (e2 + 1) o = R) := hR0
    have h3s := h2b rfl
    have hec := end_cases s l hl (e2 + 1)
    rw [show ((e2 + 1 : Nat) : Int) = (e2 : Int) + 1 from by omega] at hec
    clear hR0 he3 h2b hl hn1 he1
    have hbadR : clsAt l (e2 + 1) &&& 24 ≠ 0 → Hid (refV (.error (a, 42)) = refV R) := fun h => by
      unfold Hid
      rw [← hR'.out]
      cases o with
      | none => rfl
      | some t => show _ = refV (if clsAt l (e2 + 1) &&& 24 ≠ 0 then .error (a, 42) else .ok (t, (e2 + 1))); rw [if_pos h]
    rcases hec with ⟨hx, hok⟩ | ⟨hx, k, hidx, ⟨hbad, hLt⟩ | ⟨hLt, ⟨hbad, h95⟩ | ⟨hok, h95⟩⟩⟩
    · skip
      clear hbadR
      cases o with
      | none =>
        have hRv : Hid (refV (.error (a, 42)) = refV R) := by unfold Hid; rw [← hR'.out]; rfl
        clear hR' hok
        rcases hst with ⟨rfl, hb, m, hm0, hme, hr2, hx3⟩ | ⟨rfl, hb, hr2, rfl, rfl⟩ | ⟨rfl, hb, rfl, rfl⟩
        all_goals
          rw [hb] at hp46
          clear hb
          have tokR : True := trivial
          have tokH : True := trivial
          go_enter Tryz.func74, Tryz.ntmps74
          go_wp2_with (first | (go_at_call 70; have _u := tokR; clear tokR; refine (hrun1 _).mono ?_; rintro e w9 ⟨rfl, hw9⟩; subst w9) | (go_at_call 70; refine (hr2 _).mono ?_; rintro e w9 ⟨rfl, hw9⟩; subst w9) | (go_at_call 76; have _u := tokH; clear tokH; refine (hp46 _).mono ?_; rintro e w9 ⟨rfl, hw9⟩; subst w9) | (go_at_call 76; refine (hp37 _).mono ?_; rintro e w9 ⟨rfl, hw9⟩; subst w9) | (go_at_call 69; refine (hLt _).mono ?_; rintro e w9 ⟨rfl, hw9⟩; subst w9) | (go_at_call 133; refine (hnt _).mono ?_; rintro e w3 ⟨K, N, D, bb, rfl, hn1, -, hb4⟩; obtain rfl := hn1 rfl; have hVa := hb4.alloc hb4.size (.cells #[.int .i64 K, .int .i64 0, .string ⟨#[]⟩, .int .i64 N, .int .i64 D] 66); have hbx := hbox.later hVa; have hbx' := hbx; obtain ⟨⟨v0, c0⟩, ⟨v1, c1⟩, ⟨v2, c2⟩, ⟨v3, c3⟩, ⟨v4, c4⟩, hf⟩ := hbx'; have f0 := hf 0; have f1 := hf 1; have f2 := hf 2; have f3 := hf 3; have f4 := hf 4; clear hf))
          obtain ⟨q0, q1, q2, q3, q4⟩ := set5_cells hbx (.int .i64 0) (.int .i64 0) (.string ⟨#[]⟩) (.int .i64 0) (.int .i64 0)
          unfold set5 at q0 q1 q2 q3 q4
          refine bodyPost_ret (v := .tuple #[.agg #[.int .i64 0, .int .i64 0, .string ⟨#[]⟩, .int .i64 0, .int .i64 0], .int .i64 (a : Int), .int .i64 42]) (by simp [results, Tryz.results74, go_sem, q0, q1, q2, q3, q4]) rfl ⟨?_, set5_below (below_step hb1 hVa) (Nat.le_refl _) _ _ _ _ _⟩
          rw [← hRv.out]
          rfl
      | some tw =>
        have hRv : Hid (refV (.ok (tw, (e2 + 1))) = refV R) := by unfold Hid; rw [← hR'.out]; show _ = refV (if clsAt l (e2 + 1) &&& 24 ≠ 0 then .error (a, 42) else .ok (tw, (e2 + 1))); rw [if_neg (by rw [hok]; simp)]
        clear hR' hok
        rcases hst with ⟨rfl, hb, m, hm0, hme, hr2, hx3⟩ | ⟨rfl, hb, hr2, rfl, rfl⟩ | ⟨rfl, hb, rfl, rfl⟩
        all_goals
          rw [hb] at hp46
          clear hb
          have tokR : True := trivial
          have tokH : True := trivial
          go_enter Tryz.func74, Tryz.ntmps74
          go_wp2_with (first | (go_at_call 70; have _u := tokR; clear tokR; refine (hrun1 _).mono ?_; rintro e w9 ⟨rfl, hw9⟩; subst w9) | (go_at_call 70; refine (hr2 _).mono ?_; rintro e w9 ⟨rfl, hw9⟩; subst w9) | (go_at_call 76; have _u := tokH; clear tokH; refine (hp46 _).mono ?_; rintro e w9 ⟨rfl, hw9⟩; subst w9) | (go_at_call 76; refine (hp37 _).mono ?_; rintro e w9 ⟨rfl, hw9⟩; subst w9) | (go_at_call 69; refine (hLt _).mono ?_; rintro e w9 ⟨rfl, hw9⟩; subst w9) | (go_at_call 133; refine (hnt _).mono ?_; rintro e w3 ⟨K, N, D, bb, rfl, -, hn2, hb4⟩; obtain ⟨rfl, htx, rfl, rfl, rfl⟩ := hn2 _ rfl; have htx' : Hid _ := htx; clear htx hn2; have hVa := hb4.alloc hb4.size (.cells #[.int .i64 (tw.1 : Int), .int .i64 0, .string ⟨#[]⟩, .int .i64 (tw.2.2.1 : Int), .int .i64 (tw.2.2.2 : Int)] 66); have hbx := hbox.later hVa; have hbx' := hbx; obtain ⟨⟨v0, c0⟩, ⟨v1, c1⟩, ⟨v2, c2⟩, ⟨v3, c3⟩, ⟨v4, c4⟩, hf⟩ := hbx'; have f0 := hf 0; have f1 := hf 1; have f2 := hf 2; have f3 := hf 3; have f4 := hf 4; clear hf))
          obtain ⟨q0, q1, q2, q3, q4⟩ := set5_cells hbx (.int .i64 (tw.1 : Int)) (.int .i64 0) (.string ⟨#[]⟩) (.int .i64 (tw.2.2.1 : Int)) (.int .i64 (tw.2.2.2 : Int))
          unfold set5 at q0 q1 q2 q3 q4
          refine bodyPost_ret (v := .tuple #[.agg #[.int .i64 (tw.1 : Int), .int .i64 0, .string ⟨#[]⟩, .int .i64 (tw.2.2.1 : Int), .int .i64 (tw.2.2.2 : Int)], .int .i64 ((e2 : Int) + 1), .int .i64 0]) (by simp [results, Tryz.results74, go_sem, q0, q1, q2, q3, q4]) rfl ⟨?_, set5_below (below_step hb1 hVa) (Nat.le_refl _) _ _ _ _ _⟩
          rw [← hRv.out]
          simp [refV, tokC, htx'.out]
    · skip
      have hRv := hbadR hbad
      clear hR' hbad hbadR
      rcases hst with ⟨rfl, hb, m, hm0, hme, hr2, hx3⟩ | ⟨rfl, hb, hr2, rfl, rfl⟩ | ⟨rfl, hb, rfl, rfl⟩
      all_goals
        rw [hb] at hp46
        clear hb
        have tokR : True := trivial
        have tokH : True := trivial
        go_enter Tryz.func74, Tryz.ntmps74
        go_wp2_with (first | (go_at_call 70; have _u := tokR; clear tokR; refine (hrun1 _).mono ?_; rintro e w9 ⟨rfl, hw9⟩; subst w9) | (go_at_call 70; refine (hr2 _).mono ?_; rintro e w9 ⟨rfl, hw9⟩; subst w9) | (go_at_call 76; have _u := tokH; clear tokH; refine (hp46 _).mono ?_; rintro e w9 ⟨rfl, hw9⟩; subst w9) | (go_at_call 76; refine (hp37 _).mono ?_; rintro e w9 ⟨rfl, hw9⟩; subst w9) | (go_at_call 69; refine (hLt _).mono ?_; rintro e w9 ⟨rfl, hw9⟩; subst w9))
        refine bodyPost_ret (v := .tuple #[.agg #[.int .i64 0, .int .i64 0, .string ⟨#[]⟩, .int .i64 0, .int .i64 0], .int .i64 (a : Int), .int .i64 42]) (by simp [results, Tryz.results74, go_sem]) rfl ⟨?_, (Below.refl _ _).alloc (Nat.le_refl _) _⟩
        rw [← hRv.out]
        rfl
    · skip
      have hRv := hbadR hbad
      clear hR' hbad hbadR
      rcases hst with ⟨rfl, hb, m, hm0, hme, hr2, hx3⟩ | ⟨rfl, hb, hr2, rfl, rfl⟩ | ⟨rfl, hb, rfl, rfl⟩
      all_goals
        rw [hb] at hp46
        clear hb
        have tokR : True := trivial
        have tokH : True := trivial
        go_enter Tryz.func74, Tryz.ntmps74
        go_wp2_with (first | (go_at_call 70; have _u := tokR; clear tokR; refine (hrun1 _).mono ?_; rintro e w9 ⟨rfl, hw9⟩; subst w9) | (go_at_call 70; refine (hr2 _).mono ?_; rintro e w9 ⟨rfl, hw9⟩; subst w9) | (go_at_call 76; have _u := tokH; clear tokH; refine (hp46 _).mono ?_; rintro e w9 ⟨rfl, hw9⟩; subst w9) | (go_at_call 76; refine (hp37 _).mono ?_; rintro e w9 ⟨rfl, hw9⟩; subst w9) | (go_at_call 69; refine (hLt _).mono ?_; rintro e w9 ⟨rfl, hw9⟩; subst w9))
        refine bodyPost_ret (v := .tuple #[.agg #[.int .i64 0, .int .i64 0, .string ⟨#[]⟩, .int .i64 0, .int .i64 0], .int .i64 (a : Int), .int .i64 42]) (by simp [results, Tryz.results74, go_sem]) rfl ⟨?_, (Below.refl _ _).alloc (Nat.le_refl _) _⟩
        rw [← hRv.out]
        rfl
    · skip
      clear hbadR
      cases o with
      | none =>
        have hRv : Hid (refV (.error (a, 42)) = refV R) := by unfold Hid; rw [← hR'.out]; rfl
        clear hR' hok
        rcases hst with ⟨rfl, hb, m, hm0, hme, hr2, hx3⟩ | ⟨rfl, hb, hr2, rfl, rfl⟩ | ⟨rfl, hb, rfl, rfl⟩
        all_goals
          rw [hb] at hp46
          clear hb
          have tokR : True := trivial
          have tokH : True := trivial
          go_enter Tryz.func74, Tryz.ntmps74
          go_wp2_with (first | (go_at_call 70; have _u := tokR; clear tokR; refine (hrun1 _).mono ?_; rintro e w9 ⟨rfl, hw9⟩; subst w9) | (go_at_call 70; refine (hr2 _).mono ?_; rintro e w9 ⟨rfl, hw9⟩; subst w9) | (go_at_call 76; have _u := tokH; clear tokH; refine (hp46 _).mono ?_; rintro e w9 ⟨rfl, hw9⟩; subst w9) | (go_at_call 76; refine (hp37 _).mono ?_; rintro e w9 ⟨rfl, hw9⟩; subst w9) | (go_at_call 69; refine (hLt _).mono ?_; rintro e w9 ⟨rfl, hw9⟩; subst w9) | (go_at_call 133; refine (hnt _).mono ?_; rintro e w3 ⟨K, N, D, bb, rfl, hn1, -, hb4⟩; obtain rfl := hn1 rfl; have hVa := hb4.alloc hb4.size (.cells #[.int .i64 K, .int .i64 0, .string ⟨#[]⟩, .int .i64 N, .int .i64 D] 66); have hbx := hbox.later hVa; have hbx' := hbx; obtain ⟨⟨v0, c0⟩, ⟨v1, c1⟩, ⟨v2, c2⟩, ⟨v3, c3⟩, ⟨v4, c4⟩, hf⟩ := hbx'; have f0 := hf 0; have f1 := hf 1; have f2 := hf 2; have f3 := hf 3; have f4 := hf 4; clear hf))
          obtain ⟨q0, q1, q2, q3, q4⟩ := set5_cells hbx (.int .i64 0) (.int .i64 0) (.string ⟨#[]⟩) (.int .i64 0) (.int .i64 0)
          unfold set5 at q0 q1 q2 q3 q4
          refine bodyPost_ret (v := .tuple #[.agg #[.int .i64 0, .int .i64 0, .string ⟨#[]⟩, .int .i64 0, .int .i64 0], .int .i64 (a : Int), .int .i64 42]) (by simp [results, Tryz.results74, go_sem, q0, q1, q2, q3, q4]) rfl ⟨?_, set5_below (below_step hb1 hVa) (Nat.le_refl _) _ _ _ _ _⟩
          rw [← hRv.out]
          rfl
      | some tw =>
        have hRv : Hid (refV (.ok (tw, (e2 + 1))) = refV R) := by unfold Hid; rw [← hR'.out]; show _ = refV (if clsAt l (e2 + 1) &&& 24 ≠ 0 then .error (a, 42) else .ok (tw, (e2 + 1))); rw [if_neg (by rw [hok]; simp)]
        clear hR' hok
        rcases hst with ⟨rfl, hb, m, hm0, hme, hr2, hx3⟩ | ⟨rfl, hb, hr2, rfl, rfl⟩ | ⟨rfl, hb, rfl, rfl⟩
        all_goals
          rw [hb] at hp46
          clear hb
          have tokR : True := trivial
          have tokH : True := trivial
          go_enter Tryz.func74, Tryz.ntmps74
          go_wp2_with (first | (go_at_call 70; have _u := tokR; clear tokR; refine (hrun1 _).mono ?_; rintro e w9 ⟨rfl, hw9⟩; subst w9) | (go_at_call 70; refine (hr2 _).mono ?_; rintro e w9 ⟨rfl, hw9⟩; subst w9) | (go_at_call 76; have _u := tokH; clear tokH; refine (hp46 _).mono ?_; rintro e w9 ⟨rfl, hw9⟩; subst w9) | (go_at_call 76; refine (hp37 _).mono ?_; rintro e w9 ⟨rfl, hw9⟩; subst w9) | (go_at_call 69; refine (hLt _).mono ?_; rintro e w9 ⟨rfl, hw9⟩; subst w9) | (go_at_call 133; refine (hnt _).mono ?_; rintro e w3 ⟨K, N, D, bb, rfl, -, hn2, hb4⟩; obtain ⟨rfl, htx, rfl, rfl, rfl⟩ := hn2 _ rfl; have htx' : Hid _ := htx; clear htx hn2; have hVa := hb4.alloc hb4.size (.cells #[.int .i64 (tw.1 : Int), .int .i64 0, .string ⟨#[]⟩, .int .i64 (tw.2.2.1 : Int), .int .i64 (tw.2.2.2 : Int)] 66); have hbx := hbox.later hVa; have hbx' := hbx; obtain ⟨⟨v0, c0⟩, ⟨v1, c1⟩, ⟨v2, c2⟩, ⟨v3, c3⟩, ⟨v4, c4⟩, hf⟩ := hbx'; have f0 := hf 0; have f1 := hf 1; have f2 := hf 2; have f3 := hf 3; have f4 := hf 4; clear hf))
          obtain ⟨q0, q1, q2, q3, q4⟩ := set5_cells hbx (.int .i64 (tw.1 : Int)) (.int .i64 0) (.string ⟨#[]⟩) (.int .i64 (tw.2.2.1 : Int)) (.int .i64 (tw.2.2.2 : Int))
          unfold set5 at q0 q1 q2 q3 q4
          refine bodyPost_ret (v := .tuple #[.agg #[.int .i64 (tw.1 : Int), .int .i64 0, .string ⟨#[]⟩, .int .i64 (tw.2.2.1 : Int), .int .i64 (tw.2.2.2 : Int)], .int .i64 ((e2 : Int) + 1), .int .i64 0]) (by simp [results, Tryz.results74, go_sem, q0, q1, q2, q3, q4]) rfl ⟨?_, set5_below (below_step hb1 hVa) (Nat.le_refl _) _ _ _ _ _⟩
          rw [← hRv.out]
          simp [refV, tokC, htx'.out]
  | false =>
    rw [he3, if_neg (by simp)] at hR0
    have hR' : Hid (numEnd l a e2 o = R) := hR0
    have hec := end_cases s l hl e2
    clear hR0 he3 h2b hl hn1 he1
    have hbadR : clsAt l e2 &&& 24 ≠ 0 → Hid (refV (.error (a, 42)) = refV R) := fun h => by
      unfold Hid
      rw [← hR'.out]
      cases o with
      | none => rfl
      | some t => show _ = refV (if clsAt l e2 &&& 24 ≠ 0 then .error (a, 42) else .ok (t, e2)); rw [if_pos h]
    rcases hec with ⟨hx, hok⟩ | ⟨hx, k, hidx, ⟨hbad, hLt⟩ | ⟨hLt, ⟨hbad, h95⟩ | ⟨hok, h95⟩⟩⟩
    · skip
      clear hbadR
      cases o with
      | none =>
        have hRv : Hid (refV (.error (a, 42)) = refV R) := by unfold Hid; rw [← hR'.out]; rfl
        clear hR' hok
        rcases hst with ⟨rfl, hb, m, hm0, hme, hr2, hx3⟩ | ⟨rfl, hb, hr2, rfl, rfl⟩ | ⟨rfl, hb, rfl, rfl⟩
        all_goals
          rw [hb] at hp46
          clear hb
          have tokR : True := trivial
          have tokH : True := trivial
          go_enter Tryz.func74, Tryz.ntmps74
          go_wp2_with (first | (go_at_call 70; have _u := tokR; clear tokR; refine (hrun1 _).mono ?_; rintro e w9 ⟨rfl, hw9⟩; subst w9) | (go_at_call 70; refine (hr2 _).mono ?_; rintro e w9 ⟨rfl, hw9⟩; subst w9) | (go_at_call 76; have _u := tokH; clear tokH; refine (hp46 _).mono ?_; rintro e w9 ⟨rfl, hw9⟩; subst w9) | (go_at_call 76; refine (hp37 _).mono ?_; rintro e w9 ⟨rfl, hw9⟩; subst w9) | (go_at_call 69; refine (hLt _).mono ?_; rintro e w9 ⟨rfl, hw9⟩; subst w9) | (go_at_call 133; refine (hnt _).mono ?_; rintro e w3 ⟨K, N, D, bb, rfl, hn1, -, hb4⟩; obtain rfl := hn1 rfl; have hVa := hb4.alloc hb4.size (.cells #[.int .i64 K, .int .i64 0, .string ⟨#[]⟩, .int .i64 N, .int .i64 D] 66); have hbx := hbox.later hVa; have hbx' := hbx; obtain ⟨⟨v0, c0⟩, ⟨v1, c1⟩, ⟨v2, c2⟩, ⟨v3, c3⟩, ⟨v4, c4⟩, hf⟩ := hbx'; have f0 := hf 0; have f1 := hf 1; have f2 := hf 2; have f3 := hf 3; have f4 := hf 4; clear hf))
          obtain ⟨q0, q1, q2, q3, q4⟩ := set5_cells hbx (.int .i64 0) (.int .i64 0) (.string ⟨#[]⟩) (.int .i64 0) (.int .i64 0)
          unfold set5 at q0 q1 q2 q3 q4
          refine bodyPost_ret (v := .tuple #[.agg #[.int .i64 0, .int .i64 0, .string ⟨#[]⟩, .int .i64 0, .int .i64 0], .int .i64 (a : Int), .int .i64 42]) (by simp [results, Tryz.results74, go_sem, q0, q1, q2, q3, q4]) rfl ⟨?_, set5_below (below_step hb1 hVa) (Nat.le_refl _) _ _ _ _ _⟩
          rw [← hRv.out]
          rfl
      | some tw =>
        have hRv : Hid (refV (.ok (tw, e2)) = refV R) := by unfold Hid; rw [← hR'.out]; show _ = refV (if clsAt l e2 &&& 24 ≠ 0 then .error (a, 42) else .ok (tw, e2)); rw [if_neg (by rw [hok]; simp)]
        clear hR' hok
        rcases hst with ⟨rfl, hb, m, hm0, hme, hr2, hx3⟩ | ⟨rfl, hb, hr2, rfl, rfl⟩ | ⟨rfl, hb, rfl, rfl⟩
        all_goals
          rw [hb] at hp46
          clear hb
          have tokR : True := trivial
          have tokH : True := trivial
          go_enter Tryz.func74, Tryz.ntmps74
          go_wp2_with (first | (go_at_call 70; have _u := tokR; clear tokR; refine (hrun1 _).mono ?_; rintro e w9 ⟨rfl, hw9⟩; subst w9) | (go_at_call 70; refine (hr2 _).mono ?_; rintro e w9 ⟨rfl, hw9⟩; subst w9) | (go_at_call 76; have _u := tokH; clear tokH; refine (hp46 _).mono ?_; rintro e w9 ⟨rfl, hw9⟩; subst w9) | (go_at_call 76; refine (hp37 _).mono ?_; rintro e w9 ⟨rfl, hw9⟩; subst w9) | (go_at_call 69; refine (hLt _).mono ?_; rintro e w9 ⟨rfl, hw9⟩; subst w9) | (go_at_call 133; refine (hnt _).mono ?_; rintro e w3 ⟨K, N, D, bb, rfl, -, hn2, hb4⟩; obtain ⟨rfl, htx, rfl, rfl, rfl⟩ := hn2 _ rfl; have htx' : Hid _ := htx; clear htx hn2; have hVa := hb4.alloc hb4.size (.cells #[.int .i64 (tw.1 : Int), .int .i64 0, .string ⟨#[]⟩, .int .i64 (tw.2.2.1 : Int), .int .i64 (tw.2.2.2 : Int)] 66); have hbx := hbox.later hVa; have hbx' := hbx; obtain ⟨⟨v0, c0⟩, ⟨v1, c1⟩, ⟨v2, c2⟩, ⟨v3, c3⟩, ⟨v4, c4⟩, hf⟩ := hbx'; have f0 := hf 0; have f1 := hf 1; have f2 := hf 2; have f3 := hf 3; have f4 := hf 4; clear hf))
          obtain ⟨q0, q1, q2, q3, q4⟩ := set5_cells hbx (.int .i64 (tw.1 : Int)) (.int .i64 0) (.string ⟨#[]⟩) (.int .i64 (tw.2.2.1 : Int)) (.int .i64 (tw.2.2.2 : Int))
          unfold set5 at q0 q1 q2 q3 q4
          refine bodyPost_ret (v := .tuple #[.agg #[.int .i64 (tw.1 : Int), .int .i64 0, .string ⟨#[]⟩, .int .i64 (tw.2.2.1 : Int), .int .i64 (tw.2.2.2 : Int)], .int .i64 (e2 : Int), .int .i64 0]) (by simp [results, Tryz.results74, go_sem, q0, q1, q2, q3, q4]) rfl ⟨?_, set5_below (below_step hb1 hVa) (Nat.le_refl _) _ _ _ _ _⟩
          rw [← hRv.out]
          simp [refV, tokC, htx'.out]
    · skip
      have hRv := hbadR hbad
      clear hR' hbad hbadR
      rcases hst with ⟨rfl, hb, m, hm0, hme, hr2, hx3⟩ | ⟨rfl, hb, hr2, rfl, rfl⟩ | ⟨rfl, hb, rfl, rfl⟩
      all_goals
        rw [hb] at hp46
        clear hb
        have tokR : True := trivial
        have tokH : True := trivial
        go_enter Tryz.func74, Tryz.ntmps74
        go_wp2_with (first | (go_at_call 70; have _u := tokR; clear tokR; refine (hrun1 _).mono ?_; rintro e w9 ⟨rfl, hw9⟩; subst w9) | (go_at_call 70; refine (hr2 _).mono ?_; rintro e w9 ⟨rfl, hw9⟩; subst w9) | (go_at_call 76; have _u := tokH; clear tokH; refine (hp46 _).mono ?_; rintro e w9 ⟨rfl, hw9⟩; subst w9) | (go_at_call 76; refine (hp37 _).mono ?_; rintro e w9 ⟨rfl, hw9⟩; subst w9) | (go_at_call 69; refine (hLt _).mono ?_; rintro e w9 ⟨rfl, hw9⟩; subst w9))
        refine bodyPost_ret (v := .tuple #[.agg #[.int .i64 0, .int .i64 0, .string ⟨#[]⟩, .int .i64 0, .int .i64 0], .int .i64 (a : Int), .int .i64 42]) (by simp [results, Tryz.results74, go_sem]) rfl ⟨?_, (Below.refl _ _).alloc (Nat.le_refl _) _⟩
        rw [← hRv.out]
        rfl
    · skip
      have hRv := hbadR hbad
      clear hR' hbad hbadR
      rcases hst with ⟨rfl, hb, m, hm0, hme, hr2, hx3⟩ | ⟨rfl, hb, hr2, rfl, rfl⟩ | ⟨rfl, hb, rfl, rfl⟩
      all_goals
        rw [hb] at hp46
        clear hb
        have tokR : True := trivial
        have tokH : True := trivial
        go_enter Tryz.func74, Tryz.ntmps74
        go_wp2_with (first | (go_at_call 70; have _u := tokR; clear tokR; refine (hrun1 _).mono ?_; rintro e w9 ⟨rfl, hw9⟩; subst w9) | (go_at_call 70; refine (hr2 _).mono ?_; rintro e w9 ⟨rfl, hw9⟩; subst w9) | (go_at_call 76; have _u := tokH; clear tokH; refine (hp46 _).mono ?_; rintro e w9 ⟨rfl, hw9⟩; subst w9) | (go_at_call 76; refine (hp37 _).mono ?_; rintro e w9 ⟨rfl, hw9⟩; subst w9) | (go_at_call 69; refine (hLt _).mono ?_; rintro e w9 ⟨rfl, hw9⟩; subst w9))
        refine bodyPost_ret (v := .tuple #[.agg #[.int .i64 0, .int .i64 0, .string ⟨#[]⟩, .int .i64 0, .int .i64 0], .int .i64 (a : Int), .int .i64 42]) (by simp [results, Tryz.results74, go_sem]) rfl ⟨?_, (Below.refl _ _).alloc (Nat.le_refl _) _⟩
        rw [← hRv.out]
        rfl
    · skip
      clear hbadR
      cases o with
      | none =>
        have hRv : Hid (refV (.error (a, 42)) = refV R) := by unfold Hid; rw [← hR'.out]; rfl
        clear hR' hok
        rcases hst with ⟨rfl, hb, m, hm0, hme, hr2, hx3⟩ | ⟨rfl, hb, hr2, rfl, rfl⟩ | ⟨rfl, hb, rfl, rfl⟩
        all_goals
          rw [hb] at hp46
          clear hb
          have tokR : True := trivial
          have tokH : True := trivial
          go_enter Tryz.func74, Tryz.ntmps74
          go_wp2_with (first | (go_at_call 70; have _u := tokR; clear tokR; refine (hrun1 _).mono ?_; rintro e w9 ⟨rfl, hw9⟩; subst w9) | (go_at_call 70; refine (hr2 _).mono ?_; rintro e w9 ⟨rfl, hw9⟩; subst w9) | (go_at_call 76; have _u := tokH; clear tokH; refine (hp46 _).mono ?_; rintro e w9 ⟨rfl, hw9⟩; subst w9) | (go_at_call 76; refine (hp37 _).mono ?_; rintro e w9 ⟨rfl, hw9⟩; subst w9) | (go_at_call 69; refine (hLt _).mono ?_; rintro e w9 ⟨rfl, hw9⟩; subst w9) | (go_at_call 133; refine (hnt _).mono ?_; rintro e w3 ⟨K, N, D, bb, rfl, hn1, -, hb4⟩; obtain rfl := hn1 rfl; have hVa := hb4.alloc hb4.size (.cells #[.int .i64 K, .int .i64 0, .string ⟨#[]⟩, .int .i64 N, .int .i64 D] 66); have hbx := hbox.later hVa; have hbx' := hbx; obtain ⟨⟨v0, c0⟩, ⟨v1, c1⟩, ⟨v2, c2⟩, ⟨v3, c3⟩, ⟨v4, c4⟩, hf⟩ := hbx'; have f0 := hf 0; have f1 := hf 1; have f2 := hf 2; have f3 := hf 3; have f4 := hf 4; clear hf))
          obtain ⟨q0, q1, q2, q3, q4⟩ := set5_cells hbx (.int .i64 0) (.int .i64 0) (.string ⟨#[]⟩) (.int .i64 0) (.int .i64 0)
          unfold set5 at q0 q1 q2 q3 q4
          refine bodyPost_ret (v := .tuple #[.agg #[.int .i64 0, .int .i64 0, .string ⟨#[]⟩, .int .i64 0, .int .i64 0], .int .i64 (a : Int), .int .i64 42]) (by simp [results, Tryz.results74, go_sem, q0, q1, q2, q3, q4]) rfl ⟨?_, set5_below (below_step hb1 hVa) (Nat.le_refl _) _ _ _ _ _⟩
          rw [← hRv.out]
          rfl
      | some tw =>
        have hRv : Hid (refV (.ok (tw, e2)) = refV R) := by unfold Hid; rw [← hR'.out]; show _ = refV (if clsAt l e2 &&& 24 ≠ 0 then .error (a, 42) else .ok (tw, e2)); rw [if_neg (by rw [hok]; simp)]
        clear hR' hok
        rcases hst with ⟨rfl, hb, m, hm0, hme, hr2, hx3⟩ | ⟨rfl, hb, hr2, rfl, rfl⟩ | ⟨rfl, hb, rfl, rfl⟩
        all_goals
          rw [hb] at hp46
          clear hb
          have tokR : True := trivial
          have tokH : True := trivial
          go_enter Tryz.func74, Tryz.ntmps74
          go_wp2_with (first | (go_at_call 70; have _u := tokR; clear tokR; refine (hrun1 _).mono ?_; rintro e w9 ⟨rfl, hw9⟩; subst w9) | (go_at_call 70; refine (hr2 _).mono ?_; rintro e w9 ⟨rfl, hw9⟩; subst w9) | (go_at_call 76; have _u := tokH; clear tokH; refine (hp46 _).mono ?_; rintro e w9 ⟨rfl, hw9⟩; subst w9) | (go_at_call 76; refine (hp37 _).mono ?_; rintro e w9 ⟨rfl, hw9⟩; subst w9) | (go_at_call 69; refine (hLt _).mono ?_; rintro e w9 ⟨rfl, hw9⟩; subst w9) | (go_at_call 133; refine (hnt _).mono ?_; rintro e w3 ⟨K, N, D, bb, rfl, -, hn2, hb4⟩; obtain ⟨rfl, htx, rfl, rfl, rfl⟩ := hn2 _ rfl; have htx' : Hid _ := htx; clear htx hn2; have hVa := hb4.alloc hb4.size (.cells #[.int .i64 (tw.1 : Int), .int .i64 0, .string ⟨#[]⟩, .int .i64 (tw.2.2.1 : Int), .int .i64 (tw.2.2.2 : Int)] 66); have hbx := hbox.later hVa; have hbx' := hbx; obtain ⟨⟨v0, c0⟩, ⟨v1, c1⟩, ⟨v2, c2⟩, ⟨v3, c3⟩, ⟨v4, c4⟩, hf⟩ := hbx'; have f0 := hf 0; have f1 := hf 1; have f2 := hf 2; have f3 := hf 3; have f4 := hf 4; clear hf))
          obtain ⟨q0, q1, q2, q3, q4⟩ := set5_cells hbx (.int .i64 (tw.1 : Int)) (.int .i64 0) (.string ⟨#[]⟩) (.int .i64 (tw.2.2.1 : Int)) (.int .i64 (tw.2.2.2 : Int))
          unfold set5 at q0 q1 q2 q3 q4
          refine bodyPost_ret (v := .tuple #[.agg #[.int .i64 (tw.1 : Int), .int .i64 0, .string ⟨#[]⟩, .int .i64 (tw.2.2.1 : Int), .int .i64 (tw.2.2.2 : Int)], .int .i64 (e2 : Int), .int .i64 0]) (by simp [results, Tryz.results74, go_sem, q0, q1, q2, q3, q4]) rfl ⟨?_, set5_below (below_step hb1 hVa) (Nat.le_refl _) _ _ _ _ _⟩
          rw [← hRv.out]
          simp [refV, tokC, htx'.out]

end Go.Proofs.YtekapipfaahhcaaGreatDoor.Q

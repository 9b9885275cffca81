import Derived.Test.YtekapipfaahhcaaGreatDoorWNum2
namespace Go.Proofs.YtekapipfaahhcaaGreatDoor
open Go.RowKit

theorem and_beyond : ∀ b : Fin 128, bits .and .u8 (128 : Int) (b.val : Int) = 0 ∧ 128 &&& b.val = 0 := by decide +kernel
theorem and_cls (l : List UInt8) (i b : Nat) (hb : b < 128) : bits .and .u8 (clsAt l i : Int) (b : Int) = ((clsAt l i &&& b : Nat) : Int) := by
  by_cases h : i < l.length
  · rw [clsAt_in h]
    exact and_u8 _ _ (cls_lt _) hb
  · rw [clsAt_out (by omega)]
    have := and_beyond ⟨b, hb⟩
    rw [this.2]
    exact this.1
theorem prefix_one (c : UInt8) (l : List UInt8) (i : Nat) : [c].isPrefixOf (l.drop i) = (l[i]? == some c) := by
  by_cases h : i < l.length
  · rw [drop_cons h, List.getElem?_eq_getElem h]
    simp [List.isPrefixOf]
    exact Bool.beq_comm
  · rw [List.drop_of_length_le (by omega), List.getElem?_eq_none (by omega)]
    rfl
theorem rn_digs : ∀ (x : List UInt8), digs (x.take (rn 32 x))
  | [] => fun c hc => by simp at hc
  | c :: x => by
    rw [rn_cons]
    by_cases h : cls c.toNat &&& 32 ≠ 0
    · rw [if_pos h, Nat.add_comm, List.take_succ_cons]
      intro d hd
      rcases List.mem_cons.1 hd with rfl | hd
      · by_cases hg : 48 ≤ d.toNat ∧ d.toNat ≤ 57
        · exact hg
        · exfalso
          apply h
          unfold cls
          repeat' split
          all_goals first | omega | rfl
      · exact rn_digs x d hd
    · rw [if_neg h]
      intro d hd
      simp at hd
theorem slc_rn (l : List UInt8) (a k : Nat) : slc l a (a + k) = (l.drop a).take k := by
  unfold slc
  rw [List.drop_take, Nat.add_sub_cancel_left]
theorem rn_pos {l : List UInt8} {a of : Nat} (h : a < l.length) (hc : cls l[a].toNat &&& of ≠ 0) : 0 < rn of (l.drop a) := by
  rw [drop_cons h, rn_cons, if_pos hc]
  omega

def numEnd (l : List UInt8) (a e3 : Nat) : Option Wd → Res
  | none => .error (a, 42)
  | some t => if clsAt l e3 &&& 24 ≠ 0 then .error (a, 42) else .ok (t, e3)
theorem numberS_eq (l : List UInt8) (a : Nat) : numberS l a = numEnd l a (nE3 l a) (numTok (slc l a (nE1 l a)) (nPart l a) (nPc l a)) := by
  unfold numberS
  cases numTok (slc l a (nE1 l a)) (nPart l a) (nPc l a) <;> rfl

set_option maxRecDepth 8000 in
set_option maxHeartbeats 4000000 in
theorem wnumber_any (s : ByteArray) (a : Nat) (ha : a ≤ s.size) (hs : s.size ≤ 140737488351232) (hpos : 0 < rn 32 (s.data.toList.drop a)) (w : World) (hC : Cls w) (hE : ErrR w) :
    Calls Tryz.prog 138 #[.string s, .int .i64 a] w fun e w' => e = .returned (resV a (numberS s.data.toList a)) ∧ Below w.heap.size w w' := by
  have hb1 := (Below.refl w.heap.size w).alloc (Nat.le_refl _) (.cells #[.int .i64 0, .int .i64 0, .string ⟨#[]⟩, .int .i64 0, .int .i64 0] 66)
  have hbox := Box5.new w 66
  obtain ⟨l, hl⟩ : ∃ l, s.data.toList = l := ⟨_, rfl⟩
  have hls : l.length = s.size := by rw [← hl]; exact size_list s
  have hrun1 := runEnd_any s a 32 ha (by omega) (by omega) _ (hC.later hb1)
  rw [hl] at hrun1 hpos ⊢
  have hle1 := rn_le 32 (l.drop a)
  rw [List.length_drop, hls] at hle1
  obtain ⟨e1, he1⟩ : ∃ e1, a + rn 32 (l.drop a) = e1 := ⟨_, rfl⟩
  have hE1 : nE1 l a = e1 := he1
  rw [he1] at hrun1
  have h1s : e1 ≤ s.size := by omega
  have h1a : a < e1 := by omega
  -- the digits ahead of the point
  obtain ⟨wh, hwh⟩ : ∃ wh, s.extract a e1 = wh := ⟨_, rfl⟩
  have hwl : wh.data.toList = slc l a e1 := by rw [← hwh, slice_list, hl]
  have hws : wh.size = e1 - a := by rw [← size_list, hwl]; unfold slc; rw [List.length_drop, List.length_take]; omega
  have hwd : digs wh.data.toList := by rw [hwl, ← he1, slc_rn]; exact rn_digs _
  have hx1 : ∀ W, (Instr.slice 9 (.string s) (some (.int .i64 (a : Int))) (some (.int .i64 (e1 : Int))) none).run Tryz.prog W = .ok (.string wh) W := fun W => by
    rw [run_slice_string W 9 s .i64 .i64 (a : Int) (e1 : Int) Tryz.underlying9 (by omega) (by omega) (by omega), ← hwh]
    rfl
  -- what follows
  have hx2 : ∀ (e : Nat), e ≤ s.size → ∀ W, (Instr.slice 9 (.string s) (some (.int .i64 (e : Int))) none none).run Tryz.prog W = .ok (.string (s.extract e s.size)) W := fun e he W => by
    have := run_slice_string_l (P := Tryz.prog) (w := W) (t := 9) (s := s) Tryz.underlying9 .i64 (e : Int) (by omega) (by omega)
    simpa using this
  have hpre : ∀ (e : Nat) (c : UInt8) (W : World), Calls Tryz.prog 140 #[.string (s.extract e s.size), .string ⟨#[c]⟩] W fun x w' => x = .returned (.bool (l[e]? == some c)) ∧ w' = W := fun e c W => by
    have h := Tryz.strings_HasPrefix (s.extract e s.size) ⟨#[c]⟩ W
    rw [show (⟨#[c]⟩ : ByteArray).data.toList = [c] from rfl, ext_list, hl] at h
    unfold Lib.hasPrefix at h
    rw [prefix_one] at h
    exact h
  obtain ⟨e2, he2⟩ : ∃ e2, nE2 l a = e2 := ⟨_, rfl⟩
  obtain ⟨pt, hpt⟩ : ∃ pt, nPart l a = pt := ⟨_, rfl⟩
  obtain ⟨R, hR⟩ : ∃ R, numberS l a = R := ⟨_, rfl⟩
  rw [hR]
  -- the part behind the point
  obtain ⟨P, hPl, h2s, hst⟩ : ∃ P : ByteArray, P.data.toList = pt ∧ e2 ≤ s.size ∧
      (((l[e1]? == some 46) = true ∧ clsAt l (e1 + 1) = 32 ∧ e1 + 1 ≤ e2 ∧ (∀ W, Cls W → Calls Tryz.prog 134 #[.string s, .int .i64 ((e1 : Int) + 1), .int .u8 32] W fun e w' => e = .returned (.int .i64 (e2 : Int)) ∧ Below W.heap.size W w') ∧ (∀ W, (Instr.slice 9 (.string s) (some (.int .i64 ((e1 : Int) + 1))) (some (.int .i64 (e2 : Int))) none).run Tryz.prog W = .ok (.string P) W))
      ∨ ((l[e1]? == some 46) = true ∧ clsAt l (e1 + 1) ≠ 32 ∧ e2 = e1 ∧ P = ⟨#[]⟩)
      ∨ ((l[e1]? == some 46) = false ∧ e2 = e1 ∧ P = ⟨#[]⟩)) := by
    unfold nE2 at he2
    unfold nPart nE2 at hpt
    unfold nPt at he2 hpt
    rw [hE1] at he2 hpt
    cases hb : (l[e1]? == some 46) with
    | false =>
      simp only [hb, Bool.false_and, if_neg (show ¬ (false = true) from by simp)] at he2 hpt
      exact ⟨⟨#[]⟩, by rw [← hpt], by omega, .inr (.inr ⟨rfl, he2.symm, rfl⟩)⟩
    | true =>
      have h46 : l[e1]? = some 46 := by simpa using hb
      have he1l : e1 < l.length := (List.getElem?_eq_some_iff.1 h46).1
      by_cases hcl : clsAt l (e1 + 1) = 32
      · simp only [hb, hcl, Bool.true_and, beq_self_eq_true, if_pos] at he2 hpt
        have hle2 := rn_le 32 (l.drop (e1 + 1))
        rw [List.length_drop, hls] at hle2
        have h2s : e2 ≤ s.size := by omega
        rw [he2] at hpt
        refine ⟨s.extract (e1 + 1) e2, by rw [slice_list, hl, hpt], h2s, .inl ⟨rfl, hcl, by omega, fun W hW => ?_, fun W => ?_⟩⟩
        · have h := runEnd_any s (e1 + 1) 32 (by omega) (by omega) (by omega) W hW
          rw [hl, he2] at h
          rw [show ((e1 : Int) + 1) = ((e1 + 1 : Nat) : Int) from by omega]
          exact h
        · rw [run_slice_string W 9 s .i64 .i64 ((e1 : Int) + 1) (e2 : Int) Tryz.underlying9 (by omega) (by omega) (by omega), show ((e1 : Int) + 1).toNat = e1 + 1 from by omega]
          rfl
      · have hcl' : (clsAt l (e1 + 1) == 32) = false := by simpa using hcl
        simp only [hb, hcl', Bool.and_false, if_neg (show ¬ (false = true) from by simp)] at he2 hpt
        exact ⟨⟨#[]⟩, by rw [← hpt], by omega, .inr (.inl ⟨rfl, hcl, he2.symm, rfl⟩)⟩
  have hPs : P.size ≤ 140737488351232 := by
    rw [← size_list, hPl, ← hpt]
    unfold nPart
    split
    · unfold slc
      rw [List.length_drop, List.length_take]
      omega
    · simp
  have hPd : digs P.data.toList := by
    rw [hPl, ← hpt]
    unfold nPart
    split
    · rename_i h
      unfold nE2
      rw [if_pos h, slc_rn]
      exact rn_digs _
    · intro c hc
      simp at hc
  -- the percent sign, and where it ends
  obtain ⟨pc, hpc⟩ : ∃ pc, (l[e2]? == some 37) = pc := ⟨_, rfl⟩
  obtain ⟨e3, he3⟩ : ∃ e3, nE3 l a = e3 := ⟨_, rfl⟩
  have hpc' : nPc l a = pc := by unfold nPc; rw [he2]; exact hpc
  have he3' : e3 = if pc = true then e2 + 1 else e2 := by rw [← he3]; unfold nE3; rw [hpc', he2]
  have h3s : e3 ≤ s.size := by
    rw [he3']
    split
    · rename_i h
      rw [h] at hpc
      have : l[e2]? = some 37 := by simpa using hpc
      have := (List.getElem?_eq_some_iff.1 this).1
      omega
    · exact h2s
  obtain ⟨o, ho⟩ : ∃ o, numTok (slc l a e1) pt pc = o := ⟨_, rfl⟩
  have hnt := fun W h => numberToken_any wh P (by omega) (by omega) hPs hwd hPd pc W h
  rw [hwl, hPl, ho] at hnt
  have hR' : Hid (numEnd l a e3 o = R) := by
    unfold Hid
    rw [← hR, numberS_eq, hE1, hpt, hpc', he3, ho]
  have hp46 := hpre e1 46
  have hp37 := hpre e2 37
  have hs1 := hx2 e1 h1s
  have hs2 := hx2 e2 h2s
  rw [hpc] at hp37
  obtain ⟨T1, hT1⟩ : ∃ T1, s.extract e1 s.size = T1 := ⟨_, rfl⟩
  obtain ⟨T2, hT2⟩ : ∃ T2, s.extract e2 s.size = T2 := ⟨_, rfl⟩
  rw [hT1] at hp46 hs1
  rw [hT2] at hp37 hs2
  have hca1 := fun W h => classAt_any s (e1 + 1) (clsAt l (e1 + 1) : Int) (by rw [hl]) W h
  have hca3 := fun W h => classAt_any s e3 (clsAt l e3 : Int) (by rw [hl]) W h
  clear hx2 hpre hR ho hwl hPl hPd hwd hpt he2 he3 hE1 he1 hpos hwh hle1
  have tokR : True := trivial
  have tokH : True := trivial
  have tkC : True := trivial
  cases o with
  | none =>
    have hRv : Hid (resV a (.error (a, 42)) = resV a R) := by unfold Hid; rw [← hR'.out]; rfl
    clear hR' he3' hca3
    rcases hst with ⟨hb, hcl, h12, hr2, hx3⟩ | ⟨hb, hcl, rfl, rfl⟩ | ⟨hb, rfl, rfl⟩
    · rw [hb] at hp46
      have hcb : ((clsAt l (e1 + 1) : Int) == 32) = true := by rw [hcl]; rfl
      clear hT1 hT2 hcl
      cases pc
      all_goals
        go_enter Tryz.func138, Tryz.ntmps138
        go_wp2_with (first | (go_at_call 134; have _u := tokR; clear tokR; refine hrun1.mono ?_; rintro e w1 ⟨rfl, hb2⟩; have hV := hb2) | (go_at_call 134; refine (hr2 _ (hC.later (below_step hb1 hV))).mono ?_; rintro e w2 ⟨rfl, hb3⟩; have hV := below_step hV hb3) | (go_at_call 140; have _u := tokH; clear tokH; refine (hp46 _).mono ?_; rintro e w9 ⟨rfl, hw9⟩; subst w9) | (go_at_call 140; refine (hp37 _).mono ?_; rintro e w9 ⟨rfl, hw9⟩; subst w9) | (go_at_call 41; have _u := tkC; clear tkC; refine (hca1 _ (hC.later (below_step hb1 hV))).mono ?_; rintro e w9 ⟨rfl, hw9⟩; subst w9) | (go_at_call 149; refine (hnt _ (hE.later (below_step hb1 hV))).mono ?_; rintro e w3 ⟨K, N, D, b, rfl, hn1, -, hb4⟩; obtain rfl := hn1 rfl; have hV := below_step hV hb4) | (go_at_call 135; refine (fault_lit (a : Int) 42 _).mono ?_; rintro e w5 ⟨rfl, hb5⟩; have hV := below_step (hV.alloc hV.size _) hb5; have hbx := hbox.later hV; have hbx' := hbx; obtain ⟨⟨v0, c0⟩, ⟨v1, c1⟩, ⟨v2, c2⟩, ⟨v3, c3⟩, ⟨v4, c4⟩, hf⟩ := hbx'; have f0 := hf 0; have f1 := hf 1; have f2 := hf 2; have f3 := hf 3; have f4 := hf 4; clear hf))
        obtain ⟨q0, q1, q2, q3, q4⟩ := set5_cells hbx (.int .i64 0) (.int .i64 (a : Int)) (.string ⟨#[]⟩) (.int .i64 0) (.int .i64 0)
        unfold set5 at q0 q1 q2 q3 q4
        refine bodyPost_ret (v := .tuple #[.agg #[.int .i64 0, .int .i64 (a : Int), .string ⟨#[]⟩, .int .i64 0, .int .i64 0], .int .i64 0, .int .i64 42]) (by simp [results, Tryz.results138, go_sem, q0, q1, q2, q3, q4]) rfl ⟨?_, set5_below (below_step hb1 hV) (Nat.le_refl _) _ _ _ _ _⟩
        rw [← hRv.out]
        rfl
    · rw [hb] at hp46
      obtain rfl : T1 = T2 := hT1.symm.trans hT2
      have hcb : ((clsAt l (e2 + 1) : Int) == 32) = false := by simp; omega
      clear hT1 hT2 hcl
      cases pc
      all_goals
        go_enter Tryz.func138, Tryz.ntmps138
        go_wp2_with (first | (go_at_call 134; have _u := tokR; clear tokR; refine hrun1.mono ?_; rintro e w1 ⟨rfl, hb2⟩; have hV := hb2) | (go_at_call 140; have _u := tokH; clear tokH; refine (hp46 _).mono ?_; rintro e w9 ⟨rfl, hw9⟩; subst w9) | (go_at_call 140; refine (hp37 _).mono ?_; rintro e w9 ⟨rfl, hw9⟩; subst w9) | (go_at_call 41; have _u := tkC; clear tkC; refine (hca1 _ (hC.later (below_step hb1 hV))).mono ?_; rintro e w9 ⟨rfl, hw9⟩; subst w9) | (go_at_call 149; refine (hnt _ (hE.later (below_step hb1 hV))).mono ?_; rintro e w3 ⟨K, N, D, b, rfl, hn1, -, hb4⟩; obtain rfl := hn1 rfl; have hV := below_step hV hb4) | (go_at_call 135; refine (fault_lit (a : Int) 42 _).mono ?_; rintro e w5 ⟨rfl, hb5⟩; have hV := below_step (hV.alloc hV.size _) hb5; have hbx := hbox.later hV; have hbx' := hbx; obtain ⟨⟨v0, c0⟩, ⟨v1, c1⟩, ⟨v2, c2⟩, ⟨v3, c3⟩, ⟨v4, c4⟩, hf⟩ := hbx'; have f0 := hf 0; have f1 := hf 1; have f2 := hf 2; have f3 := hf 3; have f4 := hf 4; clear hf))
        obtain ⟨q0, q1, q2, q3, q4⟩ := set5_cells hbx (.int .i64 0) (.int .i64 (a : Int)) (.string ⟨#[]⟩) (.int .i64 0) (.int .i64 0)
        unfold set5 at q0 q1 q2 q3 q4
        refine bodyPost_ret (v := .tuple #[.agg #[.int .i64 0, .int .i64 (a : Int), .string ⟨#[]⟩, .int .i64 0, .int .i64 0], .int .i64 0, .int .i64 42]) (by simp [results, Tryz.results138, go_sem, q0, q1, q2, q3, q4]) rfl ⟨?_, set5_below (below_step hb1 hV) (Nat.le_refl _) _ _ _ _ _⟩
        rw [← hRv.out]
        rfl
    · rw [hb] at hp46
      obtain rfl : T1 = T2 := hT1.symm.trans hT2
      clear hT1 hT2
      cases pc
      all_goals
        go_enter Tryz.func138, Tryz.ntmps138
        go_wp2_with (first | (go_at_call 134; have _u := tokR; clear tokR; refine hrun1.mono ?_; rintro e w1 ⟨rfl, hb2⟩; have hV := hb2) | (go_at_call 140; have _u := tokH; clear tokH; refine (hp46 _).mono ?_; rintro e w9 ⟨rfl, hw9⟩; subst w9) | (go_at_call 140; refine (hp37 _).mono ?_; rintro e w9 ⟨rfl, hw9⟩; subst w9) | (go_at_call 41; have _u := tkC; clear tkC; refine (hca1 _ (hC.later (below_step hb1 hV))).mono ?_; rintro e w9 ⟨rfl, hw9⟩; subst w9) | (go_at_call 149; refine (hnt _ (hE.later (below_step hb1 hV))).mono ?_; rintro e w3 ⟨K, N, D, b, rfl, hn1, -, hb4⟩; obtain rfl := hn1 rfl; have hV := below_step hV hb4) | (go_at_call 135; refine (fault_lit (a : Int) 42 _).mono ?_; rintro e w5 ⟨rfl, hb5⟩; have hV := below_step (hV.alloc hV.size _) hb5; have hbx := hbox.later hV; have hbx' := hbx; obtain ⟨⟨v0, c0⟩, ⟨v1, c1⟩, ⟨v2, c2⟩, ⟨v3, c3⟩, ⟨v4, c4⟩, hf⟩ := hbx'; have f0 := hf 0; have f1 := hf 1; have f2 := hf 2; have f3 := hf 3; have f4 := hf 4; clear hf))
        obtain ⟨q0, q1, q2, q3, q4⟩ := set5_cells hbx (.int .i64 0) (.int .i64 (a : Int)) (.string ⟨#[]⟩) (.int .i64 0) (.int .i64 0)
        unfold set5 at q0 q1 q2 q3 q4
        refine bodyPost_ret (v := .tuple #[.agg #[.int .i64 0, .int .i64 (a : Int), .string ⟨#[]⟩, .int .i64 0, .int .i64 0], .int .i64 0, .int .i64 42]) (by simp [results, Tryz.results138, go_sem, q0, q1, q2, q3, q4]) rfl ⟨?_, set5_below (below_step hb1 hV) (Nat.le_refl _) _ _ _ _ _⟩
        rw [← hRv.out]
        rfl
  | some t =>
    have hbit := and_cls l e3 24 (by omega)
    by_cases hbad : clsAt l e3 &&& 24 ≠ 0
    · have hRv : Hid (resV a (.error (a, 42)) = resV a R) := by unfold Hid; rw [← hR'.out]; show _ = resV a (if clsAt l e3 &&& 24 ≠ 0 then .error (a, 42) else .ok (t, e3)); rw [if_pos hbad]
      have hbb : (bits .and .u8 (clsAt l e3 : Int) 24 != 0) = true := by
        rw [show (24 : Int) = ((24 : Nat) : Int) from rfl, hbit]
        generalize clsAt l e3 &&& 24 = m at *
        simp
        omega
      clear hR' hbad hbit
      rcases hst with ⟨hb, hcl, h12, hr2, hx3⟩ | ⟨hb, hcl, rfl, rfl⟩ | ⟨hb, rfl, rfl⟩
      · rw [hb] at hp46
        have hcb : ((clsAt l (e1 + 1) : Int) == 32) = true := by rw [hcl]; rfl
        clear hT1 hT2 hcl
        cases pc
        all_goals
          simp only [reduceIte, Bool.false_eq_true] at he3'
          subst he3'
          go_enter Tryz.func138, Tryz.ntmps138
          go_wp2_with (first | (go_at_call 134; have _u := tokR; clear tokR; refine hrun1.mono ?_; rintro e w1 ⟨rfl, hb2⟩; have hV := hb2) | (go_at_call 134; refine (hr2 _ (hC.later (below_step hb1 hV))).mono ?_; rintro e w2 ⟨rfl, hb3⟩; have hV := below_step hV hb3) | (go_at_call 140; have _u := tokH; clear tokH; refine (hp46 _).mono ?_; rintro e w9 ⟨rfl, hw9⟩; subst w9) | (go_at_call 140; refine (hp37 _).mono ?_; rintro e w9 ⟨rfl, hw9⟩; subst w9) | (go_at_call 41; have _u := tkC; clear tkC; refine (hca1 _ (hC.later (below_step hb1 hV))).mono ?_; rintro e w9 ⟨rfl, hw9⟩; subst w9) | (go_at_call 41; refine (hca3 _ (hC.later (below_step hb1 (hV.alloc hV.size _)))).mono ?_; rintro e w9 ⟨rfl, hw9⟩; subst w9) | (go_at_call 149; refine (hnt _ (hE.later (below_step hb1 hV))).mono ?_; rintro e w3 ⟨K, N, D, b, rfl, -, hn2, hb4⟩; obtain ⟨rfl, htx, rfl, rfl, rfl⟩ := hn2 _ rfl; have htx' : Hid _ := htx; clear htx hn2; have hV := below_step hV hb4) | (go_at_call 135; refine (fault_lit (a : Int) 42 _).mono ?_; rintro e w5 ⟨rfl, hb5⟩; have hV := below_step (hV.alloc hV.size _) hb5; have hbx := hbox.later hV; have hbx' := hbx; obtain ⟨⟨v0, c0⟩, ⟨v1, c1⟩, ⟨v2, c2⟩, ⟨v3, c3⟩, ⟨v4, c4⟩, hf⟩ := hbx'; have f0 := hf 0; have f1 := hf 1; have f2 := hf 2; have f3 := hf 3; have f4 := hf 4; clear hf))
          obtain ⟨q0, q1, q2, q3, q4⟩ := set5_cells hbx (.int .i64 0) (.int .i64 (a : Int)) (.string ⟨#[]⟩) (.int .i64 0) (.int .i64 0)
          unfold set5 at q0 q1 q2 q3 q4
          refine bodyPost_ret (v := .tuple #[.agg #[.int .i64 0, .int .i64 (a : Int), .string ⟨#[]⟩, .int .i64 0, .int .i64 0], .int .i64 0, .int .i64 42]) (by simp [results, Tryz.results138, go_sem, q0, q1, q2, q3, q4]) rfl ⟨?_, set5_below (below_step hb1 hV) (Nat.le_refl _) _ _ _ _ _⟩
          rw [← hRv.out]
          rfl
      · rw [hb] at hp46
        obtain rfl : T1 = T2 := hT1.symm.trans hT2
        have hcb : ((clsAt l (e2 + 1) : Int) == 32) = false := by simp; omega
        clear hT1 hT2 hcl
        cases pc
        all_goals
          simp only [reduceIte, Bool.false_eq_true] at he3'
          subst he3'
          go_enter Tryz.func138, Tryz.ntmps138
          go_wp2_with (first | (go_at_call 134; have _u := tokR; clear tokR; refine hrun1.mono ?_; rintro e w1 ⟨rfl, hb2⟩; have hV := hb2) | (go_at_call 140; have _u := tokH; clear tokH; refine (hp46 _).mono ?_; rintro e w9 ⟨rfl, hw9⟩; subst w9) | (go_at_call 140; refine (hp37 _).mono ?_; rintro e w9 ⟨rfl, hw9⟩; subst w9) | (go_at_call 41; have _u := hcb; have _u := tkC; clear tkC; refine (hca1 _ (hC.later (below_step hb1 hV))).mono ?_; rintro e w9 ⟨rfl, hw9⟩; subst w9) | (go_at_call 41; refine (hca3 _ (hC.later (below_step hb1 (hV.alloc hV.size _)))).mono ?_; rintro e w9 ⟨rfl, hw9⟩; subst w9) | (go_at_call 149; refine (hnt _ (hE.later (below_step hb1 hV))).mono ?_; rintro e w3 ⟨K, N, D, b, rfl, -, hn2, hb4⟩; obtain ⟨rfl, htx, rfl, rfl, rfl⟩ := hn2 _ rfl; have htx' : Hid _ := htx; clear htx hn2; have hV := below_step hV hb4) | (go_at_call 135; refine (fault_lit (a : Int) 42 _).mono ?_; rintro e w5 ⟨rfl, hb5⟩; have hV := below_step (hV.alloc hV.size _) hb5; have hbx := hbox.later hV; have hbx' := hbx; obtain ⟨⟨v0, c0⟩, ⟨v1, c1⟩, ⟨v2, c2⟩, ⟨v3, c3⟩, ⟨v4, c4⟩, hf⟩ := hbx'; have f0 := hf 0; have f1 := hf 1; have f2 := hf 2; have f3 := hf 3; have f4 := hf 4; clear hf))
          obtain ⟨q0, q1, q2, q3, q4⟩ := set5_cells hbx (.int .i64 0) (.int .i64 (a : Int)) (.string ⟨#[]⟩) (.int .i64 0) (.int .i64 0)
          unfold set5 at q0 q1 q2 q3 q4
          refine bodyPost_ret (v := .tuple #[.agg #[.int .i64 0, .int .i64 (a : Int), .string ⟨#[]⟩, .int .i64 0, .int .i64 0], .int .i64 0, .int .i64 42]) (by simp [results, Tryz.results138, go_sem, q0, q1, q2, q3, q4]) rfl ⟨?_, set5_below (below_step hb1 hV) (Nat.le_refl _) _ _ _ _ _⟩
          rw [← hRv.out]
          rfl
      · rw [hb] at hp46
        obtain rfl : T1 = T2 := hT1.symm.trans hT2
        clear hT1 hT2
        cases pc
        all_goals
          simp only [reduceIte, Bool.false_eq_true] at he3'
          subst he3'
          go_enter Tryz.func138, Tryz.ntmps138
          go_wp2_with (first | (go_at_call 134; have _u := tokR; clear tokR; refine hrun1.mono ?_; rintro e w1 ⟨rfl, hb2⟩; have hV := hb2) | (go_at_call 140; have _u := tokH; clear tokH; refine (hp46 _).mono ?_; rintro e w9 ⟨rfl, hw9⟩; subst w9) | (go_at_call 140; refine (hp37 _).mono ?_; rintro e w9 ⟨rfl, hw9⟩; subst w9) | (go_at_call 41; have _u := hcb; have _u := tkC; clear tkC; refine (hca1 _ (hC.later (below_step hb1 hV))).mono ?_; rintro e w9 ⟨rfl, hw9⟩; subst w9) | (go_at_call 41; refine (hca3 _ (hC.later (below_step hb1 (hV.alloc hV.size _)))).mono ?_; rintro e w9 ⟨rfl, hw9⟩; subst w9) | (go_at_call 149; refine (hnt _ (hE.later (below_step hb1 hV))).mono ?_; rintro e w3 ⟨K, N, D, b, rfl, -, hn2, hb4⟩; obtain ⟨rfl, htx, rfl, rfl, rfl⟩ := hn2 _ rfl; have htx' : Hid _ := htx; clear htx hn2; have hV := below_step hV hb4) | (go_at_call 135; refine (fault_lit (a : Int) 42 _).mono ?_; rintro e w5 ⟨rfl, hb5⟩; have hV := below_step (hV.alloc hV.size _) hb5; have hbx := hbox.later hV; have hbx' := hbx; obtain ⟨⟨v0, c0⟩, ⟨v1, c1⟩, ⟨v2, c2⟩, ⟨v3, c3⟩, ⟨v4, c4⟩, hf⟩ := hbx'; have f0 := hf 0; have f1 := hf 1; have f2 := hf 2; have f3 := hf 3; have f4 := hf 4; clear hf))
          obtain ⟨q0, q1, q2, q3, q4⟩ := set5_cells hbx (.int .i64 0) (.int .i64 (a : Int)) (.string ⟨#[]⟩) (.int .i64 0) (.int .i64 0)
          unfold set5 at q0 q1 q2 q3 q4
          refine bodyPost_ret (v := .tuple #[.agg #[.int .i64 0, .int .i64 (a : Int), .string ⟨#[]⟩, .int .i64 0, .int .i64 0], .int .i64 0, .int .i64 42]) (by simp [results, Tryz.results138, go_sem, q0, q1, q2, q3, q4]) rfl ⟨?_, set5_below (below_step hb1 hV) (Nat.le_refl _) _ _ _ _ _⟩
          rw [← hRv.out]
          rfl
    · have hRv : Hid (resV a (.ok (t, e3)) = resV a R) := by unfold Hid; rw [← hR'.out]; show _ = resV a (if clsAt l e3 &&& 24 ≠ 0 then .error (a, 42) else .ok (t, e3)); rw [if_neg hbad]
      have hbb : (bits .and .u8 (clsAt l e3 : Int) 24 != 0) = false := by
        rw [show (24 : Int) = ((24 : Nat) : Int) from rfl, hbit]
        generalize clsAt l e3 &&& 24 = m at *
        simp
        omega
      clear hR' hbad hbit
      rcases hst with ⟨hb, hcl, h12, hr2, hx3⟩ | ⟨hb, hcl, rfl, rfl⟩ | ⟨hb, rfl, rfl⟩
      · rw [hb] at hp46
        have hcb : ((clsAt l (e1 + 1) : Int) == 32) = true := by rw [hcl]; rfl
        clear hT1 hT2 hcl
        cases pc
        all_goals
          simp only [reduceIte, Bool.false_eq_true] at he3'
          subst he3'
          go_enter Tryz.func138, Tryz.ntmps138
          go_wp2_with (first | (go_at_call 134; have _u := tokR; clear tokR; refine hrun1.mono ?_; rintro e w1 ⟨rfl, hb2⟩; have hV := hb2) | (go_at_call 134; refine (hr2 _ (hC.later (below_step hb1 hV))).mono ?_; rintro e w2 ⟨rfl, hb3⟩; have hV := below_step hV hb3) | (go_at_call 140; have _u := tokH; clear tokH; refine (hp46 _).mono ?_; rintro e w9 ⟨rfl, hw9⟩; subst w9) | (go_at_call 140; refine (hp37 _).mono ?_; rintro e w9 ⟨rfl, hw9⟩; subst w9) | (go_at_call 41; have _u := tkC; clear tkC; refine (hca1 _ (hC.later (below_step hb1 hV))).mono ?_; rintro e w9 ⟨rfl, hw9⟩; subst w9) | (go_at_call 41; refine (hca3 _ (hC.later (below_step hb1 (hV.alloc hV.size _)))).mono ?_; rintro e w9 ⟨rfl, hw9⟩; subst w9) | (go_at_call 149; refine (hnt _ (hE.later (below_step hb1 hV))).mono ?_; rintro e w3 ⟨K, N, D, b, rfl, -, hn2, hb4⟩; obtain ⟨rfl, htx, rfl, rfl, rfl⟩ := hn2 _ rfl; have htx' : Hid _ := htx; clear htx hn2; have hV := below_step hV hb4; have hVa := hV.alloc hV.size (.cells #[.int .i64 (t.1 : Int), .int .i64 (a : Int), .string ⟨#[]⟩, .int .i64 (t.2.2.1 : Int), .int .i64 (t.2.2.2 : Int)] 66); have hbx := hbox.later hVa; have hbx' := hbx; obtain ⟨⟨v0, c0⟩, ⟨v1, c1⟩, ⟨v2, c2⟩, ⟨v3, c3⟩, ⟨v4, c4⟩, hf⟩ := hbx'; have f0 := hf 0; have f1 := hf 1; have f2 := hf 2; have f3 := hf 3; have f4 := hf 4; clear hf))
          obtain ⟨q0, q1, q2, q3, q4⟩ := set5_cells hbx (.int .i64 (t.1 : Int)) (.int .i64 (a : Int)) (.string ⟨#[]⟩) (.int .i64 (t.2.2.1 : Int)) (.int .i64 (t.2.2.2 : Int))
          unfold set5 at q0 q1 q2 q3 q4
          refine bodyPost_ret (v := .tuple #[.agg #[.int .i64 (t.1 : Int), .int .i64 (a : Int), .string ⟨#[]⟩, .int .i64 (t.2.2.1 : Int), .int .i64 (t.2.2.2 : Int)], .int .i64 _, .int .i64 0]) (by simp [results, Tryz.results138, go_sem, q0, q1, q2, q3, q4]; rfl) rfl ⟨?_, set5_below (below_step hb1 hVa) (Nat.le_refl _) _ _ _ _ _⟩
          rw [← hRv.out]
          simp [resV, tokC, htx'.out]
      · rw [hb] at hp46
        obtain rfl : T1 = T2 := hT1.symm.trans hT2
        have hcb : ((clsAt l (e2 + 1) : Int) == 32) = false := by simp; omega
        clear hT1 hT2 hcl
        cases pc
        all_goals
          simp only [reduceIte, Bool.false_eq_true] at he3'
          subst he3'
          go_enter Tryz.func138, Tryz.ntmps138
          go_wp2_with (first | (go_at_call 134; have _u := tokR; clear tokR; refine hrun1.mono ?_; rintro e w1 ⟨rfl, hb2⟩; have hV := hb2) | (go_at_call 140; have _u := tokH; clear tokH; refine (hp46 _).mono ?_; rintro e w9 ⟨rfl, hw9⟩; subst w9) | (go_at_call 140; refine (hp37 _).mono ?_; rintro e w9 ⟨rfl, hw9⟩; subst w9) | (go_at_call 41; have _u := hcb; have _u := tkC; clear tkC; refine (hca1 _ (hC.later (below_step hb1 hV))).mono ?_; rintro e w9 ⟨rfl, hw9⟩; subst w9) | (go_at_call 41; refine (hca3 _ (hC.later (below_step hb1 (hV.alloc hV.size _)))).mono ?_; rintro e w9 ⟨rfl, hw9⟩; subst w9) | (go_at_call 149; refine (hnt _ (hE.later (below_step hb1 hV))).mono ?_; rintro e w3 ⟨K, N, D, b, rfl, -, hn2, hb4⟩; obtain ⟨rfl, htx, rfl, rfl, rfl⟩ := hn2 _ rfl; have htx' : Hid _ := htx; clear htx hn2; have hV := below_step hV hb4; have hVa := hV.alloc hV.size (.cells #[.int .i64 (t.1 : Int), .int .i64 (a : Int), .string ⟨#[]⟩, .int .i64 (t.2.2.1 : Int), .int .i64 (t.2.2.2 : Int)] 66); have hbx := hbox.later hVa; have hbx' := hbx; obtain ⟨⟨v0, c0⟩, ⟨v1, c1⟩, ⟨v2, c2⟩, ⟨v3, c3⟩, ⟨v4, c4⟩, hf⟩ := hbx'; have f0 := hf 0; have f1 := hf 1; have f2 := hf 2; have f3 := hf 3; have f4 := hf 4; clear hf))
          obtain ⟨q0, q1, q2, q3, q4⟩ := set5_cells hbx (.int .i64 (t.1 : Int)) (.int .i64 (a : Int)) (.string ⟨#[]⟩) (.int .i64 (t.2.2.1 : Int)) (.int .i64 (t.2.2.2 : Int))
          unfold set5 at q0 q1 q2 q3 q4
          refine bodyPost_ret (v := .tuple #[.agg #[.int .i64 (t.1 : Int), .int .i64 (a : Int), .string ⟨#[]⟩, .int .i64 (t.2.2.1 : Int), .int .i64 (t.2.2.2 : Int)], .int .i64 _, .int .i64 0]) (by simp [results, Tryz.results138, go_sem, q0, q1, q2, q3, q4]; rfl) rfl ⟨?_, set5_below (below_step hb1 hVa) (Nat.le_refl _) _ _ _ _ _⟩
          rw [← hRv.out]
          simp [resV, tokC, htx'.out]
      · rw [hb] at hp46
        obtain rfl : T1 = T2 := hT1.symm.trans hT2
        clear hT1 hT2
        cases pc
        all_goals
          simp only [reduceIte, Bool.false_eq_true] at he3'
          subst he3'
          go_enter Tryz.func138, Tryz.ntmps138
          go_wp2_with (first | (go_at_call 134; have _u := tokR; clear tokR; refine hrun1.mono ?_; rintro e w1 ⟨rfl, hb2⟩; have hV := hb2) | (go_at_call 140; have _u := tokH; clear tokH; refine (hp46 _).mono ?_; rintro e w9 ⟨rfl, hw9⟩; subst w9) | (go_at_call 140; refine (hp37 _).mono ?_; rintro e w9 ⟨rfl, hw9⟩; subst w9) | (go_at_call 41; have _u := hcb; have _u := tkC; clear tkC; refine (hca1 _ (hC.later (below_step hb1 hV))).mono ?_; rintro e w9 ⟨rfl, hw9⟩; subst w9) | (go_at_call 41; refine (hca3 _ (hC.later (below_step hb1 (hV.alloc hV.size _)))).mono ?_; rintro e w9 ⟨rfl, hw9⟩; subst w9) | (go_at_call 149; refine (hnt _ (hE.later (below_step hb1 hV))).mono ?_; rintro e w3 ⟨K, N, D, b, rfl, -, hn2, hb4⟩; obtain ⟨rfl, htx, rfl, rfl, rfl⟩ := hn2 _ rfl; have htx' : Hid _ := htx; clear htx hn2; have hV := below_step hV hb4; have hVa := hV.alloc hV.size (.cells #[.int .i64 (t.1 : Int), .int .i64 (a : Int), .string ⟨#[]⟩, .int .i64 (t.2.2.1 : Int), .int .i64 (t.2.2.2 : Int)] 66); have hbx := hbox.later hVa; have hbx' := hbx; obtain ⟨⟨v0, c0⟩, ⟨v1, c1⟩, ⟨v2, c2⟩, ⟨v3, c3⟩, ⟨v4, c4⟩, hf⟩ := hbx'; have f0 := hf 0; have f1 := hf 1; have f2 := hf 2; have f3 := hf 3; have f4 := hf 4; clear hf))
          obtain ⟨q0, q1, q2, q3, q4⟩ := set5_cells hbx (.int .i64 (t.1 : Int)) (.int .i64 (a : Int)) (.string ⟨#[]⟩) (.int .i64 (t.2.2.1 : Int)) (.int .i64 (t.2.2.2 : Int))
          unfold set5 at q0 q1 q2 q3 q4
          refine bodyPost_ret (v := .tuple #[.agg #[.int .i64 (t.1 : Int), .int .i64 (a : Int), .string ⟨#[]⟩, .int .i64 (t.2.2.1 : Int), .int .i64 (t.2.2.2 : Int)], .int .i64 _, .int .i64 0]) (by simp [results, Tryz.results138, go_sem, q0, q1, q2, q3, q4]; rfl) rfl ⟨?_, set5_below (below_step hb1 hVa) (Nat.le_refl _) _ _ _ _ _⟩
          rw [← hRv.out]
          simp [resV, tokC, htx'.out]

end Go.Proofs.YtekapipfaahhcaaGreatDoor

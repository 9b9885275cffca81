import Derived.Test.YtekapipfaahhcaaGreatDoorWR6a
namespace Go.Proofs.YtekapipfaahhcaaGreatDoor.Q
open Go.RowKit

set_option maxRecDepth 8000 in
set_option maxHeartbeats 4000000 in
theorem numbered_any (ahead behind : ByteArray) (h0 : 0 < ahead.size) (hs : ahead.size ≤ 8000) (hb : behind.size ≤ 8000) (hda : digs ahead.data.toList) (hdb : digs behind.data.toList) (pt pc : Bool) (hpt : pt = true ↔ behind.data.toList ≠ []) (w : World) :
    Calls Tryz.prog 133 #[.string ahead, .bool pt, .string behind, .bool pc] w (NumP w (numTok ahead.data.toList behind.data.toList pc)) := by
  have hwh := fun W => whole_any ahead (by omega) hda W
  have hwb := fun W => whole_any behind (by omega) hdb W
  have hla := size_list ahead
  have hlb := size_list behind
  have hix0 := idx_at ahead 0 (by omega)
  rw [show ((0 : Nat) : Int) = 0 from rfl] at hix0
  have hhead : ahead.data.toList.head? = some (ahead.data.toList[0]'(by omega)) := by
    rw [List.head?_eq_getElem?, List.getElem?_eq_getElem (by omega)]
  obtain ⟨la, hA⟩ : ∃ la, ahead.data.toList = la := ⟨_, rfl⟩
  obtain ⟨lb, hB⟩ : ∃ lb, behind.data.toList = lb := ⟨_, rfl⟩
  have hixl := fun h => idx_last behind h
  have hixb : ∀ i, (h : i < lb.length) → ∀ W, (Instr.index 9 (.string behind) (.int .i64 (i : Int))).run Tryz.prog W = .ok (.int .u8 ((lb[i].toNat : Nat) : Int)) W := fun i h W => by
    have := idx_at behind i (by rw [hB]; exact h) W
    simpa only [hB] using this
  simp only [hA] at hix0 hhead hwh hla hda
  simp only [hB] at hwb hlb hdb hpt hixl
  rw [hA, hB]
  obtain ⟨c, hc⟩ : ∃ c, la[0]'(by omega) = c := ⟨_, rfl⟩
  rw [hc] at hix0 hhead
  obtain ⟨N, hN⟩ : ∃ N, min (val la) 1000000000000000000 = N := ⟨_, rfl⟩
  rw [hN] at hwh
  have hvapp := val_app la lb
  have hvge := val_app_ge la lb
  obtain ⟨o, ho⟩ : ∃ o, numTok la lb pc = o := ⟨_, rfl⟩
  rw [ho]
  have ho' := ho
  unfold numTok at ho'
  have tok : True := trivial
  by_cases hlead : 1 < la.length ∧ la.head? = some 48
  · rw [if_pos (.inr hlead)] at ho'
    subst ho'
    have h1 : (1 : Int) < (ahead.size : Int) := by omega
    have hc48 : c = 48 := by rw [hhead] at hlead; exact Option.some.inj hlead.2
    subst hc48
    clear hwh hwb hixb hixl ho hN hvapp hvge hlead hhead
    go_enter Tryz.func133, Tryz.ntmps133
    go_wp2_with fail
    exact bodyPost_ret (v := .tuple #[.agg #[.int .i64 0, .int .i64 0, .string ⟨#[]⟩, .int .i64 0, .int .i64 0], .bool false]) (by simp [results, Tryz.results133, go_sem]) rfl ⟨0, 0, 0, false, rfl, fun _ => rfl, (fun _ h => (by cases h)), (Below.refl _ _).alloc (Nat.le_refl _) _⟩
  · have hcs : ¬ (1 : Int) < (ahead.size : Int) ∨ ((1 : Int) < (ahead.size : Int) ∧ (((c.toNat : Nat) : Int) == 48) = false) := by
      by_cases h1 : 1 < la.length
      · refine .inr ⟨by omega, ?_⟩
        have : ¬ c = 48 := fun h => hlead ⟨h1, by rw [hhead, h]⟩
        simp
        intro h
        exact this (UInt8.toNat.inj (by show c.toNat = 48; omega))
      · exact .inl (by omega)
    have hlead' : ∀ P : Prop, (P ∨ (1 < la.length ∧ la.head? = some 48)) ↔ P := fun P => ⟨fun h => h.elim id (fun h => absurd h hlead), .inl⟩
    simp only [hlead'] at ho'
    clear hlead hlead' hhead hc
    cases pc with
    | false =>
      simp only [Bool.false_eq_true, if_false] at ho'
      cases pt with
      | false =>
        have hle : lb = [] := by
          apply Classical.byContradiction
          intro h
          have := hpt.2 h
          cases this
        subst hle
        simp only [List.append_nil, if_true] at ho' hvapp
        have hoo : Hid (o = if N ≤ 1000000000 then some (3, [], N, 0) else none) := by
          unfold Hid
          rw [← ho']
          by_cases hv : val la ≤ 1000000000
          · have hNv : N = val la := by omega
            rw [if_neg (by omega), if_pos hv, if_pos (by omega), hNv]
          · have hNn : ¬ N ≤ 1000000000 := by omega
            rw [if_neg hNn, if_neg hv]
            split <;> rfl
        clear ho ho' hN hvapp hvge hpt hixb hixl
        by_cases hv : N ≤ 1000000000
        · rw [Hid, if_pos hv] at hoo
          have hv' : (N : Int) ≤ 1000000000 := by omega
          subst hoo
          rcases hcs with e1 | ⟨e1, e2⟩
          all_goals
            go_enter Tryz.func133, Tryz.ntmps133
            go_wp2_with (first | (go_at_call 143; have _u := tok; clear tok; refine (hwh _).mono ?_; rintro e w9 ⟨rfl, hw9⟩; subst w9))
            exact bodyPost_ret (v := .tuple #[.agg #[.int .i64 3, .int .i64 0, .string ⟨#[]⟩, .int .i64 (N : Int), .int .i64 0], .bool true]) (by simp [results, Tryz.results133, go_sem]) rfl ⟨3, N, 0, true, rfl, (fun h => (by cases h)), (fun wd h => (by cases h; exact ⟨rfl, rfl, rfl, rfl, rfl⟩)), (Below.refl _ _).alloc (Nat.le_refl _) _⟩
        · rw [Hid, if_neg hv] at hoo
          have hv' : ¬ (N : Int) ≤ 1000000000 := by omega
          subst hoo
          rcases hcs with e1 | ⟨e1, e2⟩
          all_goals
            go_enter Tryz.func133, Tryz.ntmps133
            go_wp2_with (first | (go_at_call 143; have _u := tok; clear tok; refine (hwh _).mono ?_; rintro e w9 ⟨rfl, hw9⟩; subst w9))
            exact bodyPost_ret (v := .tuple #[.agg #[.int .i64 3, .int .i64 0, .string ⟨#[]⟩, .int .i64 (N : Int), .int .i64 0], .bool false]) (by simp [results, Tryz.results133, go_sem]; omega) rfl ⟨3, N, 0, false, rfl, fun _ => rfl, (fun _ h => (by cases h)), (Below.refl _ _).alloc (Nat.le_refl _) _⟩
      | true =>
        have hlb0 : lb ≠ [] := hpt.1 rfl
        rw [if_neg hlb0] at ho'
        by_cases h2 : lb.length = 2
        · have h2' : ((behind.size : Int) != 2) = false := by simp; omega
          rw [h2] at hvapp
          have hvb : val lb ≤ 99 := by
            have := val_take_succ (l := lb) (i := 1) (by omega)
            have h3 := val_take_succ (l := lb) (i := 0) (by omega)
            rw [List.take_of_length_le (by omega)] at this
            have d0 := hdb (lb[0]'(by omega)) (List.getElem_mem _)
            have d1 := hdb (lb[1]'(by omega)) (List.getElem_mem _)
            simp only [List.take_zero, val, List.foldl_nil, Nat.zero_add] at h3
            unfold val at this ⊢
            omega
          have hwb2 := hwb
          rw [show min (val lb) 1000000000000000000 = val lb from by omega] at hwb2
          obtain ⟨M, hM⟩ : ∃ M, val lb = M := ⟨_, rfl⟩
          rw [hM] at hwb2 hvapp hvb
          by_cases hbig : 9999999999999 < N
          · have hbig' : (9999999999999 : Int) < (N : Int) := by omega
            have hoo : Hid (o = none) := by
              unfold Hid
              rw [← ho']
              split
              · rfl
              · rw [if_neg (by omega)]
            obtain rfl := hoo.out
            clear ho ho' hN hvapp hvge hpt hixb hixl hwb hlb0 hoo
            rcases hcs with e1 | ⟨e1, e2⟩
            all_goals
              go_enter Tryz.func133, Tryz.ntmps133
              go_wp2_with (first | (go_at_call 143; have _u := tok; clear tok; refine (hwh _).mono ?_; rintro e w9 ⟨rfl, hw9⟩; subst w9))
              exact bodyPost_ret (v := .tuple #[.agg #[.int .i64 0, .int .i64 0, .string ⟨#[]⟩, .int .i64 0, .int .i64 0], .bool false]) (by simp [results, Tryz.results133, go_sem]) rfl ⟨0, 0, 0, false, rfl, fun _ => rfl, (fun _ h => (by cases h)), (Below.refl _ _).alloc (Nat.le_refl _) _⟩
          · have hbig' : ¬ (9999999999999 : Int) < (N : Int) := by omega
            have hNv : N = val la := by omega
            have hoo : Hid (o = if 100 * N + M ≤ 9999999999999 then some (2, [], 100 * N + M, 0) else none) := by
              unfold Hid
              rw [← ho', hvapp, ← hNv, show N * 10 ^ 2 + M = 100 * N + M from by omega]
              rw [if_neg (by omega)]
              simp only [h2, true_and]
            clear ho ho' hN hvapp hvge hpt hixb hixl hwb hlb0 hNv
            by_cases hv : 100 * N + M ≤ 9999999999999
            · rw [Hid, if_pos hv] at hoo
              have hv' : 100 * (N : Int) + (M : Int) ≤ 9999999999999 := by omega
              subst hoo
              rcases hcs with e1 | ⟨e1, e2⟩
              all_goals
                go_enter Tryz.func133, Tryz.ntmps133
                go_wp2_with (first | (go_at_call 143; have _u := tok; clear tok; refine (hwh _).mono ?_; rintro e w9 ⟨rfl, hw9⟩; subst w9) | (go_at_call 143; refine (hwb2 _).mono ?_; rintro e w9 ⟨rfl, hw9⟩; subst w9))
                exact bodyPost_ret (v := .tuple #[.agg #[.int .i64 2, .int .i64 0, .string ⟨#[]⟩, .int .i64 (100 * (N : Int) + (M : Int)), .int .i64 0], .bool true]) (by simp [results, Tryz.results133, go_sem]) rfl ⟨2, 100 * (N : Int) + (M : Int), 0, true, rfl, (fun h => (by cases h)), (fun wd h => (by cases h; exact ⟨rfl, rfl, rfl, by simp, rfl⟩)), (Below.refl _ _).alloc (Nat.le_refl _) _⟩
            · rw [Hid, if_neg hv] at hoo
              have hv' : ¬ 100 * (N : Int) + (M : Int) ≤ 9999999999999 := by omega
              subst hoo
              rcases hcs with e1 | ⟨e1, e2⟩
              all_goals
                go_enter Tryz.func133, Tryz.ntmps133
                go_wp2_with (first | (go_at_call 143; have _u := tok; clear tok; refine (hwh _).mono ?_; rintro e w9 ⟨rfl, hw9⟩; subst w9) | (go_at_call 143; refine (hwb2 _).mono ?_; rintro e w9 ⟨rfl, hw9⟩; subst w9))
                exact bodyPost_ret (v := .tuple #[.agg #[.int .i64 2, .int .i64 0, .string ⟨#[]⟩, .int .i64 (100 * (N : Int) + (M : Int)), .int .i64 0], .bool false]) (by simp [results, Tryz.results133, go_sem]; omega) rfl ⟨2, 100 * (N : Int) + (M : Int), 0, false, rfl, fun _ => rfl, (fun _ h => (by cases h)), (Below.refl _ _).alloc (Nat.le_refl _) _⟩
        · have h2' : ((behind.size : Int) != 2) = true := by simp; omega
          have hoo : Hid (o = none) := by
            unfold Hid
            rw [← ho']
            split
            · rfl
            · rw [if_neg (fun h => h2 h.1)]
          obtain rfl := hoo.out
          clear ho ho' hN hvapp hvge hpt hixb hixl hwb hlb0 hoo
          rcases hcs with e1 | ⟨e1, e2⟩
          all_goals
            go_enter Tryz.func133, Tryz.ntmps133
            go_wp2_with (first | (go_at_call 143; have _u := tok; clear tok; refine (hwh _).mono ?_; rintro e w9 ⟨rfl, hw9⟩; subst w9))
            exact bodyPost_ret (v := .tuple #[.agg #[.int .i64 0, .int .i64 0, .string ⟨#[]⟩, .int .i64 0, .int .i64 0], .bool false]) (by simp [results, Tryz.results133, go_sem]) rfl ⟨0, 0, 0, false, rfl, fun _ => rfl, (fun _ h => (by cases h)), (Below.refl _ _).alloc (Nat.le_refl _) _⟩
    | true =>
      simp only [if_true] at ho'
      unfold pctTok at ho'
      have hixl2 : ∀ (h : 0 < lb.length) W, (Instr.index 9 (.string behind) (.int .i64 ((behind.size : Int) - 1))).run Tryz.prog W = .ok (.int .u8 (((lb.getLast?.getD 0).toNat : Nat) : Int)) W := fun h W => hixl h W
      clear hixl
      by_cases hbad : 6 < lb.length ∨ lb.getLast? = some 48
      · rw [if_pos hbad] at ho'
        obtain rfl : none = o := by rw [← ho']; split <;> rfl
        have hlb0 : lb ≠ [] := by
          rintro rfl
          simp at hbad
        obtain rfl : pt = true := hpt.2 hlb0
        have hlbp : 0 < lb.length := List.length_pos_iff.2 hlb0
        have hl2 := hixl2 hlbp
        by_cases h6 : 6 < lb.length
        · have h6' : (6 : Int) < (behind.size : Int) := by omega
          clear ho ho' hN hvapp hvge hpt hixb hixl2 hwb hlb0 hbad
          rcases hcs with e1 | ⟨e1, e2⟩
          all_goals
            go_enter Tryz.func133, Tryz.ntmps133
            go_wp2_with (first | (go_at_call 143; have _u := tok; clear tok; refine (hwh _).mono ?_; rintro e w9 ⟨rfl, hw9⟩; subst w9))
            exact bodyPost_ret (v := .tuple #[.agg #[.int .i64 0, .int .i64 0, .string ⟨#[]⟩, .int .i64 0, .int .i64 0], .bool false]) (by simp [results, Tryz.results133, go_sem]) rfl ⟨0, 0, 0, false, rfl, fun _ => rfl, (fun _ h => (by cases h)), (Below.refl _ _).alloc (Nat.le_refl _) _⟩
        · have h6' : ¬ (6 : Int) < (behind.size : Int) := by omega
          rw [hbad.resolve_left h6] at hl2
          have hl3 : ∀ W, (Instr.index 9 (.string behind) (.int .i64 ((behind.size : Int) - 1))).run Tryz.prog W = .ok (.int .u8 48) W := hl2
          clear ho ho' hN hvapp hvge hpt hixb hixl2 hwb hlb0 hbad hl2
          rcases hcs with e1 | ⟨e1, e2⟩
          all_goals
            go_enter Tryz.func133, Tryz.ntmps133
            go_wp2_with (first | (go_at_call 143; have _u := tok; clear tok; refine (hwh _).mono ?_; rintro e w9 ⟨rfl, hw9⟩; subst w9))
            exact bodyPost_ret (v := .tuple #[.agg #[.int .i64 0, .int .i64 0, .string ⟨#[]⟩, .int .i64 0, .int .i64 0], .bool false]) (by simp [results, Tryz.results133, go_sem]) rfl ⟨0, 0, 0, false, rfl, fun _ => rfl, (fun _ h => (by cases h)), (Below.refl _ _).alloc (Nat.le_refl _) _⟩
      · rw [if_neg hbad] at ho'
        have h6 : ¬ 6 < lb.length := fun h => hbad (.inl h)
        have h6' : ¬ (6 : Int) < (behind.size : Int) := by omega
        have hl3 : pt = true → ∃ z : Nat, (((z : Nat) : Int) == 48) = false ∧ ∀ W, (Instr.index 9 (.string behind) (.int .i64 ((behind.size : Int) - 1))).run Tryz.prog W = .ok (.int .u8 ((z : Nat) : Int)) W := fun h => by
          have hlb0 := hpt.1 h
          have hlbp : 0 < lb.length := List.length_pos_iff.2 hlb0
          refine ⟨_, ?_, hixl2 hlbp⟩
          cases hg : lb.getLast? with
          | none => rw [List.getLast?_eq_none_iff] at hg; exact absurd hg hlb0
          | some d =>
            have : ¬ d = 48 := fun e => hbad (.inr (by rw [hg, e]))
            simp
            intro h
            exact this (UInt8.toNat.inj (by show d.toNat = 48; omega))
        by_cases hbig : 100000000000 < N
        · have hbig' : (100000000000 : Int) < (N : Int) := by omega
          obtain rfl : none = o := by
            rw [← ho']
            split
            · rfl
            · rw [if_neg (fun h => pct_big (k := lb.length) rfl (show 100000000000 < val la by omega) hvge h.1)]
          clear ho ho' hN hvapp hvge hixb hixl2 hwb hbad
          cases pt with
          | true =>
            obtain ⟨z, hz, hl4⟩ := hl3 rfl
            clear hl3 hpt
            rcases hcs with e1 | ⟨e1, e2⟩
            all_goals
              go_enter Tryz.func133, Tryz.ntmps133
              go_wp2_with (first | (go_at_call 143; have _u := tok; clear tok; refine (hwh _).mono ?_; rintro e w9 ⟨rfl, hw9⟩; subst w9))
              exact bodyPost_ret (v := .tuple #[.agg #[.int .i64 0, .int .i64 0, .string ⟨#[]⟩, .int .i64 0, .int .i64 0], .bool false]) (by simp [results, Tryz.results133, go_sem]) rfl ⟨0, 0, 0, false, rfl, fun _ => rfl, (fun _ h => (by cases h)), (Below.refl _ _).alloc (Nat.le_refl _) _⟩
          | false =>
            clear hl3 hpt
            rcases hcs with e1 | ⟨e1, e2⟩
            all_goals
              go_enter Tryz.func133, Tryz.ntmps133
              go_wp2_with (first | (go_at_call 143; have _u := tok; clear tok; refine (hwh _).mono ?_; rintro e w9 ⟨rfl, hw9⟩; subst w9))
              exact bodyPost_ret (v := .tuple #[.agg #[.int .i64 0, .int .i64 0, .string ⟨#[]⟩, .int .i64 0, .int .i64 0], .bool false]) (by simp [results, Tryz.results133, go_sem]) rfl ⟨0, 0, 0, false, rfl, fun _ => rfl, (fun _ h => (by cases h)), (Below.refl _ _).alloc (Nat.le_refl _) _⟩
        · have hNv : N = val la := by omega
          have hV : val (la ++ lb) ≤ 200000000000000000 := by
            have := val_bound (la := la) (lb := lb) (i := lb.length) hNv (by omega) hdb (by omega)
            rwa [List.take_of_length_le (Nat.le_refl _)] at this
          rw [if_neg (by omega)] at ho'
          exact numbered_pct ahead behind la lb hB N hNv (by omega) (by omega) hlb hdb hwh c hix0 hcs pt hl3 o ho' w

end Go.Proofs.YtekapipfaahhcaaGreatDoor.Q

import Derived.Test.YtekapipfaahhcaaGreatDoorWNum
namespace Go.Proofs.YtekapipfaahhcaaGreatDoor
open Go.RowKit

theorem gErr : Tryz.prog.globalNamed "strconv.ErrRange" = some 5 := by kernel_rfl
/-- The library's error, as it is laid. -/
def ErrR (w : World) : Prop := 5 < w.heap.size ∧ ∃ tp p, w.var? Tryz.prog "strconv.ErrRange" = some #[.iface tp p]
theorem ErrR.later {w w' : World} (h : ErrR w) (hb : Below w.heap.size w w') : ErrR w' := by
  obtain ⟨h1, tp, p, h2⟩ := h
  exact ⟨Nat.lt_of_lt_of_le h1 hb.size, tp, p, var?_below hb gErr h1 h2⟩

theorem parse_ok (s : ByteArray) (hs : s.size ≤ 281474976710656) (v : Int) (h : Lib.parseIntB 64 s.data.toList = .ok v) (w : World) : Calls Tryz.prog 158 #[.string s, .int .i64 10, .int .i64 64] w fun e w' => e = .returned (.tuple #[.int .i64 v, .nilIface]) ∧ Below w.heap.size w w' := by
  refine (Tryz.strconv_ParseInt_10_at64_ok s (by omega) v h w).mono ?_
  rintro e w' ⟨rfl, rfl | ⟨t, rfl⟩⟩
  · exact ⟨rfl, Below.refl _ _⟩
  · exact ⟨rfl, Lib.bytesWorld_below _ _ _⟩
theorem parse_rng (s : ByteArray) (hs : s.size ≤ 281474976710656) (h : Lib.parseIntB 64 s.data.toList = .range) (w : World) (hE : ErrR w) : Calls Tryz.prog 158 #[.string s, .int .i64 10, .int .i64 64] w fun e w' => ∃ (z : Int) (N : Nat), e = .returned (.tuple #[.int .i64 z, .iface 207 (.pointer (some ⟨N, 0, none⟩))]) ∧ Below w.heap.size w w' := by
  obtain ⟨-, tp, p, hv⟩ := hE
  refine (Tryz.strconv_ParseInt_10_at64_range_var s (by omega) h tp p w hv).mono ?_
  rintro e w' ⟨N, rfl, -, -, hb⟩
  exact ⟨_, N, rfl, hb⟩

set_option maxRecDepth 4000 in
set_option maxHeartbeats 2000000 in
theorem numberToken_any (whole part : ByteArray) (hw0 : 0 < whole.size) (hw : whole.size ≤ 140737488351232) (hp : part.size ≤ 140737488351232) (hdw : digs whole.data.toList) (hdp : digs part.data.toList) (pc : Bool) (w : World) (hE : ErrR w) :
    Calls Tryz.prog 149 #[.string whole, .string part, .bool pc] w (NumP w (numTok whole.data.toList part.data.toList pc)) := by
  have hb1 := (Below.refl w.heap.size w).alloc (Nat.le_refl _) (.cells #[.int .i64 0, .int .i64 0, .string ⟨#[]⟩, .int .i64 0, .int .i64 0] 66)
  have hbox := Box5.new w 66
  have hE1 := hE.later hb1
  have happ : (whole ++ part).data.toList = whole.data.toList ++ part.data.toList := by simp [ByteArray.data_append]
  have hsz : (whole ++ part).size ≤ 281474976710656 := by rw [ByteArray.size_append]; omega
  have hsum : ¬ 9223372036854775807 < whole.size + part.size := by omega
  have hpd := parse_dig (x := whole.data.toList ++ part.data.toList) (by
    intro h
    have := congrArg List.length (List.append_eq_nil_iff.1 h).1
    rw [size_list, List.length_nil] at this
    omega) (fun c hc => by
    rcases List.mem_append.1 hc with h | h
    · exact hdw c h
    · exact hdp c h)
  obtain ⟨o, ho⟩ : ∃ o, numTok whole.data.toList part.data.toList pc = o := ⟨_, rfl⟩
  rw [ho]
  unfold numTok at ho
  obtain ⟨v, hv⟩ : ∃ v, val (whole.data.toList ++ part.data.toList) = v := ⟨_, rfl⟩
  rw [hv] at ho hpd
  by_cases hbig : 9223372036854775807 < v
  · rw [if_pos (.inl hbig)] at ho
    subst ho
    have hpr := fun W h => parse_rng (whole ++ part) hsz (by rw [happ, hpd, if_neg (by omega)]) W h
    clear hpd hv
    go_enter Tryz.func149, Tryz.ntmps149
    go_wp2_with (first | (go_at_call 158; refine (hpr _ hE1).mono ?_; rintro e w2 ⟨z, N, rfl, hb2⟩; have hbx := hbox.later hb2; have hbx' := hbx; obtain ⟨⟨v0, c0⟩, ⟨v1, c1⟩, ⟨v2, c2⟩, ⟨v3, c3⟩, ⟨v4, c4⟩, hf⟩ := hbx'; have f0 := hf 0; have f1 := hf 1; have f2 := hf 2; have f3 := hf 3; have f4 := hf 4; clear hf))
    obtain ⟨q0, q1, q2, q3, q4⟩ := set5_cells hbx (.int .i64 0) (.int .i64 0) (.string ⟨#[]⟩) (.int .i64 0) (.int .i64 0)
    unfold set5 at q0 q1 q2 q3 q4
    refine bodyPost_ret (v := .tuple #[.agg #[.int .i64 0, .int .i64 0, .string ⟨#[]⟩, .int .i64 0, .int .i64 0], .bool false]) (by simp [results, Tryz.results149, go_sem, q0, q1, q2, q3, q4] <;> omega) rfl ⟨0, 0, 0, false, rfl, ?_, ?_, set5_below (below_step hb1 hb2) (Nat.le_refl _) _ _ _ _ _⟩
    · exact fun _ => rfl
    · exact fun wd h => (by cases h)
  · have hpo := fun W => parse_ok (whole ++ part) hsz (v : Int) (by rw [happ, hpd, if_pos (by omega)]) W
    have hi0 : (0 : Int) < whole.size := by omega
    obtain ⟨c, hc⟩ : ∃ c, whole[0]'hw0 = c := ⟨_, rfl⟩
    have hhd : whole.data.toList.head? = some c := by
      rw [List.head?_eq_getElem?, List.getElem?_eq_getElem (by rw [size_list]; exact hw0), ← at_list whole 0 hw0, hc]
    have hidx : ∀ W, (Instr.index 9 (.string whole) (.int .i64 0)).run Tryz.prog W = .ok (.int .u8 (c.toNat : Int)) W := fun W => by
      rw [run_index_string W 9 whole .i64 0 Tryz.underlying9, dif_pos ⟨by omega, hi0⟩, ← hc]
      rfl
    obtain ⟨z, hz⟩ : ∃ z : Int, (c.toNat : Int) = z := ⟨_, rfl⟩
    rw [hz] at hidx
    clear hpd hv hc
    by_cases hlead : 1 < whole.data.toList.length ∧ whole.data.toList.head? = some 48
    · rw [if_pos (.inr hlead)] at ho
      subst ho
      have h1 : (1 : Int) < whole.size := by have := hlead.1; rw [size_list] at this; omega
      have h48 : (z == 48) = true := by
        have := hlead.2
        rw [hhd] at this
        rw [← hz, Option.some.inj this]
        rfl
      clear hlead hhd hz
      go_enter Tryz.func149, Tryz.ntmps149
      go_wp2_with (first | (go_at_call 158; refine (hpo _).mono ?_; rintro e w2 ⟨rfl, hb2⟩; have hbx := hbox.later hb2; have hbx' := hbx; obtain ⟨⟨v0, c0⟩, ⟨v1, c1⟩, ⟨v2, c2⟩, ⟨v3, c3⟩, ⟨v4, c4⟩, hf⟩ := hbx'; have f0 := hf 0; have f1 := hf 1; have f2 := hf 2; have f3 := hf 3; have f4 := hf 4; clear hf))
      obtain ⟨q0, q1, q2, q3, q4⟩ := set5_cells hbx (.int .i64 0) (.int .i64 0) (.string ⟨#[]⟩) (.int .i64 0) (.int .i64 0)
      unfold set5 at q0 q1 q2 q3 q4
      refine bodyPost_ret (v := .tuple #[.agg #[.int .i64 0, .int .i64 0, .string ⟨#[]⟩, .int .i64 0, .int .i64 0], .bool false]) (by simp [results, Tryz.results149, go_sem, q0, q1, q2, q3, q4] <;> omega) rfl ⟨0, 0, 0, false, rfl, ?_, ?_, set5_below (below_step hb1 hb2) (Nat.le_refl _) _ _ _ _ _⟩
      · exact fun _ => rfl
      · exact fun wd h => (by cases h)
    · rw [if_neg (by rintro (h | h); exact hbig h; exact hlead h)] at ho
      have hcs : ¬ (1 : Int) < whole.size ∨ ((1 : Int) < whole.size ∧ (z == 48) = false) := by
        rcases Classical.em (1 < whole.size) with h | h
        · refine .inr ⟨by omega, ?_⟩
          have : c ≠ 48 := fun e => hlead ⟨by rw [size_list]; exact h, by rw [hhd, e]⟩
          rw [← hz]
          simp
          intro h2
          exact this (UInt8.toNat.inj (by show c.toNat = 48; omega))
        · exact .inl (by omega)
      clear hlead hhd hz
      have hvb : v ≤ 9223372036854775807 := by omega
      cases pc with
      | true =>
        rw [if_pos rfl] at ho
        subst ho
        have hpt := fun W => percentToken_any v hvb part hp hdp W
        obtain ⟨o, ho⟩ : ∃ o, pctTok v part.data.toList = o := ⟨_, rfl⟩
        rw [ho] at hpt ⊢
        clear ho
        rcases hcs with h1 | ⟨h1, h48⟩
        all_goals
          go_enter Tryz.func149, Tryz.ntmps149
          go_wp2_with (first | (go_at_call 158; refine (hpo _).mono ?_; rintro e w2 ⟨rfl, hb2⟩) | (go_at_call 159; refine (hpt _).mono ?_; rintro e w3 ⟨K, N, D, b, rfl, hn1, hn2, hb3⟩; have hn1' : Hid _ := hn1; have hn2' : Hid _ := hn2; clear hn1 hn2; have hbx := (hbox.later hb2).later hb3; have hbx' := hbx; obtain ⟨⟨v0, c0⟩, ⟨v1, c1⟩, ⟨v2, c2⟩, ⟨v3, c3⟩, ⟨v4, c4⟩, hf⟩ := hbx'; have f0 := hf 0; have f1 := hf 1; have f2 := hf 2; have f3 := hf 3; have f4 := hf 4; clear hf))
          obtain ⟨q0, q1, q2, q3, q4⟩ := set5_cells hbx (.int .i64 K) (.int .i64 0) (.string ⟨#[]⟩) (.int .i64 N) (.int .i64 D)
          unfold set5 at q0 q1 q2 q3 q4
          refine bodyPost_ret (v := .tuple #[.agg #[.int .i64 K, .int .i64 0, .string ⟨#[]⟩, .int .i64 N, .int .i64 D], .bool b]) (by simp [results, Tryz.results149, go_sem, q0, q1, q2, q3, q4] <;> omega) rfl ⟨K, N, D, b, rfl, ?_, ?_, set5_below (below_step (below_step hb1 hb2) hb3) (Nat.le_refl _) _ _ _ _ _⟩
          · exact hn1'.out
          · exact hn2'.out
      | false =>
        rw [if_neg (by simp)] at ho
        by_cases hpe : part.data.toList = []
        · rw [if_pos hpe] at ho
          have hpb : part.toList.isEmpty = true := by rw [ByteArray.toList_eq, hpe]; rfl
          clear hpe
          by_cases hle : v ≤ 1000000000
          · rw [if_pos hle] at ho
            have hle' : (v : Int) ≤ 1000000000 := by omega
            have ho' : Hid (some (3, [], v, 0) = o) := ho
            clear ho
            rcases hcs with h1 | ⟨h1, h48⟩
            all_goals
              go_enter Tryz.func149, Tryz.ntmps149
              go_wp2_with (first | (go_at_call 158; refine (hpo _).mono ?_; rintro e w2 ⟨rfl, hb2⟩; have hbx := hbox.later hb2; have hbx' := hbx; obtain ⟨⟨v0, c0⟩, ⟨v1, c1⟩, ⟨v2, c2⟩, ⟨v3, c3⟩, ⟨v4, c4⟩, hf⟩ := hbx'; have f0 := hf 0; have f1 := hf 1; have f2 := hf 2; have f3 := hf 3; have f4 := hf 4; clear hf))
              obtain ⟨q0, q1, q2, q3, q4⟩ := set5_cells hbx (.int .i64 3) (.int .i64 0) (.string ⟨#[]⟩) (.int .i64 (v : Int)) (.int .i64 0)
              unfold set5 at q0 q1 q2 q3 q4
              refine bodyPost_ret (v := .tuple #[.agg #[.int .i64 3, .int .i64 0, .string ⟨#[]⟩, .int .i64 (v : Int), .int .i64 0], .bool true]) (by simp [results, Tryz.results149, go_sem, q0, q1, q2, q3, q4] <;> omega) rfl ⟨3, v, 0, true, rfl, ?_, ?_, set5_below (below_step hb1 hb2) (Nat.le_refl _) _ _ _ _ _⟩
              · exact fun h => (by rw [← ho'.out] at h; cases h)
              · intro wd h
                rw [← ho'.out] at h
                obtain rfl := Option.some.inj h
                exact ⟨rfl, rfl, rfl, rfl, rfl⟩
          · rw [if_neg hle] at ho
            have hle' : ¬ (v : Int) ≤ 1000000000 := by omega
            have ho' : Hid (none = o) := ho
            clear ho
            rcases hcs with h1 | ⟨h1, h48⟩
            all_goals
              go_enter Tryz.func149, Tryz.ntmps149
              go_wp2_with (first | (go_at_call 158; refine (hpo _).mono ?_; rintro e w2 ⟨rfl, hb2⟩; have hbx := hbox.later hb2; have hbx' := hbx; obtain ⟨⟨v0, c0⟩, ⟨v1, c1⟩, ⟨v2, c2⟩, ⟨v3, c3⟩, ⟨v4, c4⟩, hf⟩ := hbx'; have f0 := hf 0; have f1 := hf 1; have f2 := hf 2; have f3 := hf 3; have f4 := hf 4; clear hf))
              obtain ⟨q0, q1, q2, q3, q4⟩ := set5_cells hbx (.int .i64 3) (.int .i64 0) (.string ⟨#[]⟩) (.int .i64 (v : Int)) (.int .i64 0)
              unfold set5 at q0 q1 q2 q3 q4
              refine bodyPost_ret (v := .tuple #[.agg #[.int .i64 3, .int .i64 0, .string ⟨#[]⟩, .int .i64 (v : Int), .int .i64 0], .bool false]) (by simp [results, Tryz.results149, go_sem, q0, q1, q2, q3, q4] <;> omega) rfl ⟨3, v, 0, false, rfl, ?_, ?_, set5_below (below_step hb1 hb2) (Nat.le_refl _) _ _ _ _ _⟩
              · exact fun _ => rfl
              · exact fun wd h => (by rw [← ho'.out] at h; cases h)
        · rw [if_neg hpe] at ho
          have hpb : part.toList.isEmpty = false := by
            rw [ByteArray.toList_eq]
            cases hl : part.data.toList with
            | nil => exact absurd hl hpe
            | cons _ _ => rfl
          have hpl : part.data.toList.length = part.size := size_list part
          rw [hpl] at ho
          clear hpe hpl
          by_cases hle : part.size = 2 ∧ v ≤ 9999999999999
          · rw [if_pos hle] at ho
            have hl2 : ((part.size : Int) == 2) = true := by rw [hle.1]; rfl
            have hle' : (v : Int) ≤ 9999999999999 := by have := hle.2; omega
            have ho' : Hid (some (2, [], v, 0) = o) := ho
            clear ho hle
            rcases hcs with h1 | ⟨h1, h48⟩
            all_goals
              go_enter Tryz.func149, Tryz.ntmps149
              go_wp2_with (first | (go_at_call 158; refine (hpo _).mono ?_; rintro e w2 ⟨rfl, hb2⟩; have hbx := hbox.later hb2; have hbx' := hbx; obtain ⟨⟨v0, c0⟩, ⟨v1, c1⟩, ⟨v2, c2⟩, ⟨v3, c3⟩, ⟨v4, c4⟩, hf⟩ := hbx'; have f0 := hf 0; have f1 := hf 1; have f2 := hf 2; have f3 := hf 3; have f4 := hf 4; clear hf))
              obtain ⟨q0, q1, q2, q3, q4⟩ := set5_cells hbx (.int .i64 2) (.int .i64 0) (.string ⟨#[]⟩) (.int .i64 (v : Int)) (.int .i64 0)
              unfold set5 at q0 q1 q2 q3 q4
              refine bodyPost_ret (v := .tuple #[.agg #[.int .i64 2, .int .i64 0, .string ⟨#[]⟩, .int .i64 (v : Int), .int .i64 0], .bool true]) (by simp [results, Tryz.results149, go_sem, q0, q1, q2, q3, q4] <;> omega) rfl ⟨2, v, 0, true, rfl, ?_, ?_, set5_below (below_step hb1 hb2) (Nat.le_refl _) _ _ _ _ _⟩
              · exact fun h => (by rw [← ho'.out] at h; cases h)
              · intro wd h
                rw [← ho'.out] at h
                obtain rfl := Option.some.inj h
                exact ⟨rfl, rfl, rfl, rfl, rfl⟩
          · rw [if_neg hle] at ho
            have ho' : Hid (none = o) := ho
            have hcs2 : ((part.size : Int) == 2) = false ∨ (((part.size : Int) == 2) = true ∧ ¬ (v : Int) ≤ 9999999999999) := by
              rcases Classical.em (part.size = 2) with h | h
              · exact .inr ⟨by rw [h]; rfl, by have := fun x => hle ⟨h, x⟩; omega⟩
              · exact .inl (by simp; omega)
            clear ho hle
            rcases hcs with h1 | ⟨h1, h48⟩ <;> rcases hcs2 with h2 | ⟨h2, h3⟩
            all_goals
              go_enter Tryz.func149, Tryz.ntmps149
              go_wp2_with (first | (go_at_call 158; refine (hpo _).mono ?_; rintro e w2 ⟨rfl, hb2⟩; have hbx := hbox.later hb2; have hbx' := hbx; obtain ⟨⟨v0, c0⟩, ⟨v1, c1⟩, ⟨v2, c2⟩, ⟨v3, c3⟩, ⟨v4, c4⟩, hf⟩ := hbx'; have f0 := hf 0; have f1 := hf 1; have f2 := hf 2; have f3 := hf 3; have f4 := hf 4; clear hf))
              obtain ⟨q0, q1, q2, q3, q4⟩ := set5_cells hbx (.int .i64 2) (.int .i64 0) (.string ⟨#[]⟩) (.int .i64 (v : Int)) (.int .i64 0)
              unfold set5 at q0 q1 q2 q3 q4
              refine bodyPost_ret (v := .tuple #[.agg #[.int .i64 2, .int .i64 0, .string ⟨#[]⟩, .int .i64 (v : Int), .int .i64 0], .bool false]) (by simp [results, Tryz.results149, go_sem, q0, q1, q2, q3, q4] <;> omega) rfl ⟨2, v, 0, false, rfl, ?_, ?_, set5_below (below_step hb1 hb2) (Nat.le_refl _) _ _ _ _ _⟩
              · exact fun _ => rfl
              · exact fun wd h => (by rw [← ho'.out] at h; cases h)

end Go.Proofs.YtekapipfaahhcaaGreatDoor

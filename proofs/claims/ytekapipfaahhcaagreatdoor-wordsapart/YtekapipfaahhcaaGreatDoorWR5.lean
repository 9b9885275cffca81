import Derived.Test.YtekapipfaahhcaaGreatDoorWR4
namespace Go.Proofs.YtekapipfaahhcaaGreatDoor.Q
open Go.RowKit

theorem slice_one (s : ByteArray) (p : Nat) (h : p < s.data.toList.length) : ∃ x : ByteArray, x.data.toList = [s.data.toList[p]] ∧ ∀ W, (Instr.slice 9 (.string s) (some (.int .i64 (p : Int))) (some (.int .i64 ((p : Int) + 1))) none).run Tryz.prog W = .ok (.string x) W := by
  have hls := size_list s
  refine ⟨s.extract p (p + 1), ?_, fun W => ?_⟩
  · rw [slice_list, slc_rn, drop_cons h]
    rfl
  · rw [run_slice_string W 9 s .i64 .i64 (p : Int) ((p : Int) + 1) Tryz.underlying9 (by omega) (by omega) (by omega), show ((p : Int) + 1).toNat = p + 1 from by omega]
    rfl

set_option maxRecDepth 8000 in
set_option maxHeartbeats 4000000 in
theorem text_any (s : ByteArray) (a : Nat) (ha : a < s.size) (hs : s.size ≤ 8000) (w : World) :
    Calls Tryz.prog 75 #[.string s, .int .i64 (a : Int)] w fun e w' => e = .returned (refV (quotedS s.data.toList a)) ∧ Below w.heap.size w w' := by
  have hb1 := (Below.refl w.heap.size w).alloc (Nat.le_refl _) (.cells #[.int .i64 0, .int .i64 0, .string ⟨#[]⟩, .int .i64 0, .int .i64 0] 66)
  have hbox := Box5.new w 66
  obtain ⟨l, hl⟩ : ∃ l, s.data.toList = l := ⟨_, rfl⟩
  have hls : l.length = s.size := by rw [← hl]; exact size_list s
  rw [hl]
  obtain ⟨R, hR⟩ : ∃ R, quotedS l a = R := ⟨_, rfl⟩
  have hR' : Hid (qgo a (l.drop (a + 1)) (a + 1) none [] = R) := hR
  rw [hR]
  clear hR
  clear hb1 hbox
  go_enter Tryz.func75, Tryz.ntmps75
  go_wp2_with fail
  go_loopw [7, 8] (fun kv tv wr => ∃ (p : Nat) (T : ByteArray) (acc : List UInt8), p ≤ s.size ∧ kv = .int .i64 (p : Int) ∧ tv = .string T ∧ Hid (T.data.toList = acc) ∧ T.size ≤ p ∧ Hid (qgo a (l.drop p) p none acc = R) ∧ wr = (w.alloc (.cells #[.int .i64 0, .int .i64 0, .string ⟨#[]⟩, .int .i64 0, .int .i64 0] 66))) (fun kv _ _ => s.size - (intOf kv).toNat)
  case atStart => exact ⟨a + 1, ⟨#[]⟩, [], by omega, by go_num, rfl, rfl, Nat.zero_le _, hR'.out, rfl⟩
  case round =>
    obtain ⟨p, T, acc, hp, rfl, rfl, hT, hTs, hq, rfl⟩ := hrel
    clear hR'
    have hTl : acc.length = T.size := by rw [← hT.out]; exact size_list T
    by_cases hlt : p < s.size
    · have hlt' : (p : Int) < (s.size : Int) := by omega
      have hpl : p < l.length := by omega
      have hix := idx_at s p (by rw [hl]; omega)
      simp only [hl] at hix
      obtain ⟨x1, hx1, hsl1⟩ := slice_one s p (by rw [hl]; exact hpl)
      simp only [hl] at hx1
      obtain ⟨c, hc⟩ : ∃ c, l[p] = c := ⟨_, rfl⟩
      rw [hc] at hix hx1
      rw [Hid, drop_cons hpl, hc] at hq
      simp only [qgo] at hq
      have hc256 : c.toNat < 256 := c.toNat_lt
      obtain ⟨z, hz⟩ : ∃ z : Int, z = (c.toNat : Int) := ⟨_, rfl⟩
      rw [← hz] at hix
      have nq : ∀ k : UInt8, (z == (k.toNat : Int)) = decide (c = k) := fun k => by
        rw [hz]
        by_cases hck : c = k
        · subst hck; simp
        · have : ¬ (c.toNat : Int) = (k.toNat : Int) := fun h => hck (UInt8.toNat.inj (by omega))
          simp [hck, this]
      have n34 : (z == 34) = decide (c = 34) := nq 34
      have n92 : (z == 92) = decide (c = 92) := nq 92
      have n10 : (z == 10) = decide (c = 10) := nq 10
      have m34 : (z != 34) = !decide (c = 34) := by rw [bne, n34]
      clear nq n34
      by_cases h34 : c = 34
      · subst h34
        rw [if_neg (by decide), if_pos rfl] at hq
        have m34' : (z != 34) = false := m34
        by_cases hlong : 40 < acc.length
        · rw [if_pos hlong] at hq
          have hRv : Hid (refV (.error (a, 40)) = refV R) := by unfold Hid; rw [hq]
          have hl' : (40 : Int) < (T.size : Int) := by omega
          clear hq m34 n92 n10 hz hc hx1 hsl1
          go_wp2_with fail
          refine bodyPost_ret (v := .tuple #[.agg #[.int .i64 0, .int .i64 0, .string ⟨#[]⟩, .int .i64 0, .int .i64 0], .int .i64 (a : Int), .int .i64 40]) (by simp [results, Tryz.results75, go_sem]) rfl ⟨?_, (Below.refl _ _).alloc (Nat.le_refl _) _⟩
          rw [← hRv.out]
          rfl
        · rw [if_neg hlong] at hq
          have hRv : Hid (refV (.ok ((6, acc, 0, 0), p + 1)) = refV R) := by unfold Hid; rw [hq]
          have hl' : ¬ (40 : Int) < (T.size : Int) := by omega
          clear hq m34 n92 n10 hz hc hx1 hsl1
          go_wp2_with fail
          refine bodyPost_ret (v := .tuple #[.agg #[.int .i64 6, .int .i64 0, .string T, .int .i64 0, .int .i64 0], .int .i64 ((p : Int) + 1), .int .i64 0]) (by simp [results, Tryz.results75, go_sem]) rfl ⟨?_, (Below.refl _ _).alloc (Nat.le_refl _) _⟩
          rw [← hRv.out]
          rw [mk_list T, hT.out]
          simp [refV, tokC]
      · rw [decide_eq_false h34] at m34
        by_cases h92 : c = 92
        · subst h92
          rw [if_pos rfl] at hq
          have z10 : (z == 10) = false := n10
          have hz92 : z = 92 := hz
          have hw34 := prefix_one 34 l (p + 1)
          have hw92 := prefix_one 92 l (p + 1)
          have hi34 := fun W => is_any s (p + 1) (by omega) (by omega) ⟨#[34]⟩ ⟨by decide, by decide⟩ (l[p + 1]? == some 34) (by rw [hl]; exact hw34.symm) W
          have hi92 := fun W => is_any s (p + 1) (by omega) (by omega) ⟨#[92]⟩ ⟨by decide, by decide⟩ (l[p + 1]? == some 92) (by rw [hl]; exact hw92.symm) W
          rw [show ((p + 1 : Nat) : Int) = (p : Int) + 1 from by omega] at hi34 hi92
          subst hz92
          clear hw34 hw92 m34 n92 n10 hz hc hx1 hsl1 h34
          by_cases hp1 : p + 1 < l.length
          · obtain ⟨x2, hx2, hsl2⟩ := slice_one s (p + 1) (by rw [hl]; exact hp1)
            simp only [hl] at hx2
            rw [show ((p + 1 : Nat) : Int) = (p : Int) + 1 from by omega] at hsl2
            have hsl3 := hsl2
            rw [show (p : Int) + 1 + 1 = (p : Int) + 2 from by omega] at hsl3
            obtain ⟨d, hd⟩ : ∃ d, l[p + 1] = d := ⟨_, rfl⟩
            rw [List.getElem?_eq_getElem hp1, hd] at hi34 hi92
            rw [hd] at hx2
            rw [drop_cons hp1, hd] at hq
            simp only [qgo] at hq
            by_cases hok : d = 34 ∨ d = 92
            · rw [if_pos hok] at hq
              have hT' : Hid ((T ++ x2).data.toList = acc ++ [d]) := by unfold Hid; rw [ByteArray.data_append, Array.toList_append, hT.out, hx2]
              have hTs' : (T ++ x2).size ≤ p + 2 := by rw [← size_list, hT'.out, List.length_append]; simp only [List.length_cons, List.length_nil]; omega
              have hq' : Hid (qgo a (l.drop (p + 2)) (p + 2) none (acc ++ [d]) = R) := hq
              have hxs : x2.size = 1 := by rw [← size_list, hx2]; rfl
              have hTp : T.size ≤ 8000 := by omega
              have tok : True := trivial
              have hcs : ((some d == some (34 : UInt8)) = true) ∨ ((some d == some (34 : UInt8)) = false ∧ (some d == some (92 : UInt8)) = true) := by
                rcases hok with rfl | rfl
                · exact .inl rfl
                · exact .inr ⟨rfl, rfl⟩
              clear hq hok hx2 hd
              rcases hcs with e1 | ⟨e1, e2⟩
              · rw [e1] at hi34
                go_wp2_with (first | (go_at_call 76; have _u := tok; clear tok; refine (hi34 _).mono ?_; rintro e w9 ⟨rfl, hw9⟩; subst w9) | (go_at_call 76; refine (hi92 _).mono ?_; rintro e w9 ⟨rfl, hw9⟩; subst w9))
                go_roundw
                case rel => exact ⟨p + 2, T ++ x2, acc ++ [d], by omega, by go_num, rfl, hT'.out, hTs', hq'.out, trivial⟩
                case measure => simp [intOf]; omega
              · rw [e1] at hi34
                rw [e2] at hi92
                go_wp2_with (first | (go_at_call 76; have _u := tok; clear tok; refine (hi34 _).mono ?_; rintro e w9 ⟨rfl, hw9⟩; subst w9) | (go_at_call 76; refine (hi92 _).mono ?_; rintro e w9 ⟨rfl, hw9⟩; subst w9))
                go_roundw
                case rel => exact ⟨p + 2, T ++ x2, acc ++ [d], by omega, by go_num, rfl, hT'.out, hTs', hq'.out, trivial⟩
                case measure => simp [intOf]; omega
            · rw [if_neg hok] at hq
              have hRv : Hid (refV (.error (p, 43)) = refV R) := by unfold Hid; rw [hq]
              have e1 : (some d == some (34 : UInt8)) = false := by simp; exact fun h => hok (.inl h)
              have e2 : (some d == some (92 : UInt8)) = false := by simp; exact fun h => hok (.inr h)
              rw [e1] at hi34
              rw [e2] at hi92
              have tok : True := trivial
              clear hq hok hx2 hd e1 e2
              go_wp2_with (first | (go_at_call 76; have _u := tok; clear tok; refine (hi34 _).mono ?_; rintro e w9 ⟨rfl, hw9⟩; subst w9) | (go_at_call 76; refine (hi92 _).mono ?_; rintro e w9 ⟨rfl, hw9⟩; subst w9))
              refine bodyPost_ret (v := .tuple #[.agg #[.int .i64 0, .int .i64 0, .string ⟨#[]⟩, .int .i64 0, .int .i64 0], .int .i64 (p : Int), .int .i64 43]) (by simp [results, Tryz.results75, go_sem]) rfl ⟨?_, (Below.refl _ _).alloc (Nat.le_refl _) _⟩
              rw [← hRv.out]
              rfl
          · rw [List.getElem?_eq_none (by omega)] at hi34 hi92
            rw [List.drop_of_length_le (by omega)] at hq
            simp only [qgo] at hq
            have hRv : Hid (refV (.error (p, 43)) = refV R) := by unfold Hid; rw [hq]
            rw [show ((none : Option UInt8) == some 34) = false from rfl] at hi34
            rw [show ((none : Option UInt8) == some 92) = false from rfl] at hi92
            have tok : True := trivial
            clear hq
            go_wp2_with (first | (go_at_call 76; have _u := tok; clear tok; refine (hi34 _).mono ?_; rintro e w9 ⟨rfl, hw9⟩; subst w9) | (go_at_call 76; refine (hi92 _).mono ?_; rintro e w9 ⟨rfl, hw9⟩; subst w9))
            refine bodyPost_ret (v := .tuple #[.agg #[.int .i64 0, .int .i64 0, .string ⟨#[]⟩, .int .i64 0, .int .i64 0], .int .i64 (p : Int), .int .i64 43]) (by simp [results, Tryz.results75, go_sem]) rfl ⟨?_, (Below.refl _ _).alloc (Nat.le_refl _) _⟩
            rw [← hRv.out]
            rfl
        · rw [decide_eq_false h92] at n92
          rw [if_neg h92, if_neg h34] at hq
          by_cases h10 : c = 10
          · rw [if_pos h10] at hq
            rw [decide_eq_true h10] at n10
            have hRv : Hid (refV (.error (a, 43)) = refV R) := by unfold Hid; rw [hq]
            clear hq hz hc hx1 hsl1 h34 h92 h10
            go_wp2_with fail
            refine bodyPost_ret (v := .tuple #[.agg #[.int .i64 0, .int .i64 0, .string ⟨#[]⟩, .int .i64 0, .int .i64 0], .int .i64 (a : Int), .int .i64 43]) (by simp [results, Tryz.results75, go_sem]) rfl ⟨?_, (Below.refl _ _).alloc (Nat.le_refl _) _⟩
            rw [← hRv.out]
            rfl
          · rw [if_neg h10] at hq
            rw [decide_eq_false h10] at n10
            by_cases hfin : fineB c = false
            · rw [if_pos hfin] at hq
              have hRv : Hid (refV (.error (p, 43)) = refV R) := by unfold Hid; rw [hq]
              have hcs : z < 32 ∨ (¬ z < 32 ∧ 126 < z) := by
                unfold fineB at hfin
                have := of_decide_eq_false hfin
                omega
              clear hq hz hc hx1 hsl1 h34 h92 h10 hfin
              rcases hcs with e1 | ⟨e1, e2⟩
              · go_wp2_with fail
                refine bodyPost_ret (v := .tuple #[.agg #[.int .i64 0, .int .i64 0, .string ⟨#[]⟩, .int .i64 0, .int .i64 0], .int .i64 (p : Int), .int .i64 43]) (by simp [results, Tryz.results75, go_sem]) rfl ⟨?_, (Below.refl _ _).alloc (Nat.le_refl _) _⟩
                rw [← hRv.out]
                rfl
              · go_wp2_with fail
                refine bodyPost_ret (v := .tuple #[.agg #[.int .i64 0, .int .i64 0, .string ⟨#[]⟩, .int .i64 0, .int .i64 0], .int .i64 (p : Int), .int .i64 43]) (by simp [results, Tryz.results75, go_sem]) rfl ⟨?_, (Below.refl _ _).alloc (Nat.le_refl _) _⟩
                rw [← hRv.out]
                rfl
            · rw [if_neg hfin] at hq
              have hfb : 32 ≤ c.toNat ∧ c.toNat ≤ 126 := by
                have : fineB c = true := by simpa using hfin
                unfold fineB at this
                exact of_decide_eq_true this
              have e1 : ¬ z < 32 := by omega
              have e2 : ¬ 126 < z := by omega
              have hT' : Hid ((T ++ x1).data.toList = acc ++ [c]) := by unfold Hid; rw [ByteArray.data_append, Array.toList_append, hT.out, hx1]
              have hTs' : (T ++ x1).size ≤ p + 1 := by rw [← size_list, hT'.out, List.length_append]; simp only [List.length_cons, List.length_nil]; omega
              have hq' : Hid (qgo a (l.drop (p + 1)) (p + 1) none (acc ++ [c]) = R) := hq
              have hxs : x1.size = 1 := by rw [← size_list, hx1]; rfl
              have hTp : T.size ≤ 8000 := by omega
              clear hq hz hc hx1 h34 h92 h10 hfin hfb
              go_wp2_with fail
              go_roundw
              case rel => exact ⟨p + 1, T ++ x1, acc ++ [c], by omega, by go_num, rfl, hT'.out, hTs', hq'.out, trivial⟩
              case measure => simp [intOf]; omega
    · obtain rfl : p = s.size := by omega
      rw [Hid, List.drop_of_length_le (by omega)] at hq
      simp only [qgo] at hq
      have hRv : Hid (refV (.error (a, 43)) = refV R) := by unfold Hid; rw [hq]
      clear hq
      go_wp2_with fail
      refine bodyPost_ret (v := .tuple #[.agg #[.int .i64 0, .int .i64 0, .string ⟨#[]⟩, .int .i64 0, .int .i64 0], .int .i64 (a : Int), .int .i64 43]) (by simp [results, Tryz.results75, go_sem]) rfl ⟨?_, (Below.refl _ _).alloc (Nat.le_refl _) _⟩
      rw [← hRv.out]
      rfl

end Go.Proofs.YtekapipfaahhcaaGreatDoor.Q

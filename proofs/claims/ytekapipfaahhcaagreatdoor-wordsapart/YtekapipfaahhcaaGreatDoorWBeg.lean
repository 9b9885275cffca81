import Derived.Test.YtekapipfaahhcaaGreatDoorWCls
import Derived.WalkMore
namespace Go.Proofs.YtekapipfaahhcaaGreatDoor
open Go.RowKit

/-- What a step of a range over a text gives: the rune, how many bytes it takes. -/
theorem next_any (t : ByteArray) (pos : Nat) (h : pos < t.size) (W : World) (k : Nat) (hit : W.heap[k]? = some (.stringIter t pos)) :
    ∃ (r w : Nat), r ≤ 2147483647 ∧ (∀ ty, (Instr.next (.pointer (some ⟨k, 0, none⟩)) true ty).run Tryz.prog W = .ok (.tuple #[.bool true, .int .i64 pos, .int .i32 (r : Int)]) (W.iterAt k t (pos + w))) ∧
      ((r = (t[pos]'h).toNat ∧ w = 1 ∧ r < 128) ∨ (128 ≤ r ∧ 128 ≤ (t[pos]'h).toNat ∧ 1 ≤ w ∧ pos + w ≤ t.size ∧ ∀ j (_ : j < w) (hj : pos + j < t.size), 128 ≤ (t[pos + j]'hj).toNat)) := by
  by_cases ha : (t[pos]'h).toNat < 128
  · exact ⟨_, 1, by omega, fun ty => Lib.run_next_ascii_at W k t pos ty hit h ha, .inl ⟨rfl, rfl, ha⟩⟩
  · have hw := decode_width t pos h (by omega)
    exact ⟨_, _, decode_le t pos, fun ty => Lib.run_next_any_at W k t pos ty hit h, .inr ⟨(decode_high t pos h (by omega)).1, by omega, hw.1, hw.2.1, hw.2.2⟩⟩

theorem and_u8' : ∀ a b : Fin 128, bits .and .u8 (a.val : Int) (b.val : Int) = ((a.val &&& b.val : Nat) : Int) := by decide +kernel
theorem and_u8 (a b : Nat) (ha : a < 128) (hb : b < 128) : bits .and .u8 (a : Int) (b : Int) = ((a &&& b : Nat) : Int) := and_u8' ⟨a, ha⟩ ⟨b, hb⟩

set_option maxRecDepth 4000 in
set_option maxHeartbeats 2000000 in
/-- Where blanks and remarks end. -/
theorem begin_any (s : ByteArray) (a : Nat) (ha : a ≤ s.size) (hs : s.size ≤ 140737488351232) (w : World) (hC : Cls w) :
    Calls Tryz.prog 40 #[.string s, .int .i64 a] w fun e w' => e = .returned (.int .i64 ((a + skp (s.data.toList.drop a) false : Nat) : Int)) ∧ Below w.heap.size w w' := by
  have ha' : (a : Int) ≤ s.size := by omega
  have ha0 : (0 : Int) ≤ (a : Int) := by omega
  obtain ⟨t, ht⟩ : ∃ t, s.extract a s.size = t := ⟨_, rfl⟩
  have htl : t.data.toList = s.data.toList.drop a := by rw [← ht]; exact ext_list s a
  have hts : t.size = s.size - a := by rw [← size_list t, htl, List.length_drop, size_list]
  have hext : ∀ W, (Instr.slice 9 (.string s) (some (.int .i64 (a : Int))) none none).run Tryz.prog W = .ok (.string t) W := fun W => by
    rw [← ht]
    have := run_slice_string_l (P := Tryz.prog) (w := W) (t := 9) (s := s) Tryz.underlying9 .i64 (a : Int) ha0 ha'
    simpa using this
  obtain ⟨N, hN⟩ : ∃ N, a + skp (s.data.toList.drop a) false = N := ⟨_, rfl⟩
  have hN' : Hid (a + skp t.data.toList false = N) := by unfold Hid; rw [htl]; exact hN
  rw [hN]
  clear ht htl hN
  go_enter Tryz.func40, Tryz.ntmps40
  go_wp2_with fail
  go_step3
  go_wp2_with fail
  go_step3
  go_wp2_with fail
  go_loopw [5, 6] (fun st rm wr => ∃ (pos : Nat) (b : Bool), pos ≤ t.size ∧ wr.heap[w.heap.size]? = some (.stringIter t pos) ∧ st = .int .i64 (s.size : Int) ∧ rm = .bool b ∧ a + (pos + skp (t.data.toList.drop pos) b) = N ∧ Below w.heap.size w wr) (fun _ _ wr => t.size - wr.iterPos w.heap.size)
  case atStart => exact ⟨0, false, by omega, World.iter_heap w t 0, rfl, rfl, by have := hN'.out; simpa using this, (Below.refl _ _).alloc (Nat.le_refl _) _⟩
  case round =>
    obtain ⟨pos, b, hps, hit, rfl, rfl, hsk, hB⟩ := hrel
    have hpos0 : Hid (wr.iterPos w.heap.size = pos) := iterPos_of hit
    by_cases hp : pos < t.size
    · obtain ⟨r, wd, hr, hnx, hcase⟩ := next_any t pos hp wr w.heap.size hit
      have hpl : pos < t.data.toList.length := by rw [size_list]; exact hp
      have hit2 := Lib.iterAt_heap wr w.heap.size t pos (pos + wd) hit
      have hB2 := Lib.below_iterAt hB (k := w.heap.size) (Nat.le_refl _) t (pos + wd)
      generalize wr.iterAt w.heap.size t (pos + wd) = W1 at *
      have hcl := class_at (r : Int) r rfl hr (cls r : Int) rfl W1 (hC.later hB2)
      rw [drop_cons hpl, skp_cons] at hsk
      have hclc : cls (t.data.toList[pos]).toNat = cls r := by
        rw [← at_list t pos hp]
        rcases hcase with ⟨h1, -, -⟩ | ⟨h1, h2, -⟩
        · rw [h1]
        · rw [cls_high h1, cls_high h2]
      rw [hclc] at hsk
      have hwd : pos + wd ≤ t.size ∧ 1 ≤ wd := by
        rcases hcase with ⟨-, rfl, -⟩ | ⟨-, -, h3, h4, -⟩
        · exact ⟨by omega, by omega⟩
        · exact ⟨h4, h3⟩
      -- what is passed over goes on behind the rune
      have hgo : ∀ b', (128 ≤ r → b' = true) → skp (t.data.toList.drop (pos + 1)) b' + 1 = wd + skp (t.data.toList.drop (pos + wd)) b' := fun b' hb' => by
        rcases hcase with ⟨-, rfl, -⟩ | ⟨h1, h2, h3, h4, h5⟩
        · omega
        · obtain rfl := hb' h1
          have e := skp_high t.data.toList wd pos (by rw [size_list]; exact h4) (fun k hk hl => by rw [← at_list t (pos + k) (by rw [size_list] at hl; exact hl)]; exact h5 k hk _)
          rw [drop_cons hpl, skp_cons, ← at_list t pos hp, cls_high h2, if_neg (by omega), if_neg (by omega), if_neg (by simp)] at e
          omega
      have hz : (cls r : Int) = 4 ∨ (cls r : Int) ≠ 4 := by omega
      obtain ⟨z, hzc⟩ : ∃ z : Int, z = (cls r : Int) := ⟨_, rfl⟩
      rw [← hzc] at hcl
      have hr128 : 128 ≤ r → cls r = 0 := fun h => cls_high h
      have hsk' : Hid _ := hsk
      have hgo' : Hid _ := hgo
      clear hsk hgo hclc hcase hz
      by_cases h4 : cls r = 4
      · have hz4 : (z == 4) = true := by rw [hzc, h4]; rfl
        have hnew : Hid (a + (pos + wd + skp (t.data.toList.drop (pos + wd)) true) = N) := by
          unfold Hid
          have e1 := hsk'.out
          rw [if_pos h4] at e1
          have e2 := hgo'.out true (fun _ => rfl)
          omega
        clear hzc h4 hr128 hsk' hgo'
        go_wp2_with (first | (go_at_call 77; refine hcl.mono ?_; rintro e w9 ⟨rfl, hw9⟩; subst w9))
        go_roundw
        case rel => exact ⟨pos + wd, true, by omega, hit2, rfl, rfl, hnew.out, hB2⟩
        case measure => rw [iterPos_of hit2, hpos0.out]; omega
      · have hz4 : (z == 4) = false := by rw [hzc]; simp; omega
        by_cases h2 : cls r = 2
        · have hz2 : (z == 2) = true := by rw [hzc, h2]; rfl
          have hnew : Hid (a + pos = N) := by
            unfold Hid
            have e1 := hsk'.out
            rw [if_neg h4, if_pos h2] at e1
            omega
          clear hzc h4 hr128 hsk' hgo' h2
          go_wp2_with (first | (go_at_call 77; refine hcl.mono ?_; rintro e w9 ⟨rfl, hw9⟩; subst w9))
          first | rw [Exit.noGoto_ret] | skip
          go_ret
          exact ⟨by have := hnew.out; rw [← this]; simp, hB2⟩
        · have hz2 : (z == 2) = false := by rw [hzc]; simp; omega
          by_cases h1 : cls r ≠ 1 ∧ b = false
          · have hz1 : (z != 1) = true := by rw [hzc]; simp; omega
            obtain ⟨h1, rfl⟩ := h1
            have hnew : Hid (a + pos = N) := by
              unfold Hid
              have e1 := hsk'.out
              rw [if_neg h4, if_neg h2, if_pos ⟨h1, rfl⟩] at e1
              omega
            clear hzc h4 hr128 hsk' hgo' h2 h1
            go_wp2_with (first | (go_at_call 77; refine hcl.mono ?_; rintro e w9 ⟨rfl, hw9⟩; subst w9))
            first | rw [Exit.noGoto_ret] | skip
            go_ret
            exact ⟨by have := hnew.out; rw [← this]; simp, hB2⟩
          · have hnew : Hid (a + (pos + wd + skp (t.data.toList.drop (pos + wd)) b) = N) := by
              unfold Hid
              have e1 := hsk'.out
              rw [if_neg h4, if_neg h2, if_neg h1] at e1
              have e2 := hgo'.out b (fun h => by
                have := hr128 h
                cases b with
                | true => rfl
                | false => exact absurd ⟨by omega, rfl⟩ h1)
              omega
            have hcs : ((z != 1) = true ∧ b = true) ∨ (z != 1) = false := by
              by_cases hb : b = true
              · by_cases hz1 : z = 1
                · exact .inr (by rw [hz1]; rfl)
                · exact .inl ⟨by simpa using hz1, hb⟩
              · right
                have : cls r = 1 := by
                  rcases Classical.em (cls r = 1) with h | h
                  · exact h
                  · exact absurd ⟨h, by simpa using hb⟩ h1
                rw [hzc, this]
                rfl
            clear hzc h4 hr128 hsk' hgo' h2 h1
            rcases hcs with ⟨hz1, rfl⟩ | hz1
            all_goals
              go_wp2_with (first | (go_at_call 77; refine hcl.mono ?_; rintro e w9 ⟨rfl, hw9⟩; subst w9))
              go_roundw
              case rel => exact ⟨pos + wd, _, by omega, hit2, rfl, rfl, hnew.out, hB2⟩
              case measure => rw [iterPos_of hit2, hpos0.out]; omega
    · obtain rfl : pos = t.size := by omega
      have hnx : ∀ ty, (Instr.next (.pointer (some ⟨w.heap.size, 0, none⟩)) true ty).run Tryz.prog wr = _ := fun ty => Lib.run_next_end_at wr w.heap.size t t.size ty hit hp
      have hNs : Hid (N = s.size) := by
        unfold Hid
        rw [List.drop_of_length_le (by rw [size_list]; omega)] at hsk
        simp only [skp] at hsk
        omega
      clear hsk hit
      go_wp2_with fail
      first | rw [Exit.noGoto_ret] | skip
      go_ret
      exact ⟨by rw [hNs.out]; rfl, hB⟩

set_option maxRecDepth 4000 in
set_option maxHeartbeats 2000000 in
/-- Where bytes of some classes end. -/
theorem runEnd_any (s : ByteArray) (a of : Nat) (ha : a ≤ s.size) (hs : s.size ≤ 140737488351232) (hof : of < 128) (w : World) (hC : Cls w) :
    Calls Tryz.prog 134 #[.string s, .int .i64 a, .int .u8 of] w fun e w' => e = .returned (.int .i64 ((a + rn of (s.data.toList.drop a) : Nat) : Int)) ∧ Below w.heap.size w w' := by
  have ha' : (a : Int) ≤ s.size := by omega
  have ha0 : (0 : Int) ≤ (a : Int) := by omega
  obtain ⟨t, ht⟩ : ∃ t, s.extract a s.size = t := ⟨_, rfl⟩
  have htl : t.data.toList = s.data.toList.drop a := by rw [← ht]; exact ext_list s a
  have hts : t.size = s.size - a := by rw [← size_list t, htl, List.length_drop, size_list]
  have hext : ∀ W, (Instr.slice 9 (.string s) (some (.int .i64 (a : Int))) none none).run Tryz.prog W = .ok (.string t) W := fun W => by
    rw [← ht]
    have := run_slice_string_l (P := Tryz.prog) (w := W) (t := 9) (s := s) Tryz.underlying9 .i64 (a : Int) ha0 ha'
    simpa using this
  obtain ⟨N, hN⟩ : ∃ N, a + rn of (s.data.toList.drop a) = N := ⟨_, rfl⟩
  have hN' : Hid (a + rn of t.data.toList = N) := by unfold Hid; rw [htl]; exact hN
  rw [hN]
  clear ht htl hN
  go_enter Tryz.func134, Tryz.ntmps134
  go_wp2_with fail
  go_step3
  go_wp2_with fail
  go_step3
  go_wp2_with fail
  go_loopw [7] (fun st wr => ∃ pos : Nat, pos ≤ t.size ∧ wr.heap[w.heap.size]? = some (.stringIter t pos) ∧ st = .int .i64 ((a + pos : Nat) : Int) ∧ a + (pos + rn of (t.data.toList.drop pos)) = N ∧ Below w.heap.size w wr) (fun _ wr => t.size - wr.iterPos w.heap.size)
  case atStart => exact ⟨0, by omega, World.iter_heap w t 0, rfl, by have := hN'.out; simpa using this, (Below.refl _ _).alloc (Nat.le_refl _) _⟩
  case round =>
    obtain ⟨pos, hps, hit, rfl, hsk, hB⟩ := hrel
    have hpos0 : Hid (wr.iterPos w.heap.size = pos) := iterPos_of hit
    by_cases hp : pos < t.size
    · obtain ⟨r, wd, hr, hnx, hcase⟩ := next_any t pos hp wr w.heap.size hit
      have hpl : pos < t.data.toList.length := by rw [size_list]; exact hp
      have hit2 := Lib.iterAt_heap wr w.heap.size t pos (pos + wd) hit
      have hB2 := Lib.below_iterAt hB (k := w.heap.size) (Nat.le_refl _) t (pos + wd)
      generalize wr.iterAt w.heap.size t (pos + wd) = W1 at *
      have hcl := class_at (r : Int) r rfl hr (cls r : Int) rfl W1 (hC.later hB2)
      rw [drop_cons hpl, rn_cons] at hsk
      have hclc : cls (t.data.toList[pos]).toNat = cls r := by
        rw [← at_list t pos hp]
        rcases hcase with ⟨h1, -, -⟩ | ⟨h1, h2, -⟩
        · rw [h1]
        · rw [cls_high h1, cls_high h2]
      rw [hclc] at hsk
      have hbit := and_u8 (cls r) of (cls_lt r) hof
      obtain ⟨z, hzc⟩ : ∃ z : Int, (cls r : Int) = z := ⟨_, rfl⟩
      rw [hzc] at hcl hbit
      have hz0 : 0 ≤ z := by omega
      have hz1 : z < 256 := by have := cls_lt r; omega
      by_cases hin : cls r &&& of ≠ 0
      · have hne : (bits .and .u8 z (of : Int) != 0) = true := by
          rw [hbit]
          generalize cls r &&& of = m at *
          simp
          omega
        have h1 : wd = 1 := by
          rcases hcase with ⟨-, h, -⟩ | ⟨h, -⟩
          · exact h
          · rw [cls_high h] at hin; simp at hin
        subst h1
        have hnew : Hid (a + (pos + 1 + rn of (t.data.toList.drop (pos + 1))) = N) := by
          unfold Hid
          rw [if_pos hin] at hsk
          omega
        clear hsk hclc hcase hzc hin hbit
        go_wp2_with (first | (go_at_call 77; refine hcl.mono ?_; rintro e w9 ⟨rfl, hw9⟩; subst w9))
        go_roundw
        case rel => exact ⟨pos + 1, by omega, hit2, by congr 1, hnew.out, hB2⟩
        case measure => rw [iterPos_of hit2, hpos0.out]; omega
      · have hne : (bits .and .u8 z (of : Int) != 0) = false := by
          rw [hbit]
          generalize cls r &&& of = m at *
          simp
          omega
        have hnew : Hid (a + pos = N) := by
          unfold Hid
          rw [if_neg hin] at hsk
          omega
        clear hsk hclc hcase hzc hin hbit
        go_wp2_with (first | (go_at_call 77; refine hcl.mono ?_; rintro e w9 ⟨rfl, hw9⟩; subst w9))
        first | rw [Exit.noGoto_ret] | skip
        go_ret
        exact ⟨by have := hnew.out; rw [← this]; simp, hB2⟩
    · obtain rfl : pos = t.size := by omega
      have hnx : ∀ ty, (Instr.next (.pointer (some ⟨w.heap.size, 0, none⟩)) true ty).run Tryz.prog wr = _ := fun ty => Lib.run_next_end_at wr w.heap.size t t.size ty hit hp
      have hNs : Hid (N = a + t.size) := by
        unfold Hid
        rw [List.drop_of_length_le (by rw [size_list]; omega)] at hsk
        simp only [rn] at hsk
        omega
      clear hsk hit
      go_wp2_with fail
      first | rw [Exit.noGoto_ret] | skip
      go_ret
      exact ⟨by rw [hNs.out]; simp, hB⟩

end Go.Proofs.YtekapipfaahhcaaGreatDoor

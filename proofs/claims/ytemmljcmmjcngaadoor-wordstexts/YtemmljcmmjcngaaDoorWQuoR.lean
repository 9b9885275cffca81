import Derived.Test.YtemmljcmmjcngaaDoorWQuo
namespace Go.Proofs.YtemmljcmmjcngaaDoor
open Go.RowKit Go.Sort Go.Lib

theorem extract_one (s : ByteArray) (i : Nat) (h : i < s.size) : s.extract i (i + 1) = ⟨[s[i]'h].toArray⟩ := by
  apply ByteArray.ext
  rw [ByteArray.data_extract]
  refine Array.ext (by simp; have : s.size = s.data.size := rfl; omega) fun j h1 h2 => ?_
  have hj : j = 0 := by simp at h2; omega
  subst hj
  simp
  rfl

set_option maxRecDepth 4000 in
set_option maxHeartbeats 2000000 in
theorem rquote_any (s : ByteArray) (w : World) :
    Calls Tryd.prog 7 #[.string s] w fun e w' => e = .returned (pctV (qt s.data.toList)) ∧ Below w.heap.size w w' := by
  have hsl : s.data.toList.length = s.size := Array.length_toList
  by_cases hlong : 40 < s.size
  · have hl' : (40 : Int) < s.size := by omega
    have hq : Hid (qt s.data.toList = none) := qt_long (by omega)
    go_enter Tryd.func7, Tryd.ntmps7
    go_wp2_with fail
    exact bodyPost_ret (v := pctV none) (by simp [results, Tryd.results7, go_sem, pctV]) rfl ⟨by rw [hq.out], Below.refl _ _⟩
  · have hl' : ¬ (40 : Int) < s.size := by omega
    go_enter Tryd.func7, Tryd.ntmps7
    go_wp2_with fail
    go_loopw [4, 5] (fun t j wr => ∃ (i : Nat) (acc : List UInt8), i ≤ s.size ∧ j = .int .i64 i ∧ t = .string ⟨acc.toArray⟩ ∧ acc = [34] ++ (s.data.toList.take i).flatMap esc ∧ (∀ c ∈ s.data.toList.take i, fine c) ∧ Below w.heap.size w wr) (fun _ j _ => s.size - (RowKit.intOf j).toNat)
    case atStart => exact ⟨0, [34], by omega, rfl, rfl, rfl, fun c hc => (by simp at hc), Below.refl _ _⟩
    case round =>
      obtain ⟨i, acc, his, rfl, rfl, hacc, hfine, hB⟩ := hrel
      have hlen := flat_len (s.data.toList.take i)
      have hlt : (s.data.toList.take i).length ≤ 40 := by rw [List.length_take]; omega
      have hal : acc.length ≤ 81 := by rw [hacc, List.length_append]; simp only [List.length_cons, List.length_nil]; omega
      by_cases hp : i < s.size
      · have hp' : (i : Int) < s.size := by omega
        have hi0 : (0 : Int) ≤ (i : Int) := by omega
        obtain ⟨c, hc⟩ : ∃ c, s[i]'hp = c := ⟨_, rfl⟩
        have hpl : i < s.data.toList.length := by omega
        have hcl : s.data.toList[i] = c := by rw [← hc]; simp; rfl
        obtain ⟨z, hz⟩ : ∃ z : Int, z = (c.toNat : Int) := ⟨_, rfl⟩
        have hidx : ∀ W, (Instr.index 9 (.string s) (.int .i64 (i : Int))).run Tryd.prog W = .ok (.int .u8 z) W := fun W => by
          rw [run_index_string W 9 s .i64 (i : Int) Tryd.underlying9, dif_pos ⟨hi0, hp'⟩, hz, ← hc]
          rfl
        have hext : ∀ W, (Instr.slice 9 (.string s) (some (.int .i64 (i : Int))) (some (.int .i64 ((i : Int) + 1))) none).run Tryd.prog W = .ok (.string ⟨[c].toArray⟩) W := fun W => by
          rw [run_slice_string W 9 s .i64 .i64 (i : Int) ((i : Int) + 1) Tryd.underlying9 hi0 (by omega) (by omega), ← hc, ← extract_one s i hp]
          congr 3
        have hz' : Hid (z = (c.toNat : Int)) := hz
        by_cases hok : fine c
        · have z1 : ¬ z < 32 := by have := hok.1; omega
          have z2 : ¬ 126 < z := by have := hok.2; omega
          have hfl := flat_take hpl
          rw [hcl] at hfl
          have hfl' : Hid ([34] ++ (s.data.toList.take (i + 1)).flatMap esc = acc ++ esc c) := by
            unfold Hid
            rw [hfl, hacc, List.append_assoc]
          have hfine2 : Hid (∀ x ∈ s.data.toList.take (i + 1), fine x) := fun x hx => by
            rw [List.take_succ_eq_append_getElem hpl, hcl] at hx
            rcases List.mem_append.1 hx with h | h
            · exact hfine x h
            · rw [List.mem_singleton.1 h]; exact hok
          have s1 : ¬ 9223372036854775807 < acc.length + 1 := by omega
          have s2 : ¬ 9223372036854775807 < acc.length + 1 + 1 := by omega
          clear hc hcl hfine hacc hfl hlen hlt hz
          by_cases hsp : c = 34 ∨ c = 92
          · have hes : esc c = [92] ++ [c] := if_pos hsp
            rw [hes, ← List.append_assoc] at hfl'
            have hzz : (z == 34) = true ∨ ((z == 34) = false ∧ (z == 92) = true) := by
              have := hz'.out
              rcases hsp with rfl | rfl
              · exact .inl (by rw [this]; rfl)
              · exact .inr ⟨by rw [this]; rfl, by rw [this]; rfl⟩
            clear hok hes hsp
            rcases hzz with hzz | ⟨hzz, hzy⟩
            all_goals
              go_wp2_with fail
              go_roundw
              case rel => exact ⟨i + 1, acc ++ [92] ++ [c], by omega, by go_num, by rw [← ByteArray.mk_append_mk, ← ByteArray.mk_append_mk], hfl'.out.symm, hfine2.out, hB⟩
              case measure => simp [RowKit.intOf]; omega
          · have hes : esc c = [c] := if_neg hsp
            rw [hes] at hfl'
            have n34 : (z == 34) = false := by
              have := hz'.out
              simp
              intro h
              exact hsp (.inl (UInt8.toNat.inj (by show c.toNat = 34; omega)))
            have n92 : (z == 92) = false := by
              have := hz'.out
              simp
              intro h
              exact hsp (.inr (UInt8.toNat.inj (by show c.toNat = 92; omega)))
            clear hok hes hsp
            go_wp2_with fail
            go_roundw
            case rel => exact ⟨i + 1, acc ++ [c], by omega, by go_num, by rw [← ByteArray.mk_append_mk], hfl'.out.symm, hfine2.out, hB⟩
            case measure => simp [RowKit.intOf]; omega
        · have hq : Hid (qt s.data.toList = none) := qt_bad hpl (by rw [hcl]; exact hok)
          have hzz : z < 32 ∨ (¬ z < 32 ∧ 126 < z) := by
            rcases Classical.em (z < 32) with h | h
            · exact .inl h
            · refine .inr ⟨h, ?_⟩
              rcases Classical.em (126 < z) with h2 | h2
              · exact h2
              · exact absurd ⟨by omega, by omega⟩ hok
          clear hc hcl hfine hacc hlen hlt hz hok
          rcases hzz with hzz | ⟨hzz, hzy⟩
          all_goals
            go_wp2_with fail
            exact bodyPost_ret (v := pctV none) (by simp [results, Tryd.results7, go_sem, pctV]) rfl ⟨by rw [hq.out], hB⟩
      · have hp' : ¬ (i : Int) < s.size := by omega
        rw [List.take_of_length_le (by omega)] at hacc hfine
        have hq : Hid (qt s.data.toList = some (acc ++ [34])) := by
          unfold Hid
          rw [qt_good (by omega) hfine, hacc]
        have s1 : ¬ 9223372036854775807 < acc.length + 1 := by omega
        clear hacc hlen hlt hfine
        go_wp2_with fail
        refine bodyPost_ret (v := .tuple #[.string (⟨acc.toArray⟩ ++ ⟨[34].toArray⟩), .bool true]) (by simp [results, Tryd.results7, go_sem]) rfl ⟨?_, hB⟩
        rw [hq.out, ByteArray.mk_append_mk]
        rfl

end Go.Proofs.YtemmljcmmjcngaaDoor

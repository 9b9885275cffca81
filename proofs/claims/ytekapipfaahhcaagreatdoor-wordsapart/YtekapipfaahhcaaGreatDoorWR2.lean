import Derived.Test.YtekapipfaahhcaaGreatDoorWR1
namespace Go.Proofs.YtekapipfaahhcaaGreatDoor.Q
open Go.RowKit

set_option maxHeartbeats 2000000 in
theorem is_any (s : ByteArray) (a : Nat) (hs : s.size ≤ 1000000) (ha : a ≤ 1000001) (p : ByteArray) (hp : 0 < p.size ∧ p.size ≤ 100) (o : Bool) (ho : o = p.data.toList.isPrefixOf (s.data.toList.drop a)) (w : World) : Calls Tryz.prog 76 #[.string s, .int .i64 (a : Int), .string p] w fun e w' => e = .returned (.bool o) ∧ w' = w := by
  have hls := size_list s
  have hlp := size_list p
  by_cases h : a + p.size ≤ s.size
  · have h' : (a : Int) + (p.size : Int) ≤ (s.size : Int) := by omega
    obtain ⟨t, ht⟩ : ∃ t, s.extract a (a + p.size) = t := ⟨_, rfl⟩
    have hsl : ∀ W, (Instr.slice 9 (.string s) (some (.int .i64 (a : Int))) (some (.int .i64 ((a : Int) + (p.size : Int)))) none).run Tryz.prog W = .ok (.string t) W := fun W => by
      rw [run_slice_string W 9 s .i64 .i64 (a : Int) ((a : Int) + (p.size : Int)) Tryz.underlying9 (by omega) (by omega) (by omega), ← ht, show ((a : Int) + (p.size : Int)).toNat = a + p.size from by omega]
      rfl
    have hte : (t.toList == p.toList) = o := by
      rw [ByteArray.toList_eq, ByteArray.toList_eq, ← ht, slice_list, slc_rn, ho]
      cases hb : p.data.toList.isPrefixOf (s.data.toList.drop a) with
      | true =>
        have := List.prefix_iff_eq_take.1 (List.isPrefixOf_iff_prefix.1 hb)
        rw [hlp] at this
        rw [← this]
        simp
      | false =>
        simp only [beq_eq_false_iff_ne]
        intro he
        have : p.data.toList <+: s.data.toList.drop a := by
          rw [List.prefix_iff_eq_take, hlp, he]
        rw [List.isPrefixOf_iff_prefix.2 this] at hb
        cases hb
    clear ho
    go_enter Tryz.func76, Tryz.ntmps76
    go_wp2_with fail
    go_ret
    exact ⟨rfl, rfl⟩
  · have h' : ¬ (a : Int) + (p.size : Int) ≤ (s.size : Int) := by omega
    obtain rfl : o = false := by
      rw [ho]
      cases hb : p.data.toList.isPrefixOf (s.data.toList.drop a) with
      | false => rfl
      | true =>
        have := (List.isPrefixOf_iff_prefix.1 hb).length_le
        rw [List.length_drop] at this
        omega
    clear ho
    go_enter Tryz.func76, Tryz.ntmps76
    go_wp2_with fail
    go_ret
    exact ⟨rfl, rfl⟩

theorem dForm_iff (l : List UInt8) (a : Nat) (ha : a ≤ l.length) : dForm (dX l a) ↔ ∃ h : a + 10 ≤ l.length, ∀ i (hi : i < 10), ck i ((l[a + i]'(by omega)).toNat) = true := by
  have hsz : (dX l a).size = min (a + 10) l.length - a := by
    unfold dX slc
    show (List.toArray _).size = _
    rw [List.size_toArray, List.length_drop, List.length_take]
    omega
  have hat : ∀ i (h : i < (dX l a).size) (h2 : a + i < l.length), (dX l a)[i] = l[a + i] := fun i h h2 => by
    show (List.toArray (slc l a (min (a + 10) l.length)))[i] = _
    simp [slc]
  unfold dForm
  constructor
  · rintro ⟨h1, h2⟩
    refine ⟨by omega, fun i hi => ?_⟩
    have := h2 i (by omega)
    rwa [hat i (by omega) (by omega)] at this
  · rintro ⟨h1, h2⟩
    refine ⟨by omega, fun i hi => ?_⟩
    rw [hat i hi (by omega)]
    exact h2 i (by omega)

set_option maxRecDepth 4000 in
set_option maxHeartbeats 4000000 in
theorem dateAt_any (s : ByteArray) (a : Nat) (ha : a ≤ s.size) (hs : s.size ≤ 1000000) (o : Bool) (ho : o = true ↔ dForm (dX s.data.toList a)) (w : World) : Calls Tryz.prog 72 #[.string s, .int .i64 (a : Int)] w fun e w' => e = .returned (.bool o) ∧ w' = w := by
  obtain ⟨l, hl⟩ : ∃ l, s.data.toList = l := ⟨_, rfl⟩
  have hls : l.length = s.size := by rw [← hl]; exact size_list s
  rw [hl, dForm_iff l a (by omega)] at ho
  have hix : ∀ i, (h : a + i < l.length) → ∀ W, (Instr.index 9 (.string s) (.int .i64 ((a : Int) + (i : Int)))).run Tryz.prog W = .ok (.int .u8 ((l[a + i].toNat : Nat) : Int)) W := fun i h W => by
    have := idx_at s (a + i) (by rw [hl]; exact h) W
    simp only [hl] at this
    rw [show ((a + i : Nat) : Int) = (a : Int) + (i : Int) from by omega] at this
    exact this
  by_cases h10 : a + 10 ≤ l.length
  · have h10' : ¬ (s.size : Int) < (a : Int) + 10 := by omega
    have h4 := hix 4 (by omega)
    have h7 := hix 7 (by omega)
    rw [show ((4 : Nat) : Int) = 4 from rfl] at h4
    rw [show ((7 : Nat) : Int) = 7 from rfl] at h7
    by_cases k4 : (l[a + 4]'(by omega)).toNat = 45
    · rw [k4] at h4
      by_cases k7 : (l[a + 7]'(by omega)).toNat = 45
      · rw [k7] at h7
        rw [show ((45 : Nat) : Int) = 45 from rfl] at h4 h7
        have ho' : Hid (o = true ↔ ∀ i (hi : i < 10), ck i ((l[a + i]'(by omega)).toNat) = true) := by
          unfold Hid
          rw [ho]
          exact ⟨fun ⟨_, h⟩ => h, fun h => ⟨h10, h⟩⟩
        have k4' : Hid (ck 4 ((l[a + 4]'(by omega)).toNat) = true) := by unfold Hid ck; simp [k4]
        have k7' : Hid (ck 7 ((l[a + 7]'(by omega)).toNat) = true) := by unfold Hid ck; simp [k7]
        clear ho k4 k7
        go_enter Tryz.func72, Tryz.ntmps72
        go_wp2_with fail
        clear h4 h7
        go_loopw [5] (fun v wr => ∃ j : Nat, j ≤ 10 ∧ v = .int .i64 (j : Int) ∧ Hid (∀ i (_ : i < j) (hi : a + i < l.length), ck i (l[a + i].toNat) = true) ∧ wr = w) (fun v _ => 10 - (intOf v).toNat)
        case atStart => exact ⟨0, by omega, rfl, fun i hi => by omega, rfl⟩
        case round =>
          obtain ⟨j, hj, rfl, hall, rfl⟩ := hrel
          by_cases hlt : j < 10
          · have hlt' : (j : Int) < 10 := by omega
            have hix2 := hix j (by omega)
            by_cases e4 : j = 4
            · subst e4
              have hall' : Hid (∀ i (_ : i < 4 + 1) (hi : a + i < l.length), ck i (l[a + i].toNat) = true) := fun i h hi => by
                by_cases e : i = 4
                · subst e; exact k4'.out
                · exact hall.out i (by omega) hi
              clear hall hix2
              go_wp2_with fail
              go_roundw
              case rel => exact ⟨4 + 1, by omega, by go_num, hall', trivial⟩
              case measure => simp [intOf]
            · by_cases e7 : j = 7
              · subst e7
                have hall' : Hid (∀ i (_ : i < 7 + 1) (hi : a + i < l.length), ck i (l[a + i].toNat) = true) := fun i h hi => by
                  by_cases e : i = 7
                  · subst e; exact k7'.out
                  · exact hall.out i (by omega) hi
                clear hall hix2
                go_wp2_with fail
                go_roundw
                case rel => exact ⟨7 + 1, by omega, by go_num, hall', trivial⟩
                case measure => simp [intOf]
              · have b4 : ((j : Int) != 4) = true := by simp; omega
                have b7 : ((j : Int) != 7) = true := by simp; omega
                obtain ⟨k, hk⟩ : ∃ k, (l[a + j]'(by omega)).toNat = k := ⟨_, rfl⟩
                rw [hk] at hix2
                have hck : ck j (k : Int) = true ↔ cls k = 32 := by
                  unfold ck
                  rw [if_neg (by omega), cls_digit, decide_eq_true_iff]
                  omega
                by_cases hc : cls k = 32
                · have hD := fun W => isDigit_at k true (by simp [hc]) W
                  have hall' : Hid (∀ i (_ : i < j + 1) (hi : a + i < l.length), ck i (l[a + i].toNat) = true) := fun i h hi => by
                    by_cases e : i = j
                    · subst e; rw [hk]; exact hck.2 hc
                    · exact hall.out i (by omega) hi
                  clear hall hck hc hk e4 e7
                  go_wp2_with (first | (go_at_call 71; refine (hD _).mono ?_; rintro e w9 ⟨rfl, hw9⟩; subst w9))
                  go_roundw
                  case rel => exact ⟨j + 1, by omega, by go_num, hall', trivial⟩
                  case measure => simp [intOf]; omega
                · have hD := fun W => isDigit_at k false (by simp [hc]) W
                  obtain rfl : o = false := by
                    cases o with
                    | false => rfl
                    | true =>
                      have := ho'.out.1 rfl j hlt
                      rw [hk] at this
                      exact absurd (hck.1 this) hc
                  clear hall hck hc hk e4 e7 ho'
                  go_wp2_with (first | (go_at_call 71; refine (hD _).mono ?_; rintro e w9 ⟨rfl, hw9⟩; subst w9))
                  go_ret
                  exact ⟨rfl, rfl⟩
          · obtain rfl : j = 10 := by omega
            obtain rfl : o = true := ho'.out.2 (fun i hi => hall.out i hi (by omega))
            clear hall ho'
            go_wp2_with fail
            go_ret
            exact ⟨rfl, rfl⟩
      · have b7 : (((l[a + 7]'(by omega)).toNat : Int) != 45) = true := by simp; omega
        obtain rfl : o = false := by
          cases o with
          | false => rfl
          | true =>
            obtain ⟨_, h⟩ := ho.1 rfl
            have := h 7 (by omega)
            unfold ck at this
            simp at this
            omega
        rw [show (((45 : Nat)) : Int) = 45 from rfl] at h4
        generalize (l[a + 7]'(by omega)).toNat = z at *
        clear ho hix
        go_enter Tryz.func72, Tryz.ntmps72
        go_wp2_with fail
        go_ret
        exact ⟨rfl, rfl⟩
    · have b4 : (((l[a + 4]'(by omega)).toNat : Int) != 45) = true := by simp; omega
      obtain rfl : o = false := by
        cases o with
        | false => rfl
        | true =>
          obtain ⟨_, h⟩ := ho.1 rfl
          have := h 4 (by omega)
          unfold ck at this
          simp at this
          omega
      generalize (l[a + 4]'(by omega)).toNat = z at *
      clear ho hix h7
      go_enter Tryz.func72, Tryz.ntmps72
      go_wp2_with fail
      go_ret
      exact ⟨rfl, rfl⟩
  · have h10' : (s.size : Int) < (a : Int) + 10 := by omega
    obtain rfl : o = false := by
      cases o with
      | false => rfl
      | true => exact absurd (ho.1 rfl).1 h10
    clear ho hix
    go_enter Tryz.func72, Tryz.ntmps72
    go_wp2_with fail
    go_ret
    exact ⟨rfl, rfl⟩

end Go.Proofs.YtekapipfaahhcaaGreatDoor.Q

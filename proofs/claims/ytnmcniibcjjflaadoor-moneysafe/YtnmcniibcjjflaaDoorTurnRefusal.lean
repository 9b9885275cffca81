import Derived.Test.YtnmcniibcjjflaaDoorJoin4
import Derived.Test.YtnmcniibcjjflaaDoorJoin6
namespace Go.Proofs.YtnmcniibcjjflaaDoor
open Go.RowKit

theorem vals_one {w : World} {b : Nat} {k n : Int} (h : Box w b (.int .i64 k) (.int .i64 n)) : Vals w (some ⟨b, 0, none⟩) [(k, n)] := by
  refine ⟨by simp [maxLen], .inr ⟨b, 0, rfl, h.lt, fun i hi => ?_⟩⟩
  obtain rfl : i = 0 := by simpa using hi
  exact ⟨by simpa using h.1, by simpa using h.2.1⟩

theorem mishap_one (b : Nat) (k n : Int) (w : World) (hK : Kinds w) (h : Box w b (.int .i64 k) (.int .i64 n)) :
    Calls Tryd.prog 73 #[.slice (some ⟨b, 0, none⟩) 1 1] w fun e w' => e = .returned (.tuple #[.agg #[.int .i64 (M.vk (M.mish [(k, n)])), .int .i64 (M.vn (M.mish [(k, n)]))], .bool (M.mish [(k, n)]).isSome]) ∧ Below w.heap.size w w' :=
  mishap_any (some ⟨b, 0, none⟩) 1 [(k, n)] w hK (vals_one h)

/-- Both boxes and the row, as 'refusal' lays them. -/
theorem ref_start (w : World) (k n : Int) {w1 : World} {o : Obj}
    (hb : Below (((w.alloc (.cells #[.int .i64 k, .int .i64 n] 24)).alloc (.cells #[.int .i64 0, .int .i64 0] 24)).alloc o).heap.size (((w.alloc (.cells #[.int .i64 k, .int .i64 n] 24)).alloc (.cells #[.int .i64 0, .int .i64 0] 24)).alloc o) w1) :
    Box w1 w.heap.size (.int .i64 k) (.int .i64 n) ∧ Box w1 (w.heap.size + 1) (.int .i64 0) (.int .i64 0) ∧ Below w.heap.size w w1 :=
  ⟨(((Box.new w _ _ _).alloc _).alloc _).later hb, (((Box.new (w.alloc _) _ _ _).alloc _).later hb).of (by simp), below_step ((((Below.refl _ _).alloc (Nat.le_refl _) _).alloc (by simp) _).alloc (by simp; omega) _) hb⟩

set_option maxHeartbeats 1000000 in
theorem refusal_first (use k n : Int) (a : Option Addr) (len cap : Nat) (w : World) (hK : Kinds w) (x y : Int) (h1 : M.mish [(k, n)] = some (x, y)) :
    Calls Tryd.prog 54 #[.int .i64 use, .agg #[.int .i64 k, .int .i64 n], .slice a len cap] w fun e w' => e = .returned (.tuple #[.agg #[.int .i64 x, .int .i64 y], .bool true]) ∧ Below w.heap.size w w' := by
  have hc := mishap_one (w.heap.size + 1 + 1) k n (((w.alloc (.cells #[.int .i64 k, .int .i64 n] 24)).alloc (.cells #[.int .i64 0, .int .i64 0] 24)).alloc (.cells #[.int .i64 k, .int .i64 n] 24)) (((hK.alloc _).alloc _).alloc _) ((Box.new _ _ _ _).of (by simp))
  rw [h1] at hc
  dsimp only [M.vk, M.vn, Option.isSome] at hc
  clear h1 hK
  go_enter Tryd.func54, Tryd.ntmps54
  go_wp2_with (go_at_call 73; refine hc.mono ?_; clear hc; rintro e w1 ⟨rfl, hb1⟩; obtain ⟨-, hR1, hB1⟩ := ref_start w k n hb1; obtain ⟨r0, r1, q0, q1⟩ := hR1.alloc (.cells #[.int .i64 x, .int .i64 y] 24); clear hb1)
  exact bodyPost_ret (v := .tuple #[.agg #[.int .i64 x, .int .i64 y], .bool true]) (by simp [results, Tryd.results54, go_sem, r0, r1]) rfl ⟨rfl, ((hB1.alloc hB1.size _).setCell (by simp) _).setCell (by simp) _⟩

set_option maxHeartbeats 1000000 in
theorem refusal_rest (use k n : Int) (a : Option Addr) (cap : Nat) (os : List (Int × Int)) (w : World) (hK : Kinds w) (hV : Vals w a os) (x y : Int) (h1 : M.mish [(k, n)] = none) (h2 : M.mish os = some (x, y)) :
    Calls Tryd.prog 54 #[.int .i64 use, .agg #[.int .i64 k, .int .i64 n], .slice a os.length cap] w fun e w' => e = .returned (.tuple #[.agg #[.int .i64 x, .int .i64 y], .bool true]) ∧ Below w.heap.size w w' := by
  have hc := mishap_one (w.heap.size + 1 + 1) k n (((w.alloc (.cells #[.int .i64 k, .int .i64 n] 24)).alloc (.cells #[.int .i64 0, .int .i64 0] 24)).alloc (.cells #[.int .i64 k, .int .i64 n] 24)) (((hK.alloc _).alloc _).alloc _) ((Box.new _ _ _ _).of (by simp))
  rw [h1] at hc
  dsimp only [M.vk, M.vn, Option.isSome] at hc
  have hd := fun w1 hK1 hV1 => mishap_any a cap os w1 hK1 hV1
  rw [h2] at hd
  dsimp only [M.vk, M.vn, Option.isSome] at hd
  clear h1 h2
  go_enter Tryd.func54, Tryd.ntmps54
  go_wp2_with fail
  refine hc.mono ?_
  clear hc
  rintro e w1 ⟨rfl, hb1⟩
  obtain ⟨hF1, hR1, hB1⟩ := ref_start w k n hb1
  have hR2 := hR1.alloc (.cells #[.int .i64 0, .int .i64 0] 24)
  have hd2 := hd (w1.alloc (.cells #[.int .i64 0, .int .i64 0] 24)) ((hK.later hB1).alloc _) ((hV.later hB1).later ((Below.refl _ _).alloc (Nat.le_refl _) _))
  have hB2 := hB1.alloc hB1.size (.cells #[.int .i64 0, .int .i64 0] 24)
  clear hb1 hd hK hV hF1 hR1
  go_wp2_with fail
  refine hd2.mono ?_
  clear hd2
  rintro e w2 ⟨rfl, hb2⟩
  have hB3 := below_step hB2 hb2
  obtain ⟨r0, r1, q0, q1⟩ := (hR2.later hb2).alloc (.cells #[.int .i64 x, .int .i64 y] 24)
  clear hb2 hR2
  go_wp2
  exact bodyPost_ret (v := .tuple #[.agg #[.int .i64 x, .int .i64 y], .bool true]) (by simp [results, Tryd.results54, go_sem, r0, r1]) rfl ⟨rfl, ((hB3.alloc hB3.size _).setCell (by simp) _).setCell (by simp) _⟩

set_option maxHeartbeats 1000000 in
theorem refusal_kind (use k n : Int) (a : Option Addr) (cap : Nat) (os : List (Int × Int)) (w : World) (hK : Kinds w) (hV : Vals w a os) (h1 : M.mish [(k, n)] = none) (h2 : M.mish os = none) (h3 : takesB k use = false) :
    Calls Tryd.prog 54 #[.int .i64 use, .agg #[.int .i64 k, .int .i64 n], .slice a os.length cap] w fun e w' => e = .returned (.tuple #[.agg #[.int .i64 6, .int .i64 5], .bool true]) ∧ Below w.heap.size w w' := by
  have hc := mishap_one (w.heap.size + 1 + 1) k n (((w.alloc (.cells #[.int .i64 k, .int .i64 n] 24)).alloc (.cells #[.int .i64 0, .int .i64 0] 24)).alloc (.cells #[.int .i64 k, .int .i64 n] 24)) (((hK.alloc _).alloc _).alloc _) ((Box.new _ _ _ _).of (by simp))
  rw [h1] at hc
  dsimp only [M.vk, M.vn, Option.isSome] at hc
  have hd := fun w1 hK1 hV1 => mishap_any a cap os w1 hK1 hV1
  rw [h2] at hd
  dsimp only [M.vk, M.vn, Option.isSome] at hd
  clear h1 h2
  go_enter Tryd.func54, Tryd.ntmps54
  go_wp2_with fail
  refine hc.mono ?_
  clear hc
  rintro e w1 ⟨rfl, hb1⟩
  obtain ⟨hF1, hR1, hB1⟩ := ref_start w k n hb1
  have hR2 := hR1.alloc (.cells #[.int .i64 0, .int .i64 0] 24)
  have hF2 := hF1.alloc (.cells #[.int .i64 0, .int .i64 0] 24)
  have hd2 := hd (w1.alloc (.cells #[.int .i64 0, .int .i64 0] 24)) ((hK.later hB1).alloc _) ((hV.later hB1).later ((Below.refl _ _).alloc (Nat.le_refl _) _))
  have hB2 := hB1.alloc hB1.size (.cells #[.int .i64 0, .int .i64 0] 24)
  clear hb1 hd hF1 hR1
  go_wp2_with fail
  refine hd2.mono ?_
  clear hd2
  rintro e w2 ⟨rfl, hb2⟩
  have hB3 := below_step hB2 hb2
  have hR3 := (hR2.later hb2).alloc (.cells #[.int .i64 0, .int .i64 0] 24)
  have hF3 := (hF2.later hb2).alloc (.cells #[.int .i64 0, .int .i64 0] 24)
  have hB4 := hB3.alloc hB3.size (.cells #[.int .i64 0, .int .i64 0] 24)
  clear hb2 hR2 hF2
  have ht := takes_any k use (w2.alloc (.cells #[.int .i64 0, .int .i64 0] 24)) (hK.later hB4)
  rw [h3] at ht
  obtain ⟨f0, f1, -, -⟩ := id hF3
  clear hK hV
  go_wp2_with (first | (go_at_call 17; refine ht.mono ?_; clear ht; rintro e w' ⟨rfl, rfl⟩) | (go_at_call 18; refine (fault_any _ _).mono ?_; rintro e w3 ⟨rfl, hb3⟩; have hB5 := below_step hB4 hb3; obtain ⟨r0, r1, q0, q1⟩ := hR3.later hb3; clear hb3))
  exact bodyPost_ret (v := .tuple #[.agg #[.int .i64 6, .int .i64 5], .bool true]) (by simp [results, Tryd.results54, go_sem, r0, r1]) rfl ⟨rfl, (hB5.setCell (by simp) _).setCell (by simp) _⟩

set_option maxHeartbeats 2000000 in
theorem refusal_loop (use k n : Int) (a : Option Addr) (cap : Nat) (os : List (Int × Int)) (w : World) (hK : Kinds w) (hV : Vals w a os) (h1 : M.mish [(k, n)] = none) (h2 : M.mish os = none) (h3 : takesB k use = true)
    (r : Option (Int × Int)) (hr : Hid (r = if os.all (fun x => x.1 == k) then none else some (6, 5))) :
    Calls Tryd.prog 54 #[.int .i64 use, .agg #[.int .i64 k, .int .i64 n], .slice a os.length cap] w fun e w' =>
      e = .returned (.tuple #[.agg #[.int .i64 (M.vk r), .int .i64 (M.vn r)], .bool r.isSome]) ∧ Below w.heap.size w w' := by
  have hc := mishap_one (w.heap.size + 1 + 1) k n (((w.alloc (.cells #[.int .i64 k, .int .i64 n] 24)).alloc (.cells #[.int .i64 0, .int .i64 0] 24)).alloc (.cells #[.int .i64 k, .int .i64 n] 24)) (((hK.alloc _).alloc _).alloc _) ((Box.new _ _ _ _).of (by simp))
  rw [h1] at hc
  dsimp only [M.vk, M.vn, Option.isSome] at hc
  have hd := fun w1 hK1 hV1 => mishap_any a cap os w1 hK1 hV1
  rw [h2] at hd
  dsimp only [M.vk, M.vn, Option.isSome] at hd
  clear h1 h2
  go_enter Tryd.func54, Tryd.ntmps54
  go_wp2_with fail
  refine hc.mono ?_
  clear hc
  rintro e w1 ⟨rfl, hb1⟩
  obtain ⟨hF1, hR1, hB1⟩ := ref_start w k n hb1
  have hR2 := hR1.alloc (.cells #[.int .i64 0, .int .i64 0] 24)
  have hF2 := hF1.alloc (.cells #[.int .i64 0, .int .i64 0] 24)
  have hd2 := hd (w1.alloc (.cells #[.int .i64 0, .int .i64 0] 24)) ((hK.later hB1).alloc _) ((hV.later hB1).later ((Below.refl _ _).alloc (Nat.le_refl _) _))
  have hB2 := hB1.alloc hB1.size (.cells #[.int .i64 0, .int .i64 0] 24)
  clear hb1 hd hF1 hR1
  go_wp2_with fail
  refine hd2.mono ?_
  clear hd2
  rintro e w2 ⟨rfl, hb2⟩
  have hB3 := below_step hB2 hb2
  have hR3 := (hR2.later hb2).alloc (.cells #[.int .i64 0, .int .i64 0] 24)
  have hF3 := (hF2.later hb2).alloc (.cells #[.int .i64 0, .int .i64 0] 24)
  have hB4 := hB3.alloc hB3.size (.cells #[.int .i64 0, .int .i64 0] 24)
  clear hb2 hR2 hF2
  have ht := takes_any k use (w2.alloc (.cells #[.int .i64 0, .int .i64 0] 24)) (hK.later hB4)
  rw [h3] at ht
  obtain ⟨f0, f1, -, -⟩ := id hF3
  have hV4 := hV.later hB4
  have hlen := hV.1
  unfold maxLen at hlen
  clear hK hV
  go_wp2_with (go_at_call 17; refine ht.mono ?_; clear ht; rintro e w' ⟨rfl, rfl⟩)
  generalize w2.alloc (.cells #[.int .i64 0, .int .i64 0] 24) = W4 at *
  clear f0 f1
  go_loopw [37] (fun i wr => ∃ j : Nat, j ≤ os.length ∧ i = .int .i64 j ∧ (os.take j).all (fun x => x.1 == k) = true ∧ Below W4.heap.size W4 wr) (fun i _ => os.length - (intOf i).toNat)
  case atStart => exact ⟨0, Nat.zero_le _, rfl, rfl, Below.refl _ _⟩
  case round =>
    obtain ⟨j, hj, rfl, hm, hb⟩ := hrel
    have hBw := below_step hB4 hb
    have hVr := hV4.later hb
    have hR := hR3.later hb
    have hF := hF3.later hb
    have HB : Hid (Below W4.heap.size W4 wr) := hb
    have HM : Hid ((os.take j).all (fun x => x.1 == k) = true) := hm
    clear hb hR3 hF3 hV4 hB4 hm hB1 hB2 hB3
    by_cases hlt : j < os.length
    · obtain ⟨-, h | ⟨b, off, rfl, hbw, hcs⟩⟩ := hVr
      · subst h; simp at hlt
      obtain ⟨hc0, hc1⟩ := hcs j hlt
      have HT : Hid (os.take (j + 1) = os.take j ++ [os.getD j (0, 0)]) := by rw [List.take_succ_eq_append_getElem hlt, List.getD_eq_getElem?_getD, List.getElem?_eq_getElem hlt]; rfl
      have HI : Hid (os.getD j (0, 0) ∈ os) := by rw [List.getD_eq_getElem?_getD, List.getElem?_eq_getElem hlt]; exact List.getElem_mem hlt
      generalize os.getD j (0, 0) = x at *
      obtain ⟨x, y⟩ := x
      clear hcs
      dsimp only at hc0 hc1
      have hlt' : (j : Int) < os.length := by omega
      by_cases hx : x = k
      · subst hx
        obtain ⟨f0, f1, -, -⟩ := hF.alloc (.cells #[.int .i64 x, .int .i64 y] 24)
        go_wp2
        go_roundw
        case rel => exact ⟨j + 1, by omega, by go_num, by rw [HT.out, List.all_append, HM.out]; simp, (HB.out).alloc (HB.out).size _⟩
        case measure => simp [intOf]; omega
      · have e0 : (x != k) = true := by simpa using hx
        have HA : Hid (os.all (fun x => x.1 == k) = false) := by
          refine List.all_eq_false.2 ⟨_, HI.out, by simpa using hx⟩
        obtain ⟨f0, f1, -, -⟩ := hF.alloc (.cells #[.int .i64 x, .int .i64 y] 24)
        have hR5 := hR.alloc (.cells #[.int .i64 x, .int .i64 y] 24)
        have hB5 := hBw.alloc hBw.size (.cells #[.int .i64 x, .int .i64 y] 24)
        clear hx
        go_wp2_with (go_at_call 18; refine (fault_any _ _).mono ?_; rintro e w3 ⟨rfl, hb3⟩; have hB6 := below_step hB5 hb3; obtain ⟨r0, r1, q0, q1⟩ := hR5.later hb3; clear hb3)
        exact bodyPost_ret (v := .tuple #[.agg #[.int .i64 6, .int .i64 5], .bool true]) (by simp [results, Tryd.results54, go_sem, r0, r1]) rfl ⟨by rw [hr.out, HA.out]; rfl, (hB6.setCell (by simp) _).setCell (by simp) _⟩
    · have HA : Hid (os.all (fun x => x.1 == k) = true) := by
        have e : j = os.length := by omega
        have := HM.out
        rw [e, List.take_length] at this
        exact this
      obtain ⟨r0, r1, q0, q1⟩ := hR
      go_wp2
      exact bodyPost_ret (v := .tuple #[.agg #[.int .i64 0, .int .i64 0], .bool false]) (by simp [results, Tryd.results54, go_sem, r0, r1]) rfl ⟨by rw [hr.out, HA.out]; rfl, (hBw.setCell (by simp) _).setCell (by simp) _⟩

theorem refusal_any (use k n : Int) (a : Option Addr) (cap : Nat) (os : List (Int × Int)) (w : World) (hK : Kinds w) (hV : Vals w a os) :
    Calls Tryd.prog 54 #[.int .i64 use, .agg #[.int .i64 k, .int .i64 n], .slice a os.length cap] w fun e w' =>
      e = .returned (.tuple #[.agg #[.int .i64 (M.vk (M.refuse (takesB k use) k n os)), .int .i64 (M.vn (M.refuse (takesB k use) k n os))], .bool (M.refuse (takesB k use) k n os).isSome]) ∧ Below w.heap.size w w' := by
  cases h1 : M.mish [(k, n)] with
  | some v =>
    have e : M.refuse (takesB k use) k n os = some (v.1, v.2) := by simp [M.refuse, h1]
    rw [e]
    exact refusal_first use k n a os.length cap w hK v.1 v.2 h1
  | none =>
    cases h2 : M.mish os with
    | some v =>
      have e : M.refuse (takesB k use) k n os = some (v.1, v.2) := by simp [M.refuse, h1, h2]
      rw [e]
      exact refusal_rest use k n a cap os w hK hV v.1 v.2 h1 h2
    | none =>
      cases h3 : takesB k use with
      | false =>
        have e : M.refuse false k n os = some (6, 5) := by simp [M.refuse, h1, h2]
        rw [e]
        exact refusal_kind use k n a cap os w hK hV h1 h2 h3
      | true =>
        exact refusal_loop use k n a cap os w hK hV h1 h2 h3 _ (by simp [Hid, M.refuse, h1, h2])

end Go.Proofs.YtnmcniibcjjflaaDoor

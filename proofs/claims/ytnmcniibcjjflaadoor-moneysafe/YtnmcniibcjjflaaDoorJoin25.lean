import Derived.Test.YtnmcniibcjjflaaDoorJoin4
import Derived.Test.YtnmcniibcjjflaaDoorJoin6
import Derived.Test.YtnmcniibcjjflaaDoorJoin7
import Derived.Test.YtnmcniibcjjflaaDoorJoin5
namespace Go.Proofs.YtnmcniibcjjflaaDoor
open Go.RowKit

/-- What a call leaves of two operands' boxes. -/
theorem keep2 {w0 X w1 : World} {b0 b1 : Nat} {x0 y0 x1 y1 : Value}
    (h : X.cell? ⟨b0, 0, none⟩ = some x0 ∧ X.cell? ⟨b0, 1, none⟩ = some y0 ∧ X.cell? ⟨b1, 0, none⟩ = some x1 ∧ X.cell? ⟨b1, 1, none⟩ = some y1 ∧ Kinds X ∧ Below w0.heap.size w0 X) (hb : Below X.heap.size X w1) :
    w1.cell? ⟨b0, 0, none⟩ = some x0 ∧ w1.cell? ⟨b0, 1, none⟩ = some y0 ∧ w1.cell? ⟨b1, 0, none⟩ = some x1 ∧ w1.cell? ⟨b1, 1, none⟩ = some y1 ∧ Kinds w1 ∧ Below w0.heap.size w0 w1 := by
  obtain ⟨h0, h1, h2, h3, hK, hB⟩ := h
  have l0 := World.block_lt_of_cell? _ _ h0
  have l1 := World.block_lt_of_cell? _ _ h2
  exact ⟨(hb.cell (p := ⟨b0, 0, none⟩) l0).trans h0, (hb.cell (p := ⟨b0, 1, none⟩) l0).trans h1, (hb.cell (p := ⟨b1, 0, none⟩) l1).trans h2, (hb.cell (p := ⟨b1, 1, none⟩) l1).trans h3, hK.later hb, below_step hB hb⟩

/-- A call by its contract, the boxes kept. -/
theorem held2 {w0 X : World} {b0 b1 : Nat} {x0 y0 x1 y1 : Value} {f : Nat} {args : Array Value} {R : Ending}
    (h : X.cell? ⟨b0, 0, none⟩ = some x0 ∧ X.cell? ⟨b0, 1, none⟩ = some y0 ∧ X.cell? ⟨b1, 0, none⟩ = some x1 ∧ X.cell? ⟨b1, 1, none⟩ = some y1 ∧ Kinds X ∧ Below w0.heap.size w0 X)
    (hc : Kinds X → Calls Tryd.prog f args X fun e w' => e = R ∧ Below X.heap.size X w') :
    Calls Tryd.prog f args X fun e w1 => e = R ∧ (w1.cell? ⟨b0, 0, none⟩ = some x0 ∧ w1.cell? ⟨b0, 1, none⟩ = some y0 ∧ w1.cell? ⟨b1, 0, none⟩ = some x1 ∧ w1.cell? ⟨b1, 1, none⟩ = some y1 ∧ Kinds w1 ∧ Below w0.heap.size w0 w1) :=
  (hc h.2.2.2.2.1).mono fun _ _ ⟨he, hb⟩ => ⟨he, keep2 h hb⟩

theorem first2 (w : World) (k0 n0 k1 n1 : Int) (hK : Kinds w) (X : World) (hX : X = (w.alloc (.cells #[.int .i64 k0, .int .i64 n0] 24)).alloc (.cells #[.int .i64 k1, .int .i64 n1] 24)) :
    X.cell? ⟨w.heap.size, 0, none⟩ = some (.int .i64 k0) ∧ X.cell? ⟨w.heap.size, 1, none⟩ = some (.int .i64 n0) ∧ X.cell? ⟨w.heap.size + 1, 0, none⟩ = some (.int .i64 k1) ∧ X.cell? ⟨w.heap.size + 1, 1, none⟩ = some (.int .i64 n1) ∧ Kinds X ∧ Below w.heap.size w X := by
  subst hX
  have h0 := (Box.new w (.int .i64 k0) (.int .i64 n0) 24).alloc (.cells #[.int .i64 k1, .int .i64 n1] 24)
  have h1 : Box ((w.alloc (.cells #[.int .i64 k0, .int .i64 n0] 24)).alloc (.cells #[.int .i64 k1, .int .i64 n1] 24)) (w.heap.size + 1) (.int .i64 k1) (.int .i64 n1) := (Box.new (w.alloc (.cells #[.int .i64 k0, .int .i64 n0] 24)) (.int .i64 k1) (.int .i64 n1) 24).of (by simp)
  exact ⟨h0.1, h0.2.1, h1.1, h1.2.1, (hK.alloc _).alloc _, ((Below.refl _ _).alloc (Nat.le_refl _) _).alloc (by simp) _⟩

/-- The greater one, the lesser one, the one in between: kept from the walk's own rewriting. -/
def IsMax (a b m : Int) : Prop := (a < b ∧ m = b) ∨ (¬ a < b ∧ m = a)
def IsMin (a b m : Int) : Prop := (b < a ∧ m = b) ∨ (¬ b < a ∧ m = a)
def IsClamp (x l h m : Int) : Prop := (x < l ∧ m = l) ∨ (¬ x < l ∧ h < x ∧ m = h) ∨ (¬ x < l ∧ ¬ h < x ∧ m = x)
theorem isMax_ex (a b : Int) : ∃ m, IsMax a b m := by
  by_cases h : a < b
  · exact ⟨_, .inl ⟨h, rfl⟩⟩
  · exact ⟨_, .inr ⟨h, rfl⟩⟩
theorem isMin_ex (a b : Int) : ∃ m, IsMin a b m := by
  by_cases h : b < a
  · exact ⟨_, .inl ⟨h, rfl⟩⟩
  · exact ⟨_, .inr ⟨h, rfl⟩⟩
theorem isClamp_ex (x l h : Int) : ∃ m, IsClamp x l h m := by
  by_cases c : x < l
  · exact ⟨_, .inl ⟨c, rfl⟩⟩
  · by_cases d : h < x
    · exact ⟨_, .inr (.inl ⟨c, d, rfl⟩)⟩
    · exact ⟨_, .inr (.inr ⟨c, d, rfl⟩)⟩

theorem any_1 (k : Int) : ([(1 : Int), (2 : Int)].any fun z => k == z) = takesB k 1 := by rw [takes_1, Bool.eq_iff_iff]; simp
theorem any_2 (k : Int) : ([(1 : Int), (2 : Int), (4 : Int)].any fun z => k == z) = takesB k 2 := by rw [takes_2, Bool.eq_iff_iff]; simp

/-- The same for three operands. -/
theorem keep3 {w0 X w1 : World} {b0 b1 b2 : Nat} {x0 y0 x1 y1 x2 y2 : Value}
    (h : X.cell? ⟨b0, 0, none⟩ = some x0 ∧ X.cell? ⟨b0, 1, none⟩ = some y0 ∧ X.cell? ⟨b1, 0, none⟩ = some x1 ∧ X.cell? ⟨b1, 1, none⟩ = some y1 ∧ X.cell? ⟨b2, 0, none⟩ = some x2 ∧ X.cell? ⟨b2, 1, none⟩ = some y2 ∧ Kinds X ∧ Below w0.heap.size w0 X) (hb : Below X.heap.size X w1) :
    w1.cell? ⟨b0, 0, none⟩ = some x0 ∧ w1.cell? ⟨b0, 1, none⟩ = some y0 ∧ w1.cell? ⟨b1, 0, none⟩ = some x1 ∧ w1.cell? ⟨b1, 1, none⟩ = some y1 ∧ w1.cell? ⟨b2, 0, none⟩ = some x2 ∧ w1.cell? ⟨b2, 1, none⟩ = some y2 ∧ Kinds w1 ∧ Below w0.heap.size w0 w1 := by
  obtain ⟨h0, h1, h2, h3, h4, h5, hK, hB⟩ := h
  have l0 := World.block_lt_of_cell? _ _ h0
  have l1 := World.block_lt_of_cell? _ _ h2
  have l2 := World.block_lt_of_cell? _ _ h4
  exact ⟨(hb.cell (p := ⟨b0, 0, none⟩) l0).trans h0, (hb.cell (p := ⟨b0, 1, none⟩) l0).trans h1, (hb.cell (p := ⟨b1, 0, none⟩) l1).trans h2, (hb.cell (p := ⟨b1, 1, none⟩) l1).trans h3, (hb.cell (p := ⟨b2, 0, none⟩) l2).trans h4, (hb.cell (p := ⟨b2, 1, none⟩) l2).trans h5, hK.later hb, below_step hB hb⟩

theorem held3 {w0 X : World} {b0 b1 b2 : Nat} {x0 y0 x1 y1 x2 y2 : Value} {f : Nat} {args : Array Value} {R : Ending}
    (h : X.cell? ⟨b0, 0, none⟩ = some x0 ∧ X.cell? ⟨b0, 1, none⟩ = some y0 ∧ X.cell? ⟨b1, 0, none⟩ = some x1 ∧ X.cell? ⟨b1, 1, none⟩ = some y1 ∧ X.cell? ⟨b2, 0, none⟩ = some x2 ∧ X.cell? ⟨b2, 1, none⟩ = some y2 ∧ Kinds X ∧ Below w0.heap.size w0 X)
    (hc : Kinds X → Calls Tryd.prog f args X fun e w' => e = R ∧ Below X.heap.size X w') :
    Calls Tryd.prog f args X fun e w1 => e = R ∧ (w1.cell? ⟨b0, 0, none⟩ = some x0 ∧ w1.cell? ⟨b0, 1, none⟩ = some y0 ∧ w1.cell? ⟨b1, 0, none⟩ = some x1 ∧ w1.cell? ⟨b1, 1, none⟩ = some y1 ∧ w1.cell? ⟨b2, 0, none⟩ = some x2 ∧ w1.cell? ⟨b2, 1, none⟩ = some y2 ∧ Kinds w1 ∧ Below w0.heap.size w0 w1) :=
  (hc h.2.2.2.2.2.2.1).mono fun _ _ ⟨he, hb⟩ => ⟨he, keep3 h hb⟩

theorem first3 (w : World) (k0 n0 k1 n1 k2 n2 : Int) (hK : Kinds w) (X : World) (hX : X = ((w.alloc (.cells #[.int .i64 k0, .int .i64 n0] 24)).alloc (.cells #[.int .i64 k1, .int .i64 n1] 24)).alloc (.cells #[.int .i64 k2, .int .i64 n2] 24)) :
    X.cell? ⟨w.heap.size, 0, none⟩ = some (.int .i64 k0) ∧ X.cell? ⟨w.heap.size, 1, none⟩ = some (.int .i64 n0) ∧ X.cell? ⟨w.heap.size + 1, 0, none⟩ = some (.int .i64 k1) ∧ X.cell? ⟨w.heap.size + 1, 1, none⟩ = some (.int .i64 n1) ∧ X.cell? ⟨w.heap.size + 1 + 1, 0, none⟩ = some (.int .i64 k2) ∧ X.cell? ⟨w.heap.size + 1 + 1, 1, none⟩ = some (.int .i64 n2) ∧ Kinds X ∧ Below w.heap.size w X := by
  subst hX
  have h01 := first2 w k0 n0 k1 n1 hK _ rfl
  have h := keep2 h01 ((Below.refl _ _).alloc (Nat.le_refl _) (.cells #[.int .i64 k2, .int .i64 n2] 24))
  have h2 : Box (((w.alloc (.cells #[.int .i64 k0, .int .i64 n0] 24)).alloc (.cells #[.int .i64 k1, .int .i64 n1] 24)).alloc (.cells #[.int .i64 k2, .int .i64 n2] 24)) (w.heap.size + 1 + 1) (.int .i64 k2) (.int .i64 n2) := (Box.new ((w.alloc (.cells #[.int .i64 k0, .int .i64 n0] 24)).alloc (.cells #[.int .i64 k1, .int .i64 n1] 24)) (.int .i64 k2) (.int .i64 n2) 24).of (by simp)
  exact ⟨h.1, h.2.1, h.2.2.1, h.2.2.2.1, h2.1, h2.2.1, h.2.2.2.2.1, h.2.2.2.2.2⟩

end Go.Proofs.YtnmcniibcjjflaaDoor


namespace Go.Proofs.YtnmcniibcjjflaaDoor
open Go.RowKit

set_option maxHeartbeats 1000000 in
theorem alike_any (b c : Nat) (k n : Int) (r : List (Int × Int)) (ks : List Int) (cap cap' : Nat) (w : World) (hV : Row w b ((k, n) :: r)) (hI : Ints w c ks) :
    Calls Tryd.prog 70 #[.slice (some ⟨b, 0, none⟩) (r.length + 1) cap, .slice (some ⟨c, 0, none⟩) ks.length cap'] w fun e w' => e = .returned (.bool (M.alike k ((k, n) :: r) ks)) ∧ Below w.heap.size w w' := by
  have hlen := hV.1
  have hlen' := hI.1
  unfold maxLen at hlen hlen'
  simp only [List.length_cons] at hlen
  have hk := (hV.2.2 0 (by simp)).1
  simp only [Nat.zero_mul, List.getD_cons_zero] at hk
  go_enter Tryd.func70, Tryd.ntmps70
  go_wp2
  go_loopw [5, 6] (fun f i wr => ∃ (j : Nat) (g : Bool), j ≤ ks.length ∧ i = .int .i64 j ∧ f = .bool g ∧ Hid (g = (ks.take j).any (fun x => k == x)) ∧ Below w.heap.size w wr) (fun _ i _ => ks.length - (intOf i).toNat)
  case atStart => exact ⟨0, false, Nat.zero_le _, rfl, rfl, rfl, Below.refl _ _⟩
  case round =>
    obtain ⟨j, g, hj, rfl, rfl, hg, hb⟩ := hrel
    by_cases hlt : j < ks.length
    · have hk' := (hb.cell (p := ⟨b, 0, none⟩) hV.2.1).trans hk
      have hx := (hI.later hb).2.2 j hlt
      have HT : Hid (ks.take (j + 1) = ks.take j ++ [ks.getD j 0]) := by rw [List.take_succ_eq_append_getElem hlt, List.getD_eq_getElem?_getD, List.getElem?_eq_getElem hlt]; rfl
      generalize ks.getD j 0 = x at *
      have hlt' : (j : Int) < ks.length := by omega
      have h0 : (0 : Int) < (r.length : Int) + 1 := by omega
      cases g with
      | true =>
        go_wp2
        go_quiet (fail)
        go_wp2
        go_roundw
        case rel => exact ⟨j + 1, true, by omega, by go_num, rfl, by unfold Hid; rw [HT.out, List.any_append, ← hg.out]; rfl, below_drewN hb _⟩
        case measure => simp [intOf]; omega
      | false =>
        go_wp2
        go_quiet (fail)
        go_wp2
        go_roundw
        case rel => exact ⟨j + 1, k == x, by omega, by go_num, by simp, by unfold Hid; rw [HT.out, List.any_append, ← hg.out]; simp, below_drewN hb _⟩
        case measure => simp [intOf]; omega
    · have hg2 : Hid (g = ks.any (fun x => k == x)) := by
        have e : j = ks.length := by omega
        have := hg.out
        rw [e, List.take_length] at this
        exact this
      have hbx := hb
      have hVb := hV.2.1
      obtain ⟨wo, rfl⟩ : ∃ wo : World, wo = wr := ⟨_, rfl⟩
      clear hg hk hI
      go_wp2
      go_loopw [5, 7] (fun f i wr => ∃ (j : Nat) (q : Bool), j ≤ r.length + 1 ∧ i = .int .i64 j ∧ f = .bool q ∧ Hid (q = (g && (((k, n) :: r).take j).all (fun x => x.1 == k))) ∧ Below w.heap.size w wr) (fun _ i _ => r.length + 1 - (intOf i).toNat)
      case atStart => exact ⟨0, g, Nat.zero_le _, rfl, rfl, by simp [Hid], hbx⟩
      case round =>
        obtain ⟨j, q, hj, rfl, rfl, hq, hb⟩ := hrel
        by_cases hlt : j < r.length + 1
        · have hVr := hV.later hb
          have hk' := (hVr.2.2 0 (by simp)).1
          simp only [Nat.zero_mul, List.getD_cons_zero] at hk'
          have hx := (hVr.2.2 j (by simpa using hlt)).1
          have HT : Hid (((k, n) :: r).take (j + 1) = ((k, n) :: r).take j ++ [((k, n) :: r).getD j (0, 0)]) := by rw [List.take_succ_eq_append_getElem (by simpa using hlt), List.getD_eq_getElem?_getD, List.getElem?_eq_getElem (by simpa using hlt)]; rfl
          generalize ((k, n) :: r).getD j (0, 0) = x at *
          obtain ⟨x, y⟩ := x
          dsimp only at hx
          have hlt' : (j : Int) < (r.length : Int) + 1 := by omega
          have h0 : (0 : Int) < (r.length : Int) + 1 := by omega
          clear hbx hlen' hVr
          cases q with
          | false =>
            go_wp2
            go_quiet (fail)
            go_wp2
            go_roundw
            case rel => exact ⟨j + 1, false, by omega, by go_num, rfl, by unfold Hid; rw [HT.out, List.all_append, ← Bool.and_assoc, ← hq.out]; rfl, below_drewN hb _⟩
            case measure => simp [intOf]; omega
          | true =>
            go_wp2
            go_quiet (fail)
            go_wp2
            go_roundw
            case rel => exact ⟨j + 1, x == k, by omega, by go_num, by simp, by unfold Hid; rw [HT.out, List.all_append, ← Bool.and_assoc, ← hq.out]; simp, below_drewN hb _⟩
            case measure => simp [intOf]; omega
        · have hq2 : Hid (q = M.alike k ((k, n) :: r) ks) := by
            have e : j = ((k, n) :: r).length := by simp; omega
            have := hq.out
            rw [e, List.take_length, hg2.out] at this
            exact this
          clear hq hV
          go_wp2
          go_ret
          exact ⟨ret_bool hq2.out, hb⟩

end Go.Proofs.YtnmcniibcjjflaaDoor


namespace Go.Proofs.YtnmcniibcjjflaaDoor
open Go.RowKit

set_option maxHeartbeats 1000000 in
theorem chosen_any (b c : Nat) (k n m : Int) (os : List (Int × Int)) (ks : List Int) (cap cap' : Nat) (w : World) (hV : Row w b ((k, n) :: os)) (hI : Ints w c ks)
    (r : Int × Int) (hr : Hid (r = M.ans (M.refuse (ks.any fun z => k == z) k n os) (M.fit true k m))) :
    Calls Tryd.prog 63 #[.slice (some ⟨b, 0, none⟩) (os.length + 1) cap, .int .i64 m, .slice (some ⟨c, 0, none⟩) ks.length cap'] w fun e w' => e = .returned (.agg #[.int .i64 r.1, .int .i64 r.2]) ∧ Below w.heap.size w w' := by
  have hR := Box.new w (.int .i64 0) (.int .i64 0) 24
  have hB : Below w.heap.size w (w.alloc (.cells #[.int .i64 0, .int .i64 0] 24)) := (Below.refl _ _).alloc (Nat.le_refl _) _
  have hlook := looked_any (some ⟨b, 0, none⟩) cap ((k, n) :: os) (w.alloc (.cells #[.int .i64 0, .int .i64 0] 24)) (hV.later hB).vals
  cases h1 : M.mish ((k, n) :: os) with
  | some v =>
    obtain ⟨x, y⟩ := v
    rw [h1] at hlook
    dsimp only [M.vk, M.vn, Option.isSome] at hlook
    have HR : Hid (r = (x, y)) := by unfold Hid; rw [hr.out, M.refuse_some h1, M.ans_some]
    clear h1 hr hV hI
    go_enter Tryd.func63, Tryd.ntmps63
    go_wp2_with (go_at_call 64; refine hlook.mono ?_; clear hlook; rintro e w1 ⟨rfl, hb1⟩; obtain ⟨r0, r1, q0, q1⟩ := (hR.later hb1).alloc (.cells #[.int .i64 x, .int .i64 y] 24); have hB1 := below_step hB hb1; clear hb1)
    exact bodyPost_ret (v := .agg #[.int .i64 x, .int .i64 y]) (by simp [results, Tryd.results63, go_sem, r0, r1]) rfl ⟨by rw [HR.out], ((hB1.alloc hB1.size _).setCell (by simp) _).setCell (by simp) _⟩
  | none =>
    rw [h1] at hlook
    dsimp only [M.vk, M.vn, Option.isSome] at hlook
    have HR : Hid (r = M.ans (if M.alike k ((k, n) :: os) ks = true then none else some (6, 5)) (M.fit true k m)) := by unfold Hid; rw [hr.out, M.refuse_alike h1]
    clear h1 hr
    have hal := fun w1 hV1 hI1 => alike_any b c k n os ks cap cap' w1 hV1 hI1
    cases h2 : M.alike k ((k, n) :: os) ks with
    | false =>
      rw [h2] at hal
      have HR' : Hid (r = (6, 5)) := by unfold Hid; rw [HR.out, h2]; rfl
      clear HR h2
      go_enter Tryd.func63, Tryd.ntmps63
      go_wp2_with (first | (go_at_call 64; refine hlook.mono ?_; clear hlook; rintro e w1 ⟨rfl, hb1⟩; have hR1 := (hR.later hb1).alloc (.cells #[.int .i64 0, .int .i64 0] 24); have hB1 := (below_step hB hb1).alloc (below_step hB hb1).size (.cells #[.int .i64 0, .int .i64 0] 24); clear hb1) | (go_at_call 70; refine (hal _ (hV.later hB1) (hI.later hB1)).mono ?_; clear hal; rintro e w2 ⟨rfl, hb2⟩; have hR2 := hR1.later hb2; have hB2 := below_step hB1 hb2; clear hb2) | (go_at_call 14; refine (bad_any _ _).mono ?_; rintro e w3 ⟨rfl, hb3⟩; obtain ⟨r0, r1, q0, q1⟩ := hR2.later hb3; have hB3 := below_step hB2 hb3; clear hb3))
      exact bodyPost_ret (v := .agg #[.int .i64 6, .int .i64 5]) (by simp [results, Tryd.results63, go_sem, r0, r1]) rfl ⟨by rw [HR'.out], (hB3.setCell (by simp) _).setCell (by simp) _⟩
    | true =>
      rw [h2] at hal
      have HR' : Hid (r = M.fit true k m) := by unfold Hid; rw [HR.out, h2]; rfl
      clear HR h2
      have h00 : (0 : Int) < (os.length : Int) + 1 := by omega
      go_enter Tryd.func63, Tryd.ntmps63
      go_wp2_with (first | (go_at_call 64; refine hlook.mono ?_; clear hlook; rintro e w1 ⟨rfl, hb1⟩; have hR1 := (hR.later hb1).alloc (.cells #[.int .i64 0, .int .i64 0] 24); have hB1 := (below_step hB hb1).alloc (below_step hB hb1).size (.cells #[.int .i64 0, .int .i64 0] 24); clear hb1) | (go_at_call 70; refine (hal _ (hV.later hB1) (hI.later hB1)).mono ?_; clear hal; rintro e w2 ⟨rfl, hb2⟩; have hR2 := hR1.later hb2; have hB2 := below_step hB1 hb2; have hc2 := ((hV.later hB2).2.2 0 (by simp)).1; simp only [Nat.zero_mul, List.getD_cons_zero] at hc2; clear hb2) | (go_at_call 16; refine (bounded_any _ _ _).mono ?_; rintro e w3 ⟨rfl, hb3⟩; obtain ⟨r0, r1, q0, q1⟩ := hR2.later hb3; have hB3 := below_step hB2 hb3; clear hb3))
      exact bodyPost_ret (v := .agg #[.int .i64 (M.fit true k m).1, .int .i64 (M.fit true k m).2]) (by simp [results, Tryd.results63, go_sem, r0, r1]) rfl ⟨by rw [HR'.out], (hB3.setCell (by simp) _).setCell (by simp) _⟩

end Go.Proofs.YtnmcniibcjjflaaDoor

import Derived.Test.YtnmcniibcjjflaaDoorJoin3
import Derived.Deep.LoopGhost
/- THE PLAIN MATHEMATICS of layer 1, more: the operands' faults, the kinds. -/
namespace Go.Proofs.YtnmcniibcjjflaaDoor
namespace M

/-- P1.2: the first fault or blank of the operands. -/
def mish : List (Int × Int) → Option (Int × Int)
  | [] => none
  | (k, n) :: r => if valid k n = false then some (6, 5) else if k = 6 then some (6, n) else if k = 0 then some (6, 3) else mish r

theorem mish_cons_bad {k n : Int} {r : List (Int × Int)} (h : valid k n = false) : mish ((k, n) :: r) = some (6, 5) := by simp [mish, h]
theorem mish_cons_fault {n : Int} {r : List (Int × Int)} (h : valid 6 n = true) : mish ((6, n) :: r) = some (6, n) := by simp [mish, h]
theorem mish_cons_blank {n : Int} {r : List (Int × Int)} (h : valid 0 n = true) : mish ((0, n) :: r) = some (6, 3) := by simp [mish, h]
theorem mish_cons_ok {k n : Int} {r : List (Int × Int)} (h : valid k n = true) (h6 : k ≠ 6) (h0 : k ≠ 0) : mish ((k, n) :: r) = mish r := by simp [mish, h, h6, h0]

/-- What a pair of results says of it. -/
def vk : Option (Int × Int) → Int | none => 0 | some x => x.1
def vn : Option (Int × Int) → Int | none => 0 | some x => x.2

theorem drop_at {l : List (Int × Int)} {j : Nat} (h : j < l.length) : l.drop j = ((l.getD j (0, 0)).1, (l.getD j (0, 0)).2) :: l.drop (j + 1) := by
  rw [List.drop_eq_getElem_cons h]
  congr 1
  rw [List.getD_eq_getElem?_getD, List.getElem?_eq_getElem h]
  rfl

/-- The fault of operands that must be of one kind, one that bears the use (t). -/
def refuse (t : Bool) (k n : Int) (os : List (Int × Int)) : Option (Int × Int) :=
  match mish [(k, n)] with
  | some v => some v
  | none => match mish os with
    | some v => some v
    | none => if t = false then some (6, 5) else if os.all (fun x => x.1 == k) then none else some (6, 5)

/-- A value, or Fault Over. -/
def fit (near : Bool) (k n : Int) : Int × Int := if near = true ∧ valid k n = true then (k, n) else (6, 1)

theorem fit_ok {k n : Int} (h : valid k n = true) : fit true k n = (k, n) := by simp [fit, h]
theorem fit_over {b : Bool} {k n : Int} (h : valid k n = false) : fit b k n = (6, 1) := by simp [fit, h]
theorem fit_far {k n : Int} : fit false k n = (6, 1) := by simp [fit]

/-- All of one kind, and that among the kinds? -/
def alike (k : Int) (vs : List (Int × Int)) (ks : List Int) : Bool := ks.any (fun x => k == x) && vs.all (fun x => x.1 == k)

end M
end Go.Proofs.YtnmcniibcjjflaaDoor


namespace Go.Proofs.YtnmcniibcjjflaaDoor
open Go.RowKit

/-- A variable of two cells. -/
def Box (w : World) (b : Nat) (x y : Value) : Prop := w.cell? ⟨b, 0, none⟩ = some x ∧ w.cell? ⟨b, 1, none⟩ = some y ∧ w.frozen? ⟨b, 0, none⟩ = false ∧ w.frozen? ⟨b, 1, none⟩ = false

theorem Box.lt {w : World} {b : Nat} {x y : Value} (h : Box w b x y) : b < w.heap.size := World.block_lt_of_cell? _ _ h.1

theorem Box.later {w w' : World} {b : Nat} {x y : Value} (h : Box w b x y) (hb : Below w.heap.size w w') : Box w' b x y := by
  have hl := h.lt
  obtain ⟨h0, h1, h2, h3⟩ := h
  exact ⟨(hb.cell (p := ⟨b, 0, none⟩) hl).trans h0, (hb.cell (p := ⟨b, 1, none⟩) hl).trans h1, (hb.frozen (p := ⟨b, 0, none⟩) hl).trans h2, (hb.frozen (p := ⟨b, 1, none⟩) hl).trans h3⟩

theorem Box.alloc {w : World} {b : Nat} {x y : Value} (h : Box w b x y) (o : Obj) : Box (w.alloc o) b x y := h.later ((Below.refl _ _).alloc (Nat.le_refl _) _)

theorem Box.drew {w : World} {b : Nat} {x y : Value} (h : Box w b x y) : Box w.drew b x y := h.later (Below.refl _ _).drew
theorem Box.drewN {w : World} {b : Nat} {x y : Value} (h : Box w b x y) (n : Nat) : Box (w.drewN n) b x y := h.later (below_drewN (Below.refl _ _) n)

theorem Box.new (w : World) (x y : Value) (t : TypeId) : Box (w.alloc (.cells #[x, y] t)) w.heap.size x y := by
  refine ⟨?_, ?_, ?_, ?_⟩
  · rw [World.cell?_alloc_at _ _ _ _ rfl]; rfl
  · rw [World.cell?_alloc_at _ _ _ _ rfl]; rfl
  · exact World.frozen?_alloc_at _ _ _ _ rfl
  · exact World.frozen?_alloc_at _ _ _ _ rfl

theorem Box.of {w : World} {b c : Nat} {x y : Value} (h : Box w b x y) (e : b = c) : Box w c x y := e ▸ h

/-- A store into a block of its own leaves what was there. -/
theorem below_set {w X : World} (h : Below w.heap.size w X) {a : Addr} (ha : w.heap.size ≤ a.block) (v : Value) : Below w.heap.size w (X.setCell a v) := h.setCell ha v

end Go.Proofs.YtnmcniibcjjflaaDoor


namespace Go.Proofs.YtnmcniibcjjflaaDoor
open Go.RowKit

/-- Values in a row of memory. -/
def Vals (w : World) (a : Option Addr) (vs : List (Int × Int)) : Prop := vs.length ≤ maxLen ∧ (vs = [] ∨ ∃ b off, a = some ⟨b, off, none⟩ ∧ b < w.heap.size ∧ ∀ i, i < vs.length → w.cell? ⟨b, off + i * 2, none⟩ = some (.int .i64 (vs.getD i (0, 0)).1) ∧ w.cell? ⟨b, off + i * 2 + 1, none⟩ = some (.int .i64 (vs.getD i (0, 0)).2))

theorem Vals.later {w w' : World} {a : Option Addr} {vs : List (Int × Int)} (h : Vals w a vs) (hb : Below w.heap.size w w') : Vals w' a vs := by
  obtain ⟨h0, h | ⟨b, off, rfl, hlt, hc⟩⟩ := h
  · exact ⟨h0, .inl h⟩
  · refine ⟨h0, .inr ⟨b, off, rfl, Nat.lt_of_lt_of_le hlt hb.size, fun i hi => ?_⟩⟩
    rw [hb.cell (p := ⟨b, off + i * 2, none⟩) hlt, hb.cell (p := ⟨b, off + i * 2 + 1, none⟩) hlt]
    exact hc i hi

theorem fault_any (n : Int) (w : World) : Calls Tryd.prog 18 #[.int .i64 n] w fun e w' => e = .returned (.agg #[.int .i64 6, .int .i64 n]) ∧ Below w.heap.size w w' := by
  go_enter Tryd.func18, Tryd.ntmps18
  go_wp2
  exact bodyPost_ret (v := .agg #[.int .i64 6, .int .i64 n]) (by simp [results, Tryd.results18, go_sem]) rfl ⟨rfl, by simpa using (Below.refl w.heap.size w).alloc (Nat.le_refl _) _⟩

theorem bad_any (n : Int) (w : World) : Calls Tryd.prog 14 #[.int .i64 n] w fun e w' => e = .returned (.agg #[.int .i64 6, .int .i64 n]) ∧ Below w.heap.size w w' := by
  go_enter Tryd.func14, Tryd.ntmps14
  go_wp2
  exact bodyPost_ret (v := .agg #[.int .i64 6, .int .i64 n]) (by simp [results, Tryd.results14, go_sem]) rfl ⟨rfl, by simpa using (Below.refl w.heap.size w).alloc (Nat.le_refl _) _⟩

set_option maxHeartbeats 1000000 in
theorem mishap_any (a : Option Addr) (cap : Nat) (vs : List (Int × Int)) (w : World) (hK : Kinds w) (hV : Vals w a vs) :
    Calls Tryd.prog 73 #[.slice a vs.length cap] w fun e w' => e = .returned (.tuple #[.agg #[.int .i64 (M.vk (M.mish vs)), .int .i64 (M.vn (M.mish vs))], .bool (M.mish vs).isSome]) ∧ Below w.heap.size w w' := by
  have hlen := hV.1
  unfold maxLen at hlen
  have hK0 := hK.alloc (.cells #[.int .i64 0, .int .i64 0] 24)
  have hV0 := hV.later ((Below.refl _ _).alloc (Nat.le_refl _) (.cells #[.int .i64 0, .int .i64 0] 24))
  have hB0 : Below w.heap.size w (w.alloc (.cells #[.int .i64 0, .int .i64 0] 24)) := (Below.refl _ _).alloc (Nat.le_refl _) _
  clear hK hV
  go_enter Tryd.func73, Tryd.ntmps73
  go_wp2
  go_loopw [8] (fun i wr => ∃ j : Nat, j ≤ vs.length ∧ i = .int .i64 j ∧ M.mish (vs.drop j) = M.mish vs ∧ Below (w.alloc (.cells #[.int .i64 0, .int .i64 0] 24)).heap.size (w.alloc (.cells #[.int .i64 0, .int .i64 0] 24)) wr) (fun i _ => vs.length - (intOf i).toNat)
  case atStart => exact ⟨0, Nat.zero_le _, rfl, rfl, Below.refl _ _⟩
  case round =>
    obtain ⟨j, hj, rfl, hm, hb⟩ := hrel
    have hBw := below_step hB0 hb
    have hKr := hK0.later hb
    have hVr := hV0.later hb
    have hR := (Box.new w (.int .i64 0) (.int .i64 0) 24).later hb
    have HB : Hid (Below (w.alloc (.cells #[.int .i64 0, .int .i64 0] 24)).heap.size (w.alloc (.cells #[.int .i64 0, .int .i64 0] 24)) wr) := hb
    clear hb hB0 hK0 hV0
    by_cases hlt : j < vs.length
    · obtain ⟨-, h | ⟨b, off, rfl, hbw, hcs⟩⟩ := hVr
      · subst h; simp at hlt
      obtain ⟨hc0, hc1⟩ := hcs j hlt
      have hdr := M.drop_at hlt
      generalize (vs.getD j (0, 0)).1 = k at *
      generalize (vs.getD j (0, 0)).2 = n at *
      clear hcs
      have hlt' : (j : Int) < vs.length := by omega
      have HD : Hid (vs.drop j = (k, n) :: vs.drop (j + 1)) := hdr
      have HM : Hid (M.mish (vs.drop j) = M.mish vs) := hm
      clear hdr hm
      cases hv : M.valid k n with
      | false =>
        go_wp2_with (first | (go_at_call 12; refine (valid_any _ _ _ (hKr.alloc _)).mono ?_; rintro e w1 ⟨rfl, hb1⟩; have hR1 := (hR.alloc _).later hb1; have hB1 := below_step (hBw.alloc hBw.size _) hb1; clear hb1) | (go_at_call 18; refine (fault_any _ _).mono ?_; rintro e w2 ⟨rfl, hb2⟩; obtain ⟨r0, r1, q0, q1⟩ := hR1.later hb2; have hB2 := below_step hB1 hb2; clear hb2))
        exact bodyPost_ret (v := .tuple #[.agg #[.int .i64 6, .int .i64 5], .bool true]) (by simp [results, Tryd.results73, go_sem, r0, r1]) rfl ⟨by rw [← HM.out, HD.out, M.mish_cons_bad hv]; rfl, (hB2.setCell (Nat.le_refl _) _).setCell (Nat.le_refl _) _⟩
      | true =>
        by_cases h6 : k = 6
        · subst h6
          go_wp2_with (go_at_call 12; refine (valid_any _ _ _ (hKr.alloc _)).mono ?_; rintro e w1 ⟨rfl, hb1⟩; obtain ⟨r0, r1, q0, q1⟩ := (hR.alloc _).later hb1; obtain ⟨s0, s1, -, -⟩ := (Box.new _ _ _ _).later hb1; have hB1 := below_step (hBw.alloc hBw.size _) hb1; clear hb1)
          exact bodyPost_ret (v := .tuple #[.agg #[.int .i64 6, .int .i64 n], .bool true]) (by simp [results, Tryd.results73, go_sem, r0, r1]) rfl ⟨by rw [← HM.out, HD.out, M.mish_cons_fault hv]; rfl, (hB1.setCell (Nat.le_refl _) _).setCell (Nat.le_refl _) _⟩
        · by_cases h0 : k = 0
          · subst h0
            go_wp2_with (first | (go_at_call 12; refine (valid_any _ _ _ (hKr.alloc _)).mono ?_; rintro e w1 ⟨rfl, hb1⟩; have hR1 := (hR.alloc _).later hb1; obtain ⟨s0, s1, -, -⟩ := (Box.new _ _ _ _).later hb1; have hB1 := below_step (hBw.alloc hBw.size _) hb1; clear hb1) | (go_at_call 18; refine (fault_any _ _).mono ?_; rintro e w2 ⟨rfl, hb2⟩; obtain ⟨r0, r1, q0, q1⟩ := hR1.later hb2; have hB2 := below_step hB1 hb2; clear hb2))
            exact bodyPost_ret (v := .tuple #[.agg #[.int .i64 6, .int .i64 3], .bool true]) (by simp [results, Tryd.results73, go_sem, r0, r1]) rfl ⟨by rw [← HM.out, HD.out, M.mish_cons_blank hv]; rfl, (hB2.setCell (Nat.le_refl _) _).setCell (Nat.le_refl _) _⟩
          · have e6 : (k == 6) = false := by simpa using h6
            have e0 : (k == 0) = false := by simpa using h0
            have HN : Hid (M.mish (vs.drop (j + 1)) = M.mish vs) := by have := HM.out; rw [HD.out, M.mish_cons_ok hv h6 h0] at this; exact this
            clear h6 h0
            go_wp2_with (go_at_call 12; refine (valid_any _ _ _ (hKr.alloc _)).mono ?_; rintro e w1 ⟨rfl, hb1⟩; obtain ⟨s0, s1, -, -⟩ := (Box.new _ _ _ _).later hb1; have hB1 := below_step ((HB.out).alloc (HB.out).size _) hb1; clear hb1)
            go_roundw
            case rel => exact ⟨j + 1, by omega, by go_num, HN.out, hB1⟩
            case measure => simp [intOf]; omega
    · have HE : Hid (M.mish vs = none) := by
        have e : j = vs.length := by omega
        rw [e, List.drop_length] at hm
        exact hm.symm
      clear hm
      obtain ⟨r0, r1, q0, q1⟩ := hR
      go_wp2
      exact bodyPost_ret (v := .tuple #[.agg #[.int .i64 0, .int .i64 0], .bool false]) (by simp [results, Tryd.results73, go_sem, r0, r1]) rfl ⟨by rw [HE.out]; rfl, (hBw.setCell (Nat.le_refl _) _).setCell (Nat.le_refl _) _⟩

end Go.Proofs.YtnmcniibcjjflaaDoor

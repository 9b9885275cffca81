import Derived.Test.YtekapipfaahhcaaGreatDoorWBeg
import Derived.Test.YtekapipfaahhcaaGreatDoorShelf
namespace Go.Proofs.YtekapipfaahhcaaGreatDoor
open Go.RowKit

/-- A token in memory. -/
def tokC (k at_ : Nat) (t : List UInt8) (n d : Nat) : Array Value := #[.int .i64 (k : Int), .int .i64 (at_ : Int), .string ⟨t.toArray⟩, .int .i64 (n : Int), .int .i64 (d : Int)]
/-- What a taker of words answers. -/
def resV (at_ : Nat) : Res → Value
  | .ok (w, e) => .tuple #[.agg (tokC w.1 at_ w.2.1 w.2.2.1 w.2.2.2), .int .i64 (e : Int), .int .i64 0]
  | .error (p, n) => .tuple #[.agg (tokC 0 p [] 0 0), .int .i64 0, .int .i64 (n : Int)]

theorem resV_lit (at_ : Nat) (R : Res) : ∃ (K A : Int) (T : ByteArray) (N D E Z : Int), resV at_ R = .tuple #[.agg #[.int .i64 K, .int .i64 A, .string T, .int .i64 N, .int .i64 D], .int .i64 E, .int .i64 Z] := by
  rcases R with ⟨p, n⟩ | ⟨w, e⟩
  · exact ⟨_, _, _, _, _, _, _, rfl⟩
  · exact ⟨_, _, _, _, _, _, _, rfl⟩

set_option maxHeartbeats 1000000 in
theorem fault_lit (p z : Int) (w : World) : Calls Tryz.prog 135 #[.int .i64 p, .int .i64 z] w fun e w' => e = .returned (.tuple #[.agg #[.int .i64 0, .int .i64 p, .string ⟨#[]⟩, .int .i64 0, .int .i64 0], .int .i64 0, .int .i64 z]) ∧ Below w.heap.size w w' := by
  go_enter Tryz.func135, Tryz.ntmps135
  go_wp2
  exact bodyPost_ret (v := .tuple #[.agg #[.int .i64 0, .int .i64 p, .string ⟨#[]⟩, .int .i64 0, .int .i64 0], .int .i64 0, .int .i64 z]) (by simp [results, Tryz.results135, go_sem]) rfl ⟨rfl, (Below.refl _ _).alloc (Nat.le_refl _) _⟩

theorem slice_list (s : ByteArray) (a b : Nat) : (s.extract a b).data.toList = slc s.data.toList a b := by
  rw [ByteArray.data_extract, Array.toList_extract]
  unfold slc
  simp only [List.extract]
  rw [List.drop_take]
theorem mk_list (t : ByteArray) : t = ⟨t.data.toList.toArray⟩ := by simp

theorem clone_any (s : ByteArray) (hs : s.size ≤ 140737488351232) (w : World) : Calls Tryz.prog 136 #[.string s] w fun e w' => e = .returned (.string s) ∧ Below w.heap.size w w' := by
  have h := Tryz.stringslite_Clone s w (by omega)
  go_enter Tryz.func136, Tryz.ntmps136
  go_wp2_with (go_at_call 145; refine h.mono ?_; rintro e w1 ⟨rfl, hb⟩)
  go_ret
  exact ⟨rfl, hb⟩

/-- The five cells of a token, in memory that may be written. -/
structure Box5 (W : World) (b : Nat) : Prop where
  c0 : ∃ v, W.cell? ⟨b, 0, none⟩ = some v
  c1 : ∃ v, W.cell? ⟨b, 1, none⟩ = some v
  c2 : ∃ v, W.cell? ⟨b, 2, none⟩ = some v
  c3 : ∃ v, W.cell? ⟨b, 3, none⟩ = some v
  c4 : ∃ v, W.cell? ⟨b, 4, none⟩ = some v
  f : ∀ j, W.frozen? ⟨b, j, none⟩ = false
theorem Box5.new (W : World) (t : TypeId) : Box5 (W.alloc (.cells #[.int .i64 0, .int .i64 0, .string ⟨#[]⟩, .int .i64 0, .int .i64 0] t)) W.heap.size :=
  ⟨⟨.int .i64 0, by simp⟩, ⟨.int .i64 0, by simp⟩, ⟨.string ⟨#[]⟩, by simp⟩, ⟨.int .i64 0, by simp⟩, ⟨.int .i64 0, by simp⟩, fun j => World.frozen?_alloc_new _ _ _ _⟩
theorem Box5.later {W W' : World} {b : Nat} (h : Box5 W b) (hb : Below W.heap.size W W') : Box5 W' b := by
  obtain ⟨⟨v0, h0⟩, ⟨v1, h1⟩, ⟨v2, h2⟩, ⟨v3, h3⟩, ⟨v4, h4⟩, hf⟩ := h
  have hlt : b < W.heap.size := World.block_lt_of_cell? _ _ h0
  exact ⟨⟨v0, (hb.cell (p := ⟨b, 0, none⟩) hlt).trans h0⟩, ⟨v1, (hb.cell (p := ⟨b, 1, none⟩) hlt).trans h1⟩, ⟨v2, (hb.cell (p := ⟨b, 2, none⟩) hlt).trans h2⟩, ⟨v3, (hb.cell (p := ⟨b, 3, none⟩) hlt).trans h3⟩, ⟨v4, (hb.cell (p := ⟨b, 4, none⟩) hlt).trans h4⟩, fun j => (hb.frozen (p := ⟨b, j, none⟩) hlt).trans (hf j)⟩
/-- A token is stored. -/
def set5 (X : World) (b : Nat) (x0 x1 x2 x3 x4 : Value) : World := ((((X.setCell ⟨b, 0, none⟩ x0).setCell ⟨b, 1, none⟩ x1).setCell ⟨b, 2, none⟩ x2).setCell ⟨b, 3, none⟩ x3).setCell ⟨b, 4, none⟩ x4
theorem set5_cells {X : World} {b : Nat} (h : Box5 X b) (x0 x1 x2 x3 x4 : Value) : (set5 X b x0 x1 x2 x3 x4).cell? ⟨b, 0, none⟩ = some x0 ∧ (set5 X b x0 x1 x2 x3 x4).cell? ⟨b, 1, none⟩ = some x1 ∧ (set5 X b x0 x1 x2 x3 x4).cell? ⟨b, 2, none⟩ = some x2 ∧ (set5 X b x0 x1 x2 x3 x4).cell? ⟨b, 3, none⟩ = some x3 ∧ (set5 X b x0 x1 x2 x3 x4).cell? ⟨b, 4, none⟩ = some x4 := by
  obtain ⟨⟨v0, h0⟩, ⟨v1, h1⟩, ⟨v2, h2⟩, ⟨v3, h3⟩, ⟨v4, h4⟩, -⟩ := h
  have o : ∀ (Y : World) (i j : Nat) (v : Value), i ≠ j → (Y.setCell ⟨b, j, none⟩ v).cell? ⟨b, i, none⟩ = Y.cell? ⟨b, i, none⟩ := fun Y i j v hij => World.cell?_setCell_other _ _ _ _ (fun e => hij (by cases e; rfl))
  unfold set5
  refine ⟨?_, ?_, ?_, ?_, ?_⟩
  · rw [o _ 0 4 _ (by decide), o _ 0 3 _ (by decide), o _ 0 2 _ (by decide), o _ 0 1 _ (by decide)]
    exact World.cell?_setCell_same _ _ _ h0
  · rw [o _ 1 4 _ (by decide), o _ 1 3 _ (by decide), o _ 1 2 _ (by decide)]
    exact World.cell?_setCell_same _ _ _ (u := v1) (by rw [o _ 1 0 _ (by decide)]; exact h1)
  · rw [o _ 2 4 _ (by decide), o _ 2 3 _ (by decide)]
    exact World.cell?_setCell_same _ _ _ (u := v2) (by rw [o _ 2 1 _ (by decide), o _ 2 0 _ (by decide)]; exact h2)
  · rw [o _ 3 4 _ (by decide)]
    exact World.cell?_setCell_same _ _ _ (u := v3) (by rw [o _ 3 2 _ (by decide), o _ 3 1 _ (by decide), o _ 3 0 _ (by decide)]; exact h3)
  · exact World.cell?_setCell_same _ _ _ (u := v4) (by rw [o _ 4 3 _ (by decide), o _ 4 2 _ (by decide), o _ 4 1 _ (by decide), o _ 4 0 _ (by decide)]; exact h4)
theorem set5_below {w X : World} {b : Nat} (h : Below w.heap.size w X) (hb : w.heap.size ≤ b) (x0 x1 x2 x3 x4 : Value) : Below w.heap.size w (set5 X b x0 x1 x2 x3 x4) :=
  ((((h.setCell hb x0).setCell hb x1).setCell hb x2).setCell hb x3).setCell hb x4

set_option maxRecDepth 4000 in
set_option maxHeartbeats 1000000 in
theorem name_any (s : ByteArray) (a : Nat) (ha : a ≤ s.size) (hs : s.size ≤ 140737488351232) (w : World) (hC : Cls w) :
    Calls Tryz.prog 78 #[.string s, .int .i64 a] w fun e w' => e = .returned (resV a (nameS s.data.toList a)) ∧ Below w.heap.size w w' := by
  have hb1 := (Below.refl w.heap.size w).alloc (Nat.le_refl _) (.cells #[.int .i64 0, .int .i64 0, .string ⟨#[]⟩, .int .i64 0, .int .i64 0] 66)
  have hrun := runEnd_any s a 56 ha (by omega) (by omega) _ (hC.later hb1)
  have hbox := Box5.new w 66
  have hle := rn_le 56 (s.data.toList.drop a)
  rw [List.length_drop, size_list] at hle
  obtain ⟨k, hk⟩ : ∃ k, rn 56 (s.data.toList.drop a) = k := ⟨_, rfl⟩
  obtain ⟨R, hR⟩ : ∃ R, nameS s.data.toList a = R := ⟨_, rfl⟩
  rw [hR]
  rw [hk] at hrun hle
  unfold nameS at hR
  rw [hk] at hR
  by_cases hlong : 12 < k
  · rw [if_pos hlong] at hR
    have hl' : (12 : Int) < ((a + k : Nat) : Int) - (a : Int) := by omega
    have hR' : Hid (resV a (.error (a, 40)) = resV a R) := by unfold Hid; rw [hR]
    clear hR
    go_enter Tryz.func78, Tryz.ntmps78
    go_wp2_with (first | (go_at_call 134; refine hrun.mono ?_; rintro e w1 ⟨rfl, hb2⟩) | (go_at_call 135; refine (fault_lit (a : Int) 40 _).mono ?_; rintro e w2 ⟨rfl, hb3⟩; have hbx := (hbox.later hb2).later hb3; have hbx' := hbx; obtain ⟨⟨v0, c0⟩, ⟨v1, c1⟩, ⟨v2, c2⟩, ⟨v3, c3⟩, ⟨v4, c4⟩, hf⟩ := hbx'; have f0 := hf 0; have f1 := hf 1; have f2 := hf 2; have f3 := hf 3; have f4 := hf 4; clear hf))
    obtain ⟨q0, q1, q2, q3, q4⟩ := set5_cells hbx (.int .i64 0) (.int .i64 (a : Int)) (.string ⟨#[]⟩) (.int .i64 0) (.int .i64 0)
    unfold set5 at q0 q1 q2 q3 q4
    refine bodyPost_ret (v := .tuple #[.agg #[.int .i64 0, .int .i64 (a : Int), .string ⟨#[]⟩, .int .i64 0, .int .i64 0], .int .i64 0, .int .i64 40]) (by simp [results, Tryz.results78, go_sem, q0, q1, q2, q3, q4]) rfl ⟨?_, set5_below (below_step (below_step hb1 hb2) hb3) (Nat.le_refl _) _ _ _ _ _⟩
    rw [← hR'.out]
    rfl
  · rw [if_neg hlong] at hR
    have hl' : ¬ (12 : Int) < ((a + k : Nat) : Int) - (a : Int) := by omega
    have hR' : Hid (resV a (.ok ((1, slc s.data.toList a (a + k), 0, 0), a + k)) = resV a R) := by unfold Hid; rw [hR]
    clear hR
    obtain ⟨t, ht⟩ : ∃ t, s.extract a (a + k) = t := ⟨_, rfl⟩
    have htl : Hid (t = ⟨(slc s.data.toList a (a + k)).toArray⟩) := by
      unfold Hid
      rw [← slice_list, ht]
    have hts : t.size ≤ 140737488351232 := by
      rw [← size_list, ← ht, slice_list]
      unfold slc
      rw [List.length_drop, List.length_take]
      omega
    have hext : ∀ W, (Instr.slice 9 (.string s) (some (.int .i64 (a : Int))) (some (.int .i64 ((a : Int) + (k : Int)))) none).run Tryz.prog W = .ok (.string t) W := fun W => by
      rw [run_slice_string W 9 s .i64 .i64 (a : Int) ((a : Int) + (k : Int)) Tryz.underlying9 (by omega) (by omega) (by omega), ← ht, show ((a : Int) + (k : Int)).toNat = a + k from by omega, show ((a : Int)).toNat = a from rfl]
    have hcl := fun W => clone_any t hts W
    go_enter Tryz.func78, Tryz.ntmps78
    go_wp2_with (first | (go_at_call 134; refine hrun.mono ?_; rintro e w1 ⟨rfl, hb2⟩) | (go_at_call 136; refine (hcl _).mono ?_; rintro e w2 ⟨rfl, hb3⟩; have hbx := (hbox.later hb2).later hb3; have hbx' := hbx; obtain ⟨⟨v0, c0⟩, ⟨v1, c1⟩, ⟨v2, c2⟩, ⟨v3, c3⟩, ⟨v4, c4⟩, hf⟩ := hbx'; have f0 := hf 0; have f1 := hf 1; have f2 := hf 2; have f3 := hf 3; have f4 := hf 4; clear hf))
    obtain ⟨q0, q1, q2, q3, q4⟩ := set5_cells hbx (.int .i64 1) (.int .i64 (a : Int)) (.string t) (.int .i64 0) (.int .i64 0)
    unfold set5 at q0 q1 q2 q3 q4
    refine bodyPost_ret (v := .tuple #[.agg #[.int .i64 1, .int .i64 (a : Int), .string t, .int .i64 0, .int .i64 0], .int .i64 ((a : Int) + (k : Int)), .int .i64 0]) (by simp [results, Tryz.results78, go_sem, q0, q1, q2, q3, q4]) rfl ⟨?_, set5_below (below_step (below_step hb1 hb2) hb3) (Nat.le_refl _) _ _ _ _ _⟩
    rw [← hR'.out, htl.out]
    simp [resV, tokC]

/-- The table of the signs, as the package lays it. -/
def Sgn (w : World) : Prop := 2 < w.heap.size ∧ ∀ i (h : i < 15), w.cell? ⟨2, i, none⟩ = some (.string ⟨(signsL[i]'h).toArray⟩)
theorem Sgn.later {w w' : World} (h : Sgn w) (hb : Below w.heap.size w w') : Sgn w' := ⟨Nat.lt_of_lt_of_le h.1 hb.size, fun i hi => (hb.cell (p := ⟨2, i, none⟩) h.1).trans (h.2 i hi)⟩
theorem idx15 (pv : Nat → Value) : ∀ j : Nat, j < 15 → ∀ W : World, (Instr.index 123 (.agg ((List.range 15).map pv).toArray) (.int .i64 (j : Int))).run Tryz.prog W = .ok (pv j) W
  | 0, _, W => by kernel_rfl
  | 1, _, W => by kernel_rfl
  | 2, _, W => by kernel_rfl
  | 3, _, W => by kernel_rfl
  | 4, _, W => by kernel_rfl
  | 5, _, W => by kernel_rfl
  | 6, _, W => by kernel_rfl
  | 7, _, W => by kernel_rfl
  | 8, _, W => by kernel_rfl
  | 9, _, W => by kernel_rfl
  | 10, _, W => by kernel_rfl
  | 11, _, W => by kernel_rfl
  | 12, _, W => by kernel_rfl
  | 13, _, W => by kernel_rfl
  | 14, _, W => by kernel_rfl
  | j + 15, h, W => absurd h (by omega)
theorem sig_step {x : List UInt8} {j : Nat} (hn : ∀ i, i < j → (signsL.getD i []).isPrefixOf x = false) : signsL.find? (fun s => s.isPrefixOf x) = (signsL.drop j).find? (fun s => s.isPrefixOf x) := by
  have key : ∀ (L : List (List UInt8)) (j : Nat), (∀ i, i < j → i < L.length → (L.getD i []).isPrefixOf x = false) → L.find? (fun s => s.isPrefixOf x) = (L.drop j).find? (fun s => s.isPrefixOf x) := by
    intro L
    induction L with
    | nil => intro j _; simp
    | cons s L ih =>
      intro j hj
      cases j with
      | zero => rfl
      | succ j =>
        have h0 := hj 0 (by omega) (by simp)
        simp only [List.getD_cons_zero] at h0
        rw [List.find?_cons, h0]
        show L.find? _ = (L.drop j).find? _
        exact ih j (fun i hi hl => by have := hj (i + 1) (by omega) (by simpa using hl); simpa using this)
  exact key signsL j (fun i hi _ => hn i hi)
theorem sig_get {j : Nat} (h : j < 15) : signsL.drop j = signsL.getD j [] :: signsL.drop (j + 1) := by
  have hl : j < signsL.length := h
  rw [List.drop_eq_getElem_cons hl]
  simp [List.getD, hl]

set_option maxRecDepth 4000 in
set_option maxHeartbeats 2000000 in
theorem sign_any (s : ByteArray) (a : Nat) (ha : a ≤ s.size) (hs : s.size ≤ 140737488351232) (w : World) (hS : Sgn w) :
    Calls Tryz.prog 81 #[.string s, .int .i64 a] w fun e w' => e = .returned (resV a (signS s.data.toList a)) ∧ Below w.heap.size w w' := by
  have hb1 := (Below.refl w.heap.size w).alloc (Nat.le_refl _) (.cells #[.int .i64 0, .int .i64 0, .string ⟨#[]⟩, .int .i64 0, .int .i64 0] 66)
  have hbox := Box5.new w 66
  have hS1 := hS.later hb1
  have ha' : (a : Int) ≤ s.size := by omega
  have ha0 : (0 : Int) ≤ (a : Int) := by omega
  obtain ⟨t, ht⟩ : ∃ t, s.extract a s.size = t := ⟨_, rfl⟩
  have htl : t.data.toList = s.data.toList.drop a := by rw [← ht]; exact ext_list s a
  have hext : ∀ W, (Instr.slice 9 (.string s) (some (.int .i64 (a : Int))) none none).run Tryz.prog W = .ok (.string t) W := fun W => by
    rw [← ht]
    have := run_slice_string_l (P := Tryz.prog) (w := W) (t := 9) (s := s) Tryz.underlying9 .i64 (a : Int) ha0 ha'
    simpa using this
  obtain ⟨R, hR⟩ : ∃ R, signS s.data.toList a = R := ⟨_, rfl⟩
  have hR' : Hid ((match signsL.find? (fun s => s.isPrefixOf t.data.toList) with | some s => .ok ((7, s, 0, 0), a + s.length) | none => .error (a, 41)) = R) := by
    unfold Hid
    rw [htl]
    exact hR
  rw [hR]
  clear hR htl ht
  go_enter Tryz.func81, Tryz.ntmps81
  obtain ⟨A, hA, hlen, hrange⟩ : ∃ A : List Value, (∀ j : Nat, j < 15 → ∀ W : World, (Instr.index 123 (.agg A.toArray) (.int .i64 (j : Int))).run Tryz.prog W = .ok (.string ⟨(signsL.getD j []).toArray⟩) W) ∧ A.length = 15 ∧ (w.alloc (.cells #[.int .i64 0, .int .i64 0, .string ⟨#[]⟩, .int .i64 0, .int .i64 0] 66)).rangeAt 2 0 A := ⟨(List.range 15).map fun j => .string ⟨(signsL.getD j []).toArray⟩, idx15 _, by simp, fun j v hv => by
    have hj : j < 15 := by
      have := (List.getElem?_eq_some_iff.1 hv).1
      simpa using this
    have hv' : v = .string ⟨(signsL.getD j []).toArray⟩ := by
      simp [hj] at hv
      exact hv.symm
    rw [hv', Nat.zero_add, hS1.2 j hj]
    simp [List.getD, hj, signsL]⟩
  have hinfo : (Tryz.prog.info? 123).map (·.size) = some A.length := by rw [hlen]; kernel_rfl
  go_wp2_with (refine wpList_load_mid rfl 123 _ rfl 2 0 rfl A _ hrange Tryz.underlying123 rfl hinfo ?_)
  clear hrange hinfo hlen
  go_loopw [10] (fun i W => ∃ j : Nat, j ≤ 15 ∧ i = .int .i64 j ∧ (∀ i, i < j → (signsL.getD i []).isPrefixOf t.data.toList = false) ∧ W = w.alloc (.cells #[.int .i64 0, .int .i64 0, .string ⟨#[]⟩, .int .i64 0, .int .i64 0] 66)) (fun i _ => 15 - (intOf i).toNat)
  case atStart => exact ⟨0, by omega, rfl, fun i hi => by omega, rfl⟩
  case round =>
    obtain ⟨j, hj, rfl, hno, rfl⟩ := hrel
    by_cases hlt : j < 15
    · have hlt' : (j : Int) < 15 := by omega
      have hAj := hA j hlt
      have hst := sig_step hno
      rw [sig_get hlt, List.find?_cons] at hst
      obtain ⟨g, hg⟩ : ∃ g, signsL.getD j [] = g := ⟨_, rfl⟩
      have hgl : g.length ≤ 2 := by
        rw [← hg]
        have : ∀ k : Fin 15, (signsL.getD k.val []).length ≤ 2 := by decide
        exact this ⟨j, hlt⟩
      have hp := Tryz.strings_HasPrefix t ⟨g.toArray⟩
      rw [show (⟨g.toArray⟩ : ByteArray).data.toList = g from rfl] at hp
      unfold Lib.hasPrefix at hp
      rw [hg] at hAj hst
      cases hpre : g.isPrefixOf t.data.toList with
      | true =>
        rw [hpre] at hp hst
        have hRv : Hid (R = .ok ((7, g, 0, 0), a + g.length)) := by
          unfold Hid
          rw [← hR'.out, hst]
        have hgs : (⟨g.toArray⟩ : ByteArray).size = g.length := by show g.toArray.size = _; simp
        have hbx := hbox
        obtain ⟨⟨v0, c0⟩, ⟨v1, c1⟩, ⟨v2, c2⟩, ⟨v3, c3⟩, ⟨v4, c4⟩, hf⟩ := hbx
        have f0 := hf 0
        have f1 := hf 1
        have f2 := hf 2
        have f3 := hf 3
        have f4 := hf 4
        clear hf hst hno hR' hpre hg hA
        go_wp2_with (first | (go_at_call 140; refine (hp _).mono ?_; rintro e w9 ⟨rfl, hw9⟩; subst w9))
        refine bodyPost_ret (v := .tuple #[.agg #[.int .i64 7, .int .i64 (a : Int), .string ⟨g.toArray⟩, .int .i64 0, .int .i64 0], .int .i64 ((a : Int) + (g.length : Int)), .int .i64 0]) (by simp [results, Tryz.results81, go_sem]) rfl ⟨?_, (Below.refl _ _).alloc (Nat.le_refl _) _⟩
        rw [hRv.out]
        simp [resV, tokC]
      | false =>
        rw [hpre] at hp
        have hno2 : Hid (∀ i, i < j + 1 → (signsL.getD i []).isPrefixOf t.data.toList = false) := fun i hi => by
          by_cases h : i = j
          · rw [h, hg]; exact hpre
          · exact hno i (by omega)
        clear hst hno hpre hg hA
        go_wp2_with (first | (go_at_call 140; refine (hp _).mono ?_; rintro e w9 ⟨rfl, hw9⟩; subst w9))
        go_roundw
        case rel => exact ⟨j + 1, by omega, by go_num, hno2.out, trivial⟩
        case measure => simp [intOf]; omega
    · obtain rfl : j = 15 := by omega
      have hRv : Hid (R = .error (a, 41)) := by
        unfold Hid
        rw [← hR'.out, sig_step hno]
        rfl
      clear hno hR' hA
      go_wp2_with (first | (go_at_call 135; refine (fault_lit (a : Int) 41 _).mono ?_; rintro e w2 ⟨rfl, hb3⟩; have hbx := hbox.later hb3; have hbx' := hbx; obtain ⟨⟨v0, c0⟩, ⟨v1, c1⟩, ⟨v2, c2⟩, ⟨v3, c3⟩, ⟨v4, c4⟩, hf⟩ := hbx'; have f0 := hf 0; have f1 := hf 1; have f2 := hf 2; have f3 := hf 3; have f4 := hf 4; clear hf))
      obtain ⟨q0, q1, q2, q3, q4⟩ := set5_cells hbx (.int .i64 0) (.int .i64 (a : Int)) (.string ⟨#[]⟩) (.int .i64 0) (.int .i64 0)
      unfold set5 at q0 q1 q2 q3 q4
      refine bodyPost_ret (v := .tuple #[.agg #[.int .i64 0, .int .i64 (a : Int), .string ⟨#[]⟩, .int .i64 0, .int .i64 0], .int .i64 0, .int .i64 41]) (by simp [results, Tryz.results81, go_sem, q0, q1, q2, q3, q4]) rfl ⟨?_, set5_below (below_step hb1 hb3) (Nat.le_refl _) _ _ _ _ _⟩
      rw [hRv.out]
      rfl

end Go.Proofs.YtekapipfaahhcaaGreatDoor

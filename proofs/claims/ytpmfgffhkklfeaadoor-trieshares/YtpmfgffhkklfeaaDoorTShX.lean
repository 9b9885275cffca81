import Derived.Test.YtpmfgffhkklfeaaDoorTShO
import Derived.Test.YtpmfgffhkklfeaaDoorTShR
import Derived.Test.YtpmfgffhkklfeaaDoorTShW
import Derived.Deep.RegionHeld3
import Derived.Deep.DeepCutAuto
import Derived.Deep.CutBlock
import Derived.Deep.QuietTactic
import Derived.BigQuiet
namespace Go.Proofs.YtpmfgffhkklfeaaDoor
open Go.RowKit

theorem list_entsX (mb : Nat) (t : Tr) (hl : (t.ents 7 0).length ≤ 5000) (w : World) (h : MapT w mb t) : Calls Tryd.prog 11 #[.pointer (some ⟨mb, 0, none⟩), .int .i64 (-1)] w fun e w' => ∃ a c, e = .returned (.slice a (t.ents 7 0).length c) ∧ EntsAt w' (.slice a (t.ents 7 0).length c) (t.ents 7 0) ∧ Below w.heap.size w w' := by
  refine (list_all mb t hl w h).mono ?_
  rintro e w' ⟨ev, rfl, hown, hb⟩
  obtain ⟨a, c, rfl, hd⟩ := ents_of_own hown
  exact ⟨a, c, rfl, ⟨a, c, rfl, hd⟩, hb⟩

theorem PutsAt.later {W W' : World} {v : Value} {L : List (Nat × (Int × (Int × Bool)))} (h : PutsAt W v L) (hb : Below W.heap.size W W') : PutsAt W' v L := by
  obtain ⟨a, cap, rfl, h | ⟨g, off, rfl, hg, hc⟩⟩ := h
  · exact ⟨a, cap, rfl, .inl h⟩
  · have e : ∀ j, W'.cell? ⟨g, j, none⟩ = W.cell? ⟨g, j, none⟩ := fun j => hb.cell (p := ⟨g, j, none⟩) hg
    exact ⟨_, cap, rfl, .inr ⟨g, off, rfl, Nat.lt_of_lt_of_le hg hb.size, fun i hi => ⟨(hc i hi).1, (e _).trans (hc i hi).2.1, (e _).trans (hc i hi).2.2.1, (e _).trans (hc i hi).2.2.2.1, (e _).trans (hc i hi).2.2.2.2⟩⟩⟩

/-- The three numbers of a step: shared, fresh, all. -/
structure Nums (mb : Nat) (t : Tr) (mb' : Nat) (t' : Tr) (A B N : Int) : Prop where
  a0 : 0 ≤ A
  b0 : 0 ≤ B
  sum : A + B = N
  top : N ≤ 1000000000
  fr : (t'.frs t : Int) = B
  ct : (t'.cnt : Int) = N
  one : ∀ W, MapT W mb t → MapT W mb' t' → Calls Tryd.prog 9 #[.pointer (some ⟨mb, 0, none⟩), .pointer (some ⟨mb', 0, none⟩)] W fun e w' => e = .returned (.tuple #[.int .i64 A, .int .i64 B]) ∧ Below W.heap.size W w'
  self : ∀ W, MapT W mb' t' → Calls Tryd.prog 9 #[.pointer (some ⟨mb', 0, none⟩), .pointer (some ⟨mb', 0, none⟩)] W fun e w' => e = .returned (.tuple #[.int .i64 N, .int .i64 0]) ∧ Below W.heap.size W w'
  nod : ∀ W v, EntsAt W v (t'.ents 7 0) → Calls Tryd.prog 10 #[v] W fun e w' => e = .returned (.int .i64 N) ∧ Below W.heap.size W w'
theorem nums_any (mb : Nat) (t : Tr) (mb' : Nat) (t' : Tr) (hw : t'.wf 7) (hl : (t'.ents 7 0).length ≤ 5000) : ∃ A B N, Nums mb t mb' t' A B N := by
  have h1 := sme_frs t' t
  have h2 := cnt_all hw
  have h3 := nds_le 8 none (t'.ents 7 0)
  refine ⟨_, _, _, { a0 := ?_, b0 := ?_, sum := ?_, top := ?_, fr := rfl, ct := rfl, one := fun W ha hb => mshared_any mb mb' t t' W ha hb, self := fun W hb => ?_, nod := fun W v hv => ?_ }⟩
  · omega
  · omega
  · omega
  · omega
  · have := mshared_any mb' mb' t' t' W hb hb
    rw [sme_self, frs_self] at this
    exact this
  · rw [h2]
    exact nodes_law v _ hl (fun i hi => (mem_all hw (k := (t'.ents 7 0)[i].1) (v := (t'.ents 7 0)[i].2)).1 (List.getElem_mem hi) |>.1) W hv

set_option maxRecDepth 8000 in
set_option maxHeartbeats 2000000 in
theorem shares_walk (vl : Value) (L : List (Nat × (Int × (Int × Bool)))) (o : Nat × (Int × (Int × Bool))) (w : World) (hL : PutsAt w vl L) (ho : o.1 < 4294967296) :
    Calls Tryd.prog 3 #[vl, .agg #[.int .u32 (o.1 : Int), .int .i64 o.2.1, .int .i64 o.2.2.1, .bool o.2.2.2]] w fun e w' => e = .returned (.bool true) ∧ Below w.heap.size w w' := by
  obtain ⟨id, x, y, gone⟩ := o
  simp only at ho ⊢
  have hb0 := (Below.refl w.heap.size w).alloc (Nat.le_refl _) (.cells #[.int .u32 (id : Int), .int .i64 x, .int .i64 y, .bool gone] 27)
  have hmade := made_frs vl L 0 _ (hL.later hb0)
  have hbox : ∀ X, Below (w.alloc (.cells #[.int .u32 (id : Int), .int .i64 x, .int .i64 y, .bool gone] 27)).heap.size (w.alloc (.cells #[.int .u32 (id : Int), .int .i64 x, .int .i64 y, .bool gone] 27)) X → X.cell? ⟨w.heap.size, 0, none⟩ = some (.int .u32 (id : Int)) ∧ X.cell? ⟨w.heap.size, 1, none⟩ = some (.int .i64 x) ∧ X.cell? ⟨w.heap.size, 2, none⟩ = some (.int .i64 y) ∧ X.cell? ⟨w.heap.size, 3, none⟩ = some (.bool gone) := fun X hX => by
    have hlt : w.heap.size < (w.alloc (.cells #[.int .u32 (id : Int), .int .i64 x, .int .i64 y, .bool gone] 27)).heap.size := by simp
    exact ⟨(hX.cell (p := ⟨w.heap.size, 0, none⟩) hlt).trans (by simp), (hX.cell (p := ⟨w.heap.size, 1, none⟩) hlt).trans (by simp), (hX.cell (p := ⟨w.heap.size, 2, none⟩) hlt).trans (by simp), (hX.cell (p := ⟨w.heap.size, 3, none⟩) hlt).trans (by simp)⟩
  obtain ⟨aa, ca, rfl, -⟩ := hL
  have hbox' : Hid _ := hbox
  clear hbox
  go_enter Tryd.func3, Tryd.ntmps3
  go_upto_region 4 with (first | (go_at_call 5; refine hmade.mono ?_; rintro e w1 ⟨mb, t, ab, ta, rfl, hM1, hE1, -, -, -, hb1⟩; have hE1' : Hid _ := hE1; clear hE1) | (go_at_call 6; refine (known_true _).mono ?_; rintro e w2 ⟨rfl, hb2⟩))
  have hM2 := hM1.later hb2
  have hB2 := below_step hb1 hb2
  have hlen : (t.ents 7 0).length ≤ 200 := by
    have h2 := scr_len [] (L.take 200)
    have h4 : (L.take 200).length ≤ 200 := by rw [List.length_take]; omega
    rw [hE1'.out]
    simp only [List.length_nil] at h2
    omega
  have hq2 := hbox'.out _ hB2
  have hgt := mget_any mb id t w2 hM2
  clear hM1 hb1 hb2 hmade
  obtain ⟨gv, hgv⟩ : ∃ g, t.get 7 id = g := ⟨_, rfl⟩
  have hg' : Hid (t.get 7 id = gv) := hgv
  rw [hgv] at hgt
  clear hgv
  cases gone with
  | true =>
    cases gv with
    | none =>
      simp only [Option.getD_none, Option.isSome_none] at hgt
      go_upto_region 5 with (first | (go_at_call 7; refine hgt.mono ?_; rintro e w3 ⟨rfl, hb3⟩))
      have hb4 := (Below.refl w3.heap.size w3).alloc (Nat.le_refl _) (.cells #[.int .i64 0, .int .i64 0] 25)
      have hV := Box2.new w3 (.int .i64 0) (.int .i64 0) 25
      generalize hw4 : w3.alloc (.cells #[.int .i64 0, .int .i64 0] 25) = w4 at *
      clear hw4
      have hM4 := (hM2.later hb3).later hb4
      have hB4 := below_step (below_step hB2 hb3) hb4
      have hq4 := hbox'.out _ hB4
      obtain ⟨c0, c1, c2, c3⟩ := hq4
      clear hq2 hgt hb3 hb4 hM2 hB2
      go_upto_region 8 with (first | (go_at_call 8; refine (one_frs mb id ho x y true t _ hM4).mono ?_; rintro e w5 ⟨mb', t', rfl, hM5, hE5, hF5, hb5⟩))
      clear c0 c1 c2 c3
      have hl5 : (t'.ents 7 0).length ≤ 5000 := by
        have := stepL_len (t.ents 7 0) id (x, y) true
        rw [hE5]
        omega
      obtain ⟨A, B, N, hN⟩ := nums_any mb t mb' t' hM5.2.2.2.2 hl5
      have hM5' := hM4.later hb5
      have hB5 := below_step hB4 hb5
      have nA := hN.a0
      have nB := hN.b0
      have nS := hN.sum
      have nT := hN.top
      have nF := hN.fr
      have nC := hN.ct
      have nA' : ¬ A < 0 := by omega
      have nB' : ¬ B < 0 := by omega
      have nW : wrap64 (A + B) = N := by unfold wrap64; omega
      have nI : IntKind.i64.wrap (A + B) = N := by rw [IntKind.wrap_i64]; omega
      have n1 : B = 0 := by have := (hF5.1 rfl).1 hg'.out; omega
      subst n1
      obtain rfl : A = N := by omega
      clear nS nF nC hF5 hE5 nA nB
      go_upto_region 15 with (first | (go_at_call_of 9 (Value.pointer (some (⟨mb, 0, none⟩ : Addr))); refine (hN.one _ hM5' hM5).mono ?_; rintro e w6 ⟨rfl, hb6⟩; have hM6 := hM5.later hb6) | (go_at_call 11; refine (list_entsX mb' t' hl5 _ hM6).mono ?_; rintro e w7 ⟨la, lc, rfl, hL7, hb7⟩) | (go_at_call 10; refine (hN.nod _ _ hL7).mono ?_; rintro e w8 ⟨rfl, hb8⟩; have hM8 := (hM6.later hb7).later hb8) | (go_at_call 9; refine (hN.self _ hM8).mono ?_; rintro e w9 ⟨rfl, hb9⟩))
      have hB9 := below_step (below_step (below_step (below_step hB5 hb6) hb7) hb8) hb9
      have hV9 := ((((hV.later hb5).later hb6).later hb7).later hb8).later hb9
      obtain ⟨c0, c1, c2, c3⟩ := hbox'.out _ hB9
      obtain ⟨v0, v1, -, -⟩ := hV9
      go_wp2_with fail
      go_ret
      exact ⟨rfl, below_step hb0 hB9⟩
    | some gv =>
      simp only [Option.getD_some, Option.isSome_some] at hgt
      go_upto_region 5 with (first | (go_at_call 7; refine hgt.mono ?_; rintro e w3 ⟨rfl, hb3⟩))
      have hb4 := (Below.refl w3.heap.size w3).alloc (Nat.le_refl _) (.cells #[.int .i64 gv.1, .int .i64 gv.2] 25)
      have hV := Box2.new w3 (.int .i64 gv.1) (.int .i64 gv.2) 25
      generalize hw4 : w3.alloc (.cells #[.int .i64 gv.1, .int .i64 gv.2] 25) = w4 at *
      clear hw4
      have hM4 := (hM2.later hb3).later hb4
      have hB4 := below_step (below_step hB2 hb3) hb4
      have hq4 := hbox'.out _ hB4
      obtain ⟨c0, c1, c2, c3⟩ := hq4
      clear hq2 hgt hb3 hb4 hM2 hB2
      go_upto_region 8 with (first | (go_at_call 8; refine (one_frs mb id ho x y true t _ hM4).mono ?_; rintro e w5 ⟨mb', t', rfl, hM5, hE5, hF5, hb5⟩))
      clear c0 c1 c2 c3
      have hl5 : (t'.ents 7 0).length ≤ 5000 := by
        have := stepL_len (t.ents 7 0) id (x, y) true
        rw [hE5]
        omega
      obtain ⟨A, B, N, hN⟩ := nums_any mb t mb' t' hM5.2.2.2.2 hl5
      have hM5' := hM4.later hb5
      have hB5 := below_step hB4 hb5
      have nA := hN.a0
      have nB := hN.b0
      have nS := hN.sum
      have nT := hN.top
      have nF := hN.fr
      have nC := hN.ct
      have nA' : ¬ A < 0 := by omega
      have nB' : ¬ B < 0 := by omega
      have nW : wrap64 (A + B) = N := by unfold wrap64; omega
      have nI : IntKind.i64.wrap (A + B) = N := by rw [IntKind.wrap_i64]; omega
      have n1 := (hF5.1 rfl).2 (by rw [hg'.out]; simp)
      have n2 : B ≤ 8 := by omega
      have n3 : wrap64 (N - B) = A := by unfold wrap64; omega
      have n4 : IntKind.i64.wrap (N - B) = A := by rw [IntKind.wrap_i64]; omega
      have n5 : (decide (0 < B) == decide (0 < N)) = true := by
        have : decide (0 < B) = decide (0 < N) := decide_eq_decide.2 (by omega)
        simp [this]
      clear n1
      clear nS nF nC hF5 hE5 nA nB
      go_upto_region 15 with (first | (go_at_call_of 9 (Value.pointer (some (⟨mb, 0, none⟩ : Addr))); refine (hN.one _ hM5' hM5).mono ?_; rintro e w6 ⟨rfl, hb6⟩; have hM6 := hM5.later hb6) | (go_at_call 11; refine (list_entsX mb' t' hl5 _ hM6).mono ?_; rintro e w7 ⟨la, lc, rfl, hL7, hb7⟩) | (go_at_call 10; refine (hN.nod _ _ hL7).mono ?_; rintro e w8 ⟨rfl, hb8⟩; have hM8 := (hM6.later hb7).later hb8) | (go_at_call 9; refine (hN.self _ hM8).mono ?_; rintro e w9 ⟨rfl, hb9⟩))
      have hB9 := below_step (below_step (below_step (below_step hB5 hb6) hb7) hb8) hb9
      have hV9 := ((((hV.later hb5).later hb6).later hb7).later hb8).later hb9
      obtain ⟨c0, c1, c2, c3⟩ := hbox'.out _ hB9
      obtain ⟨v0, v1, -, -⟩ := hV9
      go_wp2_with fail
      go_ret
      exact ⟨rfl, below_step hb0 hB9⟩
  | false =>
    cases gv with
    | none =>
      simp only [Option.getD_none, Option.isSome_none] at hgt
      go_upto_region 5 with (first | (go_at_call 7; refine hgt.mono ?_; rintro e w3 ⟨rfl, hb3⟩))
      have hb4 := (Below.refl w3.heap.size w3).alloc (Nat.le_refl _) (.cells #[.int .i64 0, .int .i64 0] 25)
      have hV := Box2.new w3 (.int .i64 0) (.int .i64 0) 25
      generalize hw4 : w3.alloc (.cells #[.int .i64 0, .int .i64 0] 25) = w4 at *
      clear hw4
      have hM4 := (hM2.later hb3).later hb4
      have hB4 := below_step (below_step hB2 hb3) hb4
      have hq4 := hbox'.out _ hB4
      obtain ⟨c0, c1, c2, c3⟩ := hq4
      clear hq2 hgt hb3 hb4 hM2 hB2
      go_upto_region 8 with (first | (go_at_call 8; refine (one_frs mb id ho x y false t _ hM4).mono ?_; rintro e w5 ⟨mb', t', rfl, hM5, hE5, hF5, hb5⟩))
      clear c0 c1 c2 c3
      have hl5 : (t'.ents 7 0).length ≤ 5000 := by
        have := stepL_len (t.ents 7 0) id (x, y) false
        rw [hE5]
        omega
      obtain ⟨A, B, N, hN⟩ := nums_any mb t mb' t' hM5.2.2.2.2 hl5
      have hM5' := hM4.later hb5
      have hB5 := below_step hB4 hb5
      have nA := hN.a0
      have nB := hN.b0
      have nS := hN.sum
      have nT := hN.top
      have nF := hN.fr
      have nC := hN.ct
      have nA' : ¬ A < 0 := by omega
      have nB' : ¬ B < 0 := by omega
      have nW : wrap64 (A + B) = N := by unfold wrap64; omega
      have nI : IntKind.i64.wrap (A + B) = N := by rw [IntKind.wrap_i64]; omega
      have n1 : B = 8 := by have := (hF5.2 rfl).2 (by rw [hg'.out]; simp); omega
      subst n1
      clear nS nF nC hF5 hE5 nA nB
      go_upto_region 15 with (first | (go_at_call_of 9 (Value.pointer (some (⟨mb, 0, none⟩ : Addr))); refine (hN.one _ hM5' hM5).mono ?_; rintro e w6 ⟨rfl, hb6⟩; have hM6 := hM5.later hb6) | (go_at_call 11; refine (list_entsX mb' t' hl5 _ hM6).mono ?_; rintro e w7 ⟨la, lc, rfl, hL7, hb7⟩) | (go_at_call 10; refine (hN.nod _ _ hL7).mono ?_; rintro e w8 ⟨rfl, hb8⟩; have hM8 := (hM6.later hb7).later hb8) | (go_at_call 9; refine (hN.self _ hM8).mono ?_; rintro e w9 ⟨rfl, hb9⟩))
      have hB9 := below_step (below_step (below_step (below_step hB5 hb6) hb7) hb8) hb9
      have hV9 := ((((hV.later hb5).later hb6).later hb7).later hb8).later hb9
      obtain ⟨c0, c1, c2, c3⟩ := hbox'.out _ hB9
      obtain ⟨v0, v1, -, -⟩ := hV9
      go_wp2_with fail
      go_ret
      exact ⟨rfl, below_step hb0 hB9⟩
    | some gv =>
      simp only [Option.getD_some, Option.isSome_some] at hgt
      by_cases hxy : gv = (x, y)
      · subst hxy
        simp only at hgt
        go_upto_region 5 with (first | (go_at_call 7; refine hgt.mono ?_; rintro e w3 ⟨rfl, hb3⟩))
        have hb4 := (Below.refl w3.heap.size w3).alloc (Nat.le_refl _) (.cells #[.int .i64 x, .int .i64 y] 25)
        have hV := Box2.new w3 (.int .i64 x) (.int .i64 y) 25
        generalize hw4 : w3.alloc (.cells #[.int .i64 x, .int .i64 y] 25) = w4 at *
        clear hw4
        have hM4 := (hM2.later hb3).later hb4
        have hB4 := below_step (below_step hB2 hb3) hb4
        have hq4 := hbox'.out _ hB4
        obtain ⟨c0, c1, c2, c3⟩ := hq4
        clear hq2 hgt hb3 hb4 hM2 hB2
        go_upto_region 8 with (first | (go_at_call 8; refine (one_frs mb id ho x y false t _ hM4).mono ?_; rintro e w5 ⟨mb', t', rfl, hM5, hE5, hF5, hb5⟩))
        clear c0 c1 c2 c3
        have hl5 : (t'.ents 7 0).length ≤ 5000 := by
          have := stepL_len (t.ents 7 0) id (x, y) false
          rw [hE5]
          omega
        obtain ⟨A, B, N, hN⟩ := nums_any mb t mb' t' hM5.2.2.2.2 hl5
        have hM5' := hM4.later hb5
        have hB5 := below_step hB4 hb5
        have nA := hN.a0
        have nB := hN.b0
        have nS := hN.sum
        have nT := hN.top
        have nF := hN.fr
        have nC := hN.ct
        have nA' : ¬ A < 0 := by omega
        have nB' : ¬ B < 0 := by omega
        have nW : wrap64 (A + B) = N := by unfold wrap64; omega
        have nI : IntKind.i64.wrap (A + B) = N := by rw [IntKind.wrap_i64]; omega
        have n1 : B = 0 := by have := (hF5.2 rfl).1 hg'.out; omega
        subst n1
        obtain rfl : A = N := by omega
        clear nS nF nC hF5 hE5 nA nB
        go_upto_region 15 with (first | (go_at_call_of 9 (Value.pointer (some (⟨mb, 0, none⟩ : Addr))); refine (hN.one _ hM5' hM5).mono ?_; rintro e w6 ⟨rfl, hb6⟩; have hM6 := hM5.later hb6) | (go_at_call 11; refine (list_entsX mb' t' hl5 _ hM6).mono ?_; rintro e w7 ⟨la, lc, rfl, hL7, hb7⟩) | (go_at_call 10; refine (hN.nod _ _ hL7).mono ?_; rintro e w8 ⟨rfl, hb8⟩; have hM8 := (hM6.later hb7).later hb8) | (go_at_call 9; refine (hN.self _ hM8).mono ?_; rintro e w9 ⟨rfl, hb9⟩))
        have hB9 := below_step (below_step (below_step (below_step hB5 hb6) hb7) hb8) hb9
        have hV9 := ((((hV.later hb5).later hb6).later hb7).later hb8).later hb9
        obtain ⟨c0, c1, c2, c3⟩ := hbox'.out _ hB9
        obtain ⟨v0, v1, -, -⟩ := hV9
        have hsv := same_any x y x y true (by simp) w9
        go_wp2_with (first | (go_at_call 12; refine hsv.mono ?_; rintro e w10 ⟨rfl, hb10⟩))
        go_ret
        exact ⟨rfl, below_step hb0 (below_step hB9 hb10)⟩
      · go_upto_region 5 with (first | (go_at_call 7; refine hgt.mono ?_; rintro e w3 ⟨rfl, hb3⟩))
        have hb4 := (Below.refl w3.heap.size w3).alloc (Nat.le_refl _) (.cells #[.int .i64 gv.1, .int .i64 gv.2] 25)
        have hV := Box2.new w3 (.int .i64 gv.1) (.int .i64 gv.2) 25
        generalize hw4 : w3.alloc (.cells #[.int .i64 gv.1, .int .i64 gv.2] 25) = w4 at *
        clear hw4
        have hM4 := (hM2.later hb3).later hb4
        have hB4 := below_step (below_step hB2 hb3) hb4
        have hq4 := hbox'.out _ hB4
        obtain ⟨c0, c1, c2, c3⟩ := hq4
        clear hq2 hgt hb3 hb4 hM2 hB2
        go_upto_region 8 with (first | (go_at_call 8; refine (one_frs mb id ho x y false t _ hM4).mono ?_; rintro e w5 ⟨mb', t', rfl, hM5, hE5, hF5, hb5⟩))
        clear c0 c1 c2 c3
        have hl5 : (t'.ents 7 0).length ≤ 5000 := by
          have := stepL_len (t.ents 7 0) id (x, y) false
          rw [hE5]
          omega
        obtain ⟨A, B, N, hN⟩ := nums_any mb t mb' t' hM5.2.2.2.2 hl5
        have hM5' := hM4.later hb5
        have hB5 := below_step hB4 hb5
        have nA := hN.a0
        have nB := hN.b0
        have nS := hN.sum
        have nT := hN.top
        have nF := hN.fr
        have nC := hN.ct
        have nA' : ¬ A < 0 := by omega
        have nB' : ¬ B < 0 := by omega
        have nW : wrap64 (A + B) = N := by unfold wrap64; omega
        have nI : IntKind.i64.wrap (A + B) = N := by rw [IntKind.wrap_i64]; omega
        have n1 : B = 8 := by have := (hF5.2 rfl).2 (by rw [hg'.out]; exact fun h => hxy (Option.some.inj h)); omega
        subst n1
        clear nS nF nC hF5 hE5 nA nB
        go_upto_region 15 with (first | (go_at_call_of 9 (Value.pointer (some (⟨mb, 0, none⟩ : Addr))); refine (hN.one _ hM5' hM5).mono ?_; rintro e w6 ⟨rfl, hb6⟩; have hM6 := hM5.later hb6) | (go_at_call 11; refine (list_entsX mb' t' hl5 _ hM6).mono ?_; rintro e w7 ⟨la, lc, rfl, hL7, hb7⟩) | (go_at_call 10; refine (hN.nod _ _ hL7).mono ?_; rintro e w8 ⟨rfl, hb8⟩; have hM8 := (hM6.later hb7).later hb8) | (go_at_call 9; refine (hN.self _ hM8).mono ?_; rintro e w9 ⟨rfl, hb9⟩))
        have hB9 := below_step (below_step (below_step (below_step hB5 hb6) hb7) hb8) hb9
        have hV9 := ((((hV.later hb5).later hb6).later hb7).later hb8).later hb9
        obtain ⟨c0, c1, c2, c3⟩ := hbox'.out _ hB9
        obtain ⟨v0, v1, -, -⟩ := hV9
        have hsv := same_any gv.1 gv.2 x y false ⟨fun h => (by cases h), fun h => absurd (Prod.ext h.1 h.2) hxy⟩ w9
        go_wp2_with (first | (go_at_call 12; refine hsv.mono ?_; rintro e w10 ⟨rfl, hb10⟩))
        go_ret
        exact ⟨rfl, below_step hb0 (below_step hB9 hb10)⟩

end Go.Proofs.YtpmfgffhkklfeaaDoor

import Derived.Test.YtmppgcijbeipfaaDoorTVer2
import Derived.Test.YtmppgcijbeipfaaDoorRows
import Derived.Test.YtmppgcijbeipfaaDoorTie
import Derived.Test.YtmppgcijbeipfaaDoorCards
import Derived.ProofKit
import Derived.LaidMore
import Derived.OpenShut
import Derived.SizedLaws
import Derived.Stop.Joined
import Derived.Lib.SmallJoins
import Derived.Deep.Strs
import Derived.SevenTiedAt
import Derived.Test.YtmppgcijbeipfaaDoorTSearch
import Derived.Test.YtmppgcijbeipfaaDoorRfNew
import Derived.Test.YtmppgcijbeipfaaDoorRfPut
import Derived.Test.YtmppgcijbeipfaaDoorHBld
import Derived.Deep.RegionHeld3
import Derived.Test.YtmppgcijbeipfaaDoorRfPlace
import Derived.Test.YtmppgcijbeipfaaDoorTrieM
namespace Go.Proofs.YtmppgcijbeipfaaDoor
open Go.ChangeShapes Go.WideShapes Go.ChangeAt Go.WideMaps Go.WideElems Go.RowKit Go.Joins

theorem own : ownKnob Tryd.prog.godebug = none := by kernel_rfl
theorem cellsI : Tryd.prog.cellsOf 3 = 1 := by kernel_rfl
theorem cI64 : Tryd.prog.cellsOf 2 = 1 := by kernel_rfl
theorem cU32 : Tryd.prog.cellsOf 27 = 1 := by kernel_rfl
theorem cBool : Tryd.prog.cellsOf 4 = 1 := by kernel_rfl
theorem cVal : Tryd.prog.cellsOf 29 = 2 := by kernel_rfl
theorem laidOutP : laidOutB Tryd.prog = true := by kernel_rfl

abbrev laidK : List (String × DataW Unit) := [("levy/levylaw3.none", Rows.laid_levy_levylaw3_none)]

set_option maxRecDepth 100000 in
/-- The door's own heap meets the condition. -/
theorem door_met (os : Os) (args : Array Value) : laidMetH Tryd.prog laidK ((World.doorLaid Tryd.prog 400 os).forCall (fun _ _ => 0) ⟨#[], args, []⟩).memory :=
  laidMetH_of_parts3 (fuel := 8) (laidMet_of_run' 8 (by kernel_rfl) (by kernel_rfl)) (by kernel_rfl) (by kernel_rfl)

theorem val_of {H : Type} {enc : TypeId × Value → H} {W : World} {fuel : Nat} {u v : Value} {x : DataW H × List MemPlace} (hf : DataW.trod enc Tryd.prog W 0 (fun _ => true) true fuel 29 [u, v] = some x) : ∃ k n : Int, u = .int .i64 k ∧ v = .int .i64 n := by
  obtain ⟨xs, n, -, -, -, hl, hg⟩ := DataW.trod_struct Tryd.underlying29 hf
  match xs, hl with
  | [y0, y1], _ =>
    have g0 := hg 0 _ rfl
    have g1 := hg 1 _ rfl
    simp [cellsI, cI64] at g0 g1
    obtain ⟨k, ek, _, _⟩ := DataW.trod_int Tryd.underlying3 g0
    obtain ⟨m, em, _, _⟩ := DataW.trod_int Tryd.underlying2 g1
    simp at ek em
    exact ⟨k, m, ek, em⟩

def PutAt (W : World) (b off : Nat) (o : Nat × (Int × (Int × Bool))) : Prop := o.1 < 4294967296 ∧ W.cell? ⟨b, off, none⟩ = some (.int .u32 (o.1 : Int)) ∧ W.cell? ⟨b, off + 1, none⟩ = some (.int .i64 o.2.1) ∧ W.cell? ⟨b, off + 2, none⟩ = some (.int .i64 o.2.2.1) ∧ W.cell? ⟨b, off + 3, none⟩ = some (.bool o.2.2.2)

theorem u32_range {n : Int} (h : (Lit.int .u32 n).wf = true) : 0 ≤ n ∧ n < 4294967296 := by
  simp [Lit.wf] at h
  have h1 : IntKind.u32.min = 0 := by decide
  have h2 : IntKind.u32.max = 4294967295 := by decide
  rw [h1, h2] at h
  omega

theorem u32_nat {n : Int} (h : (Lit.int .u32 n).wf = true) : ∃ u : Nat, n = (u : Int) ∧ u < 4294967296 := by
  have := u32_range h
  exact ⟨n.toNat, by omega, by omega⟩
theorem range64 {n : Int} (h : (Lit.int .i64 n).wf = true) : -9223372036854775808 ≤ n ∧ n ≤ 9223372036854775807 := by
  simp [Lit.wf, IntKind.min, IntKind.max, IntKind.signed, IntKind.bits] at h
  omega

end Go.Proofs.YtmppgcijbeipfaaDoor


namespace Go.Proofs.YtmppgcijbeipfaaDoor

/-- Which keys a search from low on gives. -/
def atLeast (low : Nat) (e : Nat × (Int × Int)) : Bool := decide (low ≤ e.1)

theorem range_split (a : Nat) (ha : a < 16) : List.range 16 = List.range a ++ a :: (List.range 16).drop (a + 1) := by
  have : a = 0 ∨ a = 1 ∨ a = 2 ∨ a = 3 ∨ a = 4 ∨ a = 5 ∨ a = 6 ∨ a = 7 ∨ a = 8 ∨ a = 9 ∨ a = 10 ∨ a = 11 ∨ a = 12 ∨ a = 13 ∨ a = 14 ∨ a = 15 := by omega
  rcases this with rfl | rfl | rfl | rfl | rfl | rfl | rfl | rfl | rfl | rfl | rfl | rfl | rfl | rfl | rfl | rfl <;> decide
theorem range_drop (a : Nat) (ha : a < 16) : (List.range 16).drop a = a :: (List.range 16).drop (a + 1) := by
  have h := range_split a ha
  have h2 : (List.range 16).drop a = (List.range a ++ a :: (List.range 16).drop (a + 1)).drop a := congrArg (List.drop a) h
  rw [h2, List.drop_append_of_le_length (by simp), List.drop_of_length_le (by simp)]
  rfl
theorem mem_range_drop {a i : Nat} (h : i ∈ (List.range 16).drop (a + 1)) : a < i ∧ i < 16 := by
  obtain ⟨k, hk, e⟩ := List.mem_iff_getElem.1 h
  simp at e hk
  omega

theorem filter_flat {α β : Type} (p : β → Bool) (f : α → List β) (l : List α) : (l.flatMap f).filter p = l.flatMap fun a => (f a).filter p := by
  induction l with
  | nil => rfl
  | cons a l ih => simp [List.filter_append, ih]
theorem flat_nil {α β : Type} {f : α → List β} {l : List α} (h : ∀ a ∈ l, f a = []) : l.flatMap f = [] := by
  induction l with
  | nil => rfl
  | cons a l ih => rw [List.flatMap_cons, h a (by simp), ih (fun b hb => h b (by simp [hb]))]; rfl
theorem flat_congr {α β : Type} {f g : α → List β} {l : List α} (h : ∀ a ∈ l, f a = g a) : l.flatMap f = l.flatMap g := by
  induction l with
  | nil => rfl
  | cons a l ih => rw [List.flatMap_cons, List.flatMap_cons, h a (by simp), ih (fun b hb => h b (by simp [hb]))]

theorem low_split (low n : Nat) : low % 16 ^ (n + 1 + 1) = dg low (n + 1) * 16 ^ (n + 1) + low % 16 ^ (n + 1) := by
  have h := Nat.mod_mul (a := 16 ^ (n + 1)) (b := 16) (x := low)
  rw [← Nat.pow_succ] at h
  rw [h, dg]
  rw [Nat.mul_comm]
  omega

/-- A search from low on gives those entries that are not below it. -/
theorem fromL_filter : ∀ (n : Nat) {t : Tr}, t.wf n → ∀ (p low : Nat), t.fromL n p low = (t.ents n p).filter (atLeast (p + low % 16 ^ (n + 1)))
  | 0, t, hw, p, low => by
    cases t with
    | nil => rfl
    | node b kids => exact absurd hw.1 (by omega)
    | leaf b s th vk vn =>
      have hd := dg_lt low 0
      have hdl : low % 16 ^ (0 + 1) = dg low 0 := by simp [dg]
      show ((List.range 16).drop (dg low 0)).filterMap (fun i => if th i = true then some (p + i, (vk i, vn i)) else none) = ((List.range 16).filterMap (fun i => if th i = true then some (p + i, (vk i, vn i)) else none)).filter _
      rw [hdl]
      conv => rhs; rw [range_split _ hd]
      rw [List.filterMap_append, List.filter_append]
      have h1 : ((List.range (dg low 0)).filterMap (fun i => if th i = true then some (p + i, (vk i, vn i)) else none)).filter (atLeast (p + dg low 0)) = [] := by
        rw [List.filter_eq_nil_iff]
        intro e he
        obtain ⟨i, hi, hx⟩ := List.mem_filterMap.1 he
        split at hx
        · obtain rfl := Option.some.inj hx
          simp [atLeast]
          simpa using hi
        · cases hx
      rw [h1, List.nil_append, ← range_drop _ hd]
      symm
      rw [List.filter_eq_self]
      intro e he
      obtain ⟨i, hi, hx⟩ := List.mem_filterMap.1 he
      rw [range_drop _ hd] at hi
      split at hx
      · obtain rfl := Option.some.inj hx
        simp only [atLeast, decide_eq_true_eq]
        rcases List.mem_cons.1 hi with rfl | hi
        · exact Nat.le_refl _
        · have := mem_range_drop hi; omega
      · cases hx
  | n + 1, t, hw, p, low => by
    cases t with
    | nil => rfl
    | leaf => exact absurd hw.1 (by omega)
    | node b kids =>
      have hd := dg_lt low (n + 1)
      have hkid : ∀ i, i < 16 → (kids i).wf n := hw.2.1
      have hlow := low_split low n
      have hml : low % 16 ^ (n + 1) < 16 ^ (n + 1) := Nat.mod_lt _ (Nat.pos_of_ne_zero (by simp))
      show ((List.range 16).drop (dg low (n + 1))).flatMap (fun i => (kids i).fromL n (p + i * 16 ^ (n + 1)) (if i = dg low (n + 1) then low else 0)) = ((List.range 16).flatMap fun i => (kids i).ents n (p + i * 16 ^ (n + 1))).filter _
      rw [filter_flat]
      conv => rhs; rw [range_split _ hd]
      rw [List.flatMap_append]
      have h1 : ((List.range (dg low (n + 1))).flatMap fun i => ((kids i).ents n (p + i * 16 ^ (n + 1))).filter (atLeast (p + low % 16 ^ (n + 1 + 1)))) = [] := by
        refine flat_nil fun i hi => ?_
        have hi' : i < dg low (n + 1) := by simpa using hi
        rw [List.filter_eq_nil_iff]
        intro e he
        have hr := ents_range (hkid i (by omega)) he
        have hm : (i + 1) * 16 ^ (n + 1) ≤ dg low (n + 1) * 16 ^ (n + 1) := Nat.mul_le_mul_right _ hi'
        rw [Nat.add_mul, Nat.one_mul] at hm
        simp only [atLeast, decide_eq_true_eq]
        omega
      rw [h1, List.nil_append, ← range_drop _ hd]
      refine flat_congr fun i hi => ?_
      rw [range_drop _ hd] at hi
      rcases List.mem_cons.1 hi with rfl | hi
      · rw [if_pos rfl, fromL_filter n (hkid _ hd)]
        congr 2
        omega
      · have hi2 := mem_range_drop hi
        rw [if_neg (by omega), fromL_all]
        symm
        rw [List.filter_eq_self]
        intro e he
        have hr := ents_range (hkid i hi2.2) he
        have hm : (dg low (n + 1) + 1) * 16 ^ (n + 1) ≤ i * 16 ^ (n + 1) := Nat.mul_le_mul_right _ (by omega)
        rw [Nat.add_mul, Nat.one_mul] at hm
        simp only [atLeast, decide_eq_true_eq]
        omega

theorem fromL_top {t : Tr} (hw : t.wf 7) {low : Nat} (hl : low < 4294967296) : t.fromL 7 0 low = (t.ents 7 0).filter (atLeast low) := by
  rw [fromL_filter 7 hw, Nat.zero_add, Nat.mod_eq_of_lt (by simpa using hl)]

/-- In a list that rises, the first place that is not below low cuts it. -/
theorem rises_cut {L : List (Nat × (Int × Int))} (hR : Rises L) {low i : Nat} (h1 : ∀ k (hk : k < L.length), k < i → L[k].1 < low) (h2 : ∀ h : i < L.length, ¬ L[i].1 < low) (hi : i ≤ L.length) : L.filter (atLeast low) = L.drop i := by
  conv => lhs; rw [← List.take_append_drop i L]
  rw [List.filter_append]
  have e1 : (L.take i).filter (atLeast low) = [] := by
    rw [List.filter_eq_nil_iff]
    intro e he
    obtain ⟨k, hk, rfl⟩ := List.mem_iff_getElem.1 he
    simp at hk
    have := h1 k (by omega) (by omega)
    simp [atLeast]
    omega
  rw [e1, List.nil_append, List.filter_eq_self]
  intro e he
  obtain ⟨k, hk, rfl⟩ := List.mem_iff_getElem.1 he
  simp at hk
  simp only [atLeast, decide_eq_true_eq, List.getElem_drop]
  by_cases hk0 : k = 0
  · subst hk0
    have := h2 (by omega)
    simp only [Nat.add_zero]
    omega
  · have := List.pairwise_iff_getElem.1 hR i (i + k) (by omega) (by omega) (by omega)
    have := h2 (by omega)
    omega

end Go.Proofs.YtmppgcijbeipfaaDoor


namespace Go.Proofs.YtmppgcijbeipfaaDoor
open Go.RowKit

set_option maxRecDepth 4000 in
set_option maxHeartbeats 1000000 in
theorem empty_rf (w : World) : Calls Tryd.prog 8 #[] w fun e w' => e = .returned (.pointer (some ⟨w.heap.size, 0, none⟩)) ∧ RfAt w' w.heap.size [] ∧ Below w.heap.size w w' := by
  have hr := heap_alloc_last w (.cells #[.slice none 0 0, .slice none 0 0, .slice none 0 0] 77)
  have hb := (Below.refl w.heap.size w).alloc (Nat.le_refl _) (.cells #[.slice none 0 0, .slice none 0 0, .slice none 0 0] 77)
  go_enter Tryd.func8, Tryd.ntmps8
  go_wp2
  go_ret
  exact ⟨rfl, ⟨_, _, _, [], hr, World.ownsRow_nil _ _ _ _, World.ownsRow_nil _ _ _ _, World.ownsRow_nil _ _ _ _, rfl, List.Pairwise.nil⟩, hb⟩

end Go.Proofs.YtmppgcijbeipfaaDoor


namespace Go.Proofs.YtmppgcijbeipfaaDoor
open Go.RowKit

theorem rises_from : ∀ (L : Es) (m N : Nat), Rises L → (∀ e ∈ L, m ≤ e.1 ∧ e.1 < N) → m ≤ N → L.length + m ≤ N
  | [], m, N, _, _, hm => by simpa using hm
  | a :: L, m, N, hr, hk, hm => by
    obtain ⟨h1, h2⟩ := List.pairwise_cons.1 hr
    have ha := hk a (by simp)
    have := rises_from L (a.1 + 1) N h2 (fun e he => ⟨h1 e he, (hk e (by simp [he])).2⟩) (by omega)
    simp only [List.length_cons]
    omega
/-- A rising list of keys of 32 bits. -/
theorem rises_len {L : Es} (hr : Rises L) (hk : ∀ e ∈ L, e.1 < 4294967296) : L.length ≤ 4294967296 := by
  have := rises_from L 0 4294967296 hr (fun e he => ⟨Nat.zero_le _, hk e he⟩) (by omega)
  omega
theorem RfAt.rises {W : World} {b : Nat} {L : Es} (h : RfAt W b L) : Rises L := by
  obtain ⟨_, _, _, _, _, _, _, _, _, hr⟩ := h
  exact hr

theorem putE_keys {T : Es} (h : ∀ e ∈ T, e.1 < 4294967296) : ∀ (E : Es), (∀ e ∈ E, e.1 < 4294967296) → ∀ e ∈ putE E T, e.1 < 4294967296 := by
  induction T with
  | nil => intro E hE; exact hE
  | cons p T ih =>
    intro E hE
    refine ih (fun e he => h e (List.mem_cons_of_mem _ he)) (ins E p.1 p.2) fun e he => ?_
    rcases mem_ins.1 he with rfl | ⟨_, he⟩
    · exact h p (by simp)
    · exact hE e he

end Go.Proofs.YtmppgcijbeipfaaDoor


namespace Go.Proofs.YtmppgcijbeipfaaDoor
open Go.RowKit

theorem len_rf (b : Nat) (L : Es) (w : World) (h : RfAt w b L) : Calls Tryd.prog 19 #[.pointer (some ⟨b, 0, none⟩)] w fun e w' => e = .returned (.int .i64 (L.length : Int)) ∧ w' = w := by
  obtain ⟨ai, av, az, ci, cv, cs, c0, c1, c2, hc⟩ := h.cells
  clear h
  go_enter Tryd.func19, Tryd.ntmps19
  go_wp2
  go_ret
  exact ⟨rfl, rfl⟩
/-- What a look for a key gives. -/
def rfVal (L : Es) (id : Nat) : Option (Int × Int) := if h : rfPl L id < L.length then (if L[rfPl L id].1 = id then some L[rfPl L id].2 else none) else none

set_option maxRecDepth 4000 in
set_option maxHeartbeats 2000000 in
theorem get_rf (b id : Nat) (L : Es) (hl : L.length ≤ 5000000000) (w : World) (h : RfAt w b L) : Calls Tryd.prog 18 #[.pointer (some ⟨b, 0, none⟩), .int .u32 (id : Int)] w fun e w' => e = .returned (.tuple #[.agg #[.int .i64 ((rfVal L id).getD (0, 0)).1, .int .i64 ((rfVal L id).getD (0, 0)).2], .bool (rfVal L id).isSome]) ∧ Below w.heap.size w w' := by
  have hb0 := (Below.refl w.heap.size w).alloc (Nat.le_refl _) (.cells #[.int .i64 0, .int .i64 0] 29)
  have hrow := heap_alloc_last w (.cells #[.int .i64 0, .int .i64 0] 29)
  have h0 := h.later hb0
  have hpl := place_rf b id L hl _ h0
  clear h hl
  go_enter Tryd.func18, Tryd.ntmps18
  go_wp2_with (go_at_call 35; fail)
  refine hpl.mono ?_
  rintro e w1 ⟨rfl, m1, rfl⟩
  clear hpl
  have hb1 := below_drewN hb0 m1
  have hrow1 : ((w.alloc (.cells #[.int .i64 0, .int .i64 0] 29)).drewN m1).heap[w.heap.size]? = some (.cells #[.int .i64 0, .int .i64 0] 29 (0, 0)) := hrow
  have h1 := h0.later (below_drewN (Below.refl _ _) m1)
  clear hrow h0 hb0
  generalize (w.alloc (.cells #[.int .i64 0, .int .i64 0] 29)).drewN m1 = X at *
  obtain ⟨P, hP⟩ : ∃ P, P = w.heap.size := ⟨_, rfl⟩
  rw [← hP] at hrow1 ⊢
  have hPl : Hid (w.heap.size ≤ P) := by rw [hP]; exact Nat.le_refl _
  have r0 : X.cell? ⟨P, 0, none⟩ = some (.int .i64 0) := cell_of_row _ _ 0 _ _ _ hrow1
  have r1 : X.cell? ⟨P, 1, none⟩ = some (.int .i64 0) := cell_of_row _ _ 1 _ _ _ hrow1
  have f0 := frozen_of_row hrow1 0
  have f1 := frozen_of_row hrow1 1
  have hset : Hid (∀ x y : Int, ((X.setCell ⟨P, 0, none⟩ (.int .i64 x)).setCell ⟨P, 1, none⟩ (.int .i64 y)).heap[P]? = some (.cells #[.int .i64 x, .int .i64 y] 29 (0, 0)) ∧ Below w.heap.size w ((X.setCell ⟨P, 0, none⟩ (.int .i64 x)).setCell ⟨P, 1, none⟩ (.int .i64 y))) := fun x y => ⟨heap_setCell_same _ P 1 _ _ _ (heap_setCell_same X P 0 _ _ _ hrow1), (hb1.setCell (p := ⟨P, 0, none⟩) hPl.out _).setCell (p := ⟨P, 1, none⟩) hPl.out _⟩
  clear hrow1 hb1 hP
  obtain ⟨ai, av, az, ci, cv, cs, c0, c1, c2, hc⟩ := h1.cells
  cases hhas : rfHas L id with
  | false =>
    have hv : rfVal L id = none := by
      unfold rfVal
      split
      · rename_i hp
        rw [if_neg]
        intro he
        rw [rfHas_iff.2 ⟨hp, he⟩] at hhas
        cases hhas
      · rfl
    have hvH : Hid (rfVal L id = none) := hv
    clear hc hhas hv
    obtain ⟨t1, t2⟩ := hset.out 0 0
    go_wp2
    have d0 := cell_of_row _ _ 0 _ _ _ t1
    have d1 := cell_of_row _ _ 1 _ _ _ t1
    generalize (X.setCell ⟨P, 0, none⟩ (.int .i64 0)).setCell ⟨P, 1, none⟩ (.int .i64 0) = Z at *
    refine bodyPost_ret (v := .tuple #[.agg #[.int .i64 0, .int .i64 0], .bool false]) ?_ rfl ⟨by rw [hvH.out]; rfl, t2⟩
    simp [results, Tryd.results18, go_sem, d0, d1]
  | true =>
    obtain ⟨hp, he⟩ := rfHas_iff.1 hhas
    have hv : rfVal L id = some L[rfPl L id].2 := by
      unfold rfVal
      rw [dif_pos hp, if_pos he]
    have hvH : Hid (rfVal L id = some L[rfPl L id].2) := hv
    clear hv
    obtain ⟨gi, gv, gs, rfl, rfl, rfl, hgi, hgv, hgs, hcc, -⟩ := hc (Nat.lt_of_le_of_lt (Nat.zero_le _) hp)
    obtain ⟨-, a1, a2⟩ := hcc _ hp
    have hp' : (rfPl L id : Int) < (L.length : Int) := Int.ofNat_lt.2 hp
    have hp0 : (0 : Int) ≤ (rfPl L id : Int) := Int.natCast_nonneg _
    generalize L[rfPl L id].2 = vv at *
    obtain ⟨x, y⟩ := vv
    simp only at a1 a2
    obtain ⟨t1, t2⟩ := hset.out x y
    generalize rfPl L id = q at *
    clear hcc hhas he hc
    go_wp2
    have d0 := cell_of_row _ _ 0 _ _ _ t1
    have d1 := cell_of_row _ _ 1 _ _ _ t1
    generalize (X.setCell ⟨P, 0, none⟩ (.int .i64 x)).setCell ⟨P, 1, none⟩ (.int .i64 y) = Z at *
    refine bodyPost_ret (v := .tuple #[.agg #[.int .i64 x, .int .i64 y], .bool true]) ?_ rfl ⟨by rw [hvH.out]; rfl, t2⟩
    simp [results, Tryd.results18, go_sem, d0, d1]

end Go.Proofs.YtmppgcijbeipfaaDoor


namespace Go.Proofs.YtmppgcijbeipfaaDoor

/-- The sum over the sixteen places. -/
def sum16 (f : Nat → Nat) : Nat := ((List.range 16).map f).sum
theorem sumR_zero {f : Nat → Nat} : ∀ n, (∀ i, i < n → f i = 0) → ((List.range n).map f).sum = 0
  | 0, _ => rfl
  | n + 1, h => by
    rw [List.range_succ, List.map_append, List.sum_append, sumR_zero n (fun i hi => h i (by omega))]
    simp [h n (by omega)]
theorem sumR_one {f : Nat → Nat} {d : Nat} : ∀ n, d < n → (∀ i, i < n → i ≠ d → f i = 0) → ((List.range n).map f).sum = f d
  | 0, h, _ => by omega
  | n + 1, h, hz => by
    rw [List.range_succ, List.map_append, List.sum_append]
    simp only [List.map_cons, List.map_nil, List.sum_cons, List.sum_nil, Nat.add_zero]
    by_cases hd : d = n
    · subst hd
      rw [sumR_zero d (fun i hi => hz i (by omega) (by omega))]
      omega
    · rw [sumR_one n (by omega) (fun i hi hne => hz i (by omega) hne), hz n (by omega) (by omega)]
      omega
theorem sumR_le {f g : Nat → Nat} : ∀ n, (∀ i, i < n → f i ≤ g i) → ((List.range n).map f).sum ≤ ((List.range n).map g).sum
  | 0, _ => Nat.le_refl _
  | n + 1, h => by
    have ih := sumR_le n (fun i hi => h i (by omega))
    have h1 := h n (by omega)
    rw [List.range_succ, List.map_append, List.sum_append, List.map_append, List.sum_append]
    simp
    omega
theorem sumR_add {f g : Nat → Nat} : ∀ n, ((List.range n).map fun i => f i + g i).sum = ((List.range n).map f).sum + ((List.range n).map g).sum
  | 0 => rfl
  | n + 1 => by
    have ih := sumR_add (f := f) (g := g) n
    rw [List.range_succ, List.map_append, List.sum_append, List.map_append, List.sum_append, List.map_append, List.sum_append, ih]
    simp
    omega
theorem sum16_zero {f : Nat → Nat} (h : ∀ i, i < 16 → f i = 0) : sum16 f = 0 := sumR_zero 16 h
theorem sum16_one {f : Nat → Nat} {d : Nat} (hd : d < 16) (h : ∀ i, i < 16 → i ≠ d → f i = 0) : sum16 f = f d := sumR_one 16 hd h
theorem sum16_le {f g : Nat → Nat} (h : ∀ i, i < 16 → f i ≤ g i) : sum16 f ≤ sum16 g := sumR_le 16 h
theorem sum16_add (f g : Nat → Nat) : sum16 (fun i => f i + g i) = sum16 f + sum16 g := sumR_add 16
theorem sum16_congr {f g : Nat → Nat} (h : ∀ i, i < 16 → f i = g i) : sum16 f = sum16 g := Nat.le_antisymm (sum16_le fun i hi => Nat.le_of_eq (h i hi)) (sum16_le fun i hi => Nat.le_of_eq (h i hi).symm)

/-- How many nodes a tree has. -/
def Tr.cnt : Tr → Nat
  | .nil => 0
  | .node _ kids => 1 + sum16 fun i => (kids i).cnt
  | .leaf _ _ _ _ _ => 1
def Tr.blk : Tr → Option Nat
  | .nil => none
  | .node b _ => some b
  | .leaf b _ _ _ _ => some b
/-- How many of the first's nodes the second has not at the same place. -/
def Tr.frs : Tr → Tr → Nat
  | .nil, _ => 0
  | .node b kids, a => if a.blk = some b then 0 else 1 + sum16 fun i => (kids i).frs (a.kid i)
  | .leaf b _ _ _ _, a => if a.blk = some b then 0 else 1
/-- How many of them it has. -/
def Tr.sme : Tr → Tr → Nat
  | .nil, _ => 0
  | .node b kids, a => if a.blk = some b then 1 + sum16 fun i => (kids i).cnt else sum16 fun i => (kids i).sme (a.kid i)
  | .leaf b _ _ _ _, a => if a.blk = some b then 1 else 0

theorem cnt_node (b : Nat) (kids : Nat → Tr) : (Tr.node b kids).cnt = 1 + sum16 fun i => (kids i).cnt := rfl
theorem frs_node (b : Nat) (kids : Nat → Tr) (a : Tr) : (Tr.node b kids).frs a = if a.blk = some b then 0 else 1 + sum16 fun i => (kids i).frs (a.kid i) := rfl
theorem sme_node (b : Nat) (kids : Nat → Tr) (a : Tr) : (Tr.node b kids).sme a = if a.blk = some b then 1 + sum16 fun i => (kids i).cnt else sum16 fun i => (kids i).sme (a.kid i) := rfl
theorem sme_frs : ∀ (t a : Tr), t.sme a + t.frs a = t.cnt
  | .nil, _ => rfl
  | .node b kids, a => by
    rw [cnt_node, frs_node, sme_node]
    by_cases h : a.blk = some b
    · rw [if_pos h, if_pos h, Nat.add_zero]
    · rw [if_neg h, if_neg h]
      have : sum16 (fun i => (kids i).cnt) = sum16 (fun i => (kids i).sme (a.kid i)) + sum16 (fun i => (kids i).frs (a.kid i)) := by
        rw [← sum16_add]
        exact sum16_congr fun i _ => (sme_frs (kids i) (a.kid i)).symm
      omega
  | .leaf b _ _ _ _, a => by
    unfold Tr.sme Tr.frs Tr.cnt
    by_cases h : a.blk = some b
    · rw [if_pos h, if_pos h]
    · rw [if_neg h, if_neg h]
theorem frs_self (t : Tr) : t.frs t = 0 := by
  cases t with
  | nil => rfl
  | node b kids => exact if_pos rfl
  | leaf => exact if_pos rfl
theorem sme_self (t : Tr) : t.sme t = t.cnt := by
  have := sme_frs t t
  rw [frs_self] at this
  omega
theorem frs_none : ∀ (t a : Tr), a = .nil → t.frs a = t.cnt
  | .nil, _, _ => rfl
  | .node b kids, a, h => by
    subst h
    unfold Tr.frs Tr.cnt
    rw [if_neg (by simp [Tr.blk])]
    rw [sum16_congr fun i _ => frs_none (kids i) (Tr.nil.kid i) rfl]
  | .leaf b _ _ _ _, a, h => by
    subst h
    unfold Tr.frs Tr.cnt
    rw [if_neg (by simp [Tr.blk])]
theorem cnt_zero {t : Tr} : t.cnt = 0 ↔ t = .nil := by
  cases t with
  | nil => simp [Tr.cnt]
  | node b kids => simp [Tr.cnt]
  | leaf => simp [Tr.cnt]

/-- A tree all of whose nodes were there before the B'th block. -/
def Tr.old (B : Nat) : Tr → Prop
  | .nil => True
  | .node b kids => b < B ∧ ∀ i, i < 16 → (kids i).old B
  | .leaf b _ _ _ _ => b < B
theorem old_blk {B b : Nat} {t : Tr} (h : t.old B) (hb : B ≤ b) : t.blk ≠ some b := by
  cases t with
  | nil => simp [Tr.blk]
  | node c kids => have := h.1; simp [Tr.blk]; omega
  | leaf c => have : c < B := h; simp [Tr.blk]; omega
theorem old_kid {B : Nat} {t : Tr} (h : t.old B) {i : Nat} (hi : i < 16) : (t.kid i).old B := by
  cases t with
  | nil => trivial
  | node c kids => exact h.2 i hi
  | leaf c => trivial

/-- What a put makes: one node at each height. -/
theorem frs_put {B id : Nat} {v : Int × Int} : ∀ (n : Nat) {t' t : Tr}, PutR B id v n t' t → t.old B → t'.frs t = n + 1
  | 0, t', t, h, ho => by
    obtain ⟨b, s, th, vk, vn, rfl, hb, -, -⟩ := h
    unfold Tr.frs
    rw [if_neg (old_blk ho hb)]
  | n + 1, t', t, h, ho => by
    obtain ⟨b, kids, rfl, hb, hk, hp⟩ := h
    have ih := frs_put n hp (old_kid ho (dg_lt id (n + 1)))
    unfold Tr.frs
    rw [if_neg (old_blk ho hb), sum16_one (dg_lt id (n + 1)) (fun i hi hne => by rw [hk i hi hne]; exact frs_self _), ih]
    omega
/-- What a drop makes: no more than one at each height; none where nothing is left. -/
theorem frs_drop {B id : Nat} : ∀ (n : Nat) {t' t : Tr}, DropR B id n t' t → t.old B → t'.frs t ≤ n + 1 ∧ (0 < t'.frs t ↔ 0 < t'.cnt)
  | 0, t', t, h, ho => by
    rcases h with ⟨rfl, -⟩ | ⟨b, s, th, vk, vn, rfl, -, hb, -, -⟩
    · simp [Tr.frs, Tr.cnt]
    · unfold Tr.frs Tr.cnt
      rw [if_neg (old_blk ho hb)]
      simp
  | n + 1, t', t, h, ho => by
    obtain ⟨c, hc, ⟨rfl, -, -⟩ | ⟨b, kids, rfl, -, hb, hkc, hk⟩⟩ := h
    · simp [Tr.frs, Tr.cnt]
    · have ih := frs_drop n hc (old_kid ho (dg_lt id (n + 1)))
      unfold Tr.frs Tr.cnt
      rw [if_neg (old_blk ho hb), sum16_one (dg_lt id (n + 1)) (fun i hi hne => by rw [hk i hi hne]; exact frs_self _), hkc]
      exact ⟨by omega, by omega⟩

/-- The same tree, as far as its sixteen places go. -/
def Tr.Eqv : Tr → Tr → Prop
  | .nil, a => a = .nil
  | .node b kids, a => a.blk = some b ∧ ∀ i, i < 16 → (kids i).Eqv (a.kid i)
  | .leaf b _ _ _ _, a => a.blk = some b ∧ ∀ i, i < 16 → a.kid i = .nil
theorem eqv_frs : ∀ (t a : Tr), t.Eqv a → t.frs a = 0
  | .nil, _, _ => rfl
  | .node b kids, a, h => by rw [frs_node, if_pos h.1]
  | .leaf b _ _ _ _, a, h => if_pos h.1
theorem frs_cases {t a : Tr} : t.frs a = if t.blk = none ∨ a.blk = t.blk then 0 else 1 + sum16 fun i => (t.kid i).frs (a.kid i) := by
  cases t with
  | nil => rw [if_pos (.inl rfl)]; rfl
  | node b kids =>
    rw [frs_node]
    by_cases h : a.blk = some b
    · rw [if_pos h, if_pos (.inr h)]
    · rw [if_neg h, if_neg (by rintro (h1 | h1); cases h1; exact h h1)]
      rfl
  | leaf b s th vk vn =>
    show (if a.blk = some b then 0 else 1) = _
    by_cases h : a.blk = some b
    · rw [if_pos h, if_pos (.inr h)]
    · rw [if_neg h, if_neg (by rintro (h1 | h1); cases h1; exact h h1)]
      have : (sum16 fun i => ((Tr.leaf b s th vk vn).kid i).frs (a.kid i)) = 0 := sum16_zero (fun i _ => rfl)
      rw [this]
theorem eqv_kid : ∀ {t a : Tr}, t.Eqv a → ∀ i, i < 16 → (t.kid i).Eqv (a.kid i)
  | .nil, a, h, i, _ => by
    have : a = .nil := h
    subst this
    rfl
  | .node b kids, a, h, i, hi => h.2 i hi
  | .leaf b _ _ _ _, a, h, i, hi => h.2 i hi
theorem eqv_blk : ∀ {t a : Tr}, t.Eqv a → t.blk = a.blk
  | .nil, a, h => by
    have : a = .nil := h
    rw [this]
  | .node b kids, a, h => h.1.symm
  | .leaf b _ _ _ _, a, h => h.1.symm
theorem blk_none {t : Tr} (h : t.blk = none) : t = .nil := by
  cases t with
  | nil => rfl
  | node => cases h
  | leaf => cases h
theorem kid_cnt : ∀ (t : Tr) (i : Nat), i < 16 → (t.kid i).cnt < t.cnt ∨ t.kid i = .nil
  | .nil, _, _ => .inr rfl
  | .node b kids, i, hi => by
    left
    rw [cnt_node]
    have : sum16 (fun j => if j = i then (kids i).cnt else 0) ≤ sum16 fun j => (kids j).cnt := sum16_le fun j _ => by
      split
      · rename_i h; rw [h]; exact Nat.le_refl _
      · omega
    rw [sum16_one hi (fun j _ hne => if_neg hne), if_pos rfl] at this
    show (kids i).cnt < _
    omega
  | .leaf _ _ _ _ _, _, _ => .inr rfl
theorem frs_eqv : ∀ (t a c : Tr), t.Eqv a → t.frs c = a.frs c
  | .nil, a, c, h => by
    have : a = .nil := h
    rw [this]
  | .node b kids, a, c, h => by
    rw [frs_cases, frs_cases (t := a), h.1]
    show (if some b = none ∨ c.blk = some b then 0 else _) = _
    rw [sum16_congr (f := fun i => ((Tr.node b kids).kid i).frs (c.kid i)) (g := fun i => (a.kid i).frs (c.kid i)) fun i hi => frs_eqv (kids i) (a.kid i) (c.kid i) (h.2 i hi)]
  | .leaf b s th vk vn, a, c, h => by
    rw [frs_cases, frs_cases (t := a), h.1]
    show (if some b = none ∨ c.blk = some b then 0 else _) = _
    rw [sum16_congr (f := fun i => (a.kid i).frs (c.kid i)) (g := fun i => ((Tr.leaf b s th vk vn).kid i).frs (c.kid i)) fun i hi => by rw [h.2 i hi]; rfl]
/-- By way of a third tree nothing is won: where one block is one tree. -/
theorem frs_way {R : Tr → Tr → Prop} (hK : ∀ {t a : Tr}, R t a → ∀ i, i < 16 → R (t.kid i) (a.kid i)) (hE : ∀ {t a : Tr}, R t a → t.blk = a.blk → t.Eqv a) :
    ∀ (c b a : Tr), R c b → R b a → c.frs a ≤ c.frs b + b.frs a := by
  have main : ∀ (N : Nat) (c b a : Tr), c.cnt ≤ N → R c b → R b a → c.frs a ≤ c.frs b + b.frs a := by
    intro N
    induction N with
    | zero =>
      intro c b a hN _ _
      rw [cnt_zero.1 (Nat.le_zero.1 hN)]
      exact Nat.zero_le _
    | succ N ih =>
      intro c b a hN h1 h2
      by_cases e1 : c.blk = b.blk
      · rw [frs_eqv c b a (hE h1 e1)]
        omega
      · rw [frs_cases (t := c) (a := a), frs_cases (t := c) (a := b)]
        by_cases e0 : c.blk = none
        · rw [if_pos (.inl e0)]; omega
        · by_cases e2 : a.blk = c.blk
          · rw [if_pos (.inr e2)]; omega
          · rw [if_neg (by rintro (h | h); exact e0 h; exact e2 h), if_neg (by rintro (h | h); exact e0 h; exact e1 h.symm)]
            have hs : sum16 (fun i => (c.kid i).frs (a.kid i)) ≤ sum16 (fun i => (c.kid i).frs (b.kid i)) + sum16 (fun i => (b.kid i).frs (a.kid i)) := by
              rw [← sum16_add]
              refine sum16_le fun i hi => ?_
              rcases kid_cnt c i hi with h | h
              · exact ih _ _ _ (by omega) (hK h1 i hi) (hK h2 i hi)
              · rw [h]; exact Nat.zero_le _
            have hb : sum16 (fun i => (b.kid i).frs (a.kid i)) ≤ b.frs a := by
              rw [frs_cases (t := b) (a := a)]
              by_cases e3 : b.blk = none
              · rw [if_pos (.inl e3), blk_none e3]
                exact Nat.le_of_eq (sum16_zero (fun i _ => rfl))
              · by_cases e4 : a.blk = b.blk
                · rw [if_pos (.inr e4), sum16_zero (fun i hi => eqv_frs _ _ (eqv_kid (hE h2 e4.symm) i hi))]
                  exact Nat.le_refl _
                · rw [if_neg (by rintro (h | h); exact e3 h; exact e4 h)]
                  omega
            omega
  exact fun c b a => main c.cnt c b a (Nat.le_refl _)

end Go.Proofs.YtmppgcijbeipfaaDoor


/- THE MATHEMATICS of the statement's own count: how many nodes a rising list of entries asks for. -/
namespace Go.Proofs.YtmppgcijbeipfaaDoor

/-- At how many of the first n heights a key has another prefix than the one ahead of it. -/
def st : Nat → Option Nat → Nat → Nat
  | 0, _, _ => 0
  | n + 1, o, k => st n o k + if o.map (· / 16 ^ (n + 1)) = some (k / 16 ^ (n + 1)) then 0 else 1
def nds (n : Nat) : Option Nat → List (Nat × (Int × Int)) → Nat
  | _, [] => 0
  | o, e :: L => st n o e.1 + nds n (some e.1) L

theorem st_none : ∀ (n k : Nat), st n none k = n
  | 0, _ => rfl
  | n + 1, k => by
    show st n none k + _ = _
    rw [st_none n k, if_neg (by simp)]
theorem st_far : ∀ (n : Nat) {a k : Nat}, a / 16 ^ n ≠ k / 16 ^ n → st n (some a) k = n
  | 0, _, _, _ => rfl
  | n + 1, a, k, h => by
    have h1 : a / 16 ^ n ≠ k / 16 ^ n := fun e => h (by rw [Nat.pow_succ, ← Nat.div_div_eq_div_mul, ← Nat.div_div_eq_div_mul, e])
    show st n (some a) k + _ = _
    rw [st_far n h1, if_neg (by simpa using h)]
theorem nds_far (n : Nat) {o : Option Nat} {B : List (Nat × (Int × Int))} (h : ∀ b ∈ B, ∀ a, o = some a → a / 16 ^ n ≠ b.1 / 16 ^ n) : nds n o B = nds n none B := by
  cases B with
  | nil => rfl
  | cons b B =>
    show st n o b.1 + _ = st n none b.1 + _
    cases o with
    | none => rfl
    | some a => rw [st_none, st_far n (h b (by simp) a rfl)]
theorem nds_cat (n : Nat) {B : List (Nat × (Int × Int))} : ∀ (A : List (Nat × (Int × Int))) (o : Option Nat), (∀ b ∈ B, ∀ a, o = some a → a / 16 ^ n ≠ b.1 / 16 ^ n) → (∀ a ∈ A, ∀ b ∈ B, a.1 / 16 ^ n ≠ b.1 / 16 ^ n) → nds n o (A ++ B) = nds n o A + nds n none B
  | [], o, ho, _ => by
    show nds n o B = 0 + _
    rw [nds_far n ho, Nat.zero_add]
  | a :: A, o, _, hA => by
    have ih := nds_cat n A (some a.1) (fun b hb c hc => by obtain rfl := Option.some.inj hc; exact hA a (by simp) b hb) (fun x hx b hb => hA x (by simp [hx]) b hb)
    show st n o a.1 + nds n (some a.1) (A ++ B) = st n o a.1 + nds n (some a.1) A + _
    rw [ih]
    omega
theorem nds_same (n c : Nat) : ∀ (L : List (Nat × (Int × Int))) (a : Nat), a / 16 ^ (n + 1) = c → (∀ e ∈ L, e.1 / 16 ^ (n + 1) = c) → nds (n + 1) (some a) L = nds n (some a) L
  | [], _, _, _ => rfl
  | e :: L, a, ha, h => by
    have he := h e (by simp)
    show (st n (some a) e.1 + if (some a).map (· / 16 ^ (n + 1)) = some (e.1 / 16 ^ (n + 1)) then 0 else 1) + _ = _
    rw [if_pos (by simp [ha, he]), nds_same n c L e.1 he (fun x hx => h x (by simp [hx]))]
    rfl
theorem nds_new (n c : Nat) {L : List (Nat × (Int × Int))} (h0 : L ≠ []) (h : ∀ e ∈ L, e.1 / 16 ^ (n + 1) = c) : nds (n + 1) none L = nds n none L + 1 := by
  cases L with
  | nil => exact absurd rfl h0
  | cons e L =>
    have he := h e (by simp)
    show (st n none e.1 + if (none : Option Nat).map (· / 16 ^ (n + 1)) = some (e.1 / 16 ^ (n + 1)) then 0 else 1) + nds (n + 1) (some e.1) L = st n none e.1 + nds n (some e.1) L + 1
    rw [if_neg (by simp), nds_same n c L e.1 he (fun x hx => h x (by simp [hx]))]
    omega
theorem nds_zero (o : Option Nat) : ∀ (L : List (Nat × (Int × Int))), nds 0 o L = 0
  | [] => rfl
  | e :: L => by
    show 0 + nds 0 (some e.1) L = 0
    rw [nds_zero (some e.1) L]
theorem quot {p Q e : Nat} (hp : p % Q = 0) (hQ : 0 < Q) (h1 : p ≤ e) (h2 : e < p + Q) : e / Q = p / Q := by
  obtain ⟨c, rfl⟩ : ∃ c, p = Q * c := ⟨p / Q, by have := Nat.div_add_mod p Q; omega⟩
  rw [Nat.mul_div_cancel_left _ hQ]
  refine Nat.div_eq_of_lt_le ?_ ?_
  · rw [Nat.mul_comm]; exact h1
  · rw [Nat.add_mul, Nat.one_mul, Nat.mul_comm c Q]; exact h2
theorem flat_nds (n c : Nat) {f : Nat → List (Nat × (Int × Int))} (hf : ∀ i, i < 16 → ∀ e ∈ f i, e.1 / 16 ^ n = c + i) : ∀ m, m ≤ 16 → nds n none ((List.range m).flatMap f) = ((List.range m).map fun i => nds n none (f i)).sum
  | 0, _ => rfl
  | m + 1, hm => by
    have ih := flat_nds n c hf m (by omega)
    rw [List.range_succ, List.flatMap_append, List.map_append, List.sum_append]
    have e1 : [m].flatMap f = f m := by simp
    rw [e1, nds_cat n _ none (fun _ _ _ h => by cases h) (fun a ha b hb => ?_), ih]
    · simp
    · obtain ⟨i, hi, hai⟩ := List.mem_flatMap.1 ha
      have hi' : i < m := by simpa using hi
      rw [hf i (by omega) a hai, hf m (by omega) b hb]
      omega
theorem cnt_nds : ∀ (n : Nat) {t : Tr}, t.wf n → ∀ p, p % 16 ^ (n + 1) = 0 → t.cnt = nds (n + 1) none (t.ents n p)
  | n, .nil, _, p, _ => by cases n <;> rfl
  | 0, .node b kids, h, _, _ => absurd h.1 (by omega)
  | n + 1, .leaf b s th vk vn, h, _, _ => absurd h.1 (by omega)
  | 0, .leaf b s th vk vn, h, p, hp => by
    have hw : (Tr.leaf b s th vk vn).wf 0 := h
    obtain ⟨-, -, i, hi, ht⟩ := h
    have hne : (Tr.leaf b s th vk vn).ents 0 p ≠ [] := fun e0 => by
      have : (p + i, (vk i, vn i)) ∈ (Tr.leaf b s th vk vn).ents 0 p := by
        rw [ents_leaf hw]
        refine List.mem_filterMap.2 ⟨i, by simpa using hi, ?_⟩
        show (if th i = true then some (p + i, (vk i, vn i)) else none) = _
        rw [if_pos ht]
      rw [e0] at this
      cases this
    rw [nds_new 0 (p / 16 ^ (0 + 1)) hne (fun e he => quot hp (by decide) (ents_range hw he).1 (ents_range hw he).2), nds_zero]
    rfl
  | n + 1, .node b kids, h, p, hp => by
    have hw : (Tr.node b kids).wf (n + 1) := h
    obtain ⟨-, hk, i, hi, hne⟩ := h
    have hQ : 0 < 16 ^ (n + 1) := Nat.pow_pos (by decide)
    have hp1 : p % 16 ^ (n + 1) = 0 := by
      rw [Nat.pow_succ 16 (n + 1)] at hp
      exact Nat.mod_eq_zero_of_dvd (Nat.dvd_trans (Nat.dvd_mul_right _ _) (Nat.dvd_of_mod_eq_zero hp))
    have hpi : ∀ i, (p + i * 16 ^ (n + 1)) % 16 ^ (n + 1) = 0 := fun i => by rw [Nat.add_mul_mod_self_right]; exact hp1
    have ih : ∀ i, i < 16 → (kids i).cnt = nds (n + 1) none ((kids i).ents n (p + i * 16 ^ (n + 1))) := fun i hi => cnt_nds n (hk i hi) _ (hpi i)
    have hE : (Tr.node b kids).ents (n + 1) p = (List.range 16).flatMap fun i => (kids i).ents n (p + i * 16 ^ (n + 1)) := ents_kid hw p
    have hfl := flat_nds (n + 1) (p / 16 ^ (n + 1)) (f := fun i => (kids i).ents n (p + i * 16 ^ (n + 1))) (fun i hi e he => by
      have hr := ents_range (hk i hi) he
      rw [quot (hpi i) hQ hr.1 hr.2, Nat.add_mul_div_right _ _ hQ]) 16 (Nat.le_refl _)
    have hne' : (Tr.node b kids).ents (n + 1) p ≠ [] := fun e0 => by
      have h1 := ih i hi
      have h2 : (kids i).ents n (p + i * 16 ^ (n + 1)) = [] := by
        rw [hE, List.flatMap_eq_nil_iff] at e0
        exact e0 i (by simpa using hi)
      rw [h2] at h1
      exact hne (cnt_zero.1 h1)
    rw [nds_new (n + 1) (p / 16 ^ (n + 1 + 1)) hne' (fun e he => quot hp (Nat.pow_pos (by decide)) (ents_range hw he).1 (ents_range hw he).2), hE, hfl, cnt_node]
    have hs : sum16 (fun i => (kids i).cnt) = sum16 fun i => nds (n + 1) none ((kids i).ents n (p + i * 16 ^ (n + 1))) := sum16_congr ih
    rw [hs]
    unfold sum16
    omega
/-- What the whole tree has. -/
theorem cnt_all {t : Tr} (h : t.wf 7) : t.cnt = nds 8 none (t.ents 7 0) := cnt_nds 7 h 0 (Nat.zero_mod _)

theorem st_le : ∀ (n : Nat) (o : Option Nat) (k : Nat), st n o k ≤ n
  | 0, _, _ => Nat.le_refl _
  | n + 1, o, k => by
    have := st_le n o k
    show st n o k + _ ≤ _
    split <;> omega
theorem nds_le (n : Nat) : ∀ (o : Option Nat) (L : List (Nat × (Int × Int))), nds n o L ≤ n * L.length
  | _, [] => Nat.zero_le _
  | o, e :: L => by
    have h1 := st_le n o e.1
    have h2 := nds_le n (some e.1) L
    show st n o e.1 + _ ≤ _
    rw [List.length_cons, Nat.mul_succ]
    omega

/-- The key ahead of the i'th. -/
def prv (L : List (Nat × (Int × Int))) (i : Nat) : Option Nat := if i = 0 then none else (L[i - 1]?).map Prod.fst
theorem nds_snoc (n : Nat) : ∀ (A : List (Nat × (Int × Int))) (o : Option Nat) (e : Nat × (Int × Int)), nds n o (A ++ [e]) = nds n o A + st n (match A.getLast? with | some x => some x.1 | none => o) e.1
  | [], o, e => by
    show st n o e.1 + 0 = 0 + _
    simp
  | a :: A, o, e => by
    have ih := nds_snoc n A (some a.1) e
    show st n o a.1 + nds n (some a.1) (A ++ [e]) = st n o a.1 + nds n (some a.1) A + _
    rw [ih]
    cases A with
    | nil => simp; omega
    | cons b A =>
      have : (a :: b :: A).getLast? = (b :: A).getLast? := by simp [List.getLast?_cons]
      rw [this]
      have h2 : ∃ x, (b :: A).getLast? = some x := ⟨_, List.getLast?_eq_some_getLast (by simp)⟩
      obtain ⟨x, hx⟩ := h2
      rw [hx]
      show _ + (_ + st n (some x.1) e.1) = _ + _ + st n (some x.1) e.1
      omega
theorem nds_take (n : Nat) {L : List (Nat × (Int × Int))} {i : Nat} (h : i < L.length) : nds n none (L.take (i + 1)) = nds n none (L.take i) + st n (prv L i) L[i].1 := by
  rw [List.take_succ_eq_append_getElem h, nds_snoc]
  congr 2
  unfold prv
  cases i with
  | zero => rfl
  | succ i =>
    rw [if_neg (by omega)]
    have e1 : (L.take (i + 1)).getLast? = some L[i] := by
      rw [List.take_succ_eq_append_getElem (by omega), List.getLast?_append]
      rfl
    have e2 : L[i + 1 - 1]? = some L[i] := by
      rw [Nat.add_sub_cancel]
      exact List.getElem?_eq_getElem (by omega)
    rw [e1, e2]
    rfl
theorem st_small : ∀ (n a k : Nat), a < 16 ^ (n + 1) → k < 16 ^ (n + 1) → st (n + 1) (some a) k = st n (some a) k := by
  intro n a k ha hk
  show st n (some a) k + _ = _
  rw [if_pos (by simp [Nat.div_eq_of_lt ha, Nat.div_eq_of_lt hk])]
  omega

end Go.Proofs.YtmppgcijbeipfaaDoor

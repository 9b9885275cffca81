import Derived.Test.YtkojgbfocdefnaaHFn2
import Derived.Deep.RegionLaw
namespace Go.Proofs.Ytkojgbfocdefnaa
open Go.RowKit

set_option maxRecDepth 4000 in
set_option maxHeartbeats 1000000 in
theorem push_full (hb mb : Nat) (Ls : List Es) (w : World) (h : HistAt w hb Ls 32) : Calls Try.prog 23 #[.pointer (some ⟨hb, 0, none⟩), .pointer (some ⟨mb, 0, none⟩)] w fun e w' => e = .returned (.int .i64 110) ∧ Below w.heap.size w w' := by
  obtain ⟨g, cap, c0, c1, f0, f1⟩ := h.cells
  go_enter Try.func23, Try.ntmps23
  go_wp2
  go_ret
  exact ⟨rfl, Below.refl _ _⟩

theorem ptrs_snoc (vs : Nat → Nat) (n m : Nat) : ptrs vs n ++ [.pointer (some ⟨m, 0, none⟩)] = ptrs (fun i => if i = n then m else vs i) (n + 1) := by
  unfold ptrs
  rw [List.range_succ, List.map_append]
  congr 1
  · refine List.map_congr_left fun i hi => ?_
    have := List.mem_range.1 hi
    simp only [if_neg (show ¬ i = n by omega)]
  · simp

theorem one_new (W : World) (v : Value) (t : TypeId) : ∀ j u, ([v] : List Value)[j]? = some u → (W.alloc (.cells #[v] t)).cell? ((⟨W.heap.size, 0, none⟩ : Addr).add j) = some u := by
  intro j u h
  match j, h with
  | 0, h => simpa [Addr.add] using h
  | j + 1, h => simp at h
theorem one_later {W Y : World} (v : Value) (t : TypeId) (hb : Below (W.alloc (.cells #[v] t)).heap.size (W.alloc (.cells #[v] t)) Y) : ∀ j u, ([v] : List Value)[j]? = some u → Y.cell? ((⟨W.heap.size, 0, none⟩ : Addr).add j) = some u := by
  intro j u h
  have := one_new W v t j u h
  rw [addP] at this ⊢
  exact (hb.cell (p := ⟨W.heap.size, 0 + j, none⟩) (by simp)).trans this

/-- What Push leaves: the row's slice stored, then the place. -/
theorem push_end {w w10 : World} {hb mb g cap g10 cap10 p : Nat} {vs : Nat → Nat} {Ls : List Es} {L : Es} (hH : HB w hb (some ⟨g, 0, none⟩) Ls.length cap (p : Int)) (hM : Maps w g 0 vs Ls) (hpl : p < Ls.length) (hL : L.length ≤ 200) (hm : MapE w mb L) (hp : p < 32) (B10 : Below w.heap.size w w10) (hown : w10.ownsRow w.heap.size 46 1 (.slice (some ⟨g10, 0, none⟩) (p + 1 + 1) cap10) (p + 1 + 1) (ptrs vs (p + 1) ++ [.pointer (some ⟨mb, 0, none⟩)])) :
    (w10.setCell ⟨hb, 0, none⟩ (.slice (some ⟨g10, 0, none⟩) (p + 1 + 1) cap10)).cell? ⟨hb, 1, none⟩ = some (.int .i64 (p : Int)) ∧ (w10.setCell ⟨hb, 0, none⟩ (.slice (some ⟨g10, 0, none⟩) (p + 1 + 1) cap10)).frozen? ⟨hb, 1, none⟩ = false ∧
    HistAt ((w10.setCell ⟨hb, 0, none⟩ (.slice (some ⟨g10, 0, none⟩) (p + 1 + 1) cap10)).setCell ⟨hb, 1, none⟩ (.int .i64 ((p : Int) + 1))) hb (Ls.take (p + 1) ++ [L]) (p + 1) ∧ w.grownBy ((w10.setCell ⟨hb, 0, none⟩ (.slice (some ⟨g10, 0, none⟩) (p + 1 + 1) cap10)).setCell ⟨hb, 1, none⟩ (.int .i64 ((p : Int) + 1))) (some hb) := by
  have hH10 := hH.later B10
  have hbl := hH.lt
  have hS := heap_setCell_same w10 hb 0 _ _ (.slice (some ⟨g10, 0, none⟩) (p + 1 + 1) cap10) hH10
  have hgr1 := grown_set w10 hb 0 (.slice (some ⟨g10, 0, none⟩) (p + 1 + 1) cap10)
  rw [ptrs_snoc] at hown
  have hlen : (Ls.take (p + 1) ++ [L]).length = p + 1 + 1 := by simp; omega
  have hM10 : Maps w10 g10 0 (fun i => if i = p + 1 then mb else vs i) (Ls.take (p + 1) ++ [L]) := by
    refine ⟨(hown.lt g10 rfl).2, fun i hi => ?_⟩
    rw [hlen] at hi
    refine ⟨own_ptr hown i hi, ?_⟩
    by_cases e : i = p + 1
    · subst e
      simp only [if_true]
      rw [List.getElem_append_right (by simp; omega)]
      simp only [List.getElem_singleton]
      exact ⟨hm.later B10, hL⟩
    · simp only [if_neg e]
      rw [List.getElem_append_left (by simp; omega), List.getElem_take]
      exact ⟨(hM.2 i (by omega)).2.1.later B10, (hM.2 i (by omega)).2.2⟩
  have hne : g10 ≠ hb := fun e => by have := (hown.lt g10 rfl).1; omega
  generalize w10.setCell ⟨hb, 0, none⟩ (.slice (some ⟨g10, 0, none⟩) (p + 1 + 1) cap10) = X at *
  have hHX : HB X hb (some ⟨g10, 0, none⟩) (p + 1 + 1) cap10 (p : Int) := hS
  have hMX := hM10.kept hne hH10 hgr1
  have hgr2 := grown_set X hb 1 (.int .i64 ((p : Int) + 1))
  refine ⟨cell_of_row _ _ 1 _ _ _ hHX, frozen_of_row hHX 1, ⟨by rw [hlen]; omega, by rw [hlen]; omega, g10, cap10, _, ?_, ?_, hne, hMX.kept hne hHX hgr2⟩, ?_⟩
  · rw [hlen]
    exact heap_setCell_same X hb 1 _ _ (.int .i64 ((p : Int) + 1)) hHX
  · rw [hlen]
    exact own_cap hown
  · exact ((grown_of_below B10).trans hgr1).trans hgr2

set_option maxRecDepth 4000 in
set_option maxHeartbeats 4000000 in
theorem push_some (hb mb : Nat) (Ls : List Es) (p : Nat) (hp : p < 32) (L : Es) (hL : L.length ≤ 200) (w : World) (h : HistAt w hb Ls p) (hm : MapE w mb L) : Calls Try.prog 23 #[.pointer (some ⟨hb, 0, none⟩), .pointer (some ⟨mb, 0, none⟩)] w fun e w' => e = .returned (.int .i64 0) ∧ HistAt w' hb (Ls.take (p + 1) ++ [L]) (p + 1) ∧ w.grownBy w' (some hb) := by
  obtain ⟨hpl, hl, g, cap, vs, hH, hcap, hne, hM⟩ := h
  have hbl := hH.lt
  obtain ⟨i0, hi, hz0, hz1, hz2⟩ := info_parts infoM
  have hge : ¬ (32 : Int) ≤ (p : Int) := by omega
  have hp0 : (0 : Int) ≤ (p : Int) + 1 := by omega
  have hp1 : (p : Int) + 1 ≤ (cap : Int) := by omega
  have hwr : IntKind.i64.wrap ((p : Int) + 1) = (p : Int) + 1 := by rw [IntKind.wrap_i64]; omega
  have hwr3 : wrap64 ((p : Int) + 1) = (p : Int) + 1 := by unfold wrap64; omega
  have htn : ((p : Int) + 1).toNat = p + 1 := by omega
  have hc : ∀ X, Below w.heap.size w X → X.cell? ⟨hb, 0, none⟩ = some (.slice (some ⟨g, 0, none⟩) Ls.length cap) ∧ X.cell? ⟨hb, 1, none⟩ = some (.int .i64 (p : Int)) := fun X hX => ⟨(hX.cell (p := ⟨hb, 0, none⟩) hbl).trans (cell_of_row _ _ 0 _ _ _ hH), (hX.cell (p := ⟨hb, 1, none⟩) hbl).trans (cell_of_row _ _ 1 _ _ _ hH)⟩
  have hK : ∀ X, Below w.heap.size w X → Calls Try.prog 22 #[.slice (some ⟨g, 0, none⟩) (p + 1) cap] X fun e w' => ∃ g' cap', e = .returned (.slice (some ⟨g', 0, none⟩) (p + 1) cap') ∧ w'.ownsRow w.heap.size 46 1 (.slice (some ⟨g', 0, none⟩) (p + 1) cap') (p + 1) (ptrs vs (p + 1)) ∧ Below X.heap.size X w' := fun X hX => by
    refine (sclone_any g 0 (p + 1) cap vs (by omega) (by omega) X ((hM.later hX).1) (fun i hi => ((hM.later hX).2 i (by omega)).1)).mono ?_
    rintro e w' ⟨g', cap', rfl, ho, hb'⟩
    obtain ⟨q1, ⟨q2, _⟩ | ⟨g2, cap2, cur, q3, q4, q5⟩⟩ := ho
    · cases q2
    · exact ⟨g', cap', rfl, ⟨q1, .inr ⟨g2, cap2, cur, q3, Nat.le_trans hX.size q4, q5⟩⟩, hb'⟩
  have c0 := (hc w (Below.refl _ _)).1
  have c1 := (hc w (Below.refl _ _)).2
  have B0 : Below w.heap.size w w.drew := (Below.refl _ _).drew
  go_enter Try.func23, Try.ntmps23
  go_wp2
  have cA : ∀ o, (w.drew.alloc o).cell? ⟨hb, 0, none⟩ = some (.slice (some ⟨g, 0, none⟩) Ls.length cap) := fun o => (hc _ (B0.alloc (by simp) o)).1
  have cB : ∀ o, (w.drew.alloc o).cell? ⟨hb, 1, none⟩ = some (.int .i64 (p : Int)) := fun o => (hc _ (B0.alloc (by simp) o)).2
  go_region_law (first | (refine step_append_own _ rfl _ _ 61 rfl w.heap.size 46 i0 _ 1 8 Try.underlying61 hi hz0 hz1 hz2 rfl (by decide) _ (p + 1) (ptrs vs (p + 1)) rfl (by first | exact hown5 | exact own_laterB hown5 ((Below.refl _ _).alloc (Nat.le_refl _) _)) _ 1 1 [.pointer (some ⟨mb, 0, none⟩)] rfl rfl (by first | exact one_new _ _ _ | exact one_later _ _ hb5) (fun u hu => by rw [List.mem_singleton.1 hu]; rfl) (by unfold maxLen; omega) (by omega) (by first | exact hB5.size | exact Nat.le_trans hB5.size (by simp)) ?_; intro v10 w10 hown10 hgrow10; obtain ⟨g10, cap10, rfl⟩ := own_some hown10 (by omega); have B10 : Below w.heap.size w w10 := (by first | exact hB5.grown hgrow10 hB5.size (fun k hk => by { cases hk; exact (hown5.lt _ rfl).1 }) | exact (hB5.alloc hB5.size _).grown hgrow10 (Nat.le_trans hB5.size (by simp)) (fun k hk => by { cases hk; exact (hown5.lt _ rfl).1 })); have c10 := (hc _ B10).1; have f10 := frozen_of_row (hH.later B10) 0) | (go_simp; go_at_call 41; refine (orEmpty_some mb _).mono ?_; rintro e w4 ⟨rfl, rfl⟩) | (go_simp; go_at_call 22; refine (hK _ (by first | exact B0 | exact B0.alloc (by simp) _)).mono ?_; rintro e w5 ⟨g5, cap5, rfl, hown5, hb5⟩; have hB5 : Below w.heap.size w w5 := (by first | exact below_step B0 hb5 | exact below_step (B0.alloc (by simp) _) hb5)))
  all_goals
    have hF := push_end hH hM hpl hL hm hp B10 hown10
    generalize w10.setCell ⟨hb, 0, none⟩ (.slice (some ⟨g10, 0, none⟩) (p + 1 + 1) cap10) = X at *
    obtain ⟨x1, fx1, hE⟩ := hF
    clear c10 f10 hown10 hgrow10 hown5 hb5 hB5 hK hc cA cB c0 c1 hM hH
    go_wp2
    go_ret
    refine ⟨rfl, ?_, ?_⟩
    · exact hE.1
    · exact hE.2

end Go.Proofs.Ytkojgbfocdefnaa

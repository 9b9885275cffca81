import Derived.Test.YtblfdjdhikfjhaaGreatJoin9
import Derived.Deep.RegionLaw
namespace Go.Proofs.YtblfdjdhikfjhaaGreat
open Go.RowKit

set_option maxRecDepth 4000 in
set_option maxHeartbeats 1000000 in
theorem push_full (hb mb : Nat) (Ls : List Es) (w : World) (h : HistAt w hb Ls 32) : Calls Tryz.prog 38 #[.pointer (some ⟨hb, 0, none⟩), .pointer (some ⟨mb, 0, none⟩)] w fun e w' => e = .returned (.int .i64 110) ∧ Below w.heap.size w w' := by
  obtain ⟨g, cap, c0, c1, f0, f1⟩ := h.cells
  go_enter Tryz.func38, Tryz.ntmps38
  go_wp2
  go_ret
  exact ⟨rfl, Below.refl _ _⟩

theorem ptrs_snoc (vs : Nat → Nat) (n m : Nat) : ptrs vs n ++ [.pointer (some ⟨m, 0, none⟩)] = ptrs (fun i => if i = n then m else vs i) (n + 1) := by
  unfold ptrs
  rw [List.range_succ, List.map_append]
  congr 1
  · refine List.map_congr_left fun i hi => ?_
    have := List.mem_range.1 hi
    simp only [if_neg (show ¬ i = n by omega)]
  · simp

theorem one_new (W : World) (v : Value) (t : TypeId) : ∀ j u, ([v] : List Value)[j]? = some u → (W.alloc (.cells #[v] t)).cell? ((⟨W.heap.size, 0, none⟩ : Addr).add j) = some u := by
  intro j u h
  match j, h with
  | 0, h => simpa [Addr.add] using h
  | j + 1, h => simp at h
theorem one_later {W Y : World} (v : Value) (t : TypeId) (hb : Below (W.alloc (.cells #[v] t)).heap.size (W.alloc (.cells #[v] t)) Y) : ∀ j u, ([v] : List Value)[j]? = some u → Y.cell? ((⟨W.heap.size, 0, none⟩ : Addr).add j) = some u := by
  intro j u h
  have := one_new W v t j u h
  rw [addP] at this ⊢
  exact (hb.cell (p := ⟨W.heap.size, 0 + j, none⟩) (by simp)).trans this

/-- What Push leaves: the row's slice stored, then the place. -/
theorem push_end {w w10 : World} {hb mb g cap g10 cap10 p : Nat} {vs : Nat → Nat} {Ls : List Es} {L : Es} (hH : HB w hb (some ⟨g, 0, none⟩) Ls.length cap (p : Int)) (hM : Maps w g 0 vs Ls) (hpl : p < Ls.length) (hL : L.length ≤ 5000000000) (hm : MapE w mb L) (hp : p < 32) (B10 : Below w.heap.size w w10) (hown : w10.ownsRow w.heap.size 40 1 (.slice (some ⟨g10, 0, none⟩) (p + 1 + 1) cap10) (p + 1 + 1) (ptrs vs (p + 1) ++ [.pointer (some ⟨mb, 0, none⟩)])) :
    (w10.setCell ⟨hb, 0, none⟩ (.slice (some ⟨g10, 0, none⟩) (p + 1 + 1) cap10)).cell? ⟨hb, 1, none⟩ = some (.int .i64 (p : Int)) ∧ (w10.setCell ⟨hb, 0, none⟩ (.slice (some ⟨g10, 0, none⟩) (p + 1 + 1) cap10)).frozen? ⟨hb, 1, none⟩ = false ∧
    HistAt ((w10.setCell ⟨hb, 0, none⟩ (.slice (some ⟨g10, 0, none⟩) (p + 1 + 1) cap10)).setCell ⟨hb, 1, none⟩ (.int .i64 ((p : Int) + 1))) hb (Ls.take (p + 1) ++ [L]) (p + 1) ∧ w.grownBy ((w10.setCell ⟨hb, 0, none⟩ (.slice (some ⟨g10, 0, none⟩) (p + 1 + 1) cap10)).setCell ⟨hb, 1, none⟩ (.int .i64 ((p : Int) + 1))) (some hb) := by
  have hH10 := hH.later B10
  have hbl := hH.lt
  have hS := heap_setCell_same w10 hb 0 _ _ (.slice (some ⟨g10, 0, none⟩) (p + 1 + 1) cap10) hH10
  have hgr1 := grown_set w10 hb 0 (.slice (some ⟨g10, 0, none⟩) (p + 1 + 1) cap10)
  rw [ptrs_snoc] at hown
  have hlen : (Ls.take (p + 1) ++ [L]).length = p + 1 + 1 := by simp; omega
  have hM10 : Maps w10 g10 0 (fun i => if i = p + 1 then mb else vs i) (Ls.take (p + 1) ++ [L]) := by
    refine ⟨(hown.lt g10 rfl).2, fun i hi => ?_⟩
    rw [hlen] at hi
    refine ⟨own_ptr hown i hi, ?_⟩
    by_cases e : i = p + 1
    · subst e
      simp only [if_true]
      rw [List.getElem_append_right (by simp; omega)]
      simp only [List.getElem_singleton]
      exact ⟨hm.later B10, hL⟩
    · simp only [if_neg e]
      rw [List.getElem_append_left (by simp; omega), List.getElem_take]
      exact ⟨(hM.2 i (by omega)).2.1.later B10, (hM.2 i (by omega)).2.2⟩
  have hne : g10 ≠ hb := fun e => by have := (hown.lt g10 rfl).1; omega
  generalize w10.setCell ⟨hb, 0, none⟩ (.slice (some ⟨g10, 0, none⟩) (p + 1 + 1) cap10) = X at *
  have hHX : HB X hb (some ⟨g10, 0, none⟩) (p + 1 + 1) cap10 (p : Int) := hS
  have hMX := hM10.kept hne hH10 hgr1
  have hgr2 := grown_set X hb 1 (.int .i64 ((p : Int) + 1))
  refine ⟨cell_of_row _ _ 1 _ _ _ hHX, frozen_of_row hHX 1, ⟨by rw [hlen]; omega, by rw [hlen]; omega, g10, cap10, _, ?_, ?_, hne, hMX.kept hne hHX hgr2⟩, ?_⟩
  · rw [hlen]
    exact heap_setCell_same X hb 1 _ _ (.int .i64 ((p : Int) + 1)) hHX
  · rw [hlen]
    exact own_cap hown
  · exact ((grown_of_below B10).trans hgr1).trans hgr2

set_option maxRecDepth 4000 in
set_option maxHeartbeats 4000000 in
theorem push_some (hb mb : Nat) (Ls : List Es) (p : Nat) (hp : p < 32) (L : Es) (hL : L.length ≤ 5000000000) (w : World) (h : HistAt w hb Ls p) (hm : MapE w mb L) : Calls Tryz.prog 38 #[.pointer (some ⟨hb, 0, none⟩), .pointer (some ⟨mb, 0, none⟩)] w fun e w' => e = .returned (.int .i64 0) ∧ HistAt w' hb (Ls.take (p + 1) ++ [L]) (p + 1) ∧ w.grownBy w' (some hb) := by
  obtain ⟨hpl, hl, g, cap, vs, hH, hcap, hne, hM⟩ := h
  have hbl := hH.lt
  obtain ⟨i0, hi, hz0, hz1, hz2⟩ := info_parts infoM
  have hge : ¬ (32 : Int) ≤ (p : Int) := by omega
  have hp0 : (0 : Int) ≤ (p : Int) + 1 := by omega
  have hp1 : (p : Int) + 1 ≤ (cap : Int) := by omega
  have hwr : IntKind.i64.wrap ((p : Int) + 1) = (p : Int) + 1 := by rw [IntKind.wrap_i64]; omega
  have hwr3 : wrap64 ((p : Int) + 1) = (p : Int) + 1 := by unfold wrap64; omega
  have htn : ((p : Int) + 1).toNat = p + 1 := by omega
  have hc : ∀ X, Below w.heap.size w X → X.cell? ⟨hb, 0, none⟩ = some (.slice (some ⟨g, 0, none⟩) Ls.length cap) ∧ X.cell? ⟨hb, 1, none⟩ = some (.int .i64 (p : Int)) := fun X hX => ⟨(hX.cell (p := ⟨hb, 0, none⟩) hbl).trans (cell_of_row _ _ 0 _ _ _ hH), (hX.cell (p := ⟨hb, 1, none⟩) hbl).trans (cell_of_row _ _ 1 _ _ _ hH)⟩
  have hK : ∀ X, Below w.heap.size w X → Calls Tryz.prog 57 #[.slice (some ⟨g, 0, none⟩) (p + 1) cap] X fun e w' => ∃ g' cap', e = .returned (.slice (some ⟨g', 0, none⟩) (p + 1) cap') ∧ w'.ownsRow w.heap.size 40 1 (.slice (some ⟨g', 0, none⟩) (p + 1) cap') (p + 1) (ptrs vs (p + 1)) ∧ Below X.heap.size X w' := fun X hX => by
    refine (sclone_any g 0 (p + 1) cap vs (by omega) (by omega) X ((hM.later hX).1) (fun i hi => ((hM.later hX).2 i (by omega)).1)).mono ?_
    rintro e w' ⟨g', cap', rfl, ho, hb'⟩
    obtain ⟨q1, ⟨q2, _⟩ | ⟨g2, cap2, cur, q3, q4, q5⟩⟩ := ho
    · cases q2
    · exact ⟨g', cap', rfl, ⟨q1, .inr ⟨g2, cap2, cur, q3, Nat.le_trans hX.size q4, q5⟩⟩, hb'⟩
  have c0 := (hc w (Below.refl _ _)).1
  have c1 := (hc w (Below.refl _ _)).2
  have B0 : Below w.heap.size w w.drew := (Below.refl _ _).drew
  go_enter Tryz.func38, Tryz.ntmps38
  go_wp2
  have cA : ∀ o, (w.drew.alloc o).cell? ⟨hb, 0, none⟩ = some (.slice (some ⟨g, 0, none⟩) Ls.length cap) := fun o => (hc _ (B0.alloc (by simp) o)).1
  have cB : ∀ o, (w.drew.alloc o).cell? ⟨hb, 1, none⟩ = some (.int .i64 (p : Int)) := fun o => (hc _ (B0.alloc (by simp) o)).2
  go_region_law (first | (refine step_append_own _ rfl _ _ 111 rfl w.heap.size 40 i0 _ 1 8 Tryz.underlying111 hi hz0 hz1 hz2 rfl (by decide) _ (p + 1) (ptrs vs (p + 1)) rfl (by first | exact hown5 | exact own_laterB hown5 ((Below.refl _ _).alloc (Nat.le_refl _) _)) _ 1 1 [.pointer (some ⟨mb, 0, none⟩)] rfl rfl (by first | exact one_new _ _ _ | exact one_later _ _ hb5) (fun u hu => by rw [List.mem_singleton.1 hu]; rfl) (by unfold maxLen; omega) (by omega) (by first | exact hB5.size | exact Nat.le_trans hB5.size (by simp)) ?_; intro v10 w10 hown10 hgrow10; obtain ⟨g10, cap10, rfl⟩ := own_some hown10 (by omega); have B10 : Below w.heap.size w w10 := (by first | exact hB5.grown hgrow10 hB5.size (fun k hk => by { cases hk; exact (hown5.lt _ rfl).1 }) | exact (hB5.alloc hB5.size _).grown hgrow10 (Nat.le_trans hB5.size (by simp)) (fun k hk => by { cases hk; exact (hown5.lt _ rfl).1 })); have c10 := (hc _ B10).1; have f10 := frozen_of_row (hH.later B10) 0) | (go_simp; go_at_call 65; refine (orEmpty_some mb _).mono ?_; rintro e w4 ⟨rfl, rfl⟩) | (go_simp; go_at_call 57; refine (hK _ (by first | exact B0 | exact B0.alloc (by simp) _)).mono ?_; rintro e w5 ⟨g5, cap5, rfl, hown5, hb5⟩; have hB5 : Below w.heap.size w w5 := (by first | exact below_step B0 hb5 | exact below_step (B0.alloc (by simp) _) hb5)))
  all_goals
    have hF := push_end hH hM hpl hL hm hp B10 hown10
    generalize w10.setCell ⟨hb, 0, none⟩ (.slice (some ⟨g10, 0, none⟩) (p + 1 + 1) cap10) = X at *
    obtain ⟨x1, fx1, hE⟩ := hF
    clear c10 f10 hown10 hgrow10 hown5 hb5 hB5 hK hc cA cB c0 c1 hM hH
    go_wp2
    go_ret
    refine ⟨rfl, ?_, ?_⟩
    · exact hE.1
    · exact hE.2

end Go.Proofs.YtblfdjdhikfjhaaGreat


namespace Go.Proofs.YtblfdjdhikfjhaaGreat
open Go.RowKit

theorem row_first (w : World) (v : Value) (t : TypeId) : (w.alloc (.cells #[v] t)).cell? ⟨w.heap.size, 0, none⟩ = some v := cell_of_row _ _ 0 _ _ _ (heap_alloc_last w _)

/-- A new history of one map. -/
theorem new_end (w : World) (mb : Nat) (L : Es) (hL : L.length ≤ 5000000000) (hm : MapE w mb L) : HistAt ((w.alloc (.cells #[.pointer (some ⟨mb, 0, none⟩)] 40)).alloc (.cells #[.slice (some ⟨w.heap.size, 0, none⟩) 1 1, .int .i64 0] 114)) (w.heap.size + 1) [L] 0 ∧ Below w.heap.size w ((w.alloc (.cells #[.pointer (some ⟨mb, 0, none⟩)] 40)).alloc (.cells #[.slice (some ⟨w.heap.size, 0, none⟩) 1 1, .int .i64 0] 114)) := by
  have hb1 := (Below.refl w.heap.size w).alloc (Nat.le_refl _) (.cells #[.pointer (some ⟨mb, 0, none⟩)] 40)
  have c0 := row_first w (.pointer (some ⟨mb, 0, none⟩)) 40
  have hs : (w.alloc (.cells #[.pointer (some ⟨mb, 0, none⟩)] 40)).heap.size = w.heap.size + 1 := by simp
  have hm1 := hm.later hb1
  generalize w.alloc (.cells #[.pointer (some ⟨mb, 0, none⟩)] 40) = X at *
  have hb2 := (Below.refl X.heap.size X).alloc (Nat.le_refl _) (.cells #[.slice (some ⟨w.heap.size, 0, none⟩) 1 1, .int .i64 0] 114)
  refine ⟨⟨by simp, by simp, w.heap.size, 1, fun _ => mb, ?_, by simp, by omega, ⟨by have := hb2.size; omega, fun i hi => ?_⟩⟩, below_step hb1 hb2⟩
  · rw [← hs]
    exact heap_alloc_last X _
  · obtain rfl : i = 0 := by simp at hi; omega
    exact ⟨(hb2.cell (p := ⟨w.heap.size, 0 + 0, none⟩) (by simp; omega)).trans c0, hm1.later hb2, hL⟩

set_option maxRecDepth 4000 in
set_option maxHeartbeats 1000000 in
theorem new_any (mb : Nat) (L : Es) (hL : L.length ≤ 5000000000) (w : World) (hm : MapE w mb L) : Calls Tryz.prog 61 #[.pointer (some ⟨mb, 0, none⟩)] w fun e w' => ∃ hb, e = .returned (.pointer (some ⟨hb, 0, none⟩)) ∧ w.heap.size ≤ hb ∧ HistAt w' hb [L] 0 ∧ Below w.heap.size w w' := by
  have hE := new_end w mb L hL hm
  go_enter Tryz.func61, Tryz.ntmps61
  go_wp2_with (go_at_call 65; refine (orEmpty_some mb _).mono ?_; rintro e w4 ⟨rfl, rfl⟩)
  go_ret
  exact ⟨_, rfl, by omega, hE.1, hE.2⟩

set_option maxRecDepth 4000 in
set_option maxHeartbeats 1000000 in
theorem new_nil (w : World) : Calls Tryz.prog 61 #[.pointer none] w fun e w' => ∃ hb, e = .returned (.pointer (some ⟨hb, 0, none⟩)) ∧ w.heap.size ≤ hb ∧ HistAt w' hb [[]] 0 ∧ Below w.heap.size w w' := by
  go_enter Tryz.func61, Tryz.ntmps61
  go_wp2_with (go_at_call 65; refine (orEmpty_none _).mono ?_; rintro e w4 ⟨rfl, hm4, hb4⟩; have hE := new_end w4 w.heap.size [] (by simp) hm4)
  go_ret
  exact ⟨_, rfl, by have := hb4.size; omega, hE.1, below_step hb4 hE.2⟩

theorem maps_drop {W : World} {g n : Nat} {vs : Nat → Nat} {Ls : List Es} (h : Maps W g 0 vs Ls) (hn : n ≤ Ls.length) : Maps W g n (fun i => vs (n + i)) (Ls.drop n) := by
  refine ⟨h.1, fun i hi => ?_⟩
  rw [List.length_drop] at hi
  have := h.2 (n + i) (by omega)
  rw [Nat.zero_add] at this
  refine ⟨this.1, ?_⟩
  rw [List.getElem_drop]
  exact this.2
/-- A copy of a row of maps. -/
theorem maps_copy {w w' : World} {g off g' cap' n : Nat} {vs : Nat → Nat} {Ls : List Es} (h : Maps w g off vs Ls) (hn : n = Ls.length) (hb : Below w.heap.size w w') (ho : w'.ownsRow w.heap.size 40 1 (.slice (some ⟨g', 0, none⟩) n cap') n (ptrs vs n)) : Maps w' g' 0 vs Ls := by
  subst hn
  exact ⟨(ho.lt g' rfl).2, fun i hi => ⟨own_ptr ho i hi, (h.later hb).2 i hi |>.2⟩⟩

/-- What Forget leaves. -/
theorem forget_end {w w5 : World} {hb g cap g5 cap5 p n m : Nat} {vs : Nat → Nat} {Ls : List Es} (hH : HB w hb (some ⟨g, 0, none⟩) Ls.length cap (p : Int)) (hM : Maps w g 0 vs Ls) (hpl : p < Ls.length) (hl : Ls.length ≤ 33) (hn : n ≤ p) (hm : m = Ls.length - n) (B5 : Below w.heap.size w w5) (hown : w5.ownsRow w.heap.size 40 1 (.slice (some ⟨g5, 0, none⟩) m cap5) m (ptrs (fun i => vs (n + i)) m)) :
    (w5.setCell ⟨hb, 0, none⟩ (.slice (some ⟨g5, 0, none⟩) m cap5)).cell? ⟨hb, 1, none⟩ = some (.int .i64 (p : Int)) ∧ (w5.setCell ⟨hb, 0, none⟩ (.slice (some ⟨g5, 0, none⟩) m cap5)).frozen? ⟨hb, 1, none⟩ = false ∧
    HistAt ((w5.setCell ⟨hb, 0, none⟩ (.slice (some ⟨g5, 0, none⟩) m cap5)).setCell ⟨hb, 1, none⟩ (.int .i64 ((p - n : Nat) : Int))) hb (Ls.drop n) (p - n) ∧ w.grownBy ((w5.setCell ⟨hb, 0, none⟩ (.slice (some ⟨g5, 0, none⟩) m cap5)).setCell ⟨hb, 1, none⟩ (.int .i64 ((p - n : Nat) : Int))) (some hb) := by
  have hH10 := hH.later B5
  have hbl := hH.lt
  have hS := heap_setCell_same w5 hb 0 _ _ (.slice (some ⟨g5, 0, none⟩) m cap5) hH10
  have hgr1 := grown_set w5 hb 0 (.slice (some ⟨g5, 0, none⟩) m cap5)
  have hlen : (Ls.drop n).length = m := by rw [List.length_drop, hm]
  have hM10 : Maps w5 g5 0 (fun i => vs (n + i)) (Ls.drop n) := maps_copy (maps_drop hM (by omega)) hlen.symm B5 hown
  have hne : g5 ≠ hb := fun e => by have := (hown.lt g5 rfl).1; omega
  generalize w5.setCell ⟨hb, 0, none⟩ (.slice (some ⟨g5, 0, none⟩) m cap5) = X at *
  have hHX : HB X hb (some ⟨g5, 0, none⟩) m cap5 (p : Int) := hS
  have hMX := hM10.kept hne hH10 hgr1
  have hgr2 := grown_set X hb 1 (.int .i64 ((p - n : Nat) : Int))
  refine ⟨cell_of_row _ _ 1 _ _ _ hHX, frozen_of_row hHX 1, ⟨by rw [hlen]; omega, by rw [hlen]; omega, g5, cap5, _, ?_, ?_, hne, hMX.kept hne hHX hgr2⟩, ?_⟩
  · rw [hlen]
    exact heap_setCell_same X hb 1 _ _ (.int .i64 ((p - n : Nat) : Int)) hHX
  · rw [hlen]
    exact own_cap hown
  · exact ((grown_of_below B5).trans hgr1).trans hgr2

set_option maxRecDepth 4000 in
set_option maxHeartbeats 1000000 in
theorem forget_bad (hb : Nat) (Ls : List Es) (p : Nat) (n : Int) (hn : n < 0 ∨ (p : Int) < n) (w : World) (h : HistAt w hb Ls p) : Calls Tryz.prog 60 #[.pointer (some ⟨hb, 0, none⟩), .int .i64 n] w fun e w' => e = .returned (.int .i64 113) ∧ Below w.heap.size w w' := by
  obtain ⟨g, cap, c0, c1, f0, f1⟩ := h.cells
  by_cases h0 : n < 0
  · go_enter Tryz.func60, Tryz.ntmps60
    go_wp2
    go_ret
    exact ⟨rfl, Below.refl _ _⟩
  · have h1 : (p : Int) < n := by omega
    have h2 : decide ((p : Int) < n) = true := decide_eq_true h1
    go_enter Tryz.func60, Tryz.ntmps60
    go_wp2
    go_ret
    exact ⟨rfl, Below.refl _ _⟩

set_option maxRecDepth 4000 in
set_option maxHeartbeats 1000000 in
theorem forget_some (hb : Nat) (Ls : List Es) (p n : Nat) (hn : n ≤ p) (w : World) (h : HistAt w hb Ls p) : Calls Tryz.prog 60 #[.pointer (some ⟨hb, 0, none⟩), .int .i64 (n : Int)] w fun e w' => e = .returned (.int .i64 0) ∧ HistAt w' hb (Ls.drop n) (p - n) ∧ w.grownBy w' (some hb) := by
  obtain ⟨hpl, hl, g, cap, vs, hH, hcap, hne, hM⟩ := h
  have c0 : w.cell? ⟨hb, 0, none⟩ = some (.slice (some ⟨g, 0, none⟩) Ls.length cap) := cell_of_row _ _ 0 _ _ _ hH
  have c1 : w.cell? ⟨hb, 1, none⟩ = some (.int .i64 (p : Int)) := cell_of_row _ _ 1 _ _ _ hH
  obtain ⟨m, hm⟩ : ∃ m, m = Ls.length - n := ⟨_, rfl⟩
  have hMd := maps_drop hM (n := n) (by omega)
  have hK := sclone_any g n m (cap - n) (fun i => vs (n + i)) (by omega) (by omega) w hMd.1 (fun i hi => (hMd.2 i (by rw [List.length_drop]; omega)).1)
  have h0 : ¬ (n : Int) < 0 := by omega
  have h1 : ¬ (p : Int) < (n : Int) := by omega
  have h0' : (0 : Int) ≤ (n : Int) := by omega
  have h2 : (n : Int) ≤ (Ls.length : Int) := by omega
  have hn0 : ((n : Int)).toNat = n := by omega
  have hwr : IntKind.i64.wrap ((p : Int) - (n : Int)) = ((p - n : Nat) : Int) := by rw [IntKind.wrap_i64]; omega
  have hwr3 : wrap64 ((p : Int) - (n : Int)) = ((p - n : Nat) : Int) := by unfold wrap64; omega
  go_enter Tryz.func60, Tryz.ntmps60
  go_wp2_with (go_at_call 57; fail)
  rw [← hm]
  refine hK.mono ?_
  rintro e w5 ⟨g5, cap5, rfl, hown5, hb5⟩
  have c10 : w5.cell? ⟨hb, 0, none⟩ = some (.slice (some ⟨g, 0, none⟩) Ls.length cap) := cell_of_row _ _ 0 _ _ _ (hH.later hb5)
  have f10 := frozen_of_row (hH.later hb5) 0
  have hF := forget_end hH hM hpl hl hn hm hb5 hown5
  obtain ⟨x1, fx1, hE⟩ := hF
  have hpn : (p : Int) - (n : Int) = ((p - n : Nat) : Int) := by omega
  clear hK hown5 hM hMd hH
  subst hm
  go_wp2
  go_ret
  first | exact ⟨rfl, hE.1, hE.2⟩ | (rw [hpn]; exact ⟨rfl, hE.1, hE.2⟩)

/-- What a clone is. -/
theorem clone_end {w w5 X : World} {g g5 cap5 p : Nat} {vs : Nat → Nat} {Ls : List Es} (hM : Maps w g 0 vs Ls) (hpl : p < Ls.length) (hl : Ls.length ≤ 33) (B5 : Below w.heap.size w w5) (hown : w5.ownsRow w.heap.size 40 1 (.slice (some ⟨g5, 0, none⟩) Ls.length cap5) Ls.length (ptrs vs Ls.length)) (hX : X = w5.alloc (.cells #[.slice (some ⟨g5, 0, none⟩) Ls.length cap5, .int .i64 (p : Int)] 114)) :
    HistAt X w5.heap.size Ls p ∧ Below w.heap.size w X := by
  have hb2 : Below w5.heap.size w5 X := by rw [hX]; exact (Below.refl w5.heap.size w5).alloc (Nat.le_refl _) _
  have h1 := (hown.lt g5 rfl)
  refine ⟨⟨hpl, hl, g5, cap5, vs, ?_, own_cap hown, by omega, (maps_copy hM rfl B5 hown).later hb2⟩, below_step B5 hb2⟩
  rw [hX]
  exact heap_alloc_last w5 _

set_option maxRecDepth 4000 in
set_option maxHeartbeats 1000000 in
theorem clone_any (hb : Nat) (Ls : List Es) (p : Nat) (w : World) (h : HistAt w hb Ls p) : Calls Tryz.prog 28 #[.pointer (some ⟨hb, 0, none⟩)] w fun e w' => ∃ hc, e = .returned (.pointer (some ⟨hc, 0, none⟩)) ∧ w.heap.size ≤ hc ∧ HistAt w' hc Ls p ∧ Below w.heap.size w w' := by
  obtain ⟨hpl, hl, g, cap, vs, hH, hcap, hne, hM⟩ := h
  have c0 : w.cell? ⟨hb, 0, none⟩ = some (.slice (some ⟨g, 0, none⟩) Ls.length cap) := cell_of_row _ _ 0 _ _ _ hH
  have c1 : w.cell? ⟨hb, 1, none⟩ = some (.int .i64 (p : Int)) := cell_of_row _ _ 1 _ _ _ hH
  have B0 : Below w.heap.size w w.drew := (Below.refl _ _).drew
  have hM0 := hM.later B0
  have hK := sclone_any g 0 Ls.length cap vs (by omega) (by omega) w.drew hM0.1 (fun i hi => (hM0.2 i hi).1)
  go_enter Tryz.func28, Tryz.ntmps28
  go_wp2
  go_region_with (first | (go_at_call 57; refine hK.mono ?_; rintro e w5 ⟨g5, cap5, rfl, hown5, hb5⟩; have d1 : w5.cell? ⟨hb, 1, none⟩ = some (.int .i64 (p : Int)) := cell_of_row _ _ 1 _ _ _ (hH.later (below_step B0 hb5))))
  all_goals
    have hE := clone_end (X := w5.alloc (.cells #[.slice (some ⟨g5, 0, none⟩) Ls.length cap5, .int .i64 (p : Int)] 114)) hM hpl hl (below_step B0 hb5) hown5 rfl
    have hsz := (below_step B0 hb5).size
    clear hK hown5 hM hM0
    go_wp2
    exact bodyPost_ret (v := .pointer (some ⟨w5.heap.size, 0, none⟩)) (by simp [results, Tryz.results28, go_sem]) rfl ⟨_, rfl, hsz, hE.1, hE.2⟩

end Go.Proofs.YtblfdjdhikfjhaaGreat

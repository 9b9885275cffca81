import Derived.Test.YtaecodgmfmijlaaDoorDMonths
import Derived.Test.YtaecodgmfmijlaaDoorDOrder
import Derived.Lib.MinMax
namespace Go.Proofs.YtaecodgmfmijlaaDoor
open Go.RowKit Go.Shelf
attribute [local go_sem] Oper.semAt_some

theorem cell_new_l (w : World) (v : Value) (t : TypeId) : (w.alloc (.cells #[v] t)).cell? ⟨w.heap.size, 0, none⟩ = some v ∧ (w.alloc (.cells #[v] t)).frozen? ⟨w.heap.size, 0, none⟩ = false :=
  ⟨by rw [World.cell?_alloc_at _ _ _ _ rfl]; rfl, World.frozen?_alloc_at _ _ _ _ rfl⟩
theorem cell_alloc_l {w : World} {g : Nat} {v : Value} (o : Obj) (h : w.cell? ⟨g, 0, none⟩ = some v) : (w.alloc o).cell? ⟨g, 0, none⟩ = some v :=
  (((Below.refl w.heap.size w).alloc (Nat.le_refl _) o).cell (p := ⟨g, 0, none⟩) (World.block_lt_of_cell? _ _ h)).trans h
theorem frozen_alloc_l {w : World} {g : Nat} {v : Value} (o : Obj) (h : w.cell? ⟨g, 0, none⟩ = some v) (hf : w.frozen? ⟨g, 0, none⟩ = false) : (w.alloc o).frozen? ⟨g, 0, none⟩ = false :=
  (((Below.refl w.heap.size w).alloc (Nat.le_refl _) o).frozen (p := ⟨g, 0, none⟩) (World.block_lt_of_cell? _ _ h)).trans hf
theorem wrap_add (x y : Int) : wrap64 (wrap64 x + y) = wrap64 (x + y) := by unfold wrap64; omega
theorem kpM_t {n0 g : Nat} {A B C : World} (h : KpM n0 g A B) (k : KpM n0 g B C) : KpM n0 g A C := ⟨h.1.trans k.1, fun v hv => k.2 v (h.2 v hv)⟩
theorem kpM_b {n0 g : Nat} {w : World} (hn : n0 ≤ w.heap.size) (W : World) (l : Nat) (o o' : Obj) (hl : w.heap.size ≤ l) (ho : W.heap[l]? = some o) (hc : o.isCells = false) (hw : o.isWalk = false) : KpM n0 g W (W.putObj l o') :=
  ⟨belowK_b hn W l o o' hl ho hc hw, fun v hv => cell_kept hv (grownBy_putObj' W l o') (fun r e => by cases e; exact ⟨o, ho, hc⟩)⟩

set_option maxRecDepth 100000 in
set_option maxHeartbeats 4000000 in
theorem share_yes (a b y : Int) (a0 : 0 ≤ a) (hab : a ≤ b) (b1 : b ≤ 109572) (y0 : 1900 ≤ y) (y1 : y ≤ 2199) (w : World) (hM : Mon w) :
    Calls Tryd.prog 13 #[.int .i64 a, .int .i64 b, .int .i64 y] w fun e W' => e = .returned (.tuple #[.int .i64 (span (if a < D.ys y then D.ys y else a) (if D.ys (y + 1) - 1 < b then D.ys (y + 1) - 1 else b)), .int .i64 (D.ys (y + 1) - D.ys y), .int .i64 0]) ∧ Below w.heap.size w W' := by
  have hS := fun W => yearStart_any y y0 (by omega) W
  have hT := fun W => yearStart_any (y + 1) (by omega) (by omega) W
  have hO := fun W => inOrder_any a b 0 (by unfold Hid; rw [if_pos ⟨a0, by omega, by omega, b1⟩, if_neg (by omega)]) W
  have hYr := fun W => isYear_yes y y0 y1 W
  have s0 := D.ys_bd y y0 (by omega)
  have s1 := D.ys_bd (y + 1) (by omega) (by omega)
  have z1 : 1 ≤ D.ys (y + 1) := by have := D.ys_succ y; have := D.lv_bd y; omega
  have e1 : wrap64 (y + 1) = y + 1 := wrap64_id (by omega) (by omega)
  generalize D.ys (y + 1) = Z at *
  generalize D.ys y = S at *
  have e2 : wrap64 (Z - 1) = Z - 1 := wrap64_id (by omega) (by omega)
  have e3 : wrap64 (Z - S) = Z - S := wrap64_id (by omega) (by omega)
  obtain ⟨lo, hlo, lo0, lo1⟩ : ∃ lo, (if a < S then S else a) = lo ∧ 0 ≤ lo ∧ lo ≤ 109573 := by
    refine ⟨_, rfl, ?_, ?_⟩ <;> split <;> omega
  obtain ⟨hi, hhi, hi0, hi1⟩ : ∃ hi, (if Z - 1 < b then Z - 1 else b) = hi ∧ 0 ≤ hi ∧ hi ≤ 109572 := by
    refine ⟨_, rfl, ?_, ?_⟩ <;> split <;> omega
  rw [hlo, hhi]
  have hmx : max a S = lo := by rw [← hlo]; split <;> omega
  have hmn : min b (Z - 1) = hi := by rw [← hhi]; split <;> omega
  clear hlo hhi
  have hMo := fun W => months_any lo hi W
  rw [if_pos lo0, if_pos hi1] at hMo
  refine (callsIn_wide (n := 9)).1 ?_
  refine callsIn_of_wp_marks Tryd.func13 rfl trivial ?_ rfl
  simp only [Tryd.ntmps13, List.size_toArray, List.length_cons, List.length_nil, Nat.reduceAdd, Nat.reduceSub, Array.replicate_succ, Array.replicate_zero, List.push_toArray, List.append_toArray, List.nil_append, List.cons_append]
  gi_wp2_with (first | (refine ⟨trivial, ?_⟩; gi_at_call 25; refine (callsIn_wide.2 (hYr _)).mono ?_; clear hYr; rintro _ _ ⟨rfl, rfl⟩) | (refine ⟨trivial, ?_⟩; gi_at_call 27; refine (callsIn_wide.2 (hO _)).mono ?_; clear hO; rintro _ _ ⟨rfl, rfl⟩))
  refine ⟨trivial, (callsIn_wide.2 (hS _)).mono ?_⟩
  rintro _ _ ⟨rfl, rfl⟩
  gi_wp2_with (refine ⟨trivial, ?_⟩; gi_at_call 28; fail)
  refine ⟨trivial, (callsIn_wide.2 (hT _)).mono ?_⟩
  rintro _ _ ⟨rfl, rfl⟩
  clear hS hT
  gi_wp2_with (refine ⟨trivial, ?_⟩; gi_at_call 7; fail)
  refine ⟨trivial, (callsIn_wide.2 (hMo _)).mono ?_⟩
  rintro _ _ ⟨rfl, rfl⟩
  clear hMo
  gi_wp2
  have hs := cell_new_l w (.int .i64 0) 3
  have hb := cell_new_l (w.alloc (.cells #[.int .i64 0] 3)) (.int .i64 lo) 3
  have hc := cell_new_l ((w.alloc (.cells #[.int .i64 0] 3)).alloc (.cells #[.int .i64 lo] 3)) (.int .i64 hi) 3
  simp only [World.size_alloc] at hb hc
  have hB0 : Below w.heap.size w (((w.alloc (.cells #[.int .i64 0] 3)).alloc (.cells #[.int .i64 lo] 3)).alloc (.cells #[.int .i64 hi] 3)) := (((Below.refl _ w).alloc (Nat.le_refl _) _).alloc (by simp) _).alloc (by simp; omega) _
  refine wpIn_rangeFunc_ownF rfl (by omega) (gf := 21) (lb := #[.pointer (some ⟨w.heap.size + 1, 0, none⟩), .pointer (some ⟨w.heap.size + 1 + 1, 0, none⟩)]) rfl trivial (enters_of Tryd.func21 (by kernel_rfl) rfl)
    (months_stops 8 (by omega) (w.heap.size + 1) (w.heap.size + 1 + 1) w.heap.size lo hi lo0 lo1 hi1 hM.1 _ (hM.later hB0) (cell_alloc_l _ hb.1) hc.1) kpM_t (kpM_b (by simp; omega)) (Below.refl _ _) (fun _ => rfl)
    (fun pre W => (W.cell? ⟨w.heap.size, 0, none⟩ = some (.int .i64 (wrap64 (tot pre))) ∧ W.frozen? ⟨w.heap.size, 0, none⟩ = false) ∧ Below w.heap.size w W)
    (fun _ _ _ => False)
    (OwnFrom.and (Own.from (fun s A B row hs hg hr => ⟨cell_kept hs.1 hg hr, (frozen_kept hs.1 hg hr).trans hs.2⟩) _) (ownFrom_below (Nat.le_refl _) (by simp; omega)))
    (fun _ _ _ _ _ hs _ _ => hs)
    ⟨⟨by rw [show wrap64 (tot []) = 0 from wrap64_id (z := 0) (by omega) (by omega)]; exact cell_alloc_l _ (cell_alloc_l _ hs.1), frozen_alloc_l _ (cell_alloc_l _ hs.1) (frozen_alloc_l _ hs.1 hs.2)⟩, hB0⟩
    (fun x => { tmps := #[.int .i64 a, .int .i64 b, .int .i64 y, undef, undef, undef, .pointer (some ⟨w.heap.size, 0, none⟩), .int .i64 0, .int .i64 0, .int .i64 0, .int .i64 S, .int .i64 Z, undef, .int .i64 x.c, .int .i64 y, .bool true, .bool false, .int .i64 a, .int .i64 b, .int .i64 0, .int .i64 0, .bool false, undef, .int .i64 y, .int .i64 S, .int .i64 y, .int .i64 (y + 1), .int .i64 Z, .int .i64 a, .int .i64 S, .int .i64 lo, .int .i64 b, .int .i64 Z, .int .i64 (Z - 1), .int .i64 hi, .func (.func 21) #[] #[.pointer (some ⟨w.heap.size + 1, 0, none⟩), .pointer (some ⟨w.heap.size + 1 + 1, 0, none⟩)], .agg #[.int .i64 x.y, .int .i64 x.m, .int .i64 x.d], .int .i64 x.c, undef, undef, undef, undef, undef, undef, undef], defers := [] }) ?assign ?body ?done ?stop
  case assign =>
    intro l x W K hK
    gi_wp2
    exact hK
  case body =>
    rintro l pre x W ⟨⟨hc, hf⟩, hB⟩ _
    gi_wp2
    refine ⟨KeepsOthers.setCell _ _ _, ⟨(Below.refl w.heap.size W).setCell (p := ⟨w.heap.size, 0, none⟩) (Nat.le_refl _) _, fun v hv => ?_⟩, ⟨?_, ?_⟩, hB.setCell (p := ⟨w.heap.size, 0, none⟩) (Nat.le_refl _) _⟩
    · rw [World.cell?_setCell_other _ _ _ _ (by simp)]
      exact hv
    · rw [tot_snoc, ← wrap_add (tot pre) x.c]
      exact World.cell?_setCell_same' _ _ _ (by rw [hc]; rfl)
    · rw [World.frozen?_setCell]
      exact hf
  case done =>
    rintro D ys W hD hS ⟨⟨hc, hf⟩, hB⟩ hK
    have hv : wrap64 (tot ys) = span lo hi := by
      rw [hS]
      unfold span
      split <;> exact wrap64_id (by omega) (by omega)
    rw [hv] at hc
    clear hv hS
    gi_wp2
    have hK' := (KeepsOthers.setCell W ⟨w.heap.size, 0, none⟩ (.int .i64 (span lo hi))).same D _ hK rfl
    have hc5 := cell_kept (World.cell?_setCell_same' W ⟨w.heap.size, 0, none⟩ (.int .i64 (span lo hi)) (by rw [hc]; rfl)) (grownBy_putObj' _ D (.deferred none)) (fun r e => by cases e; exact ⟨_, hK', rfl⟩)
    refine ⟨by simp, .inl ⟨_, _, rfl, run_takeDeferred hK', ?_⟩⟩
    refine ⟨.tuple #[.int .i64 (span lo hi), .int .i64 (Z - S), .int .i64 0], ?_, rfl, (hB.setCell (p := ⟨w.heap.size, 0, none⟩) (Nat.le_refl _) _).trans (belowK_b (w := w) (Nat.le_refl _) _ D _ _ (by simp at hD; omega) hK' rfl rfl)⟩
    simp [results, Tryd.results13, go_sem, hc5]
  case stop =>
    rintro D c pre W _ _ h _
    exact h.elim

end Go.Proofs.YtaecodgmfmijlaaDoor

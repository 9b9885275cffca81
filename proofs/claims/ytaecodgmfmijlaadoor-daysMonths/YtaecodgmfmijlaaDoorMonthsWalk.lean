import Derived.Test.YtaecodgmfmijlaaDoorDRMonths
import Derived.Test.YtaecodgmfmijlaaDoorDHeld
namespace Go.Proofs.YtaecodgmfmijlaaDoor
open Go.RowKit

/-- A list of months in memory, four cells each. -/
def Row4 (w : World) (v : Value) (l : List Pc) : Prop := ∃ a cap, v = .slice a l.length cap ∧ (l = [] ∨ ∃ g, a = some ⟨g, 0, none⟩ ∧ g < w.heap.size ∧ ∀ i, i < l.length →
  w.cell? ⟨g, i * 4, none⟩ = some (.int .i64 (l.getD i ⟨0, 0, 0, 0⟩).y) ∧ w.cell? ⟨g, i * 4 + 1, none⟩ = some (.int .i64 (l.getD i ⟨0, 0, 0, 0⟩).m) ∧ w.cell? ⟨g, i * 4 + 2, none⟩ = some (.int .i64 (l.getD i ⟨0, 0, 0, 0⟩).d) ∧ w.cell? ⟨g, i * 4 + 3, none⟩ = some (.int .i64 (l.getD i ⟨0, 0, 0, 0⟩).c))

theorem Row4.later {w w' : World} {v : Value} {l : List Pc} (h : Row4 w v l) (hb : Below w.heap.size w w') : Row4 w' v l := by
  obtain ⟨a, cap, rfl, h | ⟨g, rfl, hg, hc⟩⟩ := h
  · exact ⟨a, cap, rfl, .inl h⟩
  · refine ⟨_, cap, rfl, .inr ⟨g, rfl, Nat.lt_of_lt_of_le hg hb.size, fun i hi => ?_⟩⟩
    obtain ⟨h0, h1, h2, h3⟩ := hc i hi
    exact ⟨(hb.cell (p := ⟨g, i * 4, none⟩) hg).trans h0, (hb.cell (p := ⟨g, i * 4 + 1, none⟩) hg).trans h1, (hb.cell (p := ⟨g, i * 4 + 2, none⟩) hg).trans h2, (hb.cell (p := ⟨g, i * 4 + 3, none⟩) hg).trans h3⟩

theorem flatP_at : ∀ (l : List Pc) (i : Nat), i < l.length → (flatP l)[i * 4]? = some (.int .i64 (l.getD i ⟨0, 0, 0, 0⟩).y) ∧ (flatP l)[i * 4 + 1]? = some (.int .i64 (l.getD i ⟨0, 0, 0, 0⟩).m) ∧ (flatP l)[i * 4 + 2]? = some (.int .i64 (l.getD i ⟨0, 0, 0, 0⟩).d) ∧ (flatP l)[i * 4 + 3]? = some (.int .i64 (l.getD i ⟨0, 0, 0, 0⟩).c)
  | [], i, h => by simp at h
  | x :: l, 0, _ => by simp [flatP]
  | x :: l, i + 1, h => by
    have := flatP_at l i (by simpa using h)
    have e : flatP (x :: l) = [.int .i64 x.y, .int .i64 x.m, .int .i64 x.d, .int .i64 x.c] ++ flatP l := by simp [flatP]
    rw [e, show (i + 1) * 4 = i * 4 + 4 by omega]
    simpa [Nat.add_right_comm] using this

theorem row4_of {w : World} {base : Nat} {e : TypeId} {v : Value} {l : List Pc} (h : w.ownsRow base e 4 v l.length (flatP l)) : Row4 w v l := by
  have hl := h.lt
  have h0 := h
  obtain ⟨_, h1 | ⟨g, cap, cur, rfl, _⟩⟩ := h
  · exact ⟨none, 0, by rw [h1.2]; exact h1.1, .inl (List.eq_nil_of_length_eq_zero h1.2)⟩
  · refine ⟨_, cap, rfl, .inr ⟨g, rfl, (hl g rfl).2, fun i hi => ?_⟩⟩
    obtain ⟨q0, q1, q2, q3⟩ := flatP_at l i hi
    exact ⟨(h0.cellAt _ (by omega)).trans q0, (h0.cellAt _ (by omega)).trans q1, (h0.cellAt _ (by omega)).trans q2, (h0.cellAt _ (by omega)).trans q3⟩

theorem stb_row4 {v : Value} {l : List Pc} : Stb (fun X => Row4 X v l) := fun _ _ h hb => h.later hb

/-- The cells of the i-th month. -/
def At4 (w : World) (g i : Nat) (x : Pc) : Prop := w.cell? ⟨g, i * 4, none⟩ = some (.int .i64 x.y) ∧ w.cell? ⟨g, i * 4 + 1, none⟩ = some (.int .i64 x.m) ∧ w.cell? ⟨g, i * 4 + 2, none⟩ = some (.int .i64 x.d) ∧ w.cell? ⟨g, i * 4 + 3, none⟩ = some (.int .i64 x.c)
theorem At4.later {w w' : World} {g i : Nat} {x : Pc} (h : At4 w g i x) (hb : Below w.heap.size w w') : At4 w' g i x := by
  have hg := World.block_lt_of_cell? _ _ h.1
  obtain ⟨h0, h1, h2, h3⟩ := h
  exact ⟨(hb.cell (p := ⟨g, i * 4, none⟩) hg).trans h0, (hb.cell (p := ⟨g, i * 4 + 1, none⟩) hg).trans h1, (hb.cell (p := ⟨g, i * 4 + 2, none⟩) hg).trans h2, (hb.cell (p := ⟨g, i * 4 + 3, none⟩) hg).trans h3⟩
theorem Row4.some {w : World} {v : Value} {l : List Pc} (h : Row4 w v l) (hl : l ≠ []) : ∃ g cap, v = .slice (some ⟨g, 0, none⟩) l.length cap ∧ ∀ i, i < l.length → At4 w g i (l.getD i ⟨0, 0, 0, 0⟩) := by
  obtain ⟨a, cap, rfl, h | ⟨g, rfl, hg, hc⟩⟩ := h
  · exact absurd h hl
  · exact ⟨g, cap, rfl, hc⟩
theorem Row4.none {w : World} {v : Value} (h : Row4 w v []) : ∃ a cap, v = .slice a 0 cap := by
  obtain ⟨a, cap, rfl, _⟩ := h
  exact ⟨a, cap, rfl⟩
theorem At4.new (W : World) (a b c d : Int) (t : TypeId) : At4 (W.alloc (.cells #[.int .i64 a, .int .i64 b, .int .i64 c, .int .i64 d] t)) W.heap.size 0 ⟨a, b, c, d⟩ := ⟨by simp, by simp, by simp, by simp⟩

theorem cutP_no {most : Int} (h : most ≤ 0) (l : List Pc) : cutP most l = l := by unfold cutP; rw [if_neg (by omega)]
theorem cutP_all {most : Int} {l : List Pc} (h : (l.length : Int) ≤ most) : cutP most l = l := by
  unfold cutP
  split
  · exact List.take_of_length_le (by omega)
  · rfl
theorem cutP_some {s : Nat} {l : List Pc} (h : 0 < s) (h2 : s < l.length) : (cutP (s : Int) l).length = s ∧ ∀ i, i < s → (cutP (s : Int) l).getD i ⟨0, 0, 0, 0⟩ = l.getD i ⟨0, 0, 0, 0⟩ := by
  unfold cutP
  rw [if_pos (by omega), Int.toNat_natCast]
  refine ⟨by rw [List.length_take]; omega, fun i hi => ?_⟩
  rw [List.getD_eq_getElem?_getD, List.getD_eq_getElem?_getD, List.getElem?_take, if_pos hi]

set_option maxRecDepth 100000 in
set_option maxHeartbeats 4000000 in
theorem months_ne (a b stop lo hi : Int) (lo0 : 0 ≤ lo) (hi0 : hi ≤ 109572) (full : List Pc) (hF : Hid (Mo hi lo full)) (hne : full ≠ []) (W : World) (hM : Mon W) (hlen : full.length ≤ 3600)
    (hR : ∀ W, Calls Tryd.prog 6 #[.int .i64 a, .int .i64 b] W fun e W' => ∃ v, e = .returned v ∧ W'.ownsRow W.heap.size 31 4 v full.length (flatP full) ∧ Below W.heap.size W W')
    (hMo : ∀ w, Calls Tryd.prog 7 #[.int .i64 a, .int .i64 b] w fun e w' => e = .returned (.func (.func 21) #[] #[.pointer (some ⟨w.heap.size, 0, none⟩), .pointer (some ⟨w.heap.size + 1, 0, none⟩)]) ∧ w' = (w.alloc (.cells #[.int .i64 lo] 3)).alloc (.cells #[.int .i64 hi] 3)) :
    Calls Tryd.prog 3 #[.int .i64 a, .int .i64 b, .int .i64 stop] W fun e W' => e = .returned (.bool true) ∧ Below W.heap.size W W' := by
  go_enter Tryd.func3, Tryd.ntmps3
  go_wp2_with (first | (go_at_call 6; refine (hR _).mono ?_; clear hR; rintro _ W1 ⟨v0, rfl, ho, hB1⟩; obtain ⟨g0, cap0, rfl, hv0⟩ := (row4_of ho).some hne; clear ho) | (go_at_call 7; refine (hMo _).mono ?_; clear hMo; rintro _ W2 ⟨rfl, rfl⟩))
  have c1 := Bx.new W1 (.int .i64 lo) 3
  have c2 := Bx.new (W1.alloc (.cells #[.int .i64 lo] 3)) (.int .i64 hi) 3
  simp only [World.size_alloc] at c2
  have c1' := c1.later ((Below.refl _ (W1.alloc (.cells #[.int .i64 lo] 3))).alloc (Nat.le_refl _) (.cells #[.int .i64 hi] 3))
  have hB2 : Below W1.heap.size W1 ((W1.alloc (.cells #[.int .i64 lo] 3)).alloc (.cells #[.int .i64 hi] 3)) := ((Below.refl _ W1).alloc (Nat.le_refl _) _).alloc (by simp) _
  have hBW := below_step hB1 hB2
  have hM2 := hM.later hBW
  have hv2 : ∀ i, i < full.length → At4 ((W1.alloc (.cells #[.int .i64 lo] 3)).alloc (.cells #[.int .i64 hi] 3)) g0 i (full.getD i ⟨0, 0, 0, 0⟩) := fun i hi => (hv0 i hi).later hB2
  clear c1 hB1 hB2 hv0 hM
  generalize hg1 : W1.heap.size = g1 at *
  generalize (W1.alloc (.cells #[.int .i64 lo] 3)).alloc (.cells #[.int .i64 hi] 3) = W2 at *
  clear hg1
  go_loopw [9] (fun x wr => ∃ k : Nat, k ≤ 3 ∧ x = .int .i64 k ∧ Below W2.heap.size W2 wr) (fun x _ => (3 - intOf x).toNat)
  case atStart => exact ⟨0, by omega, rfl, Below.refl _ _⟩
  case round =>
    obtain ⟨k, hk, rfl, hBr⟩ := hrel
    have hMr := hM2.later hBr
    have hP := fun most => pieces_any g1 (g1 + 1) most lo hi lo0 hi0 full hF.out wr hMr (c1'.later hBr).1 (c2.later hBr).1
    have hBWr := below_step hBW hBr
    have hvr : ∀ i, i < full.length → At4 wr g0 i (full.getD i ⟨0, 0, 0, 0⟩) := fun i hi => (hv2 i hi).later hBr
    by_cases hk3 : k < 3
    · by_cases hk1 : k = 1
      · subst hk1
        by_cases hst : 0 < stop ∧ stop < full.length
        · obtain ⟨s, rfl⟩ : ∃ s : Nat, stop = s := ⟨stop.toNat, by omega⟩
          obtain ⟨st0, st1⟩ := hst
          have hc := cutP_some (s := s) (l := full) (by omega) (by omega)
          replace hP := hP (s : Int)
          have hcne : cutP (s : Int) full ≠ [] := fun h => by rw [h] at hc; simp at hc; omega
          generalize cutP (s : Int) full = CL at *
          obtain ⟨hc1, hc2⟩ := hc
          go_wp2_with (go_at_call 8; refine hP.mono ?_; clear hP; rintro _ w3 ⟨v, rfl, ho, hB3⟩; obtain ⟨g3, cap3, rfl, hv3⟩ := (row4_of ho).some hcne; rw [hc1]; rw [hc1] at hv3; clear ho hcne)
          have hB3r := below_step hBWr hB3
          have hw3 : ∀ i, i < s → At4 w3 g0 i (full.getD i ⟨0, 0, 0, 0⟩) := fun i hi => (hvr i (by omega)).later hB3
          go_loopw [14] (fun x wr' => ∃ i : Nat, i ≤ s ∧ x = .int .i64 i ∧ Below w3.heap.size w3 wr') (fun x _ => (s - intOf x).toNat)
          case atStart => exact ⟨0, by omega, rfl, Below.refl _ _⟩
          case round =>
            obtain ⟨i, hi', rfl, hBi⟩ := hrel
            by_cases hin : i < s
            · obtain ⟨x, hx⟩ : ∃ x, full.getD i ⟨0, 0, 0, 0⟩ = x := ⟨_, rfl⟩
              have ha := (hw3 i hin).later hBi
              have hb := (hv3 i hin).later hBi
              rw [hc2 i hin] at hb
              rw [hx] at ha hb
              obtain ⟨y, m, d, c⟩ := x
              have hb2 := hb.later ((Below.refl _ wr).alloc (Nat.le_refl _) (.cells #[.int .i64 y, .int .i64 m, .int .i64 d, .int .i64 c] 31))
              have hnw := At4.new wr y m d c 31
              obtain ⟨a0, a1, a2, a3⟩ := ha
              clear hb hx hw3 hv3 hvr hv2
              obtain ⟨b0, b1, b2, b3⟩ := hb2
              obtain ⟨n0, n1, n2, n3⟩ := hnw
              simp only [Nat.zero_mul, Nat.zero_add] at n0 n1 n2 n3
              go_wp2
              go_quiet (fail)
              go_wp2
              go_roundw
              case rel => exact ⟨i + 1, by omega, by go_num, below_drewN (hBi.alloc hBi.size _) nq⟩
              case measure => simp [intOf]; omega
            · obtain rfl : i = s := by omega
              go_wp2
              go_roundw
              case rel => exact ⟨2, by omega, by go_num, below_step (below_step hBr hB3) hBi⟩
              case measure => simp [intOf]
        · have hc : cutP stop full = full := by
            by_cases h0 : stop ≤ 0
            · exact cutP_no h0 full
            · exact cutP_all (by omega)
          replace hP := hP stop
          rw [hc] at hP
          have hst2 : ¬ (0 < stop) ∨ (0 < stop ∧ ¬ stop < full.length) := by omega
          clear hc hst
          have hPne := hne
          rcases hst2 with st0 | ⟨st0, st1⟩
          · go_wp2_with (go_at_call 8; refine hP.mono ?_; clear hP; rintro _ w3 ⟨v, rfl, ho, hB3⟩; obtain ⟨g3, cap3, rfl, hv3⟩ := (row4_of ho).some hPne; clear ho hPne)
            have hB3r := below_step hBWr hB3
            have hw3 : ∀ i, i < full.length → At4 w3 g0 i (full.getD i ⟨0, 0, 0, 0⟩) := fun i hi => (hvr i (by omega)).later hB3
            go_loopw [14] (fun x wr' => ∃ i : Nat, i ≤ full.length ∧ x = .int .i64 i ∧ Below w3.heap.size w3 wr') (fun x _ => (full.length - intOf x).toNat)
            case atStart => exact ⟨0, by omega, rfl, Below.refl _ _⟩
            case round =>
              obtain ⟨i, hi', rfl, hBi⟩ := hrel
              by_cases hin : i < full.length
              · obtain ⟨x, hx⟩ : ∃ x, full.getD i ⟨0, 0, 0, 0⟩ = x := ⟨_, rfl⟩
                have ha := (hw3 i hin).later hBi
                have hb := (hv3 i hin).later hBi
                rw [hx] at ha hb
                obtain ⟨y, m, d, c⟩ := x
                have hb2 := hb.later ((Below.refl _ wr).alloc (Nat.le_refl _) (.cells #[.int .i64 y, .int .i64 m, .int .i64 d, .int .i64 c] 31))
                have hnw := At4.new wr y m d c 31
                obtain ⟨a0, a1, a2, a3⟩ := ha
                clear hb hx hw3 hv3 hvr hv2
                obtain ⟨b0, b1, b2, b3⟩ := hb2
                obtain ⟨n0, n1, n2, n3⟩ := hnw
                simp only [Nat.zero_mul, Nat.zero_add] at n0 n1 n2 n3
                go_wp2
                go_quiet (fail)
                go_wp2
                go_roundw
                case rel => exact ⟨i + 1, by omega, by go_num, below_drewN (hBi.alloc hBi.size _) nq⟩
                case measure => simp [intOf]; omega
              · obtain rfl : i = full.length := by omega
                go_wp2
                go_roundw
                case rel => exact ⟨2, by omega, by go_num, below_step (below_step hBr hB3) hBi⟩
                case measure => simp [intOf]
          · go_wp2_with (go_at_call 8; refine hP.mono ?_; clear hP; rintro _ w3 ⟨v, rfl, ho, hB3⟩; obtain ⟨g3, cap3, rfl, hv3⟩ := (row4_of ho).some hPne; clear ho hPne)
            have hB3r := below_step hBWr hB3
            have hw3 : ∀ i, i < full.length → At4 w3 g0 i (full.getD i ⟨0, 0, 0, 0⟩) := fun i hi => (hvr i (by omega)).later hB3
            go_loopw [14] (fun x wr' => ∃ i : Nat, i ≤ full.length ∧ x = .int .i64 i ∧ Below w3.heap.size w3 wr') (fun x _ => (full.length - intOf x).toNat)
            case atStart => exact ⟨0, by omega, rfl, Below.refl _ _⟩
            case round =>
              obtain ⟨i, hi', rfl, hBi⟩ := hrel
              by_cases hin : i < full.length
              · obtain ⟨x, hx⟩ : ∃ x, full.getD i ⟨0, 0, 0, 0⟩ = x := ⟨_, rfl⟩
                have ha := (hw3 i hin).later hBi
                have hb := (hv3 i hin).later hBi
                rw [hx] at ha hb
                obtain ⟨y, m, d, c⟩ := x
                have hb2 := hb.later ((Below.refl _ wr).alloc (Nat.le_refl _) (.cells #[.int .i64 y, .int .i64 m, .int .i64 d, .int .i64 c] 31))
                have hnw := At4.new wr y m d c 31
                obtain ⟨a0, a1, a2, a3⟩ := ha
                clear hb hx hw3 hv3 hvr hv2
                obtain ⟨b0, b1, b2, b3⟩ := hb2
                obtain ⟨n0, n1, n2, n3⟩ := hnw
                simp only [Nat.zero_mul, Nat.zero_add] at n0 n1 n2 n3
                go_wp2
                go_quiet (fail)
                go_wp2
                go_roundw
                case rel => exact ⟨i + 1, by omega, by go_num, below_drewN (hBi.alloc hBi.size _) nq⟩
                case measure => simp [intOf]; omega
              · obtain rfl : i = full.length := by omega
                go_wp2
                go_roundw
                case rel => exact ⟨2, by omega, by go_num, below_step (below_step hBr hB3) hBi⟩
                case measure => simp [intOf]
      · have hkb : ((k : Int) == 1) = false := by simp; omega
        replace hP := hP 0
        rw [cutP_no (by omega)] at hP
        have hPne := hne
        go_wp2_with (go_at_call 8; refine hP.mono ?_; clear hP; rintro _ w3 ⟨v, rfl, ho, hB3⟩; obtain ⟨g3, cap3, rfl, hv3⟩ := (row4_of ho).some hPne; clear ho hPne)
        have hB3r := below_step hBWr hB3
        have hw3 : ∀ i, i < full.length → At4 w3 g0 i (full.getD i ⟨0, 0, 0, 0⟩) := fun i hi => (hvr i (by omega)).later hB3
        go_loopw [14] (fun x wr' => ∃ i : Nat, i ≤ full.length ∧ x = .int .i64 i ∧ Below w3.heap.size w3 wr') (fun x _ => (full.length - intOf x).toNat)
        case atStart => exact ⟨0, by omega, rfl, Below.refl _ _⟩
        case round =>
          obtain ⟨i, hi', rfl, hBi⟩ := hrel
          by_cases hin : i < full.length
          · obtain ⟨x, hx⟩ : ∃ x, full.getD i ⟨0, 0, 0, 0⟩ = x := ⟨_, rfl⟩
            have ha := (hw3 i hin).later hBi
            have hb := (hv3 i hin).later hBi
            rw [hx] at ha hb
            obtain ⟨y, m, d, c⟩ := x
            have hb2 := hb.later ((Below.refl _ wr).alloc (Nat.le_refl _) (.cells #[.int .i64 y, .int .i64 m, .int .i64 d, .int .i64 c] 31))
            have hnw := At4.new wr y m d c 31
            obtain ⟨a0, a1, a2, a3⟩ := ha
            clear hb hx hw3 hv3 hvr hv2
            obtain ⟨b0, b1, b2, b3⟩ := hb2
            obtain ⟨n0, n1, n2, n3⟩ := hnw
            simp only [Nat.zero_mul, Nat.zero_add] at n0 n1 n2 n3
            go_wp2
            go_quiet (fail)
            go_wp2
            go_roundw
            case rel => exact ⟨i + 1, by omega, by go_num, below_drewN (hBi.alloc hBi.size _) nq⟩
            case measure => simp [intOf]; omega
          · obtain rfl : i = full.length := by omega
            go_wp2
            go_roundw
            case rel => exact ⟨k + 1, by omega, by go_num, below_step (below_step hBr hB3) hBi⟩
            case measure => simp [intOf]; omega
    · obtain rfl : k = 3 := by omega
      go_wp2
      go_ret
      exact ⟨rfl, hBWr⟩

set_option maxRecDepth 100000 in
set_option maxHeartbeats 4000000 in
theorem months_nil (a b stop lo hi : Int) (lo0 : 0 ≤ lo) (hi0 : hi ≤ 109572) (hF : Hid (Mo hi lo [])) (W : World) (hM : Mon W)
    (hR : ∀ W, Calls Tryd.prog 6 #[.int .i64 a, .int .i64 b] W fun e W' => ∃ v, e = .returned v ∧ W'.ownsRow W.heap.size 31 4 v 0 (flatP []) ∧ Below W.heap.size W W')
    (hMo : ∀ w, Calls Tryd.prog 7 #[.int .i64 a, .int .i64 b] w fun e w' => e = .returned (.func (.func 21) #[] #[.pointer (some ⟨w.heap.size, 0, none⟩), .pointer (some ⟨w.heap.size + 1, 0, none⟩)]) ∧ w' = (w.alloc (.cells #[.int .i64 lo] 3)).alloc (.cells #[.int .i64 hi] 3)) :
    Calls Tryd.prog 3 #[.int .i64 a, .int .i64 b, .int .i64 stop] W fun e W' => e = .returned (.bool true) ∧ Below W.heap.size W W' := by
  go_enter Tryd.func3, Tryd.ntmps3
  go_wp2_with (first | (go_at_call 6; refine (hR _).mono ?_; clear hR; rintro _ W1 ⟨v0, rfl, ho, hB1⟩; obtain ⟨a0, cap0, rfl⟩ := (row4_of (l := []) ho).none; clear ho) | (go_at_call 7; refine (hMo _).mono ?_; clear hMo; rintro _ W2 ⟨rfl, rfl⟩))
  have c1 := Bx.new W1 (.int .i64 lo) 3
  have c2 := Bx.new (W1.alloc (.cells #[.int .i64 lo] 3)) (.int .i64 hi) 3
  simp only [World.size_alloc] at c2
  have c1' := c1.later ((Below.refl _ (W1.alloc (.cells #[.int .i64 lo] 3))).alloc (Nat.le_refl _) (.cells #[.int .i64 hi] 3))
  have hB2 : Below W1.heap.size W1 ((W1.alloc (.cells #[.int .i64 lo] 3)).alloc (.cells #[.int .i64 hi] 3)) := ((Below.refl _ W1).alloc (Nat.le_refl _) _).alloc (by simp) _
  have hBW := below_step hB1 hB2
  have hM2 := hM.later hBW
  clear c1 hB1 hB2 hM
  generalize hg1 : W1.heap.size = g1 at *
  generalize (W1.alloc (.cells #[.int .i64 lo] 3)).alloc (.cells #[.int .i64 hi] 3) = W2 at *
  clear hg1
  go_loopw [9] (fun x wr => ∃ k : Nat, k ≤ 3 ∧ x = .int .i64 k ∧ Below W2.heap.size W2 wr) (fun x _ => (3 - intOf x).toNat)
  case atStart => exact ⟨0, by omega, rfl, Below.refl _ _⟩
  case round =>
    obtain ⟨k, hk, rfl, hBr⟩ := hrel
    have hMr := hM2.later hBr
    have hP := fun most => pieces_any g1 (g1 + 1) most lo hi lo0 hi0 [] hF.out wr hMr (c1'.later hBr).1 (c2.later hBr).1
    have hcut : ∀ most, cutP most [] = [] := fun most => by unfold cutP; split <;> simp
    simp only [hcut] at hP
    have hBWr := below_step hBW hBr
    by_cases hk3 : k < 3
    · by_cases hk1 : k = 1
      · subst hk1
        by_cases st0 : 0 < stop
        · have st1 : ¬ stop < 0 := by omega
          go_wp2_with (go_at_call 8; refine (hP _).mono ?_; clear hP; rintro _ w3 ⟨v, rfl, ho, hB3⟩; obtain ⟨a3, cap3, rfl⟩ := (row4_of (l := []) ho).none; clear ho)
          refine wp_loop_rounds 1 ?_
          rw [rounds_succ]
          go_wp2
          go_roundw
          case rel => exact ⟨2, by omega, by go_num, below_step hBr hB3⟩
          case measure => simp [intOf]
        · go_wp2_with (go_at_call 8; refine (hP _).mono ?_; clear hP; rintro _ w3 ⟨v, rfl, ho, hB3⟩; obtain ⟨a3, cap3, rfl⟩ := (row4_of (l := []) ho).none; clear ho)
          refine wp_loop_rounds 1 ?_
          rw [rounds_succ]
          go_wp2
          go_roundw
          case rel => exact ⟨2, by omega, by go_num, below_step hBr hB3⟩
          case measure => simp [intOf]
      · have hkb : ((k : Int) == 1) = false := by simp; omega
        go_wp2_with (go_at_call 8; refine (hP _).mono ?_; clear hP; rintro _ w3 ⟨v, rfl, ho, hB3⟩; obtain ⟨a3, cap3, rfl⟩ := (row4_of (l := []) ho).none; clear ho)
        refine wp_loop_rounds 1 ?_
        rw [rounds_succ]
        go_wp2
        go_roundw
        case rel => exact ⟨k + 1, by omega, by go_num, below_step hBr hB3⟩
        case measure => simp [intOf]; omega
    · obtain rfl : k = 3 := by omega
      go_wp2
      go_ret
      exact ⟨rfl, hBWr⟩

theorem months_walk (a b stop : Int) (W : World) (hM : Mon W) :
    Calls Tryd.prog 3 #[.int .i64 a, .int .i64 b, .int .i64 stop] W fun e W' => e = .returned (.bool true) ∧ Below W.heap.size W W' := by
  obtain ⟨lo, hlo, lo0⟩ : ∃ lo, (if 0 ≤ a then a else 0) = lo ∧ 0 ≤ lo := ⟨_, rfl, by split <;> omega⟩
  obtain ⟨hi, hhi, hi0⟩ : ∃ hi, (if b ≤ 109572 then b else 109572) = hi ∧ hi ≤ 109572 := ⟨_, rfl, by split <;> omega⟩
  obtain ⟨full, hfull⟩ := mo_ex hi hi0 _ lo lo0 (Nat.le_refl _)
  have hR := fun W => rmonths_any a b full (by rw [hlo, hhi]; exact hfull) W
  have hMo := fun W => months_any a b W
  rw [hlo, hhi] at hMo
  have hlen := hfull.len hi0 0 (by omega) (by omega) (by rw [D.bg_0]; exact lo0)
  by_cases hne : full = []
  · subst hne
    exact months_nil a b stop lo hi lo0 hi0 hfull W hM hR hMo
  · exact months_ne a b stop lo hi lo0 hi0 full hfull hne W hM (by omega) hR hMo

end Go.Proofs.YtaecodgmfmijlaaDoor

import Derived.Test.YthbojlbgjmecoaaGreatTurnRdT
import Derived.Test.YthbojlbgjmecoaaGreatJoin31
/- What a room holds: lists of bytes, lists of files. -/
namespace Go.Proofs.YthbojlbgjmecoaaGreat.DJ
open Go.RowKit
set_option linter.constructorNameAsVariable false

theorem RmB.mk_at {W : World} {lo R : Nat} {E : List (Fi × Nat × Nat)} {vb vf : Value} (h : RmB W lo R E vb vf) {i : Nat} (hi : i < E.length) : ∃ g0 c, vb = .slice (some ⟨g0, 0, none⟩) E.length c ∧ W.cell? ⟨g0, i, none⟩ = some (.slice (some ⟨E[i].2.1, 0, none⟩) (E[i].1.dat.length + 600) E[i].2.2) ∧ ∀ k, k < 600 → W.cell? ⟨E[i].2.1, E[i].1.dat.length + k, none⟩ = some (.int .u8 (mkB k)) := by
  obtain ⟨g0, c, hv⟩ := own_someB h.own (by omega)
  have hl : (bV E).length = E.length := by simp [bV]
  have h1 := h.own
  rw [hv] at h1
  have h2 := h1.cellAt i (by omega)
  refine ⟨g0, c, hv, h2.trans ?_, fun k hk => ?_⟩
  · unfold bV
    rw [List.getElem?_map, List.getElem?_eq_getElem hi]
    rfl
  · have h3 := (h.dat E[i] (List.getElem_mem hi)).cellAt (E[i].1.dat.length + k) (by omega)
    refine h3.trans ?_
    have hbl : (bysV E[i].1.dat).length = E[i].1.dat.length := by simp [bysV]
    rw [List.getElem?_append_right (by omega), hbl, show E[i].1.dat.length + k - E[i].1.dat.length = k by omega]
    unfold mksB
    rw [List.getElem?_map, List.getElem?_range hk]
    rfl
set_option maxRecDepth 100000 in
set_option maxHeartbeats 4000000 in
theorem holdB_any {R lo : Nat} {E : List (Fi × Nat × Nat)} {vb vf : Value} (hs : ∀ x ∈ E, x.1.dat.length ≤ 1048576) (hE : E.length ≤ 1048576) (W : World) (h : RmB W lo R E vb vf) :
    Calls Tryz.prog 43 #[.pointer (some ⟨R, 0, none⟩)] W fun e W' => e = .returned (.bool true) ∧ Below W.heap.size W W' := by
  have hB : Below W.heap.size W (W.alloc (.cells #[.int .u8 165, .int .u8 90] 5)) := (Below.refl _ _).alloc (Nat.le_refl _) _
  have hX := h.later hB
  obtain ⟨c0, -, -, -⟩ := hX.cell
  obtain ⟨va, vc, rfl⟩ := own_lenB hX.own
  have hM : Hid (∀ i (hi : i < E.length), ∃ g0, va = some ⟨g0, 0, none⟩ ∧ (W.alloc (.cells #[.int .u8 165, .int .u8 90] 5)).cell? ⟨g0, i, none⟩ = some (.slice (some ⟨E[i].2.1, 0, none⟩) (E[i].1.dat.length + 600) E[i].2.2) ∧ E[i].1.dat.length ≤ 1048576 ∧ ∀ k, k < 600 → (W.alloc (.cells #[.int .u8 165, .int .u8 90] 5)).cell? ⟨E[i].2.1, E[i].1.dat.length + k, none⟩ = some (.int .u8 (mkB k))) := ⟨fun i hi => by
    obtain ⟨g0, c, hv, q1, q2⟩ := hX.mk_at hi
    injection hv with e1
    exact ⟨g0, e1, q1, hs _ (List.getElem_mem hi), q2⟩⟩
  have n0 : (W.alloc (.cells #[.int .u8 165, .int .u8 90] 5)).cell? ⟨W.heap.size, 0, none⟩ = some (.int .u8 165) := by simp
  have n1 : (W.alloc (.cells #[.int .u8 165, .int .u8 90] 5)).cell? ⟨W.heap.size, 1, none⟩ = some (.int .u8 90) := by simp
  clear h hX hs
  go_enter Tryz.func43, Tryz.ntmps43
  go_wp2
  generalize hXe : W.alloc (.cells #[.int .u8 165, .int .u8 90] 5) = X at *
  go_loopw [4] (fun v wr => ∃ i : Nat, i ≤ E.length ∧ v = .int .i64 (i : Int) ∧ wr = X) (fun v _ => E.length - (intOf v).toNat)
  case atStart => exact ⟨0, Nat.zero_le _, rfl, rfl⟩
  case round =>
    obtain ⟨i, hi, rfl, rfl⟩ := hrel
    by_cases hlt : i < E.length
    · have hlt' : (i : Int) < (E.length : Int) := by omega
      have hi0 : (0 : Int) ≤ (i : Int) := by omega
      obtain ⟨g0, rfl, d1, hsz, hmk⟩ := hM.out i hlt
      generalize E[i] = x at *
      obtain ⟨f, g, cN⟩ := x
      simp only at d1 hsz hmk
      generalize f.dat.length = n at *
      have hnI : (n : Int) ≤ 1048576 := by omega
      replace hmk := Hid.mk hmk
      clear hM
      go_wp2
      go_loopw [6] (fun v wr' => ∃ k : Nat, k ≤ 600 ∧ v = .int .i64 k ∧ wr' = wr) (fun v _ => (601 - intOf v).toNat)
      case atStart => exact ⟨0, by omega, rfl, rfl⟩
      case round =>
        obtain ⟨k, hk, rfl, rfl⟩ := hrel
        by_cases hk2 : k < 600
        · have mk := hmk.out k hk2
          rcases (show k % 2 = 0 ∨ k % 2 = 1 by omega) with hp | hp
          · have em : mkB k = 165 := by unfold mkB; rw [if_pos hp]
            rw [em] at mk
            have hp' : (k : Int) % 2 = 0 := by omega
            go_wp2
            go_roundw
            case rel => exact ⟨k + 1, by omega, by go_num, by trivial⟩
            case measure => simp [intOf]; omega
          · have em : mkB k = 90 := by unfold mkB; rw [if_neg (by omega)]
            rw [em] at mk
            have hp' : (k : Int) % 2 = 1 := by omega
            go_wp2
            go_roundw
            case rel => exact ⟨k + 1, by omega, by go_num, by trivial⟩
            case measure => simp [intOf]; omega
        · obtain rfl : k = 600 := by omega
          go_wp2
          go_roundw
          case rel => exact ⟨i + 1, by omega, by go_num, by trivial⟩
          case measure => simp [intOf]; omega
    · obtain rfl : i = E.length := by omega
      clear hM
      go_wp2
      go_ret
      exact ⟨rfl, hB⟩
theorem mksF_succ (n : Nat) : mksF (n + 1) = mksF n ++ mkF n := by unfold mksF; rw [List.range_succ, List.flatMap_append]; simp
theorem mksF_len (n : Nat) : (mksF n).length = n * 3 := by
  induction n with
  | zero => rfl
  | succ n ih => rw [mksF_succ, List.length_append, ih]; show n * 3 + 3 = _; omega
theorem mksF_at : ∀ (n k i : Nat), k < n → i < 3 → (mksF n)[k * 3 + i]? = (mkF k)[i]?
  | 0, k, i, hk, _ => by omega
  | n + 1, k, i, hk, hi => by
    rw [mksF_succ]
    by_cases h : k < n
    · rw [List.getElem?_append_left (by rw [mksF_len]; omega)]
      exact mksF_at n k i h hi
    · obtain rfl : k = n := by omega
      rw [List.getElem?_append_right (by rw [mksF_len]; omega), mksF_len, show k * 3 + i - k * 3 = i by omega]
set_option maxRecDepth 100000 in
set_option maxHeartbeats 4000000 in
theorem holdF_any {R lo g n c : Nat} {E : List (Fi × Nat × Nat)} {vb vf : Value} (hn : E.length = n) (hE : n ≤ 1048576) (W : World) (h : RmB W lo R E vb vf) (ho : W.ownsRow lo 74 3 (.slice (some ⟨g, 0, none⟩) (n + 40) c) (n + 40) (fV E ++ mksF 40)) (hv : W.ownsRow lo 22 1 vf 1 [.slice (some ⟨g, 0, none⟩) (n + 40) c]) :
    Calls Tryz.prog 56 #[.pointer (some ⟨R, 0, none⟩)] W fun e W' => e = .returned (.bool true) ∧ Below W.heap.size W W' := by
  obtain ⟨g2, c2, rfl⟩ := own_someB hv (by decide)
  obtain ⟨-, c13, -, -⟩ := h.cell
  have d0 := hv.cellAt 0 (by decide)
  simp only [List.getElem?_cons_zero] at d0
  have hm : Hid (∀ k, k < 40 → W.cell? ⟨g, (n + k) * 3, none⟩ = some (.string ⟨#[]⟩) ∧ W.cell? ⟨g, (n + k) * 3 + 1, none⟩ = some (.slice none 0 0) ∧ W.cell? ⟨g, (n + k) * 3 + 2, none⟩ = some (.int .i64 (if k % 2 = 0 then -7701 else -7702))) := ⟨fun k hk => by
    have hfl := fV_len E
    have q : ∀ i, i < 3 → W.cell? ⟨g, (n + k) * 3 + i, none⟩ = (mkF k)[i]? := fun i hi => by
      rw [ho.cellAt ((n + k) * 3 + i) (by omega), List.getElem?_append_right (by omega), hfl, hn, show (n + k) * 3 + i - n * 3 = k * 3 + i by omega]
      exact mksF_at 40 k i hk hi
    exact ⟨(q 0 (by decide)), q 1 (by decide), q 2 (by decide)⟩⟩
  have hlt0 := h.lt
  have hlt1 := World.block_lt_of_cell? _ _ d0
  have hlt2 := (ho.lt g rfl).2
  obtain ⟨X, hXe⟩ : ∃ X, W.alloc (.cells #[.string ⟨#[]⟩, .slice none 0 0, .int .i64 (-7701), .string ⟨#[]⟩, .slice none 0 0, .int .i64 (-7702)] 74) = X := ⟨_, rfl⟩
  have hB : Below W.heap.size W X := by rw [← hXe]; exact (Below.refl _ _).alloc (Nat.le_refl _) _
  have hXr : X.heap[W.heap.size]? = some (.cells #[.string ⟨#[]⟩, .slice none 0 0, .int .i64 (-7701), .string ⟨#[]⟩, .slice none 0 0, .int .i64 (-7702)] 74 (0, 0)) := by rw [← hXe]; exact heap_alloc_new _ _
  have hXl : W.heap.size < X.heap.size := by rw [← hXe]; simp
  obtain ⟨mb, hmb⟩ : ∃ mb, W.heap.size = mb := ⟨_, rfl⟩
  have hK : Hid (∀ Y, Below X.heap.size X Y → Y.cell? ⟨R, 13, none⟩ = some (.slice (some ⟨g2, 0, none⟩) 1 c2) ∧ Y.cell? ⟨g2, 0, none⟩ = some (.slice (some ⟨g, 0, none⟩) (n + 40) c) ∧ (Y.cell? ⟨mb, 0, none⟩ = some (.string ⟨#[]⟩) ∧ Y.cell? ⟨mb, 1, none⟩ = some (.slice none 0 0) ∧ Y.cell? ⟨mb, 2, none⟩ = some (.int .i64 (-7701)) ∧ Y.cell? ⟨mb, 3, none⟩ = some (.string ⟨#[]⟩) ∧ Y.cell? ⟨mb, 4, none⟩ = some (.slice none 0 0) ∧ Y.cell? ⟨mb, 5, none⟩ = some (.int .i64 (-7702))) ∧ ∀ k, k < 40 → Y.cell? ⟨g, (n + k) * 3, none⟩ = some (.string ⟨#[]⟩) ∧ Y.cell? ⟨g, (n + k) * 3 + 1, none⟩ = some (.slice none 0 0) ∧ Y.cell? ⟨g, (n + k) * 3 + 2, none⟩ = some (.int .i64 (if k % 2 = 0 then -7701 else -7702))) := ⟨fun Y hY => by
    have hb := below_step hB hY
    have hr := (hY.block _ hXl).trans hXr
    rw [hmb] at hr
    refine ⟨(hb.cell (p := ⟨R, 13, none⟩) hlt0).trans c13, (hb.cell (p := ⟨g2, 0, none⟩) hlt1).trans d0, ⟨cell_of_row _ _ 0 _ _ _ hr, cell_of_row _ _ 1 _ _ _ hr, cell_of_row _ _ 2 _ _ _ hr, cell_of_row _ _ 3 _ _ _ hr, cell_of_row _ _ 4 _ _ _ hr, cell_of_row _ _ 5 _ _ _ hr⟩, fun k hk => ?_⟩
    obtain ⟨q0, q1, q2⟩ := hm.out k hk
    exact ⟨(hb.cell (p := ⟨g, _, none⟩) hlt2).trans q0, (hb.cell (p := ⟨g, _, none⟩) hlt2).trans q1, (hb.cell (p := ⟨g, _, none⟩) hlt2).trans q2⟩⟩
  have hBW : Hid (∀ Y, Below X.heap.size X Y → Below W.heap.size W Y) := ⟨fun Y hY => below_step hB hY⟩
  have hnI : (n : Int) ≤ 1048576 := by omega
  obtain ⟨QQ, hQQ⟩ : ∃ Q : World → Prop, (fun Y => Below W.heap.size W Y) = Q := ⟨_, rfl⟩
  clear h ho hv c13 d0 hm hB hXr hXl hlt0 hlt1 hlt2
  go_enter Tryz.func56, Tryz.ntmps56
  go_wp2
  refine wp_loop_rounds 2 ?_
  rw [rounds_succ]
  obtain ⟨x0, x1, -, -⟩ := hK.out X (Below.refl _ _)
  go_wp2
  clear x0 x1
  go_loopw [6] (fun v wr => ∃ k : Nat, k ≤ 40 ∧ v = .int .i64 (k : Int) ∧ Below X.heap.size X wr) (fun v _ => (41 - intOf v).toNat)
  case atStart => exact ⟨0, by omega, rfl, Below.refl _ _⟩
  case round =>
    obtain ⟨k, hk, rfl, hb⟩ := hrel
    obtain ⟨z0, z1, -, zk⟩ := hK.out wr hb
    by_cases hk2 : k < 40
    · have hkI : (k : Int) < 40 := by omega
      obtain ⟨y0, y1, y2⟩ := zk k hk2
      clear zk
      rcases (show k % 2 = 0 ∨ k % 2 = 1 by omega) with hp | hp
      · rw [if_pos hp] at y2
        have hp' : (k : Int) % 2 = 0 := by omega
        obtain ⟨Y1, hY1⟩ : ∃ Y, wr.alloc (.cells #[.string ⟨#[]⟩, .slice none 0 0, .int .i64 (-7701)] 74) = Y := ⟨_, rfl⟩
        have b1 : Below wr.heap.size wr Y1 := by rw [← hY1]; exact (Below.refl _ _).alloc (Nat.le_refl _) _
        have r1 : Y1.heap[wr.heap.size]? = some (.cells #[.string ⟨#[]⟩, .slice none 0 0, .int .i64 (-7701)] 74 (0, 0)) := by rw [← hY1]; exact heap_alloc_new _ _
        have l1 : wr.heap.size < Y1.heap.size := by rw [← hY1]; simp
        have B1 := below_step hb b1
        obtain ⟨-, -, ⟨m0, m1, m2, m3, m4, m5⟩, -⟩ := hK.out Y1 B1
        obtain ⟨Y2, hY2⟩ : ∃ Y, Y1.alloc (.cells #[.string ⟨#[]⟩, .slice none 0 0, .int .i64 (-7701)] 74) = Y := ⟨_, rfl⟩
        have b2 : Below Y1.heap.size Y1 Y2 := by rw [← hY2]; exact (Below.refl _ _).alloc (Nat.le_refl _) _
        have r2 : Y2.heap[Y1.heap.size]? = some (.cells #[.string ⟨#[]⟩, .slice none 0 0, .int .i64 (-7701)] 74 (0, 0)) := by rw [← hY2]; exact heap_alloc_new _ _
        have r3 := (b2.block _ l1).trans r1
        have s0 := cell_of_row _ _ 2 _ _ _ r3
        have s1 := cell_of_row _ _ 1 _ _ _ r3
        have s2 := cell_of_row _ _ 2 _ _ _ r2
        simp only [List.getElem?_toArray, List.getElem?_cons_zero, List.getElem?_cons_succ] at s0 s1 s2
        have B2 := Hid.mk (below_step B1 b2)
        clear r1 r2 r3 hK hBW
        go_wp2
        go_roundw
        case rel => exact ⟨k + 1, by omega, by go_num, B2.out⟩
        case measure => simp [intOf]; omega
      · rw [if_neg (by omega)] at y2
        have hp' : (k : Int) % 2 = 1 := by omega
        obtain ⟨Y1, hY1⟩ : ∃ Y, wr.alloc (.cells #[.string ⟨#[]⟩, .slice none 0 0, .int .i64 (-7702)] 74) = Y := ⟨_, rfl⟩
        have b1 : Below wr.heap.size wr Y1 := by rw [← hY1]; exact (Below.refl _ _).alloc (Nat.le_refl _) _
        have r1 : Y1.heap[wr.heap.size]? = some (.cells #[.string ⟨#[]⟩, .slice none 0 0, .int .i64 (-7702)] 74 (0, 0)) := by rw [← hY1]; exact heap_alloc_new _ _
        have l1 : wr.heap.size < Y1.heap.size := by rw [← hY1]; simp
        have B1 := below_step hb b1
        obtain ⟨-, -, ⟨m0, m1, m2, m3, m4, m5⟩, -⟩ := hK.out Y1 B1
        obtain ⟨Y2, hY2⟩ : ∃ Y, Y1.alloc (.cells #[.string ⟨#[]⟩, .slice none 0 0, .int .i64 (-7702)] 74) = Y := ⟨_, rfl⟩
        have b2 : Below Y1.heap.size Y1 Y2 := by rw [← hY2]; exact (Below.refl _ _).alloc (Nat.le_refl _) _
        have r2 : Y2.heap[Y1.heap.size]? = some (.cells #[.string ⟨#[]⟩, .slice none 0 0, .int .i64 (-7702)] 74 (0, 0)) := by rw [← hY2]; exact heap_alloc_new _ _
        have r3 := (b2.block _ l1).trans r1
        have s0 := cell_of_row _ _ 2 _ _ _ r3
        have s1 := cell_of_row _ _ 1 _ _ _ r3
        have s2 := cell_of_row _ _ 2 _ _ _ r2
        simp only [List.getElem?_toArray, List.getElem?_cons_zero, List.getElem?_cons_succ] at s0 s1 s2
        have B2 := Hid.mk (below_step B1 b2)
        clear r1 r2 r3 hK hBW
        go_wp2
        go_roundw
        case rel => exact ⟨k + 1, by omega, by go_num, B2.out⟩
        case measure => simp [intOf]; omega
    · obtain rfl : k = 40 := by omega
      have hfin := hBW.out wr hb
      clear zk hK
      go_wp2
      rw [rounds_succ]
      go_wp2
      go_ret
      first | exact ⟨rfl, hfin⟩ | exact ⟨rfl, hmb ▸ hfin⟩ | exact ⟨rfl, by rw [← hmb]; exact hfin⟩
/-- A room whose lists are nil but for two kinds. -/
def RoomB2 (W : World) (R i j : Nat) : Prop := ∀ k, k < 21 → k ≠ i → k ≠ j → W.cell? ⟨R, k, none⟩ = some (.slice none 0 0)
theorem RoomB2.later {W W' : World} {R i j : Nat} (h : RoomB2 W R i j) (hb : Below W.heap.size W W') : RoomB2 W' R i j := fun k hk hi hj => (hb.cell (p := ⟨R, k, none⟩) (World.block_lt_of_cell? _ _ (h k hk hi hj))).trans (h k hk hi hj)
set_option maxHeartbeats 4000000 in
theorem hold_bf (R : Nat) (W : World) (hR : RoomB2 W R 0 13) (hJ : ∀ X, Below W.heap.size W X → Calls Tryz.prog 43 #[.pointer (some ⟨R, 0, none⟩)] X fun e X' => e = .returned (.bool true) ∧ Below X.heap.size X X') (hF : ∀ X, Below W.heap.size W X → Calls Tryz.prog 56 #[.pointer (some ⟨R, 0, none⟩)] X fun e X' => e = .returned (.bool true) ∧ Below X.heap.size X X') :
    Calls Tryz.prog 12 #[.pointer (some ⟨R, 0, none⟩)] W fun e W' => e = .returned (.bool true) ∧ Below W.heap.size W W' := by
  have hB := Below.refl W.heap.size W
  go_enter Tryz.func12, Tryz.ntmps12
  go_wp2_with (first | (go_at_call 43; refine (hJ _ hB).mono ?_; rintro _ X ⟨rfl, hb⟩; replace hR := hR.later hb; replace hB := below_step hB hb; clear hb) | (go_at_call 44; refine (holdInts_nil R _ (hR 1 (by omega) (by omega) (by omega))).mono ?_; rintro _ X ⟨rfl, hb⟩; replace hR := hR.later hb; replace hB := below_step hB hb; clear hb) | (go_at_call 45; refine (holdCells_nil R _ (hR 2 (by omega) (by omega) (by omega))).mono ?_; rintro _ X ⟨rfl, hb⟩; replace hR := hR.later hb; replace hB := below_step hB hb; clear hb) | (go_at_call 46; refine (holdBools_nil R _ (hR 3 (by omega) (by omega) (by omega))).mono ?_; rintro _ X ⟨rfl, hb⟩; replace hR := hR.later hb; replace hB := below_step hB hb; clear hb) | (go_at_call 47; refine (holdTexts_nil R _ (hR 4 (by omega) (by omega) (by omega))).mono ?_; rintro _ X ⟨rfl, hb⟩; replace hR := hR.later hb; replace hB := below_step hB hb; clear hb) | (go_at_call 48; refine (holdValues_nil R _ (hR 5 (by omega) (by omega) (by omega))).mono ?_; rintro _ X ⟨rfl, hb⟩; replace hR := hR.later hb; replace hB := below_step hB hb; clear hb) | (go_at_call 49; refine (holdBands_nil R _ (hR 6 (by omega) (by omega) (by omega))).mono ?_; rintro _ X ⟨rfl, hb⟩; replace hR := hR.later hb; replace hB := below_step hB hb; clear hb) | (go_at_call 50; refine (holdTokens_nil R _ (hR 7 (by omega) (by omega) (by omega))).mono ?_; rintro _ X ⟨rfl, hb⟩; replace hR := hR.later hb; replace hB := below_step hB hb; clear hb) | (go_at_call 51; refine (holdReads_nil R _ (hR 8 (by omega) (by omega) (by omega))).mono ?_; rintro _ X ⟨rfl, hb⟩; replace hR := hR.later hb; replace hB := below_step hB hb; clear hb) | (go_at_call 52; refine (holdConflicts_nil R _ (hR 9 (by omega) (by omega) (by omega))).mono ?_; rintro _ X ⟨rfl, hb⟩; replace hR := hR.later hb; replace hB := below_step hB hb; clear hb) | (go_at_call 53; refine (holdPoints_nil R _ (hR 10 (by omega) (by omega) (by omega))).mono ?_; rintro _ X ⟨rfl, hb⟩; replace hR := hR.later hb; replace hB := below_step hB hb; clear hb) | (go_at_call 54; refine (holdNodes_nil R _ (hR 11 (by omega) (by omega) (by omega))).mono ?_; rintro _ X ⟨rfl, hb⟩; replace hR := hR.later hb; replace hB := below_step hB hb; clear hb) | (go_at_call 55; refine (holdRecords_nil R _ (hR 12 (by omega) (by omega) (by omega))).mono ?_; rintro _ X ⟨rfl, hb⟩; replace hR := hR.later hb; replace hB := below_step hB hb; clear hb) | (go_at_call 56; refine (hF _ hB).mono ?_; rintro _ X ⟨rfl, hb⟩; replace hR := hR.later hb; replace hB := below_step hB hb; clear hb) | (go_at_call 57; refine (holdExprs_nil R _ (hR 14 (by omega) (by omega) (by omega))).mono ?_; rintro _ X ⟨rfl, hb⟩; replace hR := hR.later hb; replace hB := below_step hB hb; clear hb) | (go_at_call 58; refine (holdClauses_nil R _ (hR 15 (by omega) (by omega) (by omega))).mono ?_; rintro _ X ⟨rfl, hb⟩; replace hR := hR.later hb; replace hB := below_step hB hb; clear hb) | (go_at_call 59; refine (holdLines_nil R _ (hR 16 (by omega) (by omega) (by omega))).mono ?_; rintro _ X ⟨rfl, hb⟩; replace hR := hR.later hb; replace hB := below_step hB hb; clear hb) | (go_at_call 60; refine (holdChecks_nil R _ (hR 17 (by omega) (by omega) (by omega))).mono ?_; rintro _ X ⟨rfl, hb⟩; replace hR := hR.later hb; replace hB := below_step hB hb; clear hb) | (go_at_call 61; refine (holdOptions_nil R _ (hR 18 (by omega) (by omega) (by omega))).mono ?_; rintro _ X ⟨rfl, hb⟩; replace hR := hR.later hb; replace hB := below_step hB hb; clear hb) | (go_at_call 62; refine (holdTables_nil R _ (hR 19 (by omega) (by omega) (by omega))).mono ?_; rintro _ X ⟨rfl, hb⟩; replace hR := hR.later hb; replace hB := below_step hB hb; clear hb) | (go_at_call 63; refine (holdGroups_nil R _ (hR 20 (by omega) (by omega) (by omega))).mono ?_; rintro _ X ⟨rfl, hb⟩; replace hR := hR.later hb; replace hB := below_step hB hb; clear hb))
  go_ret
  exact ⟨rfl, hB⟩
theorem RmB.but {W : World} {lo R : Nat} {E : List (Fi × Nat × Nat)} {vb vf : Value} (h : RmB W lo R E vb vf) : RoomB2 W R 0 13 := h.cell.2.2.2
/-- The room of bytes alone. -/
theorem hold_b {R lo : Nat} {E : List (Fi × Nat × Nat)} {vb : Value} (hs : ∀ x ∈ E, x.1.dat.length ≤ 1048576) (hE : E.length ≤ 1048576) (W : World) (h : RmB W lo R E vb (.slice none 0 0)) : Calls Tryz.prog 12 #[.pointer (some ⟨R, 0, none⟩)] W fun e W' => e = .returned (.bool true) ∧ Below W.heap.size W W' :=
  hold_bf R W h.but (fun X hX => holdB_any hs hE X (h.later hX)) (fun X hX => holdFiles_nil R X ((h.later hX).cell.2.1))
/-- The room of files. -/
theorem hold_f {R lo g n c : Nat} {E : List (Fi × Nat × Nat)} {vb vf : Value} (hn : E.length = n) (hs : ∀ x ∈ E, x.1.dat.length ≤ 1048576) (hE : n ≤ 1048576) (W : World) (h : RmB W lo R E vb vf) (ho : W.ownsRow lo 74 3 (.slice (some ⟨g, 0, none⟩) (n + 40) c) (n + 40) (fV E ++ mksF 40)) (hv : W.ownsRow lo 22 1 vf 1 [.slice (some ⟨g, 0, none⟩) (n + 40) c]) : Calls Tryz.prog 12 #[.pointer (some ⟨R, 0, none⟩)] W fun e W' => e = .returned (.bool true) ∧ Below W.heap.size W W' :=
  hold_bf R W h.but (fun X hX => holdB_any hs (by omega) X (h.later hX)) (fun X hX => holdF_any hn hE X (h.later hX) (own_later ho hX) (own_later hv hX))
end Go.Proofs.YthbojlbgjmecoaaGreat.DJ

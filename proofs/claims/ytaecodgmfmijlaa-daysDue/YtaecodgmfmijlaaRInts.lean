import Derived.Test.YtaecodgmfmijlaaRHoldInts
import Derived.Test.YtaecodgmfmijlaaDCopy
namespace Go.Proofs.Ytaecodgmfmijlaa
open Go.RowKit

theorem cells2_at (W : World) (n : Nat) (hn : n = W.heap.size) (a b : Value) (t : TypeId) : ∀ j u, ([a, b] : List Value)[j]? = some u → (W.alloc (.cells #[a, b] t)).cell? ((⟨n, 0, none⟩ : Addr).add j) = some u := by
  subst hn
  intro j u h
  match j, h with
  | 0, h => simpa [Addr.add] using h
  | 1, h => simpa [Addr.add] using h
  | j + 2, h => simp at h

/-- The first k marks. -/
def marks (k : Nat) : List Value := (List.range k).map fun i => Value.int .i64 (markI i)
theorem marks_two (k : Nat) (h : k % 2 = 0) : marks (k + 2) = marks k ++ [.int .i64 (-7701), .int .i64 (-7702)] := by
  unfold marks
  rw [List.range_succ, List.range_succ]
  simp [markI, h]
  omega
theorem marks_len (k : Nat) : (marks k).length = k := by simp [marks]
theorem infoS : (Try.prog.info? 22).map (fun i => (i.zero, i.size, i.bytes)) = some (some (.slice none 0 0), 1, 24) := by kernel_rfl

theorem own_some {w : World} {base n size : Nat} {e : TypeId} {v : Value} {xs : List Value} (h : w.ownsRow base e size v n xs) (hn : 0 < n) : ∃ g cap, v = .slice (some ⟨g, 0, none⟩) n cap := by
  obtain ⟨_, h | ⟨g, cap, cur, rfl, _⟩⟩ := h
  · omega
  · exact ⟨g, cap, rfl⟩

theorem own_cap {w : World} {base n size g cap : Nat} {e : TypeId} {xs : List Value} (h : w.ownsRow base e size (.slice (some ⟨g, 0, none⟩) n cap) n xs) : n ≤ cap := by
  obtain ⟨_, h | ⟨g', cap', cur, h1, _, _, h2, _⟩⟩ := h
  · simp at h
  · simp at h1
    omega

set_option maxRecDepth 100000 in
set_option maxHeartbeats 4000000 in
theorem ints_some (R b off cap : Nat) (zs : List Int) (W : World) (h8 : zs.length * 8 ≤ 140737488351232) (hb : b < W.heap.size)
    (hc : ∀ i, i < zs.length → W.cell? ⟨b, off + i, none⟩ = some (.int .i64 (zs.getD i 0))) (r1 : W.cell? ⟨R, 1, none⟩ = some (.slice none 0 0)) (r2 : W.frozen? ⟨R, 1, none⟩ = false) :
    Calls Try.prog 4 #[.pointer (some ⟨R, 0, none⟩), .slice (some ⟨b, off, none⟩) zs.length cap] W fun e W' => ∃ (g g2 cap2 capN : Nat) (Wm : World), e = .returned (.slice (some ⟨g, 0, none⟩) zs.length (zs.length + 40)) ∧ Below W.heap.size W Wm ∧ W' = Wm.setCell ⟨R, 1, none⟩ (.slice (some ⟨g2, 0, none⟩) 1 cap2) ∧ Wm.ownsRow W.heap.size 3 1 (.slice (some ⟨g, 0, none⟩) (zs.length + 40) capN) (zs.length + 40) (zs.map (Value.int .i64) ++ marks 40) ∧ Wm.cell? ⟨g2, 0, none⟩ = some (.slice (some ⟨g, 0, none⟩) (zs.length + 40) capN) ∧ W.heap.size ≤ g2 := by
  obtain ⟨i0, hi, hz0, hz1, hz2⟩ := info_parts infoI
  have hrow0 := World.ownsRow_lit (base := W.heap.size) (e := 3) (size := 1) W #[] 0 (Nat.le_refl _) (by unfold maxLen; omega) rfl
  go_enter Try.func4, Try.ntmps4
  go_wp2
  go_loopw [5, 6] (fun v x wr => ∃ k : Nat, k ≤ zs.length ∧ x = .int .i64 k ∧ wr.ownsRow W.heap.size 3 1 v k ((zs.take k).map (Value.int .i64)) ∧ Below W.heap.size W wr) (fun _ x _ => zs.length - (intOf x).toNat)
  case atStart => exact ⟨0, by omega, rfl, hrow0, (Below.refl _ _).alloc (Nat.le_refl _) _⟩
  case round =>
    obtain ⟨k, hk, rfl, ho1, hB1⟩ := hrel
    by_cases hlt : k < zs.length
    · obtain ⟨x, hx⟩ : ∃ x, zs.getD k 0 = x := ⟨_, rfl⟩
      have hcx : wr.cell? ⟨b, off + k, none⟩ = some (.int .i64 x) := (hB1.cell (by exact hb)).trans ((hc k hlt).trans (by rw [hx]))
      have htk : zs.take (k + 1) = zs.take k ++ [x] := by rw [List.take_add_one, ← hx]; simp [List.getD, hlt]
      clear hx hc
      go_wp2_with (at_builtin; refine wpList_append_own _ rfl _ _ 22 rfl W.heap.size 3 i0 (.int .i64 0) 1 8 Try.underlying22 hi hz0 hz1 hz2 rfl (by decide) _ _ _ rfl (ho1.alloc _) ⟨wr.heap.size, 0, none⟩ 1 1 [.int .i64 x] rfl rfl (cell_one_new _ _ _) (ints_oneCell .i64 [x]) (by unfold maxLen; omega) (by omega) (by have := hB1.size; simp; omega) ?_; intro v' w2 hown' hgrow _)
      go_roundw
      case rel => exact ⟨k + 1, by omega, by go_num, by rw [htk]; simpa using hown', (hB1.alloc hB1.size _).grown hgrow (by have := hB1.size; simp; omega) (fun j hj => (ho1.lt j hj).1)⟩
      case measure => simp [intOf]; omega
    · obtain rfl : k = zs.length := by omega
      rw [List.take_length] at ho1
      clear hc
      go_wp2
      go_loopw [5, 7] (fun v x wr => ∃ k : Nat, k ≤ 20 ∧ x = .int .i64 ((2 * k : Nat) : Int) ∧ wr.ownsRow W.heap.size 3 1 v (zs.length + 2 * k) (zs.map (Value.int .i64) ++ marks (2 * k)) ∧ Below W.heap.size W wr) (fun _ x _ => (41 - intOf x).toNat)
      case atStart => exact ⟨0, by omega, rfl, by simpa [marks] using ho1, hB1⟩
      case round =>
        obtain ⟨k, hk, rfl, ho, hB⟩ := hrel
        by_cases hk2 : k < 20
        · have hkk : ((2 * k : Nat) : Int) < 40 := by omega
          go_wp2_with (at_builtin; refine wpList_append_own _ rfl _ _ 22 rfl W.heap.size 3 i0 (.int .i64 0) 1 8 Try.underlying22 hi hz0 hz1 hz2 rfl (by decide) _ _ _ rfl (ho.alloc _) ⟨wr.heap.size, 0, none⟩ 2 2 [.int .i64 (-7701), .int .i64 (-7702)] rfl rfl (cells2_at _ _ rfl _ _ _) (ints_oneCell .i64 [-7701, -7702]) (by unfold maxLen; omega) (by omega) (by have := hB.size; simp; omega) ?_; intro v' w2 hown' hgrow _)
          go_roundw
          case rel =>
            refine ⟨k + 1, by omega, by go_num, ?_, (hB.alloc hB.size _).grown hgrow (by have := hB.size; simp; omega) (fun j hj => (ho.lt j hj).1)⟩
            rw [show 2 * (k + 1) = 2 * k + 2 by omega, marks_two _ (by omega), ← List.append_assoc, ← Nat.add_assoc]
            exact hown'
          case measure => simp [intOf]; omega
        · obtain rfl : k = 20 := by omega
          obtain ⟨g, capN, rfl⟩ := own_some ho (by omega)
          have hcN := own_cap ho
          have q1 := (hB.cell (p := ⟨R, 1, none⟩) (World.block_lt_of_cell? _ _ r1)).trans r1
          have q2 := (hB.frozen (p := ⟨R, 1, none⟩) (World.block_lt_of_cell? _ _ r1)).trans r2
          have hRlt := World.block_lt_of_cell? _ _ r1
          obtain ⟨j0, kj, y0, y1, y2⟩ := info_parts infoS
          have hbb := hB.alloc hB.size (.cells #[.slice (some ⟨g, 0, none⟩) (zs.length + 2 * 20) capN] 22)
          go_wp2_with (at_builtin; refine wpList_append_own _ rfl _ _ 25 rfl W.heap.size 22 j0 (.slice none 0 0) 1 24 Try.underlying25 kj y0 y1 y2 rfl (by decide) (.slice none 0 0) 0 [] rfl (World.ownsRow_nil _ _ _ _) ⟨wr.heap.size, 0, none⟩ 1 1 [.slice (some ⟨g, 0, none⟩) (zs.length + 2 * 20) capN] rfl rfl (cell_one_new _ _ _) (by simp [Value.oneCell']) (by unfold maxLen; omega) (by omega) (by have := hB.size; simp; omega) ?_; intro v' w2 hown' hgrow _; obtain ⟨g2, cap2, rfl⟩ := own_some hown' (by omega); have hbw := hbb.grown hgrow (by have := hB.size; simp; omega) (by simp [Value.ownBlock]); have q3 := (hbw.cell (p := ⟨R, 1, none⟩) hRlt).trans r1; have q4 := (hbw.frozen (p := ⟨R, 1, none⟩) hRlt).trans r2)
          have hk3 := (ho.alloc (.cells #[.slice (some ⟨g, 0, none⟩) (zs.length + 2 * 20) capN] 22)).kept hgrow (.inr (by simp [Value.ownBlock]))
          have hc3 := hown'.cellAt 0 (by omega)
          go_ret
          exact ⟨g, rfl, g2, cap2, capN, w2, hbw, rfl, hk3, by simpa using hc3, (hown'.lt g2 rfl).1⟩

set_option maxRecDepth 100000 in
set_option maxHeartbeats 4000000 in
theorem ints_nil (R cap : Nat) (a : Option Addr) (W : World) (r1 : W.cell? ⟨R, 1, none⟩ = some (.slice none 0 0)) (r2 : W.frozen? ⟨R, 1, none⟩ = false) :
    Calls Try.prog 4 #[.pointer (some ⟨R, 0, none⟩), .slice a 0 cap] W fun e W' => ∃ (g g2 cap2 capN : Nat) (Wm : World), e = .returned (.slice (some ⟨g, 0, none⟩) 0 (0 + 40)) ∧ Below W.heap.size W Wm ∧ W' = Wm.setCell ⟨R, 1, none⟩ (.slice (some ⟨g2, 0, none⟩) 1 cap2) ∧ Wm.ownsRow W.heap.size 3 1 (.slice (some ⟨g, 0, none⟩) (0 + 40) capN) (0 + 40) (marks 40) ∧ Wm.cell? ⟨g2, 0, none⟩ = some (.slice (some ⟨g, 0, none⟩) (0 + 40) capN) ∧ W.heap.size ≤ g2 := by
  obtain ⟨i0, hi, hz0, hz1, hz2⟩ := info_parts infoI
  have hrow0 := World.ownsRow_lit (base := W.heap.size) (e := 3) (size := 1) W #[] 0 (Nat.le_refl _) (by unfold maxLen; omega) rfl
  go_enter Try.func4, Try.ntmps4
  go_wp2
  refine wp_loop_rounds 1 ?_
  rw [rounds_succ]
  go_wp2
  go_loopw [5, 7] (fun v x wr => ∃ k : Nat, k ≤ 20 ∧ x = .int .i64 ((2 * k : Nat) : Int) ∧ wr.ownsRow W.heap.size 3 1 v (2 * k) (marks (2 * k)) ∧ Below W.heap.size W wr) (fun _ x _ => (41 - intOf x).toNat)
  case atStart => exact ⟨0, by omega, rfl, by simpa [marks] using hrow0, (Below.refl _ _).alloc (Nat.le_refl _) _⟩
  case round =>
    obtain ⟨k, hk, rfl, ho, hB⟩ := hrel
    by_cases hk2 : k < 20
    · have hkk : ((2 * k : Nat) : Int) < 40 := by omega
      go_wp2_with (at_builtin; refine wpList_append_own _ rfl _ _ 22 rfl W.heap.size 3 i0 (.int .i64 0) 1 8 Try.underlying22 hi hz0 hz1 hz2 rfl (by decide) _ _ _ rfl (ho.alloc _) ⟨wr.heap.size, 0, none⟩ 2 2 [.int .i64 (-7701), .int .i64 (-7702)] rfl rfl (cells2_at _ _ rfl _ _ _) (ints_oneCell .i64 [-7701, -7702]) (by unfold maxLen; omega) (by omega) (by have := hB.size; simp; omega) ?_; intro v' w2 hown' hgrow _)
      go_roundw
      case rel =>
        refine ⟨k + 1, by omega, by go_num, ?_, (hB.alloc hB.size _).grown hgrow (by have := hB.size; simp; omega) (fun j hj => (ho.lt j hj).1)⟩
        rw [show 2 * (k + 1) = 2 * k + 2 by omega, marks_two _ (by omega)]
        exact hown'
      case measure => simp [intOf]; omega
    · obtain rfl : k = 20 := by omega
      obtain ⟨g, capN, rfl⟩ := own_some ho (by omega)
      have hcN := own_cap ho
      have q1 := (hB.cell (p := ⟨R, 1, none⟩) (World.block_lt_of_cell? _ _ r1)).trans r1
      have q2 := (hB.frozen (p := ⟨R, 1, none⟩) (World.block_lt_of_cell? _ _ r1)).trans r2
      have hRlt := World.block_lt_of_cell? _ _ r1
      obtain ⟨j0, kj, y0, y1, y2⟩ := info_parts infoS
      have hbb := hB.alloc hB.size (.cells #[.slice (some ⟨g, 0, none⟩) (2 * 20) capN] 22)
      go_wp2_with (at_builtin; refine wpList_append_own _ rfl _ _ 25 rfl W.heap.size 22 j0 (.slice none 0 0) 1 24 Try.underlying25 kj y0 y1 y2 rfl (by decide) (.slice none 0 0) 0 [] rfl (World.ownsRow_nil _ _ _ _) ⟨wr.heap.size, 0, none⟩ 1 1 [.slice (some ⟨g, 0, none⟩) (2 * 20) capN] rfl rfl (cell_one_new _ _ _) (by simp [Value.oneCell']) (by unfold maxLen; omega) (by omega) (by have := hB.size; simp; omega) ?_; intro v' w2 hown' hgrow _; obtain ⟨g2, cap2, rfl⟩ := own_some hown' (by omega); have hbw := hbb.grown hgrow (by have := hB.size; simp; omega) (by simp [Value.ownBlock]); have q3 := (hbw.cell (p := ⟨R, 1, none⟩) hRlt).trans r1; have q4 := (hbw.frozen (p := ⟨R, 1, none⟩) hRlt).trans r2)
      have hk3 := (ho.alloc (.cells #[.slice (some ⟨g, 0, none⟩) (2 * 20) capN] 22)).kept hgrow (.inr (by simp [Value.ownBlock]))
      have hc3 := hown'.cellAt 0 (by omega)
      go_ret
      exact ⟨g, rfl, g2, cap2, capN, w2, hbw, rfl, hk3, by simpa using hc3, (hown'.lt g2 rfl).1⟩

theorem ints_any (R : Nat) (a : Option Addr) (cap : Nat) (zs : List Int) (W : World) (hN : Nums W a zs) (r1 : W.cell? ⟨R, 1, none⟩ = some (.slice none 0 0)) (r2 : W.frozen? ⟨R, 1, none⟩ = false) :
    Calls Try.prog 4 #[.pointer (some ⟨R, 0, none⟩), .slice a zs.length cap] W fun e W' => ∃ (g g2 cap2 capN : Nat) (Wm : World), e = .returned (.slice (some ⟨g, 0, none⟩) zs.length (zs.length + 40)) ∧ Below W.heap.size W Wm ∧ W' = Wm.setCell ⟨R, 1, none⟩ (.slice (some ⟨g2, 0, none⟩) 1 cap2) ∧ Wm.ownsRow W.heap.size 3 1 (.slice (some ⟨g, 0, none⟩) (zs.length + 40) capN) (zs.length + 40) (zs.map (Value.int .i64) ++ marks 40) ∧ Wm.cell? ⟨g2, 0, none⟩ = some (.slice (some ⟨g, 0, none⟩) (zs.length + 40) capN) ∧ W.heap.size ≤ g2 := by
  obtain ⟨⟨h0, hwf⟩, rfl | ⟨b, off, rfl, hlt, hc⟩⟩ := hN
  · exact ints_nil R cap a W r1 r2
  · exact ints_some R b off cap zs W h0 hlt hc r1 r2

end Go.Proofs.Ytaecodgmfmijlaa

import Derived.Test.YtoeabponjdkpjaaDoorRHoldBands
namespace Go.Proofs.YtoeabponjdkpjaaDoor
open Go.RowKit

theorem cells4_at (W : World) (n : Nat) (hn : n = W.heap.size) (a b c d : Value) (t : TypeId) : ∀ j u, ([a, b, c, d] : List Value)[j]? = some u → (W.alloc (.cells #[a, b, c, d] t)).cell? ((⟨n, 0, none⟩ : Addr).add j) = some u := by
  subst hn
  intro j u h
  match j, h with
  | 0, h => simpa [Addr.add] using h
  | 1, h => simpa [Addr.add] using h
  | 2, h => simpa [Addr.add] using h
  | 3, h => simpa [Addr.add] using h
  | j + 4, h => simp at h

/-- The first k marks. -/
def bmarks (k : Nat) : List (Int × Int) := (List.range k).map fun i => (markB i, 0)
theorem bmarks_two (k : Nat) (h : k % 2 = 0) : bmarks (k + 2) = bmarks k ++ [(-7701, 0), (-7702, 0)] := by
  unfold bmarks
  rw [List.range_succ, List.range_succ]
  simp [markB, h]
  omega
theorem bmarks_len (k : Nat) : (bmarks k).length = k := by simp [bmarks]
theorem bmarks_at {k i : Nat} (h : i < k) : (bmarks k).getD i (0, 0) = (markB i, 0) := by simp [bmarks, List.getD, h]
theorem flat2_app (a b : List (Int × Int)) : flat2 (a ++ b) = flat2 a ++ flat2 b := by simp [flat2]
theorem infoSB : (Tryd.prog.info? 33).map (fun i => (i.zero, i.size, i.bytes)) = some (some (.slice none 0 0), 1, 24) := by kernel_rfl

theorem own_cap {w : World} {base n size g cap : Nat} {e : TypeId} {xs : List Value} (h : w.ownsRow base e size (.slice (some ⟨g, 0, none⟩) n cap) n xs) : n ≤ cap := by
  obtain ⟨_, h | ⟨g', cap', cur, h1, _, _, h2, _⟩⟩ := h
  · simp at h
  · simp at h1
    omega
theorem one_cell (W : World) (n : Nat) (hn : n = W.heap.size) (a : Value) (t : TypeId) : ∀ j u, ([a] : List Value)[j]? = some u → (W.alloc (.cells #[a] t)).cell? ((⟨n, 0, none⟩ : Addr).add j) = some u := by
  subst hn
  intro j u h
  match j, h with
  | 0, h => simpa [Addr.add] using h
  | j + 1, h => simp at h

def BandsIs (R : Nat) (bs : List (Int × Int)) (W : World) (e : Ending) (W' : World) : Prop := ∃ (g g2 cap2 capN : Nat) (Wm : World), e = .returned (.slice (some ⟨g, 0, none⟩) bs.length (bs.length + 40)) ∧ Below W.heap.size W Wm ∧ W' = Wm.setCell ⟨R, 6, none⟩ (.slice (some ⟨g2, 0, none⟩) 1 cap2) ∧ Wm.ownsRow W.heap.size 39 2 (.slice (some ⟨g, 0, none⟩) (bs.length + 40) capN) (bs.length + 40) (flat2 (bs ++ bmarks 40)) ∧ Wm.cell? ⟨g2, 0, none⟩ = some (.slice (some ⟨g, 0, none⟩) (bs.length + 40) capN) ∧ W.heap.size ≤ g2

set_option maxRecDepth 100000 in
set_option maxHeartbeats 2000000 in
theorem bands_some (R b off cap : Nat) (bs : List (Int × Int)) (W : World) (h8 : bs.length ≤ 16384) (hb : b < W.heap.size)
    (hc : Hid (∀ i, i < bs.length → W.cell? ⟨b, off + i * 2, none⟩ = some (.int .i64 (bs.getD i (0, 0)).1) ∧ W.cell? ⟨b, off + i * 2 + 1, none⟩ = some (.int .i64 (bs.getD i (0, 0)).2))) (r1 : W.cell? ⟨R, 6, none⟩ = some (.slice none 0 0)) (r2 : W.frozen? ⟨R, 6, none⟩ = false) :
    Calls Tryd.prog 21 #[.pointer (some ⟨R, 0, none⟩), .slice (some ⟨b, off, none⟩) bs.length cap] W (BandsIs R bs W) := by
  obtain ⟨i0, hi, hz0, hz1, hz2⟩ := info_parts infoB
  have hrow0 := World.ownsRow_lit (base := W.heap.size) (e := 39) (size := 2) W #[] 0 (Nat.le_refl _) (by unfold maxLen; omega) rfl
  go_enter Tryd.func21, Tryd.ntmps21
  go_wp2
  go_loopw [5, 6] (fun v x wr => ∃ k : Nat, k ≤ bs.length ∧ x = .int .i64 k ∧ wr.ownsRow W.heap.size 39 2 v k (flat2 (bs.take k)) ∧ Below W.heap.size W wr) (fun _ x _ => bs.length - (intOf x).toNat)
  case atStart => exact ⟨0, by omega, rfl, hrow0, (Below.refl _ _).alloc (Nat.le_refl _) _⟩
  case round =>
    obtain ⟨k, hk, rfl, ho1, hB1⟩ := hrel
    by_cases hlt : k < bs.length
    · obtain ⟨⟨x, y⟩, hx⟩ : ∃ x, bs.getD k (0, 0) = x := ⟨_, rfl⟩
      obtain ⟨c0, c1⟩ := hc.out k hlt
      rw [hx] at c0 c1
      have hcx : wr.cell? ⟨b, off + k * 2, none⟩ = some (.int .i64 x) := (hB1.cell (p := ⟨b, off + k * 2, none⟩) hb).trans c0
      have hcy : wr.cell? ⟨b, off + k * 2 + 1, none⟩ = some (.int .i64 y) := (hB1.cell (p := ⟨b, off + k * 2 + 1, none⟩) hb).trans c1
      have htk : Hid (bs.take (k + 1) = bs.take k ++ [(x, y)]) := by unfold Hid; rw [List.take_add_one, ← hx]; simp [List.getD, hlt]
      clear hx c0 c1
      go_wp2_with (at_builtin; refine wpList_append_own _ rfl _ _ 33 rfl W.heap.size 39 i0 _ 2 16 Tryd.underlying33 hi hz0 hz1 hz2 rfl (by decide) _ _ _ rfl (ho1.alloc _) ⟨wr.heap.size, 0, none⟩ 1 1 [.int .i64 x, .int .i64 y] rfl rfl (cells2_at _ _ rfl _ _ _) (ints_oneCell .i64 [x, y]) (by unfold maxLen; omega) (by omega) (by have := hB1.size; simp; omega) ?_; intro v' w2 hown' hgrow _)
      go_roundw
      case rel => exact ⟨k + 1, by omega, by go_num, by rw [htk.out, flat2_snoc]; exact hown', (hB1.alloc hB1.size _).grown hgrow (by have := hB1.size; simp; omega) (fun j hj => (ho1.lt j hj).1)⟩
      case measure => simp [intOf]; omega
    · obtain rfl : k = bs.length := by omega
      rw [List.take_length] at ho1
      go_wp2
      go_loopw [5, 7] (fun v x wr => ∃ k : Nat, k ≤ 20 ∧ x = .int .i64 ((2 * k : Nat) : Int) ∧ wr.ownsRow W.heap.size 39 2 v (bs.length + 2 * k) (flat2 (bs ++ bmarks (2 * k))) ∧ Below W.heap.size W wr) (fun _ x _ => (41 - intOf x).toNat)
      case atStart => exact ⟨0, by omega, rfl, by simpa [bmarks] using ho1, hB1⟩
      case round =>
        obtain ⟨k, hk, rfl, ho, hB⟩ := hrel
        by_cases hk2 : k < 20
        · have hkk : ((2 * k : Nat) : Int) < 40 := by omega
          go_wp2_with (at_builtin; refine wpList_append_own _ rfl _ _ 33 rfl W.heap.size 39 i0 _ 2 16 Tryd.underlying33 hi hz0 hz1 hz2 rfl (by decide) _ _ _ rfl (ho.alloc _) ⟨wr.heap.size, 0, none⟩ 2 2 [.int .i64 (-7701), .int .i64 0, .int .i64 (-7702), .int .i64 0] rfl rfl (cells4_at _ _ rfl _ _ _ _ _) (ints_oneCell .i64 [-7701, 0, -7702, 0]) (by unfold maxLen; omega) (by omega) (by have := hB.size; simp; omega) ?_; intro v' w2 hown' hgrow _)
          go_roundw
          case rel =>
            refine ⟨k + 1, by omega, by go_num, ?_, (hB.alloc hB.size _).grown hgrow (by have := hB.size; simp; omega) (fun j hj => (ho.lt j hj).1)⟩
            rw [show 2 * (k + 1) = 2 * k + 2 by omega, bmarks_two _ (by omega), ← List.append_assoc, ← Nat.add_assoc, flat2_app _ [(-7701, 0), (-7702, 0)]]
            exact hown'
          case measure => simp [intOf]; omega
        · obtain rfl : k = 20 := by omega
          obtain ⟨g, capN, rfl⟩ := own_some ho (by omega)
          have hcN := own_cap ho
          have q1 := (hB.cell (p := ⟨R, 6, none⟩) (World.block_lt_of_cell? _ _ r1)).trans r1
          have q2 := (hB.frozen (p := ⟨R, 6, none⟩) (World.block_lt_of_cell? _ _ r1)).trans r2
          have hRlt := World.block_lt_of_cell? _ _ r1
          obtain ⟨j0, kj, y0, y1, y2⟩ := info_parts infoSB
          have hbb := hB.alloc hB.size (.cells #[.slice (some ⟨g, 0, none⟩) (bs.length + 2 * 20) capN] 33)
          go_wp2_with (at_builtin; refine wpList_append_own _ rfl _ _ 57 rfl W.heap.size 33 j0 (.slice none 0 0) 1 24 Tryd.underlying57 kj y0 y1 y2 rfl (by decide) (.slice none 0 0) 0 [] rfl (World.ownsRow_nil _ _ _ _) ⟨wr.heap.size, 0, none⟩ 1 1 [.slice (some ⟨g, 0, none⟩) (bs.length + 2 * 20) capN] rfl rfl (one_cell _ _ rfl _ _) (by simp [Value.oneCell']) (by unfold maxLen; omega) (by omega) (by have := hB.size; simp; omega) ?_; intro v' w2 hown' hgrow _; obtain ⟨g2, cap2, rfl⟩ := own_some hown' (by omega); have hbw := hbb.grown hgrow (by have := hB.size; simp; omega) (by simp [Value.ownBlock]); have q3 := (hbw.cell (p := ⟨R, 6, none⟩) hRlt).trans r1; have q4 := (hbw.frozen (p := ⟨R, 6, none⟩) hRlt).trans r2)
          have hk3 := (ho.alloc (.cells #[.slice (some ⟨g, 0, none⟩) (bs.length + 2 * 20) capN] 33)).kept hgrow (.inr (by simp [Value.ownBlock]))
          have hc3 := hown'.cellAt 0 (by omega)
          go_ret
          exact ⟨g, g2, cap2, capN, w2, rfl, hbw, rfl, hk3, by simpa using hc3, (hown'.lt g2 rfl).1⟩

set_option maxRecDepth 100000 in
set_option maxHeartbeats 2000000 in
theorem bands_nil (R cap : Nat) (a : Option Addr) (W : World) (r1 : W.cell? ⟨R, 6, none⟩ = some (.slice none 0 0)) (r2 : W.frozen? ⟨R, 6, none⟩ = false) :
    Calls Tryd.prog 21 #[.pointer (some ⟨R, 0, none⟩), .slice a 0 cap] W (BandsIs R [] W) := by
  obtain ⟨i0, hi, hz0, hz1, hz2⟩ := info_parts infoB
  have hrow0 := World.ownsRow_lit (base := W.heap.size) (e := 39) (size := 2) W #[] 0 (Nat.le_refl _) (by unfold maxLen; omega) rfl
  go_enter Tryd.func21, Tryd.ntmps21
  go_wp2
  refine wp_loop_rounds 1 ?_
  rw [rounds_succ]
  go_wp2
  go_loopw [5, 7] (fun v x wr => ∃ k : Nat, k ≤ 20 ∧ x = .int .i64 ((2 * k : Nat) : Int) ∧ wr.ownsRow W.heap.size 39 2 v (2 * k) (flat2 (bmarks (2 * k))) ∧ Below W.heap.size W wr) (fun _ x _ => (41 - intOf x).toNat)
  case atStart => exact ⟨0, by omega, rfl, by simpa [bmarks, flat2] using hrow0, (Below.refl _ _).alloc (Nat.le_refl _) _⟩
  case round =>
    obtain ⟨k, hk, rfl, ho, hB⟩ := hrel
    by_cases hk2 : k < 20
    · have hkk : ((2 * k : Nat) : Int) < 40 := by omega
      go_wp2_with (at_builtin; refine wpList_append_own _ rfl _ _ 33 rfl W.heap.size 39 i0 _ 2 16 Tryd.underlying33 hi hz0 hz1 hz2 rfl (by decide) _ _ _ rfl (ho.alloc _) ⟨wr.heap.size, 0, none⟩ 2 2 [.int .i64 (-7701), .int .i64 0, .int .i64 (-7702), .int .i64 0] rfl rfl (cells4_at _ _ rfl _ _ _ _ _) (ints_oneCell .i64 [-7701, 0, -7702, 0]) (by unfold maxLen; omega) (by omega) (by have := hB.size; simp; omega) ?_; intro v' w2 hown' hgrow _)
      go_roundw
      case rel =>
        refine ⟨k + 1, by omega, by go_num, ?_, (hB.alloc hB.size _).grown hgrow (by have := hB.size; simp; omega) (fun j hj => (ho.lt j hj).1)⟩
        rw [show 2 * (k + 1) = 2 * k + 2 by omega, bmarks_two _ (by omega), flat2_app _ [(-7701, 0), (-7702, 0)]]
        exact hown'
      case measure => simp [intOf]; omega
    · obtain rfl : k = 20 := by omega
      obtain ⟨g, capN, rfl⟩ := own_some ho (by omega)
      have hcN := own_cap ho
      have q1 := (hB.cell (p := ⟨R, 6, none⟩) (World.block_lt_of_cell? _ _ r1)).trans r1
      have q2 := (hB.frozen (p := ⟨R, 6, none⟩) (World.block_lt_of_cell? _ _ r1)).trans r2
      have hRlt := World.block_lt_of_cell? _ _ r1
      obtain ⟨j0, kj, y0, y1, y2⟩ := info_parts infoSB
      have hbb := hB.alloc hB.size (.cells #[.slice (some ⟨g, 0, none⟩) (2 * 20) capN] 33)
      go_wp2_with (at_builtin; refine wpList_append_own _ rfl _ _ 57 rfl W.heap.size 33 j0 (.slice none 0 0) 1 24 Tryd.underlying57 kj y0 y1 y2 rfl (by decide) (.slice none 0 0) 0 [] rfl (World.ownsRow_nil _ _ _ _) ⟨wr.heap.size, 0, none⟩ 1 1 [.slice (some ⟨g, 0, none⟩) (2 * 20) capN] rfl rfl (one_cell _ _ rfl _ _) (by simp [Value.oneCell']) (by unfold maxLen; omega) (by omega) (by have := hB.size; simp; omega) ?_; intro v' w2 hown' hgrow _; obtain ⟨g2, cap2, rfl⟩ := own_some hown' (by omega); have hbw := hbb.grown hgrow (by have := hB.size; simp; omega) (by simp [Value.ownBlock]); have q3 := (hbw.cell (p := ⟨R, 6, none⟩) hRlt).trans r1; have q4 := (hbw.frozen (p := ⟨R, 6, none⟩) hRlt).trans r2)
      have hk3 := (ho.alloc (.cells #[.slice (some ⟨g, 0, none⟩) (2 * 20) capN] 33)).kept hgrow (.inr (by simp [Value.ownBlock]))
      have hc3 := hown'.cellAt 0 (by omega)
      go_ret
      exact ⟨g, g2, cap2, capN, w2, rfl, hbw, rfl, hk3, by simpa using hc3, (hown'.lt g2 rfl).1⟩

theorem bands_any (R : Nat) (a : Option Addr) (cap : Nat) (bs : List (Int × Int)) (W : World) (hV : Vals W a bs) (h8 : bs.length ≤ 16384) (r1 : W.cell? ⟨R, 6, none⟩ = some (.slice none 0 0)) (r2 : W.frozen? ⟨R, 6, none⟩ = false) :
    Calls Tryd.prog 21 #[.pointer (some ⟨R, 0, none⟩), .slice a bs.length cap] W (BandsIs R bs W) := by
  obtain ⟨_, rfl | ⟨b, off, rfl, hlt, hc⟩⟩ := hV
  · exact bands_nil R cap a W r1 r2
  · exact bands_some R b off cap bs W h8 hlt hc r1 r2

end Go.Proofs.YtoeabponjdkpjaaDoor

import Derived.Test.YtjgngmmepheioaaJoin45
import Derived.Test.YtjgngmmepheioaaGwG
namespace Go.Proofs.Ytjgngmmepheioaa.G
open Go.RowKit

/-- The marks behind a list, in turns. -/
def markB (k : Nat) : Int := if k % 2 = 0 then 165 else 90

set_option maxRecDepth 100000 in
set_option maxHeartbeats 2000000 in
theorem holdBytes_one (R g2 g cap2 capN N : Nat) (W : World) (c : W.cell? ⟨R, 0, none⟩ = some (.slice (some ⟨g2, 0, none⟩) 1 cap2)) (d : W.cell? ⟨g2, 0, none⟩ = some (.slice (some ⟨g, 0, none⟩) (N + 600) capN)) (hN : N ≤ 20000000000000)
    (m : ∀ k, k < 600 → W.cell? ⟨g, N + k, none⟩ = some (.int .u8 (markB k))) :
    Calls Try.prog 25 #[.pointer (some ⟨R, 0, none⟩)] W fun e W' => e = .returned (.bool true) ∧ Below W.heap.size W W' := by
  have hB : Below W.heap.size W (W.alloc (.cells #[.int .u8 165, .int .u8 90] 5)) := (Below.refl _ _).alloc (Nat.le_refl _) _
  have c1 := (hB.cell (p := ⟨R, 0, none⟩) (World.block_lt_of_cell? _ _ c)).trans c
  have d1 := (hB.cell (p := ⟨g2, 0, none⟩) (World.block_lt_of_cell? _ _ d)).trans d
  have m1 : ∀ k, k < 600 → (W.alloc (.cells #[.int .u8 165, .int .u8 90] 5)).cell? ⟨g, N + k, none⟩ = some (.int .u8 (markB k)) := fun k hk => (hB.cell (p := ⟨g, N + k, none⟩) (World.block_lt_of_cell? _ _ (m k hk))).trans (m k hk)
  have n0 : (W.alloc (.cells #[.int .u8 165, .int .u8 90] 5)).cell? ⟨W.heap.size, 0, none⟩ = some (.int .u8 165) := by simp
  have n1 : (W.alloc (.cells #[.int .u8 165, .int .u8 90] 5)).cell? ⟨W.heap.size, 1, none⟩ = some (.int .u8 90) := by simp
  go_enter Try.func25, Try.ntmps25
  go_wp2
  generalize hX : W.alloc (.cells #[.int .u8 165, .int .u8 90] 5) = X at *
  refine wp_loop_rounds 2 ?_
  rw [rounds_succ]
  go_wp2
  go_loopw [6] (fun v wr => ∃ k : Nat, k ≤ 600 ∧ v = .int .i64 k ∧ wr = X) (fun v _ => (601 - intOf v).toNat)
  case atStart => exact ⟨0, by omega, rfl, rfl⟩
  case round =>
    obtain ⟨k, hk, rfl, rfl⟩ := hrel
    by_cases hk2 : k < 600
    · have mk := m1 k hk2
      rcases (show k % 2 = 0 ∨ k % 2 = 1 by omega) with hp | hp
      · have em : markB k = 165 := by unfold markB; rw [if_pos hp]
        rw [em] at mk
        have hp' : (k : Int) % 2 = 0 := by omega
        go_wp2
        go_roundw
        case rel => exact ⟨k + 1, by omega, by go_num, by trivial⟩
        case measure => simp [intOf]; omega
      · have em : markB k = 90 := by unfold markB; rw [if_neg (by omega)]
        rw [em] at mk
        have hp' : (k : Int) % 2 = 1 := by omega
        go_wp2
        go_roundw
        case rel => exact ⟨k + 1, by omega, by go_num, by trivial⟩
        case measure => simp [intOf]; omega
    · obtain rfl : k = 600 := by omega
      go_wp2
      rw [rounds_succ]
      go_wp2
      go_ret
      exact ⟨rfl, hB⟩

end Go.Proofs.Ytjgngmmepheioaa.G


namespace Go.Proofs.Ytjgngmmepheioaa.G
open Go.RowKit

theorem cells2_at (W : World) (n : Nat) (hn : n = W.heap.size) (a b : Value) (t : TypeId) : ∀ j u, ([a, b] : List Value)[j]? = some u → (W.alloc (.cells #[a, b] t)).cell? ((⟨n, 0, none⟩ : Addr).add j) = some u := by
  subst hn
  intro j u h
  match j, h with
  | 0, h => simpa [Addr.add] using h
  | 1, h => simpa [Addr.add] using h
  | j + 2, h => simp at h

/-- The first k marks. -/
def marks (k : Nat) : List Value := (List.range k).map fun i => Value.int .u8 (markB i)
theorem marks_two (k : Nat) (h : k % 2 = 0) : marks (k + 2) = marks k ++ [.int .u8 165, .int .u8 90] := by
  unfold marks
  rw [List.range_succ, List.range_succ]
  simp [markB, h]
  omega
theorem marks_len (k : Nat) : (marks k).length = k := by simp [marks]
theorem infoU8 : (Try.prog.info? 5).map (fun i => (i.zero, i.size, i.bytes)) = some (some (.int .u8 0), 1, 1) := by kernel_rfl
theorem infoS : (Try.prog.info? 22).map (fun i => (i.zero, i.size, i.bytes)) = some (some (.slice none 0 0), 1, 24) := by kernel_rfl

theorem own_some {w : World} {base n size : Nat} {e : TypeId} {v : Value} {xs : List Value} (h : w.ownsRow base e size v n xs) (hn : 0 < n) : ∃ g cap, v = .slice (some ⟨g, 0, none⟩) n cap := by
  obtain ⟨_, h | ⟨g, cap, cur, rfl, _⟩⟩ := h
  · omega
  · exact ⟨g, cap, rfl⟩

theorem own_cap {w : World} {base n size g cap : Nat} {e : TypeId} {xs : List Value} (h : w.ownsRow base e size (.slice (some ⟨g, 0, none⟩) n cap) n xs) : n ≤ cap := by
  obtain ⟨_, h | ⟨g', cap', cur, h1, _, _, h2, _⟩⟩ := h
  · simp at h
  · simp at h1
    omega

set_option maxRecDepth 100000 in
set_option maxHeartbeats 4000000 in
theorem bytes_some (R b off cap : Nat) (zs : List Int) (W : World) (h8 : zs.length * 1 ≤ 140737488351232) (hb : b < W.heap.size)
    (hc : ∀ i, i < zs.length → W.cell? ⟨b, off + i, none⟩ = some (.int .u8 (zs.getD i 0))) (r1 : W.cell? ⟨R, 0, none⟩ = some (.slice none 0 0)) (r2 : W.frozen? ⟨R, 0, none⟩ = false) :
    Calls Try.prog 5 #[.pointer (some ⟨R, 0, none⟩), .slice (some ⟨b, off, none⟩) zs.length cap] W fun e W' => ∃ (g g2 cap2 capN : Nat) (Wm : World), e = .returned (.slice (some ⟨g, 0, none⟩) zs.length (zs.length + 600)) ∧ Below W.heap.size W Wm ∧ W' = Wm.setCell ⟨R, 0, none⟩ (.slice (some ⟨g2, 0, none⟩) 1 cap2) ∧ Wm.ownsRow W.heap.size 5 1 (.slice (some ⟨g, 0, none⟩) (zs.length + 600) capN) (zs.length + 600) (zs.map (Value.int .u8) ++ marks 600) ∧ Wm.cell? ⟨g2, 0, none⟩ = some (.slice (some ⟨g, 0, none⟩) (zs.length + 600) capN) ∧ W.heap.size ≤ g2 := by
  obtain ⟨i0, hi, hz0, hz1, hz2⟩ := info_parts infoU8
  have hrow0 := World.ownsRow_lit (base := W.heap.size) (e := 5) (size := 1) W #[] 0 (Nat.le_refl _) (by unfold maxLen; omega) rfl
  go_enter Try.func5, Try.ntmps5
  go_wp2
  go_loopw [5, 6] (fun v x wr => ∃ k : Nat, k ≤ zs.length ∧ x = .int .i64 k ∧ wr.ownsRow W.heap.size 5 1 v k ((zs.take k).map (Value.int .u8)) ∧ Below W.heap.size W wr) (fun _ x _ => zs.length - (intOf x).toNat)
  case atStart => exact ⟨0, by omega, rfl, hrow0, (Below.refl _ _).alloc (Nat.le_refl _) _⟩
  case round =>
    obtain ⟨k, hk, rfl, ho1, hB1⟩ := hrel
    by_cases hlt : k < zs.length
    · obtain ⟨x, hx⟩ : ∃ x, zs.getD k 0 = x := ⟨_, rfl⟩
      have hcx : wr.cell? ⟨b, off + k, none⟩ = some (.int .u8 x) := (hB1.cell (by exact hb)).trans ((hc k hlt).trans (by rw [hx]))
      have htk : zs.take (k + 1) = zs.take k ++ [x] := by rw [List.take_add_one, ← hx]; simp [List.getD, hlt]
      clear hx hc
      go_wp2_with (at_builtin; refine wpList_append_own _ rfl _ _ 22 rfl W.heap.size 5 i0 (.int .u8 0) 1 1 Try.underlying22 hi hz0 hz1 hz2 rfl (by decide) _ _ _ rfl (ho1.alloc _) ⟨wr.heap.size, 0, none⟩ 1 1 [.int .u8 x] rfl rfl (cell_one_new _ _ _) (ints_oneCell .u8 [x]) (by unfold maxLen; omega) (by omega) (by have := hB1.size; simp; omega) ?_; intro v' w2 hown' hgrow _)
      go_roundw
      case rel => exact ⟨k + 1, by omega, by go_num, by rw [htk]; simpa using hown', (hB1.alloc hB1.size _).grown hgrow (by have := hB1.size; simp; omega) (fun j hj => (ho1.lt j hj).1)⟩
      case measure => simp [intOf]; omega
    · obtain rfl : k = zs.length := by omega
      rw [List.take_length] at ho1
      clear hc
      go_wp2
      go_loopw [5, 7] (fun v x wr => ∃ k : Nat, k ≤ 300 ∧ x = .int .i64 ((2 * k : Nat) : Int) ∧ wr.ownsRow W.heap.size 5 1 v (zs.length + 2 * k) (zs.map (Value.int .u8) ++ marks (2 * k)) ∧ Below W.heap.size W wr) (fun _ x _ => (601 - intOf x).toNat)
      case atStart => exact ⟨0, by omega, rfl, by simpa [marks] using ho1, hB1⟩
      case round =>
        obtain ⟨k, hk, rfl, ho, hB⟩ := hrel
        by_cases hk2 : k < 300
        · have hkk : ((2 * k : Nat) : Int) < 600 := by omega
          go_wp2_with (at_builtin; refine wpList_append_own _ rfl _ _ 22 rfl W.heap.size 5 i0 (.int .u8 0) 1 1 Try.underlying22 hi hz0 hz1 hz2 rfl (by decide) _ _ _ rfl (ho.alloc _) ⟨wr.heap.size, 0, none⟩ 2 2 [.int .u8 165, .int .u8 90] rfl rfl (cells2_at _ _ rfl _ _ _) (ints_oneCell .u8 [165, 90]) (by unfold maxLen; omega) (by omega) (by have := hB.size; simp; omega) ?_; intro v' w2 hown' hgrow _)
          go_roundw
          case rel =>
            refine ⟨k + 1, by omega, by go_num, ?_, (hB.alloc hB.size _).grown hgrow (by have := hB.size; simp; omega) (fun j hj => (ho.lt j hj).1)⟩
            rw [show 2 * (k + 1) = 2 * k + 2 by omega, marks_two _ (by omega), ← List.append_assoc, ← Nat.add_assoc]
            exact hown'
          case measure => simp [intOf]; omega
        · obtain rfl : k = 300 := by omega
          obtain ⟨g, capN, rfl⟩ := own_some ho (by omega)
          have hcN := own_cap ho
          have q1 := (hB.cell (p := ⟨R, 0, none⟩) (World.block_lt_of_cell? _ _ r1)).trans r1
          have q2 := (hB.frozen (p := ⟨R, 0, none⟩) (World.block_lt_of_cell? _ _ r1)).trans r2
          have hRlt := World.block_lt_of_cell? _ _ r1
          obtain ⟨j0, kj, y0, y1, y2⟩ := info_parts infoS
          have hbb := hB.alloc hB.size (.cells #[.slice (some ⟨g, 0, none⟩) (zs.length + 2 * 300) capN] 22)
          go_wp2_with (at_builtin; refine wpList_append_own _ rfl _ _ 33 rfl W.heap.size 22 j0 (.slice none 0 0) 1 24 Try.underlying33 kj y0 y1 y2 rfl (by decide) (.slice none 0 0) 0 [] rfl (World.ownsRow_nil _ _ _ _) ⟨wr.heap.size, 0, none⟩ 1 1 [.slice (some ⟨g, 0, none⟩) (zs.length + 2 * 300) capN] rfl rfl (cell_one_new _ _ _) (by simp [Value.oneCell']) (by unfold maxLen; omega) (by omega) (by have := hB.size; simp; omega) ?_; intro v' w2 hown' hgrow _; obtain ⟨g2, cap2, rfl⟩ := own_some hown' (by omega); have hbw := hbb.grown hgrow (by have := hB.size; simp; omega) (by simp [Value.ownBlock]); have q3 := (hbw.cell (p := ⟨R, 0, none⟩) hRlt).trans r1; have q4 := (hbw.frozen (p := ⟨R, 0, none⟩) hRlt).trans r2)
          have hk3 := (ho.alloc (.cells #[.slice (some ⟨g, 0, none⟩) (zs.length + 2 * 300) capN] 22)).kept hgrow (.inr (by simp [Value.ownBlock]))
          have hc3 := hown'.cellAt 0 (by omega)
          go_ret
          exact ⟨g, rfl, g2, cap2, capN, w2, hbw, rfl, hk3, by simpa using hc3, (hown'.lt g2 rfl).1⟩

set_option maxRecDepth 100000 in
set_option maxHeartbeats 4000000 in
theorem bytes_nil (R cap : Nat) (a : Option Addr) (W : World) (r1 : W.cell? ⟨R, 0, none⟩ = some (.slice none 0 0)) (r2 : W.frozen? ⟨R, 0, none⟩ = false) :
    Calls Try.prog 5 #[.pointer (some ⟨R, 0, none⟩), .slice a 0 cap] W fun e W' => ∃ (g g2 cap2 capN : Nat) (Wm : World), e = .returned (.slice (some ⟨g, 0, none⟩) 0 (0 + 600)) ∧ Below W.heap.size W Wm ∧ W' = Wm.setCell ⟨R, 0, none⟩ (.slice (some ⟨g2, 0, none⟩) 1 cap2) ∧ Wm.ownsRow W.heap.size 5 1 (.slice (some ⟨g, 0, none⟩) (0 + 600) capN) (0 + 600) (marks 600) ∧ Wm.cell? ⟨g2, 0, none⟩ = some (.slice (some ⟨g, 0, none⟩) (0 + 600) capN) ∧ W.heap.size ≤ g2 := by
  obtain ⟨i0, hi, hz0, hz1, hz2⟩ := info_parts infoU8
  have hrow0 := World.ownsRow_lit (base := W.heap.size) (e := 5) (size := 1) W #[] 0 (Nat.le_refl _) (by unfold maxLen; omega) rfl
  go_enter Try.func5, Try.ntmps5
  go_wp2
  refine wp_loop_rounds 1 ?_
  rw [rounds_succ]
  go_wp2
  go_loopw [5, 7] (fun v x wr => ∃ k : Nat, k ≤ 300 ∧ x = .int .i64 ((2 * k : Nat) : Int) ∧ wr.ownsRow W.heap.size 5 1 v (2 * k) (marks (2 * k)) ∧ Below W.heap.size W wr) (fun _ x _ => (601 - intOf x).toNat)
  case atStart => exact ⟨0, by omega, rfl, by simpa [marks] using hrow0, (Below.refl _ _).alloc (Nat.le_refl _) _⟩
  case round =>
    obtain ⟨k, hk, rfl, ho, hB⟩ := hrel
    by_cases hk2 : k < 300
    · have hkk : ((2 * k : Nat) : Int) < 600 := by omega
      go_wp2_with (at_builtin; refine wpList_append_own _ rfl _ _ 22 rfl W.heap.size 5 i0 (.int .u8 0) 1 1 Try.underlying22 hi hz0 hz1 hz2 rfl (by decide) _ _ _ rfl (ho.alloc _) ⟨wr.heap.size, 0, none⟩ 2 2 [.int .u8 165, .int .u8 90] rfl rfl (cells2_at _ _ rfl _ _ _) (ints_oneCell .u8 [165, 90]) (by unfold maxLen; omega) (by omega) (by have := hB.size; simp; omega) ?_; intro v' w2 hown' hgrow _)
      go_roundw
      case rel =>
        refine ⟨k + 1, by omega, by go_num, ?_, (hB.alloc hB.size _).grown hgrow (by have := hB.size; simp; omega) (fun j hj => (ho.lt j hj).1)⟩
        rw [show 2 * (k + 1) = 2 * k + 2 by omega, marks_two _ (by omega)]
        exact hown'
      case measure => simp [intOf]; omega
    · obtain rfl : k = 300 := by omega
      obtain ⟨g, capN, rfl⟩ := own_some ho (by omega)
      have hcN := own_cap ho
      have q1 := (hB.cell (p := ⟨R, 0, none⟩) (World.block_lt_of_cell? _ _ r1)).trans r1
      have q2 := (hB.frozen (p := ⟨R, 0, none⟩) (World.block_lt_of_cell? _ _ r1)).trans r2
      have hRlt := World.block_lt_of_cell? _ _ r1
      obtain ⟨j0, kj, y0, y1, y2⟩ := info_parts infoS
      have hbb := hB.alloc hB.size (.cells #[.slice (some ⟨g, 0, none⟩) (2 * 300) capN] 22)
      go_wp2_with (at_builtin; refine wpList_append_own _ rfl _ _ 33 rfl W.heap.size 22 j0 (.slice none 0 0) 1 24 Try.underlying33 kj y0 y1 y2 rfl (by decide) (.slice none 0 0) 0 [] rfl (World.ownsRow_nil _ _ _ _) ⟨wr.heap.size, 0, none⟩ 1 1 [.slice (some ⟨g, 0, none⟩) (2 * 300) capN] rfl rfl (cell_one_new _ _ _) (by simp [Value.oneCell']) (by unfold maxLen; omega) (by omega) (by have := hB.size; simp; omega) ?_; intro v' w2 hown' hgrow _; obtain ⟨g2, cap2, rfl⟩ := own_some hown' (by omega); have hbw := hbb.grown hgrow (by have := hB.size; simp; omega) (by simp [Value.ownBlock]); have q3 := (hbw.cell (p := ⟨R, 0, none⟩) hRlt).trans r1; have q4 := (hbw.frozen (p := ⟨R, 0, none⟩) hRlt).trans r2)
      have hk3 := (ho.alloc (.cells #[.slice (some ⟨g, 0, none⟩) (2 * 300) capN] 22)).kept hgrow (.inr (by simp [Value.ownBlock]))
      have hc3 := hown'.cellAt 0 (by omega)
      go_ret
      exact ⟨g, rfl, g2, cap2, capN, w2, hbw, rfl, hk3, by simpa using hc3, (hown'.lt g2 rfl).1⟩

set_option maxRecDepth 100000 in
/-- The room's copy of bytes. -/
theorem bytes_any (R : Nat) (a : Option Addr) (cap : Nat) (l : List UInt8) (W : World) (h : InB W a cap l) (hl : l.length ≤ 1000000) (r1 : W.cell? ⟨R, 0, none⟩ = some (.slice none 0 0)) (r2 : W.frozen? ⟨R, 0, none⟩ = false) :
    Calls Try.prog 5 #[.pointer (some ⟨R, 0, none⟩), .slice a l.length cap] W fun e W' => ∃ (g g2 cap2 capN : Nat) (Wm : World), e = .returned (.slice (some ⟨g, 0, none⟩) l.length (l.length + 600)) ∧ Below W.heap.size W Wm ∧ W' = Wm.setCell ⟨R, 0, none⟩ (.slice (some ⟨g2, 0, none⟩) 1 cap2) ∧ Wm.ownsRow W.heap.size 5 1 (.slice (some ⟨g, 0, none⟩) (l.length + 600) capN) (l.length + 600) ((l.map fun x => Value.int .u8 (x.toNat : Int)) ++ marks 600) ∧ Wm.cell? ⟨g2, 0, none⟩ = some (.slice (some ⟨g, 0, none⟩) (l.length + 600) capN) ∧ W.heap.size ≤ g2 := by
  rcases h.1 with rfl | ⟨b, off, rfl, hlt, hc⟩
  · rw [List.length_nil, List.map_nil, List.nil_append]
    exact bytes_nil R cap a W r1 r2
  · have h1 := bytes_some R b off cap (l.map fun x => (x.toNat : Int)) W (by rw [List.length_map]; omega) hlt (fun i hi => by
      rw [List.length_map] at hi
      rw [hc i hi]
      simp [List.getD, hi]) r1 r2
    rw [List.length_map, List.map_map] at h1
    exact h1

end Go.Proofs.Ytjgngmmepheioaa.G

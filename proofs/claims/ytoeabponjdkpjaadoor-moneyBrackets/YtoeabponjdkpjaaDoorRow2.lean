import Derived.Test.YtoeabponjdkpjaaDoorMishap
import Derived.Test.YtoeabponjdkpjaaDoorPlain13
import Derived.Maps.AppendAt
namespace Go.Proofs.YtoeabponjdkpjaaDoor
open Go.RowKit

/-- The cells of a list of pairs. -/
def flat2 (l : List (Int × Int)) : List Value := l.flatMap fun x => [.int .i64 x.1, .int .i64 x.2]
theorem flat2_snoc (l : List (Int × Int)) (x : Int × Int) : flat2 (l ++ [x]) = flat2 l ++ [.int .i64 x.1, .int .i64 x.2] := by simp [flat2]
theorem flat2_len (l : List (Int × Int)) : (flat2 l).length = l.length * 2 := by induction l with | nil => rfl | cons x l ih => simp [flat2] at ih ⊢; omega
theorem flat2_at : ∀ (l : List (Int × Int)) (i : Nat), i < l.length → (flat2 l)[i * 2]? = some (.int .i64 (l.getD i (0, 0)).1) ∧ (flat2 l)[i * 2 + 1]? = some (.int .i64 (l.getD i (0, 0)).2)
  | [], i, h => by simp at h
  | x :: l, 0, _ => by simp [flat2]
  | x :: l, i + 1, h => by
    have := flat2_at l i (by simpa using h)
    have e : flat2 (x :: l) = [.int .i64 x.1, .int .i64 x.2] ++ flat2 l := by simp [flat2]
    rw [e, show (i + 1) * 2 = i * 2 + 2 by omega]
    simpa [Nat.add_right_comm] using this
theorem infoB : (Tryd.prog.info? 39).map (fun i => (i.zero, i.size, i.bytes)) = some (some (.agg #[.int .i64 0, .int .i64 0]), 2, 16) := by kernel_rfl
theorem own_some {w : World} {base n size : Nat} {e : TypeId} {v : Value} {xs : List Value} (h : w.ownsRow base e size v n xs) (hn : 0 < n) : ∃ g cap, v = .slice (some ⟨g, 0, none⟩) n cap := by
  obtain ⟨_, h | ⟨g, cap, cur, rfl, _⟩⟩ := h
  · omega
  · exact ⟨g, cap, rfl⟩
theorem own_at {w : World} {base g cap : Nat} {e : TypeId} {L : List (Int × Int)} (h : w.ownsRow base e 2 (.slice (some ⟨g, 0, none⟩) L.length cap) L.length (flat2 L)) {i : Nat} (hi : i < L.length) : w.cell? ⟨g, i * 2, none⟩ = some (.int .i64 (L.getD i (0, 0)).1) ∧ w.cell? ⟨g, i * 2 + 1, none⟩ = some (.int .i64 (L.getD i (0, 0)).2) := by
  obtain ⟨q0, q1⟩ := flat2_at L i hi
  exact ⟨(h.cellAt _ (by omega)).trans q0, (h.cellAt _ (by omega)).trans q1⟩
theorem vals_of_own {w : World} {base g cap : Nat} {e : TypeId} {L : List (Int × Int)} (h : w.ownsRow base e 2 (.slice (some ⟨g, 0, none⟩) L.length cap) L.length (flat2 L)) (hm : L.length ≤ maxLen) : Vals w (some ⟨g, 0, none⟩) L :=
  ⟨hm, .inr ⟨g, 0, rfl, (h.lt g rfl).2, fun i hi => by simpa using own_at h hi⟩⟩
theorem cells2_at (W : World) (n : Nat) (hn : n = W.heap.size) (a b : Value) (t : TypeId) : ∀ j u, ([a, b] : List Value)[j]? = some u → (W.alloc (.cells #[a, b] t)).cell? ((⟨n, 0, none⟩ : Addr).add j) = some u := by
  subst hn
  intro j u h
  match j, h with
  | 0, h => simpa [Addr.add] using h
  | 1, h => simpa [Addr.add] using h
  | j + 2, h => simp at h

theorem tmod_bd (x : Int) {c : Int} (hc : 0 < c) : -c < x.tmod c ∧ x.tmod c < c := ⟨Int.lt_tmod_of_pos x hc, Int.tmod_lt_of_pos x hc⟩

/-- A table that may be: the first From nought, then rising. -/
def Good (L : List (Int × Int)) : Prop := ∃ t, L = (0, 150000) :: t ∧ M.Rising 0 L
theorem Good.snoc {L : List (Int × Int)} (h : Good L) {F r : Int} (hF : F ≤ 9999999999999) (h0 : 0 ≤ r) (h1 : r ≤ 1000000) (hl : (L.getD (L.length - 1) (0, 0)).1 < F) : Good (L ++ [(F, r)]) := by
  obtain ⟨t, rfl, hr⟩ := h
  exact ⟨t ++ [(F, r)], rfl, M.rising_snoc hF h0 h1 _ 0 hr (by simp) hl⟩

set_option maxRecDepth 100000 in
set_option maxHeartbeats 2000000 in
theorem right_some (b off cap : Nat) (bs : List (Int × Int)) (W : World) (hb : b < W.heap.size) (hc : ∀ i, i < bs.length → W.cell? ⟨b, off + i * 2, none⟩ = some (.int .i64 (bs.getD i (0, 0)).1) ∧ W.cell? ⟨b, off + i * 2 + 1, none⟩ = some (.int .i64 (bs.getD i (0, 0)).2)) :
    Calls Tryd.prog 13 #[.slice (some ⟨b, off, none⟩) bs.length cap] W fun e W' => ∃ (g capL : Nat) (L : List (Int × Int)), e = .returned (.slice (some ⟨g, 0, none⟩) L.length capL) ∧ Good L ∧ L.length ≤ 8 ∧ W'.ownsRow W.heap.size 39 2 (.slice (some ⟨g, 0, none⟩) L.length capL) L.length (flat2 L) ∧ Below W.heap.size W W' := by
  obtain ⟨i0, hi, hz0, hz1, hz2⟩ := info_parts infoB
  have hrow0 := World.ownsRow_lit (base := W.heap.size) (e := 39) (size := 2) W #[.int .i64 0, .int .i64 150000] 1 (Nat.le_refl _) (by unfold maxLen; omega) rfl
  go_enter Tryd.func13, Tryd.ntmps13
  go_wp2
  go_loopw [3, 4] (fun v x wr => ∃ (k g capL : Nat) (L : List (Int × Int)), x = .int .i64 k ∧ v = .slice (some ⟨g, 0, none⟩) (k + 1) capL ∧ k ≤ 7 ∧ k ≤ bs.length ∧ L.length = k + 1 ∧ Hid (Good L) ∧ 0 ≤ (L.getD k (0, 0)).1 ∧ (L.getD k (0, 0)).1 ≤ (k : Int) * 1000000000 ∧ wr.ownsRow W.heap.size 39 2 (.slice (some ⟨g, 0, none⟩) (k + 1) capL) (k + 1) (flat2 L) ∧ Below W.heap.size W wr) (fun _ x _ => 8 - (intOf x).toNat)
  case atStart => exact ⟨0, W.heap.size, 1, [(0, 150000)], rfl, rfl, by omega, by omega, rfl, ⟨[], rfl, by simp [M.Rising]⟩, by simp, by simp, hrow0, (Below.refl _ _).alloc (Nat.le_refl _) _⟩
  case round =>
    obtain ⟨k, g, capL, L, rfl, rfl, hk7, hkb, hLl, hG, hF0, hF1, ho, hB⟩ := hrel
    by_cases hlt : k < bs.length ∧ k < 7
    · obtain ⟨hl1, hl2⟩ := hlt
      obtain ⟨c0, c1⟩ := hc k hl1
      have d0 := (hB.cell (p := ⟨b, off + k * 2, none⟩) hb).trans c0
      have d1 := (hB.cell (p := ⟨b, off + k * 2 + 1, none⟩) hb).trans c1
      have ho2 := ho
      rw [← hLl] at ho2
      obtain ⟨q0, q1⟩ := own_at ho2 (i := k) (by omega)
      generalize (bs.getD k (0, 0)).1 = x at *
      generalize (bs.getD k (0, 0)).2 = y at *
      obtain ⟨F, hF⟩ : ∃ F, (L.getD k (0, 0)).1 = F := ⟨_, rfl⟩
      rw [hF] at q0 hF0 hF1
      have hFs : Hid ((L.getD (L.length - 1) (0, 0)).1 = F) := by unfold Hid; rw [hLl]; exact hF
      obtain ⟨t1, ht1⟩ : ∃ t, x.tmod 1000000000 = t := ⟨_, rfl⟩
      have b1 : -1000000000 < t1 ∧ t1 < 1000000000 := ht1 ▸ tmod_bd x (by omega)
      obtain ⟨u1, hu1⟩ : ∃ u, (t1 + 1000000000).tmod 1000000000 = u := ⟨_, rfl⟩
      have b2 : 0 ≤ u1 ∧ u1 < 1000000000 := by rw [← hu1, Int.tmod_eq_emod_of_nonneg (by omega)]; omega
      obtain ⟨t2, ht2⟩ : ∃ t, y.tmod 1000001 = t := ⟨_, rfl⟩
      have b3 : -1000001 < t2 ∧ t2 < 1000001 := ht2 ▸ tmod_bd y (by omega)
      obtain ⟨u2, hu2⟩ : ∃ u, (t2 + 1000001).tmod 1000001 = u := ⟨_, rfl⟩
      have b4 : 0 ≤ u2 ∧ u2 < 1000001 := by rw [← hu2, Int.tmod_eq_emod_of_nonneg (by omega)]; omega
      clear hc c0 c1 hF
      go_wp2_with (at_builtin; refine wpList_append_own _ rfl _ _ 33 rfl W.heap.size 39 i0 _ 2 16 Tryd.underlying33 hi hz0 hz1 hz2 rfl (by decide) _ _ _ rfl (ho.alloc _) ⟨wr.heap.size, 0, none⟩ 1 1 [.int .i64 (F + (1 + u1)), .int .i64 u2] rfl rfl (cells2_at _ _ rfl _ _ _) (ints_oneCell .i64 [F + (1 + u1), u2]) (by unfold maxLen; omega) (by omega) (by have := hB.size; simp; omega) ?_; intro v' w2 hown' hgrow _; obtain ⟨g', cap', rfl⟩ := own_some hown' (by omega))
      go_roundw
      case rel =>
        refine ⟨k + 1, g', cap', L ++ [(F + (1 + u1), u2)], by go_num, rfl, by omega, by omega, by simp; omega, hG.out.snoc (by omega) (by omega) (by omega) (by rw [hFs.out]; omega), ?_, ?_, ?_, (hB.alloc hB.size _).grown hgrow (by have := hB.size; simp; omega) (fun j hj => (ho.lt j hj).1)⟩
        · simp [List.getD, ← hLl]; omega
        · simp [List.getD, ← hLl]; omega
        · rw [flat2_snoc]
          exact hown'
      case measure => simp [intOf]; omega
    · have hstop : ¬ ((k : Int) < bs.length) ∨ ¬ ((k : Int) < 7) := by omega
      rcases hstop with h | h
      · go_wp2
        go_ret
        exact ⟨g, capL, L, by rw [hLl]; rfl, hG.out, by omega, by rw [hLl]; exact ho, hB⟩
      · by_cases h2 : (k : Int) < bs.length
        · go_wp2
          go_ret
          exact ⟨g, capL, L, by rw [hLl]; rfl, hG.out, by omega, by rw [hLl]; exact ho, hB⟩
        · go_wp2
          go_ret
          exact ⟨g, capL, L, by rw [hLl]; rfl, hG.out, by omega, by rw [hLl]; exact ho, hB⟩

set_option maxRecDepth 100000 in
set_option maxHeartbeats 1000000 in
theorem right_nil (a : Option Addr) (cap : Nat) (W : World) :
    Calls Tryd.prog 13 #[.slice a 0 cap] W fun e W' => ∃ (g capL : Nat) (L : List (Int × Int)), e = .returned (.slice (some ⟨g, 0, none⟩) L.length capL) ∧ Good L ∧ L.length ≤ 8 ∧ W'.ownsRow W.heap.size 39 2 (.slice (some ⟨g, 0, none⟩) L.length capL) L.length (flat2 L) ∧ Below W.heap.size W W' := by
  have hrow0 := World.ownsRow_lit (base := W.heap.size) (e := 39) (size := 2) W #[.int .i64 0, .int .i64 150000] 1 (Nat.le_refl _) (by unfold maxLen; omega) rfl
  go_enter Tryd.func13, Tryd.ntmps13
  go_wp2
  refine wp_loop_rounds 1 ?_
  rw [rounds_succ]
  go_wp2
  go_ret
  exact ⟨W.heap.size, 1, [(0, 150000)], rfl, ⟨[], rfl, by simp [M.Rising]⟩, by simp, hrow0, (Below.refl _ _).alloc (Nat.le_refl _) _⟩

theorem right_any (a : Option Addr) (cap : Nat) (bs : List (Int × Int)) (W : World) (hV : Vals W a bs) :
    Calls Tryd.prog 13 #[.slice a bs.length cap] W fun e W' => ∃ (g capL : Nat) (L : List (Int × Int)), e = .returned (.slice (some ⟨g, 0, none⟩) L.length capL) ∧ Good L ∧ L.length ≤ 8 ∧ W'.ownsRow W.heap.size 39 2 (.slice (some ⟨g, 0, none⟩) L.length capL) L.length (flat2 L) ∧ Below W.heap.size W W' := by
  obtain ⟨_, rfl | ⟨b, off, rfl, hlt, hc⟩⟩ := hV
  · exact right_nil a cap W
  · exact right_some b off cap bs W hlt hc

end Go.Proofs.YtoeabponjdkpjaaDoor

import Derived.Test.YtaecodgmfmijlaaRInts
import Derived.Test.YtaecodgmfmijlaaRHoldAll
import Derived.Test.YtaecodgmfmijlaaDRDue
namespace Go.Proofs.Ytaecodgmfmijlaa
open Go.RowKit

/-- A row of numbers of its own. -/
def Rw (W : World) (g n : Nat) (f : Nat → Int) : Prop := ∀ i, i < n → W.cell? ⟨g, i, none⟩ = some (.int .i64 (f i)) ∧ W.frozen? ⟨g, i, none⟩ = false
theorem Rw.low {W W' : World} {g n m : Nat} {f : Nat → Int} (h : Rw W g n f) (hb : Below m W W') (hg : g < m) : Rw W' g n f := fun i hi => ⟨(hb.cell (p := ⟨g, i, none⟩) hg).trans (h i hi).1, (hb.frozen (p := ⟨g, i, none⟩) hg).trans (h i hi).2⟩
theorem Rw.other {W : World} {g n : Nat} {f : Nat → Int} (h : Rw W g n f) {k o : Nat} (hk : k ≠ g) (v : Value) : Rw (W.setCell ⟨k, o, none⟩ v) g n f := fun i hi => ⟨(World.cell?_setCell_other _ _ _ _ (fun e => hk (congrArg Addr.block e))).trans (h i hi).1, by rw [World.frozen?_setCell]; exact (h i hi).2⟩
theorem Rw.set {W : World} {g n : Nat} {f : Nat → Int} (h : Rw W g n f) (k : Nat) (_hk : k < n) (v : Int) : Rw (W.setCell ⟨g, k, none⟩ (.int .i64 v)) g n (fun i => if i = k then v else f i) := fun i hi => by
  refine ⟨?_, by rw [World.frozen?_setCell]; exact (h i hi).2⟩
  by_cases e : i = k
  · subst e
    rw [World.cell?_setCell_same _ _ _ (h i hi).1]
    simp
  · rw [World.cell?_setCell_other _ _ _ _ (by intro h; injection h; omega), (h i hi).1]
    dsimp only
    rw [if_neg e]
theorem rw_of_own {w : World} {base g n cap : Nat} {zs : List Int} {rest : List Value} (h : w.ownsRow base 3 1 (.slice (some ⟨g, 0, none⟩) n cap) n (zs.map (Value.int .i64) ++ rest)) : Rw w g zs.length (fun i => zs.getD i 0) := fun i hi => by
  have hl := h.1
  refine ⟨(h.cellAt i (by simp at hl; omega)).trans ?_, h.frozenAt i⟩
  rw [List.getElem?_append_left (by simpa using hi), List.getElem?_map, List.getElem?_eq_getElem hi]
  simp [List.getD, hi]
theorem nums_of_rw {w : World} {g n : Nat} {f : Nat → Int} (h : Rw w g n f) (h8 : n * 8 ≤ 140737488351232) (hwf : ∀ i, (Lit.int .i64 (f i)).wf = true) : Nums w (some ⟨g, 0, none⟩) ((List.range n).map f) := by
  refine ⟨⟨by simpa using h8, fun x hx => ?_⟩, ?_⟩
  · obtain ⟨i, _, rfl⟩ := List.mem_map.1 hx
    exact hwf i
  · by_cases h0 : n = 0
    · subst h0
      exact .inl rfl
    · refine .inr ⟨g, 0, rfl, World.block_lt_of_cell? _ _ (h 0 (by omega)).1, fun i hi => ?_⟩
      have hi' : i < n := by simpa using hi
      rw [Nat.zero_add, (h i hi').1]
      simp [List.getD, hi']
theorem nums_of_rw0 {w : World} {g : Nat} {zs : List Int} (h : Rw w g zs.length (fun i => zs.getD i 0)) (hz : zs.length * 8 ≤ 140737488351232 ∧ ∀ n ∈ zs, (Lit.int .i64 n).wf = true) (hp : 0 < zs.length) : Nums w (some ⟨g, 0, none⟩) zs :=
  ⟨hz, .inr ⟨g, 0, rfl, World.block_lt_of_cell? _ _ (h 0 hp).1, fun i hi => by rw [Nat.zero_add]; exact (h i hi).1⟩⟩
theorem step_fn {n : Int} {zs : List Int} {k : Nat} : (fun i : Nat => if i = k then wrap64 (n + (k : Int)) else if i < k then wrap64 (n + (i : Int)) else zs.getD i 0) = fun i => if i < k + 1 then wrap64 (n + (i : Int)) else zs.getD i 0 := by
  funext i
  by_cases h : i = k
  · subst h
    rw [if_pos rfl, if_pos (by omega)]
  · rw [if_neg h]
    by_cases h2 : i < k
    · rw [if_pos h2, if_pos (by omega)]
    · rw [if_neg h2, if_neg (by omega)]
theorem wf_wrap (x : Int) : (Lit.int .i64 (wrap64 x)).wf = true := by
  simp [Lit.wf, IntKind.min, IntKind.max, IntKind.signed, IntKind.bits]
  unfold wrap64
  omega
theorem room_new (W : World) (k : Nat) (hk : k < 21) : (W.alloc (.cells #[.slice none 0 0, .slice none 0 0, .slice none 0 0, .slice none 0 0, .slice none 0 0, .slice none 0 0, .slice none 0 0, .slice none 0 0, .slice none 0 0, .slice none 0 0, .slice none 0 0, .slice none 0 0, .slice none 0 0, .slice none 0 0, .slice none 0 0, .slice none 0 0, .slice none 0 0, .slice none 0 0, .slice none 0 0, .slice none 0 0, .slice none 0 0] 46)).cell? ⟨W.heap.size, k, none⟩ = some (.slice none 0 0) ∧ (W.alloc (.cells #[.slice none 0 0, .slice none 0 0, .slice none 0 0, .slice none 0 0, .slice none 0 0, .slice none 0 0, .slice none 0 0, .slice none 0 0, .slice none 0 0, .slice none 0 0, .slice none 0 0, .slice none 0 0, .slice none 0 0, .slice none 0 0, .slice none 0 0, .slice none 0 0, .slice none 0 0, .slice none 0 0, .slice none 0 0, .slice none 0 0, .slice none 0 0] 46)).frozen? ⟨W.heap.size, k, none⟩ = false := by
  refine ⟨?_, by simp⟩
  have e : (#[.slice none 0 0, .slice none 0 0, .slice none 0 0, .slice none 0 0, .slice none 0 0, .slice none 0 0, .slice none 0 0, .slice none 0 0, .slice none 0 0, .slice none 0 0, .slice none 0 0, .slice none 0 0, .slice none 0 0, .slice none 0 0, .slice none 0 0, .slice none 0 0, .slice none 0 0, .slice none 0 0, .slice none 0 0, .slice none 0 0, .slice none 0 0] : Array Value) = Array.replicate 21 (.slice none 0 0) := rfl
  rw [e]
  simp [hk]

set_option maxRecDepth 100000 in
set_option maxHeartbeats 1000000 in
theorem due_ne (n : Int) (a : Option Addr) (cap : Nat) (hcap : a = none → cap = 0) (zs : List Int) (hne : zs ≠ []) (W : World) (hN : Nums W a zs) (r e : Int) (hD : Hid (DueIs n zs r e)) (r2 e2 : Int) (hD2 : Hid (DueIs n ((List.range zs.length).map fun i : Nat => wrap64 (n + (i : Int))) r2 e2)) (r3 e3 : Int) (hD3 : Hid (DueIs n [] r3 e3)) :
    Calls Try.prog 3 #[.int .i64 n, .slice a zs.length cap] W fun e w' => e = .returned (.bool true) ∧ Below W.heap.size W w' := by
  have hl8 := hN.1.1
  have hpos : 0 < zs.length := List.length_pos_iff.2 hne
  go_enter Try.func3, Try.ntmps3
  go_wp2_with (first | (at_builtin; refine wpList_copy_own _ rfl _ _ rfl rfl a cap zs rfl hcap hN ?_; intro a1 cap1 W1 hcap1 hN1 hB1 ho1; have hN1a := hN.later hB1) | (go_at_call 4; fail))
  have hr := room_new W1
  have hBr : Below W1.heap.size W1 (W1.alloc (.cells #[.slice none 0 0, .slice none 0 0, .slice none 0 0, .slice none 0 0, .slice none 0 0, .slice none 0 0, .slice none 0 0, .slice none 0 0, .slice none 0 0, .slice none 0 0, .slice none 0 0, .slice none 0 0, .slice none 0 0, .slice none 0 0, .slice none 0 0, .slice none 0 0, .slice none 0 0, .slice none 0 0, .slice none 0 0, .slice none 0 0, .slice none 0 0] 46)) := (Below.refl _ _).alloc (Nat.le_refl _) _
  have hRb : RoomBut (W1.alloc (.cells #[.slice none 0 0, .slice none 0 0, .slice none 0 0, .slice none 0 0, .slice none 0 0, .slice none 0 0, .slice none 0 0, .slice none 0 0, .slice none 0 0, .slice none 0 0, .slice none 0 0, .slice none 0 0, .slice none 0 0, .slice none 0 0, .slice none 0 0, .slice none 0 0, .slice none 0 0, .slice none 0 0, .slice none 0 0, .slice none 0 0, .slice none 0 0] 46)) W1.heap.size 1 := fun k hk _ => (hr k hk).1
  have hr1 := hr 1 (by omega)
  have hI := ints_any W1.heap.size a cap zs _ (hN1a.later hBr) hr1.1 hr1.2
  have hsz : (W1.alloc (.cells #[.slice none 0 0, .slice none 0 0, .slice none 0 0, .slice none 0 0, .slice none 0 0, .slice none 0 0, .slice none 0 0, .slice none 0 0, .slice none 0 0, .slice none 0 0, .slice none 0 0, .slice none 0 0, .slice none 0 0, .slice none 0 0, .slice none 0 0, .slice none 0 0, .slice none 0 0, .slice none 0 0, .slice none 0 0, .slice none 0 0, .slice none 0 0] 46)).heap.size = W1.heap.size + 1 := by simp
  obtain ⟨gk, capk, hak⟩ := own_some ho1 hpos
  injection hak with hak1 _ hak2
  subst hak1
  have hK1 : Rw W1 gk zs.length (fun i => zs.getD i 0) := rw_of_own (rest := []) (by rw [List.append_nil]; exact ho1)
  have hgk := (ho1.lt gk rfl)
  have hK2 := hK1.low hBr hgk.2
  generalize W1.alloc (.cells #[.slice none 0 0, .slice none 0 0, .slice none 0 0, .slice none 0 0, .slice none 0 0, .slice none 0 0, .slice none 0 0, .slice none 0 0, .slice none 0 0, .slice none 0 0, .slice none 0 0, .slice none 0 0, .slice none 0 0, .slice none 0 0, .slice none 0 0, .slice none 0 0, .slice none 0 0, .slice none 0 0, .slice none 0 0, .slice none 0 0, .slice none 0 0] 46) = W2 at *
  refine hI.mono ?_
  clear hI hr
  rintro _ W3 ⟨g, g2, cap2, capN, Wm, rfl, hBm, rfl, hoN, hg2c, hg2⟩
  have hgl := hoN.lt g rfl
  rw [hsz] at hgl hg2
  generalize hR : W1.heap.size = R at *
  have hKm := hK2.low hBm (by rw [hsz]; omega)
  have hGm : Rw Wm g zs.length (fun i => zs.getD i 0) := rw_of_own hoN
  have hRm := hRb.later hBm
  have hMk : ∀ k, k < 40 → Wm.cell? ⟨g, zs.length + k, none⟩ = some (.int .i64 (markI k)) := fun k hk => by
    rw [hoN.cellAt _ (by omega), List.getElem?_append_right (by simp)]
    simp [marks, hk]
  have hRs : Wm.cell? ⟨R, 1, none⟩ = some (.slice none 0 0) := (hBm.cell (p := ⟨R, 1, none⟩) (by rw [hsz]; show R < R + 1; omega)).trans hr1.1
  have hRg : R ≠ g := by omega
  have hRk : R ≠ gk := by omega
  have hR2 : R ≠ g2 := by omega
  have hG3 := hGm.other (o := 1) hRg (.slice (some ⟨g2, 0, none⟩) 1 cap2)
  have hK3 := hKm.other (o := 1) hRk (.slice (some ⟨g2, 0, none⟩) 1 cap2)
  have hR3 : RoomBut (Wm.setCell ⟨R, 1, none⟩ (.slice (some ⟨g2, 0, none⟩) 1 cap2)) R 1 := fun k hk hk1 => (World.cell?_setCell_other _ _ _ _ (by intro h; injection h; omega)).trans (hRm k hk hk1)
  have c3 := World.cell?_setCell_same _ _ (.slice (some ⟨g2, 0, none⟩) 1 cap2) hRs
  have d3 := (World.cell?_setCell_other Wm ⟨R, 1, none⟩ ⟨g2, 0, none⟩ (.slice (some ⟨g2, 0, none⟩) 1 cap2) (fun h => hR2 (congrArg Addr.block h))).trans hg2c
  have m3 : ∀ k, k < 40 → (Wm.setCell ⟨R, 1, none⟩ (.slice (some ⟨g2, 0, none⟩) 1 cap2)).cell? ⟨g, zs.length + k, none⟩ = some (.int .i64 (markI k)) := fun k hk => (World.cell?_setCell_other _ _ _ _ (fun h => hRg (congrArg Addr.block h))).trans (hMk k hk)
  have hB3 : Below W.heap.size W (Wm.setCell ⟨R, 1, none⟩ (.slice (some ⟨g2, 0, none⟩) 1 cap2)) := (below_of (below_of hB1 (by rw [hR]; exact hBr)) hBm).setCell (p := ⟨R, 1, none⟩) (by have := hB1.size; show W.heap.size ≤ R; omega) _
  generalize Wm.setCell ⟨R, 1, none⟩ (.slice (some ⟨g2, 0, none⟩) 1 cap2) = X3 at *
  clear hGm hKm hRm hMk hRs hg2c hoN hBm hK2 hK1 hBr hRb hN1a ho1 hcap1 hN1
  have hDue := due_any n (some ⟨g, 0, none⟩) (zs.length + 40) zs r e hD X3 (nums_of_rw0 hG3 hN.1 hpos)
  have hz := hN.1
  go_wp2_with (first | (go_at_call 5; refine hDue.mono ?_; clear hDue; rintro _ X4 ⟨rfl, hB4⟩; have hG4 := hG3.low hB4 (World.block_lt_of_cell? _ _ (hG3 0 hpos).1); have hK4 := hK3.low hB4 (World.block_lt_of_cell? _ _ (hK3 0 hpos).1)) | (go_at_call 6; refine (rdue_any n (some ⟨gk, 0, none⟩) _ zs r e hD _ (nums_of_rw0 hK4 hz hpos)).mono ?_; rintro _ X5 ⟨rfl, hX5⟩; subst hX5))
  have glt := World.block_lt_of_cell? _ _ (hG4 0 hpos).1
  have klt := World.block_lt_of_cell? _ _ (hK4 0 hpos).1
  have hB5 := below_of hB3 hB4
  clear hG3 hK3
  go_loopw [12] (fun v wr => ∃ k : Nat, k ≤ zs.length ∧ v = .int .i64 k ∧ Below X5.heap.size X5 wr) (fun v _ => zs.length - (intOf v).toNat)
  case atStart => exact ⟨0, by omega, rfl, Below.refl _ _⟩
  case round =>
    obtain ⟨k, hk, rfl, hBi⟩ := hrel
    by_cases hlt : k < zs.length
    · have ⟨c1, _⟩ := (hG4.low hBi glt) k hlt
      have ⟨c2, _⟩ := (hK4.low hBi klt) k hlt
      clear m3 hG4 hK4
      go_wp2
      go_quiet (fail)
      go_wp2
      go_roundw
      case rel => exact ⟨k + 1, by omega, by go_num, below_drewN hBi nq⟩
      case measure => simp [intOf]; omega
    · obtain rfl : k = zs.length := by omega
      have hB6 := below_of hB4 hBi
      have hG6 := hG4.low hBi glt
      have hK6 := hK4.low hBi klt
      have hHold := hold_ints R wr (hR3.later hB6) (fun X hb => holdInts_one R g2 g cap2 capN zs.length X (((below_of hB6 hb).cell (p := ⟨R, 1, none⟩) (World.block_lt_of_cell? _ _ c3)).trans c3) (((below_of hB6 hb).cell (p := ⟨g2, 0, none⟩) (World.block_lt_of_cell? _ _ d3)).trans d3) (by omega) (fun k hk => ((below_of hB6 hb).cell (p := ⟨g, zs.length + k, none⟩) (World.block_lt_of_cell? _ _ (m3 k hk))).trans (m3 k hk)))
      have hB7 := below_of hB5 hBi
      clear m3 c3 d3 hR3 hG4 hK4 hBi hB6 hB4 hB3
      go_wp2_with (go_at_call 7; refine hHold.mono ?_; clear hHold; rintro _ X7 ⟨rfl, hb7⟩)
      have hG7 := hG6.low hb7 (World.block_lt_of_cell? _ _ (hG6 0 hpos).1)
      have hK7 := hK6.low hb7 (World.block_lt_of_cell? _ _ (hK6 0 hpos).1)
      have hB8 := below_of hB7 hb7
      clear hG6 hK6 hB7 hb7
      go_loopw [13] (fun v wr => ∃ k : Nat, k ≤ zs.length ∧ v = .int .i64 k ∧ Rw wr g zs.length (fun i => if i < k then wrap64 (n + (i : Int)) else zs.getD i 0) ∧ Rw wr gk zs.length (fun i => if i < k then wrap64 (n + (i : Int)) else zs.getD i 0) ∧ Below W.heap.size W wr) (fun v _ => zs.length - (intOf v).toNat)
      case atStart => exact ⟨0, by omega, rfl, by simpa using hG7, by simpa using hK7, hB8⟩
      case round =>
        clear hG7 hK7 hB8
        obtain ⟨k, hk, rfl, hG, hK, hB⟩ := hrel
        by_cases hlt : k < zs.length
        · have ⟨c1, f1⟩ := hG k hlt
          have ⟨c2, f2⟩ := (hK.other (o := k) (show g ≠ gk by omega) (.int .i64 (wrap64 (n + (k : Int))))) k hlt
          simp only [Nat.lt_irrefl, if_false] at c1 c2
          go_wp2
          go_roundw
          case rel =>
            refine ⟨k + 1, by omega, by go_num, ?_, ?_, (hB.setCell (p := ⟨g, k, none⟩) (show W.heap.size ≤ g by omega) _).setCell (p := ⟨gk, k, none⟩) (show W.heap.size ≤ gk by omega) _⟩
            · have := (hG.set k hlt (wrap64 (n + (k : Int)))).other (o := k) (show gk ≠ g by omega) (.int .i64 (wrap64 (n + (k : Int))))
              rwa [step_fn] at this
            · have := (hK.other (o := k) (show g ≠ gk by omega) (.int .i64 (wrap64 (n + (k : Int))))).set k hlt (wrap64 (n + (k : Int)))
              rwa [step_fn] at this
          case measure => simp [intOf]; omega
        · obtain rfl : k = zs.length := by omega
          have fin : ∀ X g, Rw X g zs.length (fun i => if i < zs.length then wrap64 (n + (i : Int)) else zs.getD i 0) → Nums X (some ⟨g, 0, none⟩) ((List.range zs.length).map fun i : Nat => wrap64 (n + (i : Int))) := fun X g h =>
            nums_of_rw (f := fun i : Nat => wrap64 (n + (i : Int))) (fun i hi => by have := h i hi; dsimp only at this ⊢; rwa [if_pos hi] at this) hl8 (fun i => wf_wrap _)
          have hlenL : ((List.range zs.length).map fun i : Nat => wrap64 (n + (i : Int))).length = zs.length := by simp
          have hDu2 := due_any n (some ⟨g, 0, none⟩) (zs.length + 40) _ r2 e2 hD2 wr (fin _ _ hG)
          have hRd2 := fun X hX => rdue_any n (some ⟨gk, 0, none⟩) capk _ r2 e2 hD2 X (fin X gk hX)
          have hDu3 := fun X => due_any n none 0 [] r3 e3 hD3 X ⟨⟨by simp, by simp⟩, .inl rfl⟩
          have hRd3 := fun X => rdue_any n none 0 [] r3 e3 hD3 X ⟨⟨by simp, by simp⟩, .inl rfl⟩
          rw [hlenL] at hDu2 hRd2
          have klt2 := World.block_lt_of_cell? _ _ (hK 0 hpos).1
          clear fin hG
          go_wp2_with (first | (go_at_call 5; refine hDu2.mono ?_; clear hDu2; rintro _ X8 ⟨rfl, hb8⟩; have hK8 := hK.low hb8 klt2; have hB8 := below_of hB hb8) | (go_at_call 6; refine (hRd2 _ hK8).mono ?_; clear hRd2; rintro _ X9 ⟨rfl, hX9⟩; subst hX9) | (go_at_call 5; refine (hDu3 _).mono ?_; clear hDu3; rintro _ X10 ⟨rfl, hb10⟩; have hB10 := below_of hB8 hb10) | (go_at_call 6; refine (hRd3 _).mono ?_; clear hRd3; rintro _ X11 ⟨rfl, hX11⟩; subst hX11))
          go_ret
          exact ⟨by simp, hB10⟩

set_option maxRecDepth 100000 in
set_option maxHeartbeats 1000000 in
theorem due_nil (n : Int) (a : Option Addr) (cap : Nat) (hcap : a = none → cap = 0) (W : World) (hN : Nums W a []) (r e : Int) (hD : Hid (DueIs n [] r e)) :
    Calls Try.prog 3 #[.int .i64 n, .slice a 0 cap] W fun e w' => e = .returned (.bool true) ∧ Below W.heap.size W w' := by
  have nil : ∀ X (a : Option Addr), Nums X a [] := fun X a => ⟨⟨by simp, by simp⟩, .inl rfl⟩
  go_enter Try.func3, Try.ntmps3
  go_wp2_with (first | (at_builtin; refine wpList_copy_own _ rfl _ _ rfl rfl a cap [] rfl hcap hN ?_; intro a1 cap1 W1 hcap1 hN1 hB1 ho1) | (go_at_call 4; fail))
  have hr := room_new W1
  have hBr : Below W1.heap.size W1 (W1.alloc (.cells #[.slice none 0 0, .slice none 0 0, .slice none 0 0, .slice none 0 0, .slice none 0 0, .slice none 0 0, .slice none 0 0, .slice none 0 0, .slice none 0 0, .slice none 0 0, .slice none 0 0, .slice none 0 0, .slice none 0 0, .slice none 0 0, .slice none 0 0, .slice none 0 0, .slice none 0 0, .slice none 0 0, .slice none 0 0, .slice none 0 0, .slice none 0 0] 46)) := (Below.refl _ _).alloc (Nat.le_refl _) _
  have hRb : RoomBut (W1.alloc (.cells #[.slice none 0 0, .slice none 0 0, .slice none 0 0, .slice none 0 0, .slice none 0 0, .slice none 0 0, .slice none 0 0, .slice none 0 0, .slice none 0 0, .slice none 0 0, .slice none 0 0, .slice none 0 0, .slice none 0 0, .slice none 0 0, .slice none 0 0, .slice none 0 0, .slice none 0 0, .slice none 0 0, .slice none 0 0, .slice none 0 0, .slice none 0 0] 46)) W1.heap.size 1 := fun k hk _ => (hr k hk).1
  have hr1 := hr 1 (by omega)
  have hI := ints_any W1.heap.size a cap [] _ (nil _ a) hr1.1 hr1.2
  have hsz : (W1.alloc (.cells #[.slice none 0 0, .slice none 0 0, .slice none 0 0, .slice none 0 0, .slice none 0 0, .slice none 0 0, .slice none 0 0, .slice none 0 0, .slice none 0 0, .slice none 0 0, .slice none 0 0, .slice none 0 0, .slice none 0 0, .slice none 0 0, .slice none 0 0, .slice none 0 0, .slice none 0 0, .slice none 0 0, .slice none 0 0, .slice none 0 0, .slice none 0 0] 46)).heap.size = W1.heap.size + 1 := by simp
  generalize W1.alloc (.cells #[.slice none 0 0, .slice none 0 0, .slice none 0 0, .slice none 0 0, .slice none 0 0, .slice none 0 0, .slice none 0 0, .slice none 0 0, .slice none 0 0, .slice none 0 0, .slice none 0 0, .slice none 0 0, .slice none 0 0, .slice none 0 0, .slice none 0 0, .slice none 0 0, .slice none 0 0, .slice none 0 0, .slice none 0 0, .slice none 0 0, .slice none 0 0] 46) = W2 at *
  refine hI.mono ?_
  clear hI hr
  rintro _ W3 ⟨g, g2, cap2, capN, Wm, rfl, hBm, rfl, hoN, hg2c, hg2⟩
  have hgl := hoN.lt g rfl
  rw [hsz] at hgl hg2
  generalize hR : W1.heap.size = R at *
  have hRm := hRb.later hBm
  have hMk : ∀ k, k < 40 → Wm.cell? ⟨g, 0 + k, none⟩ = some (.int .i64 (markI k)) := fun k hk => by
    rw [hoN.cellAt _ (by simp; omega)]
    simp [marks, hk]
  have hRs : Wm.cell? ⟨R, 1, none⟩ = some (.slice none 0 0) := (hBm.cell (p := ⟨R, 1, none⟩) (by rw [hsz]; show R < R + 1; omega)).trans hr1.1
  have hRg : R ≠ g := by omega
  have hR2 : R ≠ g2 := by omega
  have hR3 : RoomBut (Wm.setCell ⟨R, 1, none⟩ (.slice (some ⟨g2, 0, none⟩) 1 cap2)) R 1 := fun k hk hk1 => (World.cell?_setCell_other _ _ _ _ (by intro h; injection h; omega)).trans (hRm k hk hk1)
  have c3 := World.cell?_setCell_same _ _ (.slice (some ⟨g2, 0, none⟩) 1 cap2) hRs
  have d3 := (World.cell?_setCell_other Wm ⟨R, 1, none⟩ ⟨g2, 0, none⟩ (.slice (some ⟨g2, 0, none⟩) 1 cap2) (fun h => hR2 (congrArg Addr.block h))).trans hg2c
  have m3 : ∀ k, k < 40 → (Wm.setCell ⟨R, 1, none⟩ (.slice (some ⟨g2, 0, none⟩) 1 cap2)).cell? ⟨g, 0 + k, none⟩ = some (.int .i64 (markI k)) := fun k hk => (World.cell?_setCell_other _ _ _ _ (fun h => hRg (congrArg Addr.block h))).trans (hMk k hk)
  have hB3 : Below W.heap.size W (Wm.setCell ⟨R, 1, none⟩ (.slice (some ⟨g2, 0, none⟩) 1 cap2)) := (below_of (below_of hB1 (by rw [hR]; exact hBr)) hBm).setCell (p := ⟨R, 1, none⟩) (by have := hB1.size; show W.heap.size ≤ R; omega) _
  generalize Wm.setCell ⟨R, 1, none⟩ (.slice (some ⟨g2, 0, none⟩) 1 cap2) = X3 at *
  clear hRm hMk hRs hg2c hoN hBm hBr hRb ho1 hcap1 hN1
  have hDu := fun X => due_any n (some ⟨g, 0, none⟩) 40 [] r e hD X (nil _ _)
  have hRd := fun X => rdue_any n a1 cap1 [] r e hD X (nil _ _)
  have hDu3 := fun X => due_any n none 0 [] r e hD X (nil _ _)
  have hRd3 := fun X => rdue_any n none 0 [] r e hD X (nil _ _)
  go_wp2_with (first | (go_at_call 5; refine (hDu _).mono ?_; rintro _ X4 ⟨rfl, hB4⟩) | (go_at_call 6; refine (hRd _).mono ?_; rintro _ X5 ⟨rfl, hX5⟩; subst hX5))
  have hB5 := below_of hB3 hB4
  refine wp_loop_rounds 1 ?_
  rw [rounds_succ]
  have hHold := hold_ints R X5 (hR3.later hB4) (fun X hb => holdInts_one R g2 g cap2 capN 0 X (((below_of hB4 hb).cell (p := ⟨R, 1, none⟩) (World.block_lt_of_cell? _ _ c3)).trans c3) (((below_of hB4 hb).cell (p := ⟨g2, 0, none⟩) (World.block_lt_of_cell? _ _ d3)).trans d3) (by omega) (fun k hk => ((below_of hB4 hb).cell (p := ⟨g, 0 + k, none⟩) (World.block_lt_of_cell? _ _ (m3 k hk))).trans (m3 k hk)))
  clear m3 c3 d3 hR3
  go_wp2_with (go_at_call 7; refine hHold.mono ?_; clear hHold; rintro _ X7 ⟨rfl, hb7⟩)
  have hB7 := below_of hB5 hb7
  refine wp_loop_rounds 1 ?_
  rw [rounds_succ]
  go_wp2_with (first | (go_at_call 5; refine (hDu _).mono ?_; clear hDu; rintro _ X8 ⟨rfl, hb8⟩; have hB8 := below_of hB7 hb8) | (go_at_call 6; refine (hRd _).mono ?_; clear hRd; rintro _ X9 ⟨rfl, hX9⟩; subst hX9) | (go_at_call 5; refine (hDu3 _).mono ?_; clear hDu3; rintro _ X10 ⟨rfl, hb10⟩; have hB10 := below_of hB8 hb10) | (go_at_call 6; refine (hRd3 _).mono ?_; clear hRd3; rintro _ X11 ⟨rfl, hX11⟩; subst hX11))
  go_ret
  exact ⟨by simp, hB10⟩

theorem due_walk (n : Int) (a : Option Addr) (cap : Nat) (hcap : a = none → cap = 0) (zs : List Int) (W : World) (hN : Nums W a zs) :
    Calls Try.prog 3 #[.int .i64 n, .slice a zs.length cap] W fun e w' => e = .returned (.bool true) ∧ Below W.heap.size W w' := by
  obtain ⟨r, e, hD⟩ := due_ex n zs
  by_cases hne : zs = []
  · subst hne
    exact due_nil n a cap hcap W hN r e hD
  · obtain ⟨r2, e2, hD2⟩ := due_ex n ((List.range zs.length).map fun i : Nat => wrap64 (n + (i : Int)))
    obtain ⟨r3, e3, hD3⟩ := due_ex n []
    exact due_ne n a cap hcap zs hne W hN r e hD r2 e2 hD2 r3 e3 hD3

end Go.Proofs.Ytaecodgmfmijlaa

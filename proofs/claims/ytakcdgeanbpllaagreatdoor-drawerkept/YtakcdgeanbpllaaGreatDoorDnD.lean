import Derived.Test.YtakcdgeanbpllaaGreatDoorDnE
/- pieceAt. -/
namespace Go.Proofs.YtakcdgeanbpllaaGreatDoor.DJ
open Go.RowKit

set_option maxRecDepth 4000 in
set_option maxHeartbeats 1000000 in
theorem pieceAt_any (a : Option Addr) (cap : Nat) (bs : List Nat) (hcap : bs.length ≤ cap) (hl : bs.length ≤ 4611686018427387904) (num : Nat) (hn : num < 4294967296) (w : World) (h : Byts w a bs) :
    Calls Tryz.prog 139 #[.slice a bs.length cap, .int .i64 (num : Int)] w (PcP bs num a w) := by
  have hn0 : (0 : Int) ≤ (num : Int) := by omega
  have hn1 : (num : Int) < 4294967296 := by omega
  have b0 := (Below.refl w.heap.size w).alloc (Nat.le_refl _) (.cells #[.int .u32 0, .int .u8 0, .slice none 0 0] 82)
  have r0 := heap_new w (.cells #[.int .u32 0, .int .u8 0, .slice none 0 0] 82)
  have FA : whole bs num = none → ∀ X, Below w.heap.size w X → PcP bs num a w (.returned (.tuple #[.agg #[.int .u32 0, .int .u8 0, .slice none 0 0], .bool false])) X := fun hw X hX => ⟨hX, by rw [hw]⟩
  replace FA := Hid.mk FA
  by_cases h18 : bs.length < 18
  · have h18' : (bs.length : Int) < 18 := by omega
    have hw := FA.out (whole_no hn (by omega))
    replace hw := Hid.mk hw
    go_enter Tryz.func139, Tryz.ntmps139
    go_wp2
    refine bodyPost_ret (v := .tuple #[.agg #[.int .u32 0, .int .u8 0, .slice none 0 0], .bool false]) (results_cell2 Tryz.results139 _ _ w.heap.size 82 _ (0, 0) _ rfl r0 Tryz.underlying82 rfl info_piece) rfl (hw.out _ b0)
  have h18' : ¬ (bs.length : Int) < 18 := by omega
  obtain ⟨b, off, rfl, q0, l0⟩ := byts_at h (i := 0) (by omega)
  rw [Nat.add_zero] at q0
  have g0 : bs.getD 0 0 = bs[0] := by rw [List.getD_eq_getElem?_getD, List.getElem?_eq_getElem (by omega)]; rfl
  obtain ⟨W1, hW1⟩ : ∃ W1, w.alloc (.cells #[.int .u32 0, .int .u8 0, .slice none 0 0] 82) = W1 := ⟨_, rfl⟩
  rw [hW1] at b0 r0
  have hB1 := h.later b0
  have d0 : W1.cell? ⟨w.heap.size, 0, none⟩ = some (.int .u32 0) := cell_of_row _ _ 0 _ _ _ r0
  have d1 : W1.cell? ⟨w.heap.size, 1, none⟩ = some (.int .u8 0) := cell_of_row _ _ 1 _ _ _ r0
  have d2 : W1.cell? ⟨w.heap.size, 2, none⟩ = some (.slice none 0 0) := cell_of_row _ _ 2 _ _ _ r0
  have f0 := frozen_of_row W1 w.heap.size 0 _ _ r0
  have f1 := frozen_of_row W1 w.heap.size 1 _ _ r0
  have f2 := frozen_of_row W1 w.heap.size 2 _ _ r0
  have q0' : ∀ m, (W1.drewN m).cell? ⟨b, off, none⟩ = some (.int .u8 (bs[0] : Int)) := fun m => by
    have := ((Byts.later hB1 (below_drewN (Below.refl _ _) m)).2.resolve_left (fun e => by rw [e] at h18; simp at h18))
    obtain ⟨b', o', e, -, hc⟩ := this
    cases e
    have := hc 0 (by omega)
    rwa [Nat.add_zero] at this
  have c0 := q0' 0
  rw [show W1.drewN 0 = W1 from rfl] at c0
  clear q0
  replace q0' := Hid.mk q0'
  replace g0 := Hid.mk g0
  replace hl := Hid.mk hl
  replace hn := Hid.mk hn
  have hbl : 0 < bs.length := by omega
  have hbl' : (0 : Int) < (bs.length : Int) := by omega
  by_cases h82 : bs[0] = 82
  case neg =>
    have h82' : ((bs[0] : Int) != 82) = true := by rw [bne_iff_ne]; omega
    have hw := FA.out (whole_no hn.out (fun hh => h82 (g0.out ▸ hh.2.1)))
    replace hw := Hid.mk hw
    clear h82 l0
    generalize bs[0] = x at *
    clear h18
    go_enter Tryz.func139, Tryz.ntmps139
    go_wp2
    exact bodyPost_ret (v := .tuple #[.agg #[.int .u32 0, .int .u8 0, .slice none 0 0], .bool false]) (results_cell2 Tryz.results139 _ _ w.heap.size 82 _ (0, 0) _ rfl (row3 r0 _ _ _) Tryz.underlying82 rfl info_piece) rfl (hw.out _ (bset (bset (bset b0 (Nat.le_refl _) _ _) (Nat.le_refl _) _ _) (Nat.le_refl _) _ _))
  have h82' : ((bs[0] : Int) != 82) = false := by rw [h82]; rfl
  have hlt1 : w.heap.size < W1.heap.size := (Array.getElem?_eq_some_iff.1 r0).1
  have rD : ∀ m, (W1.drewN m).heap[w.heap.size]? = some (.cells #[.int .u32 0, .int .u8 0, .slice none 0 0] 82 (0, 0)) := fun m => ((below_drewN (Below.refl W1.heap.size W1) m).block _ hlt1).trans r0
  have bD : ∀ m, Below w.heap.size w (W1.drewN m) := fun m => below_drewN b0 m
  have END : whole bs num = none → ∀ m (tmps : Array Value), tmps.getD 4 undef = .pointer (some ⟨w.heap.size, 0, none⟩) → tmps.getD 5 undef = .bool false → bodyPost Tryz.prog Tryz.f139 (PcP bs num (some ⟨b, off, none⟩) w) Exit.ret { tmps := tmps, defers := [] } ((((W1.drewN m).setCell ⟨w.heap.size, 0, none⟩ (.int .u32 0)).setCell ⟨w.heap.size, 1, none⟩ (.int .u8 0)).setCell ⟨w.heap.size, 2, none⟩ (.slice none 0 0)) := fun hw m tmps ht4 ht5 => by
    have hres := results_cell2 (P := Tryz.prog) Tryz.results139 tmps _ w.heap.size 82 _ (0, 0) _ ht4 (row3 (rD m) (.int .u32 0) (.int .u8 0) (.slice none 0 0)) Tryz.underlying82 rfl info_piece
    rw [ht5] at hres
    exact bodyPost_ret (v := .tuple #[.agg #[.int .u32 0, .int .u8 0, .slice none 0 0], .bool false]) hres rfl (FA.out hw _ (bset (bset (bset (bD m) (Nat.le_refl _) _ _) (Nat.le_refl _) _ _) (Nat.le_refl _) _ _))
  replace END := Hid.mk END
  have W := fun (i : Nat) (hi : i + 4 ≤ bs.length) (m : Nat) => wordAt_any (some ⟨b, off, none⟩) cap bs i hi hl.out (W1.drewN m) (Byts.later hB1 (below_drewN (Below.refl _ _) m))
  have A1 := W 1 (by omega) 0
  rw [show W1.drewN 0 = W1 from rfl, show ((1 : Nat) : Int) = 1 from rfl] at A1
  have A9 := W 9 (by omega)
  rw [show ((9 : Nat) : Int) = 9 from rfl] at A9
  have A5 := W 5 (by omega)
  rw [show ((5 : Nat) : Int) = 5 from rfl] at A5
  obtain ⟨t1, ht1⟩ : ∃ t, told (bs.drop 1) = t := ⟨_, rfl⟩
  obtain ⟨sz, hsz⟩ : ∃ t, told (bs.drop 9) = t := ⟨_, rfl⟩
  rw [ht1] at A1
  simp only [hsz] at A9
  have hszl : sz < 4294967296 := by
    rw [← hsz]
    exact told_lt (fun x hx => h.1 x (List.mem_of_mem_drop hx))
  replace W := Hid.mk W
  replace ht1 := Hid.mk ht1
  replace hsz := Hid.mk hsz
  by_cases hnum : t1 = num
  case neg =>
    have hnum' : ((t1 : Int) != (num : Int)) = true := by rw [bne_iff_ne]; omega
    have hE := END.out (whole_no hn.out (fun hh => hnum (ht1.out ▸ hh.2.2.1)))
    replace hE := Hid.mk hE
    clear hnum l0 h82
    generalize bs[0] = x at *
    clear h18
    go_enter Tryz.func139, Tryz.ntmps139
    go_wp2_with (go_at_call 158; refine A1.mono ?_; rintro e w9 ⟨rfl, m, rfl⟩)
    exact hE.out m _ rfl rfl
  have hnum' : ((t1 : Int) != (num : Int)) = false := by rw [hnum]; simp
  by_cases hs1 : 1048576 < sz
  · have hs1' : (1048576 : Int) < (sz : Int) := by omega
    have hE := END.out (whole_no hn.out (fun hh => by have := hh.2.2.2.1; rw [hsz.out] at this; omega))
    replace hE := Hid.mk hE
    clear l0 h82 hnum
    generalize bs[0] = x at *
    clear h18
    go_enter Tryz.func139, Tryz.ntmps139
    go_wp2_with (go_at_call 158; refine A1.mono ?_; rintro e w9 ⟨rfl, m, rfl⟩; clear A1)
    refine (A9 m).mono ?_
    rintro e w9 ⟨rfl, m2, hm2⟩
    rw [drewN_add] at hm2
    subst hm2
    go_wp2
    exact hE.out _ _ rfl rfl
  have hs1' : ¬ (1048576 : Int) < (sz : Int) := by omega
  by_cases hs2 : bs.length < sz + 18
  · have hs2' : (bs.length : Int) - 14 - 4 < (sz : Int) := by omega
    have hE := END.out (whole_no hn.out (fun hh => by have := hh.2.2.2.2.1; rw [hsz.out] at this; omega))
    replace hE := Hid.mk hE
    have hb9 : (bs.length : Int) ≤ 4611686018427387904 := by have := hl.out; omega
    clear l0 h82 hnum
    generalize bs[0] = x at *
    clear h18 hs2
    go_enter Tryz.func139, Tryz.ntmps139
    go_wp2_with (go_at_call 158; refine A1.mono ?_; rintro e w9 ⟨rfl, m, rfl⟩; clear A1)
    refine (A9 m).mono ?_
    rintro e w9 ⟨rfl, m2, hm2⟩
    rw [drewN_add] at hm2
    subst hm2
    go_wp2
    exact hE.out _ _ rfl rfl
  exact pieceAt_deep b off cap bs hcap hl.out num hn.out w h (by omega) bs[0] g0.out h82 (ht1.out.trans hnum) sz hsz.out (by omega) (by omega)
end Go.Proofs.YtakcdgeanbpllaaGreatDoor.DJ

import Derived.Test.YtakcdgeanbpllaaGreatDoorDnC
import Derived.Laws.ResultCell
import Derived.Laws.Rows
import Derived.Deep.SlicePairs
/- pieceAt: the last part. -/
namespace Go.Proofs.YtakcdgeanbpllaaGreatDoor.DJ
open Go.RowKit

theorem results_cell2 {P : Program} {fn : Func} {p u : Tmp} {ty : TypeId} (h : fn.results = #[.cell p ty, .tmp u]) (tmps : Array Value) (w : World) (g : Nat) (t : TypeId) (cs : Array Value) (fr : Nat × Nat) (d : TypeDesc)
    (hp : tmps.getD p undef = .pointer (some ⟨g, 0, none⟩)) (hg : w.heap[g]? = some (.cells cs t fr)) (hu : P.underlying ty = some d) (hd : (match d with | .struct _ | .array _ _ => true | _ => false) = true) (hi : (P.info? ty).map (·.size) = some cs.size) :
    (results fn tmps).run P w = .ok (.tuple #[.agg cs, tmps.getD u undef]) w := by
  rw [results_cell_tmp h, hp]
  simp [asAddr, run_loadVar_row w g t ty cs fr d hg hu hd hi]

/-- What pieceAt answers. -/
def PcP (bs : List Nat) (num : Nat) (a : Option Addr) (w : World) (e : Ending) (w' : World) : Prop :=
  Below w.heap.size w w' ∧ match whole bs num with
    | none => e = .returned (.tuple #[.agg #[.int .u32 0, .int .u8 0, .slice none 0 0], .bool false])
    | some (s, k, bd) => ∃ b off c, a = some ⟨b, off, none⟩ ∧ e = .returned (.tuple #[.agg #[.int .u32 (s : Int), .int .u8 (k : Int), .slice (some ⟨b, off + 14, none⟩) bd.length c], .bool true]) ∧ bd.length ≤ c
theorem whole_no {bs : List Nat} {num : Nat} (hn : num < 4294967296) (h : ¬ (18 ≤ bs.length ∧ bs.getD 0 0 = 82 ∧ told (bs.drop 1) = num ∧ told (bs.drop 9) ≤ 1048576 ∧ told (bs.drop 9) + 18 ≤ bs.length ∧ ¬ (num = 0 ∧ bs.getD 13 0 ≠ 0) ∧ told (bs.drop (14 + told (bs.drop 9))) = fnv (bs.take (14 + told (bs.drop 9))))) : whole bs num = none := by
  cases hw : whole bs num with
  | none => rfl
  | some t => exact absurd (whole_inv hn hw) h
theorem bset {n : Nat} {w X : World} (h : Below n w X) {b : Nat} (hb : n ≤ b) (o : Nat) (v : Value) : Below n w (X.setCell ⟨b, o, none⟩ v) := ⟨h.os, h.tape, h.output, by simp; exact h.size, fun k hk => (Below.heap_setCell _ _ _ k (by simp; omega)).trans (h.block k hk)⟩
theorem row3 {X : World} {b : Nat} {t : TypeId} {x0 x1 x2 : Value} (h : X.heap[b]? = some (.cells #[x0, x1, x2] t (0, 0))) (v0 v1 v2 : Value) : (((X.setCell ⟨b, 0, none⟩ v0).setCell ⟨b, 1, none⟩ v1).setCell ⟨b, 2, none⟩ v2).heap[b]? = some (.cells #[v0, v1, v2] t (0, 0)) :=
  heap_setCell_same _ _ 2 _ _ _ (heap_setCell_same _ _ 1 _ _ _ (heap_setCell_same _ _ 0 _ _ _ h))
theorem info_piece : (Tryz.prog.info? 82).map (·.size) = some 3 := by kernel_rfl


theorem useP {P Q : Prop} (h : P) (k : P → Q) : Q := k h
set_option maxRecDepth 4000 in
set_option maxHeartbeats 1000000 in
theorem pieceAt_deep (b off : Nat) (cap : Nat) (bs : List Nat) (hcap : bs.length ≤ cap) (hl : bs.length ≤ 4611686018427387904) (num : Nat) (hn : num < 4294967296) (w : World) (h : Byts w (some ⟨b, off, none⟩) bs) (h18 : 18 ≤ bs.length) (x : Nat) (hx : bs.getD 0 0 = x) (h82 : x = 82) (ht1 : told (bs.drop 1) = num) (sz : Nat) (hsz : told (bs.drop 9) = sz) (hs1 : sz ≤ 1048576) (hs2 : sz + 18 ≤ bs.length) :
    Calls Tryz.prog 139 #[.slice (some ⟨b, off, none⟩) bs.length cap, .int .i64 (num : Int)] w (PcP bs num (some ⟨b, off, none⟩) w) := by
  have hn0 : (0 : Int) ≤ (num : Int) := by omega
  have hn1 : (num : Int) < 4294967296 := by omega
  have b0 := (Below.refl w.heap.size w).alloc (Nat.le_refl _) (.cells #[.int .u32 0, .int .u8 0, .slice none 0 0] 82)
  have r0 := heap_new w (.cells #[.int .u32 0, .int .u8 0, .slice none 0 0] 82)
  have h18' : ¬ (bs.length : Int) < 18 := by omega
  obtain ⟨W1, hW1⟩ : ∃ W1, w.alloc (.cells #[.int .u32 0, .int .u8 0, .slice none 0 0] 82) = W1 := ⟨_, rfl⟩
  rw [hW1] at b0 r0
  have hB1 := h.later b0
  have d0 : W1.cell? ⟨w.heap.size, 0, none⟩ = some (.int .u32 0) := cell_of_row _ _ 0 _ _ _ r0
  have d1 : W1.cell? ⟨w.heap.size, 1, none⟩ = some (.int .u8 0) := cell_of_row _ _ 1 _ _ _ r0
  have d2 : W1.cell? ⟨w.heap.size, 2, none⟩ = some (.slice none 0 0) := cell_of_row _ _ 2 _ _ _ r0
  have f0 := frozen_of_row W1 w.heap.size 0 _ _ r0
  have f1 := frozen_of_row W1 w.heap.size 1 _ _ r0
  have f2 := frozen_of_row W1 w.heap.size 2 _ _ r0
  obtain ⟨b', off', e, c0, -⟩ := byts_at hB1 (i := 0) (by omega)
  cases e
  obtain ⟨b', off', e, q13, l13⟩ := byts_at hB1 (i := 13) (by omega)
  cases e
  rw [Nat.add_zero, show bs[0] = x by rw [← hx, List.getD_eq_getElem?_getD, List.getElem?_eq_getElem (by omega)]; rfl] at c0
  have h82' : ((x : Int) != 82) = false := by rw [h82]; rfl
  have hx13 : Hid (bs.getD 13 0 = bs[13]) := ⟨by rw [List.getD_eq_getElem?_getD, List.getElem?_eq_getElem (by omega)]; rfl⟩
  obtain ⟨k13, hk13⟩ : ∃ k, bs[13] = k := ⟨_, rfl⟩
  rw [hk13] at q13 l13 hx13
  clear hk13
  obtain ⟨s5, hs5⟩ : ∃ t, told (bs.drop 5) = t := ⟨_, rfl⟩
  have hlt1 : w.heap.size < W1.heap.size := (Array.getElem?_eq_some_iff.1 r0).1
  have hbl' : (0 : Int) < (bs.length : Int) := by omega
  have hs1' : decide ((1048576 : Int) < (sz : Int)) = false := decide_eq_false (by omega)
  have hs2' : decide ((bs.length : Int) - 14 - 4 < (sz : Int)) = false := decide_eq_false (by omega)
  have hb9 : (bs.length : Int) ≤ 4611686018427387904 := by omega
  have n13 : (13 : Int) < (bs.length : Int) := by omega
  have nE : 14 + (sz : Int) ≤ (cap : Int) := by omega
  have nS : (sz : Int) ≤ 1048576 := by omega
  have nS0 : (0 : Int) ≤ (sz : Int) := by omega
  have n14 : (14 : Int) ≤ 14 + (sz : Int) := by omega
  have hbW : b < W1.heap.size := World.block_lt_of_cell? _ _ q13
  have hnn : ((num : Int) != (num : Int)) = false := by simp
  have A : ∀ (X : World) (i : Nat) (t : Nat), i + 4 ≤ bs.length → told (bs.drop i) = t → Byts X (some ⟨b, off, none⟩) bs → Calls Tryz.prog 158 #[.slice (some ⟨b, off, none⟩) bs.length cap, .int .i64 (i : Int)] X fun e X' => e = .returned (.int .u32 (t : Int)) ∧ ∃ m, X' = X.drewN m := fun X i t hi ht hX => by
    have := wordAt_any (some ⟨b, off, none⟩) cap bs i hi hl X hX
    rw [ht] at this
    exact this
  have A1 := A W1 1 num (by omega) ht1 hB1
  rw [show ((1 : Nat) : Int) = 1 from rfl] at A1
  have A9 := fun m => A (W1.drewN m) 9 sz (by omega) hsz (Byts.later hB1 (below_drewN (Below.refl _ _) m))
  rw [show ((9 : Nat) : Int) = 9 from rfl] at A9
  have A5 := fun X hX => A X 5 s5 (by omega) hs5 hX
  rw [show ((5 : Nat) : Int) = 5 from rfl] at A5
  replace A := Hid.mk A
  replace hs5 := Hid.mk hs5
  replace hsz := Hid.mk hsz
  replace ht1 := Hid.mk ht1
  replace hx := Hid.mk hx
  replace l13 := Hid.mk l13
  replace hl := Hid.mk hl
  replace hn := Hid.mk hn
  replace h82 := Hid.mk h82
  go_enter Tryz.func139, Tryz.ntmps139
  go_wp2_with (go_at_call 158; refine A1.mono ?_; rintro e w9 ⟨rfl, m, rfl⟩; clear A1)
  refine (A9 m).mono ?_
  rintro e w9 ⟨rfl, m2, hm2⟩
  rw [drewN_add] at hm2
  subst hm2
  go_upto_region 7 with fail
  have bW2 : Below W1.heap.size W1 (W1.drewN (m + m2)) := below_drewN (Below.refl _ _) _
  obtain ⟨W2, hW2⟩ : ∃ W2, W1.drewN (m + m2) = W2 := ⟨_, rfl⟩
  rw [hW2] at bW2 ⊢
  clear hW2 A9
  have e2 : W1.heap.size ≤ W2.heap.size := bW2.size
  have q13' : W2.cell? ⟨b, off + 13, none⟩ = some (.int .u8 (k13 : Int)) := (bW2.cell (p := ⟨b, off + 13, none⟩) hbW).trans q13
  go_cut [8] (fun p wx => ∃ pb, p = .pointer (some ⟨pb, 0, none⟩) ∧ wx.heap[pb]? = some (.cells #[.int .u32 (s5 : Int), .int .u8 (k13 : Int), .slice (some ⟨b, off + 14, none⟩) sz (cap - 14)] 82 (0, 0)) ∧ W1.heap.size ≤ pb ∧ Below W1.heap.size W1 wx)
  case first =>
    have Bd : Below W1.heap.size W1 W2.drew := bW2.drew
    have Ba : Below W1.heap.size W1 (W2.alloc (.cells #[.int .u32 0, .int .u8 0, .slice none 0 0] 82)).drew := (bW2.alloc e2 _).drew
    have zA : ∀ Y, Below (W2.alloc (.cells #[.int .u32 0, .int .u8 0, .slice none 0 0] 82)).drew.heap.size (W2.alloc (.cells #[.int .u32 0, .int .u8 0, .slice none 0 0] 82)).drew Y → Below W1.heap.size W1 Y ∧ Y.heap[W2.heap.size]? = some (.cells #[.int .u32 0, .int .u8 0, .slice none 0 0] 82 (0, 0)) := fun Y hY => ⟨Ba.trans (hY.mono Ba.size), (hY.block _ (by simp)).trans (heap_new W2 _)⟩
    have zB : ∀ Y, Below W2.drew.heap.size W2.drew Y → Below W1.heap.size W1 Y := fun Y hY => Bd.trans (hY.mono Bd.size)
    have A5' : ∀ X, Byts X (some ⟨b, off, none⟩) bs → Calls Tryz.prog 158 #[.slice (some ⟨b, off, none⟩) bs.length cap, .int .i64 5] X fun e X' => e = .returned (.int .u32 (s5 : Int)) ∧ Below X.heap.size X X' := fun X hX => (A5 X hX).mono (by rintro e X' ⟨rfl, m5, rfl⟩; exact ⟨rfl, below_drewN (Below.refl _ _) _⟩)
    have q13a := ((bW2.alloc e2 (.cells #[.int .u32 0, .int .u8 0, .slice none 0 0] 82)).cell (p := ⟨b, off + 13, none⟩) hbW).trans q13
    have hq14 : Hid ((14 + (sz : Int)).toNat - 14 = sz) := ⟨by omega⟩
    have c14a : ¬ 14 = cap := by omega
    have c14b : ¬ cap = 14 := by omega
    have c14c : ¬ (cap : Int) = 14 := by omega
    have c14d : ¬ (14 : Int) = (cap : Int) := by omega
    clear A5
    go_region_law (go_simp; go_at_call 158; refine (A5' _ (by first | exact hB1.later Bd | exact hB1.later Ba)).mono ?_; rintro e w9 ⟨rfl, hB9⟩; (first | (with_reducible refine useP (zA w9 hB9) ?_; rintro ⟨y1, y2⟩; have y3 := cell_of_row _ _ 0 _ _ _ y2; have y4 := cell_of_row _ _ 1 _ _ _ y2; have y5 := cell_of_row _ _ 2 _ _ _ y2; have y6 := frozen_of_row w9 W2.heap.size 0 _ _ y2; have y7 := frozen_of_row w9 W2.heap.size 1 _ _ y2; have y8 := frozen_of_row w9 W2.heap.size 2 _ _ y2; simp only [List.getElem?_toArray, List.getElem?_cons_zero, List.getElem?_cons_succ] at y3 y4 y5) | (with_reducible refine useP (zB w9 hB9) ?_; intro y1)); have y9 := (y1.cell (p := ⟨b, off + 13, none⟩) hbW).trans q13; have y10 := Nat.lt_of_lt_of_le hbW y1.size; have y11 := ((y1.alloc y1.size (.cells #[.int .u32 0, .int .u8 0, .slice none 0 0] 82)).cell (p := ⟨b, off + 13, none⟩) hbW).trans q13)
    all_goals
      clear n14 nE hs2' hs1' nS nS0 n13 hb9 hbl' h18' hnn h82' hn0 hn1 hcap h18 hs1 hs2 zA zB A5'
      first | go_meet | (go_wp2; go_meet)
    all_goals rw [hq14.out]
    all_goals first
      | exact ⟨_, rfl, heap_new w9 _, y1.size, y1.alloc y1.size _⟩
      | exact ⟨_, rfl, row3 y2 _ _ _, e2, bset (bset (bset y1 e2 _ _) e2 _ _) e2 _ _⟩
  case rest =>
    obtain ⟨pb, rfl, hrow, hpb, hBx⟩ := hcut
    have Bw : Below w.heap.size w wc := b0.trans (hBx.mono b0.size)
    have rr : wc.heap[w.heap.size]? = some (.cells #[.int .u32 0, .int .u8 0, .slice none 0 0] 82 (0, 0)) := (hBx.block _ hlt1).trans r0
    have rD : ∀ n, (wc.drewN n).heap[w.heap.size]? = some (.cells #[.int .u32 0, .int .u8 0, .slice none 0 0] 82 (0, 0)) := fun n => ((below_drewN (Below.refl wc.heap.size wc) n).block _ (Array.getElem?_eq_some_iff.1 rr).1).trans rr
    have k0 := cell_of_row _ _ 0 _ _ _ rr
    have k1 := cell_of_row _ _ 1 _ _ _ rr
    have k2 := cell_of_row _ _ 2 _ _ _ rr
    have g0 := frozen_of_row wc w.heap.size 0 _ _ rr
    have g1 := frozen_of_row wc w.heap.size 1 _ _ rr
    have g2 := frozen_of_row wc w.heap.size 2 _ _ rr
    have p0 := cell_of_row _ _ 0 _ _ _ hrow
    have p1 := cell_of_row _ _ 1 _ _ _ hrow
    have p2 := cell_of_row _ _ 2 _ _ _ hrow
    simp only [List.getElem?_toArray, List.getElem?_cons_zero, List.getElem?_cons_succ] at k0 k1 k2 p0 p1 p2
    have hBc : Byts wc (some ⟨b, off, none⟩) bs := hB1.later hBx
    obtain ⟨tE, htE⟩ : ∃ t, told (bs.drop (14 + sz)) = t := ⟨_, rfl⟩
    obtain ⟨fS, hfS⟩ : ∃ t, fnv (bs.take (14 + sz)) = t := ⟨_, rfl⟩
    have qW := fun n => Calls.quiet_of (A.out (wc.drewN n) (14 + sz) tE (by omega) htE (Byts.later hBc (below_drewN (Below.refl _ _) n)))
    rw [show (((14 + sz : Nat)) : Int) = 14 + (sz : Int) by omega] at qW
    have qS := fun n => Calls.quiet_of_same (sum_any (some ⟨b, off, none⟩) cap (bs.take (14 + sz)) (by rw [List.length_take]; omega) (wc.drewN n) (byts_take (Byts.later hBc (below_drewN (Below.refl _ _) n)) _))
    rw [show (bs.take (14 + sz)).length = (14 + (sz : Int)).toNat by rw [List.length_take]; omega] at qS
    rw [hfS] at qS
    have FA : whole bs num = none → ∀ m (tmps : Array Value), tmps.getD 4 undef = .pointer (some ⟨w.heap.size, 0, none⟩) → tmps.getD 5 undef = .bool false → bodyPost Tryz.prog Tryz.f139 (PcP bs num (some ⟨b, off, none⟩) w) Exit.ret { tmps := tmps, defers := [] } ((((wc.drewN m).setCell ⟨w.heap.size, 0, none⟩ (.int .u32 0)).setCell ⟨w.heap.size, 1, none⟩ (.int .u8 0)).setCell ⟨w.heap.size, 2, none⟩ (.slice none 0 0)) := fun hw m tmps ht4 ht5 => by
      have hres := results_cell2 (P := Tryz.prog) Tryz.results139 tmps _ w.heap.size 82 _ (0, 0) _ ht4 (row3 (rD m) (.int .u32 0) (.int .u8 0) (.slice none 0 0)) Tryz.underlying82 rfl info_piece
      rw [ht5] at hres
      exact bodyPost_ret (v := .tuple #[.agg #[.int .u32 0, .int .u8 0, .slice none 0 0], .bool false]) hres rfl ⟨bset (bset (bset (below_drewN Bw m) (Nat.le_refl _) _ _) (Nat.le_refl _) _ _) (Nat.le_refl _) _ _, by rw [hw]⟩
    have TR : whole bs num = some (s5, k13, (bs.drop 14).take sz) → ∀ m (tmps : Array Value), tmps.getD 4 undef = .pointer (some ⟨w.heap.size, 0, none⟩) → tmps.getD 5 undef = .bool true → bodyPost Tryz.prog Tryz.f139 (PcP bs num (some ⟨b, off, none⟩) w) Exit.ret { tmps := tmps, defers := [] } ((((wc.drewN m).setCell ⟨w.heap.size, 0, none⟩ (.int .u32 (s5 : Int))).setCell ⟨w.heap.size, 1, none⟩ (.int .u8 (k13 : Int))).setCell ⟨w.heap.size, 2, none⟩ (.slice (some ⟨b, off + 14, none⟩) sz (cap - 14))) := fun hw m tmps ht4 ht5 => by
      have hres := results_cell2 (P := Tryz.prog) Tryz.results139 tmps _ w.heap.size 82 _ (0, 0) _ ht4 (row3 (rD m) (.int .u32 (s5 : Int)) (.int .u8 (k13 : Int)) (.slice (some ⟨b, off + 14, none⟩) sz (cap - 14))) Tryz.underlying82 rfl info_piece
      rw [ht5] at hres
      refine bodyPost_ret (v := .tuple #[.agg #[.int .u32 (s5 : Int), .int .u8 (k13 : Int), .slice (some ⟨b, off + 14, none⟩) sz (cap - 14)], .bool true]) hres rfl ⟨bset (bset (bset (below_drewN Bw m) (Nat.le_refl _) _ _) (Nat.le_refl _) _ _) (Nat.le_refl _) _ _, ?_⟩
      rw [hw]
      have e1 : ((bs.drop 14).take sz).length = sz := by rw [List.length_take, List.length_drop]; omega
      simp only [e1]
      exact ⟨b, off, cap - 14, rfl, rfl, by omega⟩
    have hgo := fun h5 h6 => whole_go (num := num) h.1 h18 (hx.out.trans h82.out) ht1.out (by rw [hsz.out]; exact hs1) (by rw [hsz.out]; exact hs2) h5 h6
    have hno := fun hh => whole_no (bs := bs) hn.out hh
    rw [hsz.out, hs5.out, hx13.out] at hgo
    rw [hsz.out, hx13.out] at hno
    replace hgo := Hid.mk hgo
    replace hno := Hid.mk hno
    replace FA := Hid.mk FA
    replace TR := Hid.mk TR
    replace htE := Hid.mk htE
    replace hfS := Hid.mk hfS
    replace A := A
    clear rD rr hrow hBc hB1 bW2 q13 q13' c0 d0 d1 d2 f0 f1 f2 A5 r0 b0
    by_cases hF : num = 0 ∧ k13 ≠ 0
    · have hE := FA.out (hno.out (fun hh => hh.2.2.2.2.2.1 hF))
      replace hE := Hid.mk hE
      have z1 : ((num : Int) == 0) = true := by rw [hF.1]; rfl
      have z2 : ((k13 : Int) != 0) = true := by rw [bne_iff_ne]; omega
      clear hF qW qS
      go_wp2_with fail
      go_quiet (fail)
      go_wp2
      exact hE.out _ _ rfl rfl
    have hF' : ¬ (num = 0 ∧ k13 ≠ 0) := hF
    have key : ∀ (c : Bool), ((tE : Int) != (fS : Int)) = c → Hid ((c = true → ∀ m (tmps : Array Value), tmps.getD 4 undef = .pointer (some ⟨w.heap.size, 0, none⟩) → tmps.getD 5 undef = .bool false → bodyPost Tryz.prog Tryz.f139 (PcP bs num (some ⟨b, off, none⟩) w) Exit.ret { tmps := tmps, defers := [] } ((((wc.drewN m).setCell ⟨w.heap.size, 0, none⟩ (.int .u32 0)).setCell ⟨w.heap.size, 1, none⟩ (.int .u8 0)).setCell ⟨w.heap.size, 2, none⟩ (.slice none 0 0))) ∧ (c = false → ∀ m (tmps : Array Value), tmps.getD 4 undef = .pointer (some ⟨w.heap.size, 0, none⟩) → tmps.getD 5 undef = .bool true → bodyPost Tryz.prog Tryz.f139 (PcP bs num (some ⟨b, off, none⟩) w) Exit.ret { tmps := tmps, defers := [] } ((((wc.drewN m).setCell ⟨w.heap.size, 0, none⟩ (.int .u32 (s5 : Int))).setCell ⟨w.heap.size, 1, none⟩ (.int .u8 (k13 : Int))).setCell ⟨w.heap.size, 2, none⟩ (.slice (some ⟨b, off + 14, none⟩) sz (cap - 14))))) := fun c hc => ⟨⟨fun e => by
        subst e
        refine FA.out (hno.out (fun hh => ?_))
        have := hh.2.2.2.2.2.2
        rw [htE.out, hfS.out] at this
        rw [this] at hc
        simp at hc, fun e => by
        subst e
        refine TR.out (hgo.out hF' ?_)
        rw [htE.out, hfS.out]
        have := bne_eq_false_iff_eq.1 hc
        omega⟩⟩
    obtain ⟨c, hc⟩ : ∃ c, ((tE : Int) != (fS : Int)) = c := ⟨_, rfl⟩
    have hK := key c hc
    clear key FA TR hno hgo htE hfS A
    have hce : (14 + (sz : Int)).toNat ≤ cap := by omega
    have n0E : (0 : Int) ≤ 14 + (sz : Int) := by omega
    by_cases hz : num = 0
    · have z1 : ((num : Int) == 0) = true := by rw [hz]; rfl
      have z2 : ((k13 : Int) != 0) = false := by
        have : k13 = 0 := by
          apply Classical.byContradiction
          intro h9
          exact hF' ⟨hz, h9⟩
        rw [this]; rfl
      clear hz hF hF'
      cases c with
      | true =>
        go_wp2_with fail
        go_quiet (first | (go_at_call 158; with_reducible exact qW _) | (go_at_call 59; with_reducible exact qS _))
        go_wp2
        exact hK.out.1 (by first | rfl | trivial) _ _ rfl rfl
      | false =>
        go_wp2_with fail
        go_quiet (first | (go_at_call 158; with_reducible exact qW _) | (go_at_call 59; with_reducible exact qS _))
        go_wp2
        exact hK.out.2 (by first | rfl | trivial) _ _ rfl rfl
    · have z1 : ((num : Int) == 0) = false := by rw [beq_eq_false_iff_ne]; omega
      clear hz hF hF'
      cases c with
      | true =>
        go_wp2_with fail
        go_quiet (first | (go_at_call 158; with_reducible exact qW _) | (go_at_call 59; with_reducible exact qS _))
        go_wp2
        exact hK.out.1 (by first | rfl | trivial) _ _ rfl rfl
      | false =>
        go_wp2_with fail
        go_quiet (first | (go_at_call 158; with_reducible exact qW _) | (go_at_call 59; with_reducible exact qS _))
        go_wp2
        exact hK.out.2 (by first | rfl | trivial) _ _ rfl rfl
end Go.Proofs.YtakcdgeanbpllaaGreatDoor.DJ

import Derived.Test.YtakcdgeanbpllaaGreatDoorJoin54
import Derived.Test.YtakcdgeanbpllaaGreatDoorJoin50
import Derived.Test.YtakcdgeanbpllaaGreatDoorJoin49
/- world.step: Put that goes well. -/
namespace Go.Proofs.YtakcdgeanbpllaaGreatDoor.DJ
open Go.RowKit
set_option linter.constructorNameAsVariable false

theorem KpM.g {lo : Nat} {S T : Nat → Prop} {ub db wb sum g n : Nat} {d : Dk} {s : List Nat} {R : List Rec} {soft : Bool} {W : World} (h : KpM lo S T ub db wb sum g n false d s R none none soft W) : KpG lo S T ub db wb sum d s R g n (.slice none 0 0) (.slice none 0 0) soft W := by
  obtain ⟨sv, rv, lv, fv, hr, h1, h2, h3, h4⟩ := h.dat
  obtain rfl : lv = .slice none 0 0 := h3
  obtain rfl : fv = .slice none 0 0 := h4
  exact ⟨h.disk, h.drw, ⟨sv, rv, hr, h1, h2⟩, h.nwb, h.nub, h.ne, h.lwb, h.lub, h.TS⟩

set_option maxRecDepth 4000 in
set_option maxHeartbeats 1000000 in
theorem step_putO {lo db ub wb sum g n : Nat} {st : Bool} {S T : Nat → Prop} {d : Dk} {s : List Nat} {R : List Rec} {N M : Int} {a ka : Option Addr} {c kc : Nat} {bs : List Nat} {ks : List Int} (b3 : Bool) (s4 : ByteArray) (n7 : Int) (w : World) (h : KpM lo S T ub db wb sum g n st d s R none none false w) (hlo : lo ≤ w.heap.size) (ht : TabL lo w) (hI : OpIn lo w a c bs ka ks N M) (hdS : bs = [] ∨ ∀ p, a = some p → ¬ S p.block ∧ p.block ≠ wb) (hg : g ≤ 99999999) (hsum : sum < 4294967296) (hn : n + 1 < 4294967296) (kn : Nat) (hkn : N % 256 = (kn : Int)) {d' : Dk} (hP : putR d sum g n st (kn, bs) = (0, d', n + 1, false)) (hnR : Hid (R.length = n)) (hR9 : R.length ≤ 100000000) :
    Calls Tryz.prog 17 #[.pointer (some ⟨ub, 0, none⟩), .agg #[.int .i64 12, .int .i64 N, .int .i64 M, .bool b3, .string s4, .slice a bs.length c, .slice ka ks.length kc, .int .u32 n7]] w fun e w' => e = .returned (.bool true) ∧ (∃ S' T', KpG lo S' T' ub db wb sum d' s (R ++ [(kn, bs)]) g (n + 1) (.slice none 0 0) (.slice none 0 0) false w') ∧ Below lo w w' := by
  obtain ⟨W1, hW1⟩ : ∃ W1, w.alloc (.cells #[.int .i64 12, .int .i64 N, .int .i64 M, .bool b3, .string s4, .slice a bs.length c, .slice ka ks.length kc, .int .u32 n7] 52) = W1 := ⟨_, rfl⟩
  obtain ⟨b0, r0⟩ := boxed w (cs := #[.int .i64 12, .int .i64 N, .int .i64 M, .bool b3, .string s4, .slice a bs.length c, .slice ka ks.length kc, .int .u32 n7]) (t := 52)
  rw [hW1] at b0 r0
  have k0 : W1.cell? ⟨w.heap.size, 0, none⟩ = some (.int .i64 12) := cell_of_row _ _ 0 _ _ _ r0
  have k1 : W1.cell? ⟨w.heap.size, 1, none⟩ = some (.int .i64 N) := cell_of_row _ _ 1 _ _ _ r0
  have k5 : W1.cell? ⟨w.heap.size, 5, none⟩ = some (.slice a bs.length c) := cell_of_row _ _ 5 _ _ _ r0
  have hx := World.block_lt_of_cell? _ _ k0
  have hl1 : lo ≤ W1.heap.size := Nat.le_trans hlo b0.size
  have bl0 : Below lo w W1 := b0.mono hlo
  have hI1 := hI.later b0
  have hk256 : kn < 256 := by omega
  obtain ⟨la, lc, fa, fc, c5, c6, c7, c1, cf, ra, rc, c4⟩ := (h.later b0).dat.fly
  have hul := (h.later b0).dat.ult
  have hnil : ∀ (b : Nat) (W : World), (binOp BinOp.eql 28 (.pointer (some ⟨b, 0, none⟩)) (.pointer none)).run Tryz.prog W = .ok (.bool false) W := fun _ _ => rfl
  have hRc := Hid.mk (fun X (hX : Byts X a bs) => record_any N a c hI1.cap bs (Nat.le_trans hI1.len (by decide)) X hX)
  have hby1 := Hid.mk hI1.byt
  replace hdS := Hid.mk hdS
  rw [hkn] at hRc
  have hbb := Hid.mk hI1.byt.1
  have hPt := Hid.mk (fun X (hX : Below w.heap.size w X) p cc hc hN => h.put hlo ht hg hsum hn kn hk256 bs (Nat.le_trans hI1.len (by decide)) X hX p cc hc hN)
  have hW1l : W1.heap.size = w.heap.size + 1 := by rw [← hW1]; simp
  have hm := Hid.mk h
  replace c1 : W1.cell? ⟨ub, 1, none⟩ = some (.pointer (some ⟨wb, 0, none⟩)) := c1
  clear r0 h ht hkn
  simp only [hP] at hPt
  go_enter Tryz.func17, Tryz.ntmps17
  go_upto_region 18 with (go_at_call 13; refine (hRc.out _ hby1.out).mono ?_; rintro e w2 ⟨p2, c2, rfl, ho2, hb2⟩)
  obtain ⟨bA, r3⟩ := boxed w2 (cs := #[.int .u8 (kn : Int), .slice p2 bs.length c2]) (t := 38)
  obtain ⟨W3, hW3⟩ : ∃ W3, w2.alloc (.cells #[.int .u8 (kn : Int), .slice p2 bs.length c2] 38) = W3 := ⟨_, rfl⟩
  rw [hW3] at bA r3 ⊢
  have z0 : W3.cell? ⟨w2.heap.size, 0, none⟩ = some (.int .u8 (kn : Int)) := cell_of_row _ _ 0 _ _ _ r3
  have z1 : W3.cell? ⟨w2.heap.size, 1, none⟩ = some (.slice p2 bs.length c2) := cell_of_row _ _ 1 _ _ _ r3
  have hz3 := World.block_lt_of_cell? _ _ z0
  have B3 : Below W1.heap.size W1 W3 := below_step hb2 bA
  have D3 : Below W3.heap.size W3 W3.drew := (Below.refl _ _).drew
  have B3d : Below W1.heap.size W1 W3.drew := below_step B3 D3
  have Bw : Below w.heap.size w W3.drew := below_step b0 B3d
  have hby3 : Byts W3.drew p2 bs := (byts_of_own (n := bs.length) hbb.out ho2).later (below_step bA D3)
  have hP3 := hPt.out W3.drew Bw p2 c2 (own_none ho2) hby3
  have d1 : W3.drew.cell? ⟨ub, 1, none⟩ = some (.pointer (some ⟨wb, 0, none⟩)) := (B3d.cell (p := ⟨ub, 1, none⟩) hul).trans c1
  have d0 : W3.drew.cell? ⟨w2.heap.size, 0, none⟩ = some (.int .u8 (kn : Int)) := (D3.cell (p := ⟨w2.heap.size, 0, none⟩) hz3).trans z0
  have d2 : W3.drew.cell? ⟨w2.heap.size, 1, none⟩ = some (.slice p2 bs.length c2) := (D3.cell (p := ⟨w2.heap.size, 1, none⟩) hz3).trans z1
  have S3 := And.intro d1 (And.intro d0 d2)
  have k5d : W3.drew.cell? ⟨w.heap.size, 5, none⟩ = some (.slice a bs.length c) := (B3d.cell (p := ⟨w.heap.size, 5, none⟩) hx).trans k5
  have k1d : W3.drew.cell? ⟨w.heap.size, 1, none⟩ = some (.int .i64 N) := (B3d.cell (p := ⟨w.heap.size, 1, none⟩) hx).trans k1
  have hwz := b0.size
  have hw2z := hb2.size
  have hxd : w.heap.size < W3.drew.heap.size := Nat.lt_of_lt_of_le hx B3d.size
  have hzd : w2.heap.size < W3.drew.heap.size := Nat.lt_of_lt_of_le hz3 D3.size
  clear z0 z1 r3 hW3 ho2 c1 c4 c5 c6 c7 cf hby3
  go_region_held3 (fun X => X.cell? ⟨ub, 1, none⟩ = some (.pointer (some ⟨wb, 0, none⟩)) ∧ X.cell? ⟨w2.heap.size, 0, none⟩ = some (.int .u8 (kn : Int)) ∧ X.cell? ⟨w2.heap.size, 1, none⟩ = some (.slice p2 bs.length c2)) (with_reducible assumption) ((go_at_call 12; refine hP3.mono ?_; rintro e w4 ⟨rfl, ⟨S4, hM4⟩, hb4, hce, hgr4⟩; obtain ⟨la, lc, fa, fc, e5, e6, e7, e1, ef, ra, rc, e4⟩ := hM4.dat.fly; replace e1 : w4.cell? ⟨ub, 1, none⟩ = some (.pointer (some ⟨wb, 0, none⟩)) := e1; have S4' := And.intro e1 (And.intro ((hce _ _ (Nat.le_trans hwz hw2z) hzd).trans d0) ((hce _ _ (Nat.le_trans hwz hw2z) hzd).trans d2)); have j5 := (hce _ 5 (Nat.le_refl _) hxd).trans k5d; have j1 := (hce _ 1 (Nat.le_refl _) hxd).trans k1d))
  have Bl4 : Below lo W1 w4 := (B3d.mono hl1).trans hb4
  have hby4 := Hid.mk (hgr4.byts2 (hby1.out.later B3d) (hdS.out.imp id (fun hd p hp e => e.elim (hd p hp).1 (hd p hp).2)))
  clear hgr4 hdS hby1
  have BL : Below lo w w4 := bl0.trans Bl4
  have hl4 : lo ≤ w4.heap.size := Nat.le_trans hl1 Bl4.size
  have hul4 := hM4.dat.ult
  replace hM4 := Hid.mk hM4
  clear S3 S4' d0 d1 d2 k5d k1d hce hP3 hPt k0 k1 k5
  have hG4 := hM4.out.g
  obtain ⟨sv1, qa, qc, L1, hL1, hvT1, J⟩ := hG4.J
  obtain ⟨i0, hi5, hz0, hz1, hz2⟩ := info_parts infoRc
  have D5 : Below w4.heap.size w4 w4.drew := (Below.refl _ _).drew
  have hby5 := Hid.mk (hby4.out.later D5)
  have m4 := (wd_cells (J _ D5).2.1).2.2.2.2.1
  have m4' := (wd_cells (J _ (Below.refl _ _)).2.1).2.2.2.2.1
  have v1 := (D5.cell (p := ⟨w.heap.size, 1, none⟩) (World.block_lt_of_cell? _ _ j1)).trans j1
  have v5 := (D5.cell (p := ⟨w.heap.size, 5, none⟩) (World.block_lt_of_cell? _ _ j5)).trans j5
  have hwl4 := hG4.drw.lt
  have hSl4 := hG4.disk.low
  have hbN : Hid (∀ g, w4.heap.size ≤ g → ¬ S4 g ∧ g ≠ wb ∧ g ≠ ub) := ⟨fun g hg => ⟨fun e => by have := (hSl4 _ e).2; omega, by omega, by omega⟩⟩
  have hRl9 : R.length ≤ 100000000 := hR9
  replace hvT1 := Hid.mk hvT1
  replace hL1 := Hid.mk hL1
  replace J := Hid.mk J
  replace BL := Hid.mk BL
  clear hG4 e5 e6 e1 e4
  go_upto_region 22 with fail
  go_cut [6] from 87 to 100 (fun x wx => x = .int .i64 0 ∧ ∃ T', KpG lo S4 T' ub db wb sum d' s (R ++ [(kn, bs)]) g (n + 1) (.slice none 0 0) (.slice none 0 0) false wx ∧ Below lo w wx)
  case first =>
    go_region_law (first | (go_simp; go_at_call 13; refine (hRc.out _ hby5.out).mono ?_; rintro e w8 ⟨p8, c8, rfl, ho8, hb8⟩; have Q8 := below_step D5 hb8; have n1 := (wd_cells (J.out _ Q8).2.1).2.2.2.2.1; have A8 : Below w8.heap.size w8 (w8.alloc (.cells #[.int .u8 (kn : Int), .slice p8 bs.length c8] 38)) := (Below.refl _ _).alloc (Nat.le_refl _) _; have Q9 := below_step Q8 A8; have n9 := (wd_cells (J.out _ Q9).2.1).2.2.2.2.1; have hoL := (J.out _ Q9).2.2.1; have hR8 := Hid.mk (RcB.mk (x := ((kn, bs), .slice p8 bs.length c8)) hk256 hbb.out (own_later (ho8.mono hl4) A8)); have hn8 := Hid.mk (fun g (e : (Value.slice p8 bs.length c8).ownBlock = some g) => hbN.out g (own_rowT ho8 e).1)) | (refine step_append_at (P := Tryz.prog) _ rfl _ _ 29 rfl lo 38 i0 _ 2 32 Tryz.underlying29 hi5 hz0 hz1 hz2 rfl (by decide) _ R.length (rcV L1) rfl hoL ⟨w8.heap.size, 0, none⟩ 1 1 [.int .u8 (kn : Int), .slice p8 bs.length c8] rfl rfl (lit_at w8 _ _) (by simp [Value.oneCell']) (by unfold maxLen; omega) (by omega) (Nat.le_trans hl4 Q9.size) ?_; intro v' w9 hown' hgrow hat; obtain ⟨q9, k9, rfl⟩ := own_lenB hown'; have hG := Hid.mk ((J.out _ Q9).1.grow (J.out _ Q9).2.1 (J.out _ Q9).2.2.2.1 hL1.out hoL hvT1.out (J.out _ Q9).2.2.2.2 hR8.out hn8.out hgrow hown' hat (Nat.le_trans hl4 Q9.size)); have o4 := (wd_cells hG.out.1).2.2.2.2.1; have o5 := wd_frozen hG.out.1 4))
    all_goals (refine Met.intro ?_; go_step; go_meet)
    all_goals
      obtain ⟨-, ⟨T9, h9, -⟩, b9, -⟩ := hG.out
      exact ⟨rfl, T9, h9, (BL.out.trans (Q9.mono hl4)).trans b9⟩
  case rest =>
    obtain ⟨rfl, T9, hG9, hB9⟩ := hcut
    clear J hRc
    obtain ⟨sv9, rv9, hr9, -, hx9⟩ := hG9.row
    obtain ⟨ra9, rc9, rfl, -⟩ := hx9.rc.len
    rw [show (R ++ [(kn, bs)]).length = n + 1 by rw [List.length_append, hnR.out]; rfl] at hr9
    obtain ⟨-, s1, -, -, s4, s5, s6, -⟩ := wd_cells hr9
    have hLn := Hid.mk (fun m => len_any (wc.drewN m) (hG9.drw.later (below_drewN (Below.refl _ _) m)))
    have hfin : Hid (∀ m, (∃ S' T', KpG lo S' T' ub db wb sum d' s (R ++ [(kn, bs)]) g (n + 1) (.slice none 0 0) (.slice none 0 0) false (wc.drewN m)) ∧ Below lo w (wc.drewN m)) := ⟨fun m => ⟨⟨S4, T9, hG9.later (below_drewN (Below.refl _ _) m)⟩, below_drewN hB9 m⟩⟩
    clear hr9 hx9 hG9 hB9
    go_wp2_with fail
    go_quiet ((go_at_call 28; go_must (exact Calls.quiet_of_same (hLn.out _))))
    go_wp2
    go_ret
    exact ⟨rfl, hfin.out _⟩
end Go.Proofs.YtakcdgeanbpllaaGreatDoor.DJ


/- world.step, whole. -/
namespace Go.Proofs.YtakcdgeanbpllaaGreatDoor.DJ
open Go.RowKit

section
variable {lo db ub sum g : Nat} {S T : Nat → Prop} {d : Dk} {s : List Nat} {R : List Rec} {L : Option Rec} {F : Option (List Nat)} {soft : Bool} {wp : Option Nat} {N M : Int} {a ka : Option Addr} {c kc : Nat} {bs : List Nat} {ks : List Int}
theorem gen_le (g : Nat) (F : Option (List Nat)) : g ≤ gen g F := Nat.le_add_right _ _
theorem putR_o {n : Nat} {r : Rec} (hr : r.2.length ≤ 1048576) (h : (putD d sum g n r).1 = 0) : putR d sum g n false r = (0, (putD d sum g n r).2, n + 1, false) := by
  unfold putR; rw [if_neg (by decide), if_neg (by omega), if_pos h]
theorem putR_e {n : Nat} {r : Rec} (hr : r.2.length ≤ 1048576) (h : (putD d sum g n r).1 ≠ 0) : putR d sum g n false r = ((putD d sum g n r).1, (putD d sum g n r).2, n, true) := by
  unfold putR; rw [if_neg (by decide), if_neg (by omega), if_neg h]
theorem foldR_o {n : Nat} {t : List Nat} (hg : g ≠ 99999999) (hr : t.length ≤ 1048576) (h : (foldD d sum g t).1 = 0) : foldR d sum g n false t = (0, (foldD d sum g t).2, g + 1, 0, false) := by
  unfold foldR; rw [if_neg (by decide), if_neg (by omega), if_neg hg, if_pos h]
theorem foldR_e {n : Nat} {t : List Nat} (hg : g ≠ 99999999) (hr : t.length ≤ 1048576) (h : (foldD d sum g t).1 ≠ 0) : foldR d sum g n false t = ((foldD d sum g t).1, (foldD d sum g t).2, g, n, true) := by
  unfold foldR; rw [if_neg (by decide), if_neg (by omega), if_neg hg, if_neg h]

/-- A Put that goes well leaves the record behind the others. -/
theorem put_well {wb : Nat} (b3 : Bool) (s4 : ByteArray) (n7 : Int) (w : World) (h : KpS lo S T ub db sum d s R none none false (some wb) g w) (hB : Base sum s R g d.fs) (hst : DwAt w wb db sum g R.length false) (hlo : lo ≤ w.heap.size) (ht : TabL lo w) (hI : OpIn lo w a c bs ka ks N M) (hdS : bs = [] ∨ ∀ p, a = some p → ¬ S p.block ∧ p.block ≠ wb) (kn : Nat) (hkn : N % 256 = (kn : Int)) (hbs : bs.length ≤ 1048576) (hok : (putD d sum g R.length (kn, bs)).1 = 0) (hB' : Base sum s (R ++ [(kn, bs)]) g (putD d sum g R.length (kn, bs)).2.fs) :
    Calls Tryz.prog 17 #[.pointer (some ⟨ub, 0, none⟩), .agg #[.int .i64 12, .int .i64 N, .int .i64 M, .bool b3, .string s4, .slice a bs.length c, .slice ka ks.length kc, .int .u32 n7]] w fun e w' => e = .returned (.bool true) ∧ (∃ S' T', KpS lo S' T' ub db sum (putD d sum g R.length (kn, bs)).2 s (R ++ [(kn, bs)]) none none false (some wb) g w') ∧ Below lo w w' := by
  obtain ⟨n, st, hM, -, -⟩ := h.m
  have e : n = R.length ∧ st = false := by
    have := hM.drw.symm.trans hst
    simp at this
    exact ⟨by omega, this.2⟩
  obtain ⟨rfl, rfl⟩ := e
  have hRl := h.Rlen.1
  refine (step_putO b3 s4 n7 w hM hlo ht hI hdS hB.2.2.2 hB.2.1.sum (by omega) kn hkn (putR_o hbs hok) ⟨rfl⟩ (by omega)).mono ?_
  rintro e w' ⟨rfl, ⟨S', T', hG⟩, hb⟩
  refine ⟨rfl, ⟨S', T', KpG.whole ?_ hB'⟩, hb⟩
  rw [List.length_append]
  exact hG
/-- A Fold that goes well. -/
theorem fold_well {wb : Nat} (b3 : Bool) (s4 : ByteArray) (n7 : Int) (w : World) (h : KpS lo S T ub db sum d s R none none false (some wb) g w) (hB : Base sum s R g d.fs) (hst : DwAt w wb db sum g R.length false) (hlo : lo ≤ w.heap.size) (ht : TabL lo w) (hI : OpIn lo w a c bs ka ks N M) (hdS : bs = [] ∨ ∀ p, a = some p → ¬ S p.block ∧ p.block ≠ wb) (hg : g + 1 ≤ 99999999) (hbs : bs.length ≤ 1048576) (hok : (foldD d sum g bs).1 = 0) (hB' : Base sum bs [] (g + 1) (foldD d sum g bs).2.fs) :
    Calls Tryz.prog 17 #[.pointer (some ⟨ub, 0, none⟩), .agg #[.int .i64 13, .int .i64 N, .int .i64 M, .bool b3, .string s4, .slice a bs.length c, .slice ka ks.length kc, .int .u32 n7]] w fun e w' => e = .returned (.bool true) ∧ (∃ S' T', KpS lo S' T' ub db sum (foldD d sum g bs).2 bs [] none none false (some wb) (g + 1) w') ∧ Below lo w w' := by
  obtain ⟨n, st, hM, -, -⟩ := h.m
  have e : n = R.length ∧ st = false := by
    have := hM.drw.symm.trans hst
    simp at this
    exact ⟨by omega, this.2⟩
  obtain ⟨rfl, rfl⟩ := e
  refine (step_foldO b3 s4 n7 w hM hlo ht hI hdS hB.2.2.2 hB.2.1.sum (foldR_o (by omega) hbs hok)).mono ?_
  rintro e w' ⟨rfl, ⟨S', T', hG⟩, hb⟩
  exact ⟨rfl, ⟨S', T', KpG.whole hG hB'⟩, hb⟩

theorem step_put {lo db ub sum g : Nat} {S T : Nat → Prop} {d : Dk} {s : List Nat} {R : List Rec} {L : Option Rec} {F : Option (List Nat)} {soft : Bool} {wp : Option Nat} {N M : Int} {a ka : Option Addr} {c kc : Nat} {bs : List Nat} {ks : List Int} (b3 : Bool) (s4 : ByteArray) (n7 : Int) (w : World) (h : KpS lo S T ub db sum d s R L F soft wp g w) (hlo : lo ≤ w.heap.size) (ht : TabL lo w) (hI : OpIn lo w a c bs ka ks N M) (hlow : bs = [] ∨ ∀ p, a = some p → p.block < lo) :
    Calls Tryz.prog 17 #[.pointer (some ⟨ub, 0, none⟩), .agg #[.int .i64 12, .int .i64 N, .int .i64 M, .bool b3, .string s4, .slice a bs.length c, .slice ka ks.length kc, .int .u32 n7]] w (StepP lo ub db sum g F w) := by
  cases wp with
  | none => exact step_put0 b3 s4 n7 w h hlo ht hI
  | some wb =>
    obtain ⟨n, st, hM, hu, hv⟩ := h.m
    have hdS : bs = [] ∨ ∀ p, a = some p → ¬ S p.block ∧ p.block ≠ wb := hlow.imp id (fun hlow p hp => ⟨fun e => by have := hlow p hp; have := (h.disk.low _ e).1; omega, by have := hlow p hp; have := hM.lwb; omega⟩)
    have hRl := h.Rlen.1
    have hn : n + 1 < 4294967296 := by
      cases st with
      | false => have := (hu rfl).2.2.2.1; omega
      | true => have := (hv rfl).2; omega
    obtain ⟨kn, hkn⟩ : ∃ kn : Nat, N % 256 = (kn : Int) := ⟨(N % 256).toNat, by omega⟩
    cases st with
    | true =>
      refine (step_putS b3 s4 n7 w hM hlo ht hI hdS h.fine.top h.fine.good.sum hn kn hkn rfl (hv rfl).1).mono ?_
      rintro e w' ⟨rfl, ⟨S', hK⟩, hb⟩
      exact ⟨rfl, S', T, d, s, R, L, F, soft, some wb, g, hK.toS h.shp h.fine h.lf hu hv, hb, Nat.le_succ _⟩
    | false =>
      obtain ⟨hB, rfl, rfl, rfl, rfl⟩ := hu rfl
      by_cases hl : 1048576 < bs.length
      · have hP : putR d sum g R.length false (kn, bs) = (197, d, R.length, false) := by unfold putR; rw [if_neg (by decide), if_pos hl]
        refine (step_putL b3 s4 n7 w hM hlo ht hI hdS h.fine.top h.fine.good.sum hn kn hkn hP hl).mono ?_
        rintro e w' ⟨rfl, ⟨S', hK⟩, hb⟩
        exact ⟨rfl, S', T, d, s, R, none, none, false, some wb, g, hK.toS h.shp h.fine h.lf hu hv, hb, Nat.le_succ _⟩
      · have hO := put_kept (r := (kn, bs)) hB (by simpa using hl)
        rcases hO.out with ⟨h0, hb'⟩ | ⟨he, hs⟩
        · refine (put_well b3 s4 n7 w h hB hM.drw hlo ht hI hdS kn hkn (by omega) h0 hb').mono ?_
          rintro e w' ⟨rfl, ⟨S', T', hK⟩, hb⟩
          exact ⟨rfl, S', T', _, s, _, none, none, false, some wb, g, hK, hb, Nat.le_succ _⟩
        · refine (step_putE b3 s4 n7 w hM hlo ht hI hdS h.fine.top h.fine.good.sum hn kn hkn he (putR_e (by simpa using hl) (by omega))).mono ?_
          rintro e w' ⟨rfl, ⟨S', T', hK⟩, hb⟩
          refine ⟨rfl, S', T', _, s, R, some (kn, bs), none, false, some wb, g, hK.toS hs ⟨hB.2.1, fun r e => ?_, fun _ e => (by cases e), hB.2.2.1, hB.2.2.2⟩ (.inr rfl) (fun e => (by cases e)) (fun _ => ⟨.inl rfl, rfl⟩), hb, Nat.le_succ _⟩
          obtain rfl := Option.some.inj e
          simpa using hl
theorem step_fold {lo db ub sum g : Nat} {S T : Nat → Prop} {d : Dk} {s : List Nat} {R : List Rec} {L : Option Rec} {F : Option (List Nat)} {soft : Bool} {wp : Option Nat} {N M : Int} {a ka : Option Addr} {c kc : Nat} {bs : List Nat} {ks : List Int} (b3 : Bool) (s4 : ByteArray) (n7 : Int) (w : World) (h : KpS lo S T ub db sum d s R L F soft wp g w) (hlo : lo ≤ w.heap.size) (ht : TabL lo w) (hI : OpIn lo w a c bs ka ks N M) (hlow : bs = [] ∨ ∀ p, a = some p → p.block < lo) (hgen : gen g F + 1 ≤ 99999999) :
    Calls Tryz.prog 17 #[.pointer (some ⟨ub, 0, none⟩), .agg #[.int .i64 13, .int .i64 N, .int .i64 M, .bool b3, .string s4, .slice a bs.length c, .slice ka ks.length kc, .int .u32 n7]] w (StepP lo ub db sum g F w) := by
  have hg1 : g + 1 ≤ 99999999 := by have := gen_le g F; omega
  cases wp with
  | none => exact step_fold0 b3 s4 n7 w h hlo ht hI
  | some wb =>
    obtain ⟨n, st, hM, hu, hv⟩ := h.m
    have hdS : bs = [] ∨ ∀ p, a = some p → ¬ S p.block ∧ p.block ≠ wb := hlow.imp id (fun hlow p hp => ⟨fun e => by have := hlow p hp; have := (h.disk.low _ e).1; omega, by have := hlow p hp; have := hM.lwb; omega⟩)
    cases st with
    | true =>
      refine (step_foldS b3 s4 n7 w hM hlo ht hI hdS h.fine.top h.fine.good.sum rfl (hv rfl).1).mono ?_
      rintro e w' ⟨rfl, ⟨S', hK⟩, hb⟩
      exact ⟨rfl, S', T, d, s, R, L, F, soft, some wb, g, hK.toS h.shp h.fine h.lf hu hv, hb, Nat.le_succ _⟩
    | false =>
      obtain ⟨hB, rfl, rfl, rfl, rfl⟩ := hu rfl
      by_cases hl : 1048576 < bs.length
      · have hP : foldR d sum g R.length false bs = (197, d, g, R.length, false) := by unfold foldR; rw [if_neg (by decide), if_pos hl]
        refine (step_foldL b3 s4 n7 w hM hlo ht hI hdS h.fine.top h.fine.good.sum hP hl).mono ?_
        rintro e w' ⟨rfl, ⟨S', hK⟩, hb⟩
        exact ⟨rfl, S', T, d, s, R, none, none, false, some wb, g, hK.toS h.shp h.fine h.lf hu hv, hb, Nat.le_succ _⟩
      · have hO := fold_kept (t := bs) hB (by omega) hg1
        rcases hO.out with ⟨h0, hb'⟩ | ⟨he, hs⟩
        · refine (fold_well b3 s4 n7 w h hB hM.drw hlo ht hI hdS hg1 (by omega) h0 hb').mono ?_
          rintro e w' ⟨rfl, ⟨S', T', hK⟩, hb⟩
          exact ⟨rfl, S', T', _, bs, [], none, none, false, some wb, g + 1, hK, hb, Nat.le_refl _⟩
        · refine (step_foldE b3 s4 n7 w hM hlo ht hI hdS h.fine.top h.fine.good.sum he (foldR_e (by omega) (by omega) (by omega))).mono ?_
          rintro e w' ⟨rfl, ⟨S', T', soft', hK⟩, hb⟩
          refine ⟨rfl, S', T', _, s, R, none, some bs, soft', some wb, g, hK.toS hs ⟨hB.2.1, fun _ e => (by cases e), fun t e => ?_, hB.2.2.1, hB.2.2.2⟩ (.inl rfl) (fun e => (by cases e)) (fun _ => ⟨.inr rfl, rfl⟩), hb, Nat.le_refl _⟩
          obtain rfl := Option.some.inj e
          exact ⟨by omega, hg1⟩
/-- Any step. -/
theorem step_any {lo db ub sum g : Nat} {S T : Nat → Prop} {d : Dk} {s : List Nat} {R : List Rec} {L : Option Rec} {F : Option (List Nat)} {soft : Bool} {wp : Option Nat} {N M : Int} {a ka : Option Addr} {c kc : Nat} {bs : List Nat} {ks : List Int} (kd : Int) (b3 : Bool) (s4 : ByteArray) (n7 : Int) (w : World) (h : KpS lo S T ub db sum d s R L F soft wp g w) (hlo : lo ≤ w.heap.size) (ht : TabL lo w) (hI : OpIn lo w a c bs ka ks N M) (hlow : bs = [] ∨ ∀ p, a = some p → p.block < lo) (hgen : gen g F + 1 ≤ 99999999) :
    Calls Tryz.prog 17 #[.pointer (some ⟨ub, 0, none⟩), .agg #[.int .i64 kd, .int .i64 N, .int .i64 M, .bool b3, .string s4, .slice a bs.length c, .slice ka ks.length kc, .int .u32 n7]] w (StepP lo ub db sum g F w) := by
  by_cases e6 : kd = 6
  · subst e6; exact step_arm b3 s4 n7 w h hlo ht hI
  by_cases e7 : kd = 7
  · subst e7; exact step_fail b3 s4 n7 w h hlo ht hI
  by_cases e8 : kd = 8
  · subst e8; exact step_crash b3 s4 n7 w h hlo ht hI
  by_cases e9 : kd = 9
  · subst e9; exact step_restart b3 s4 n7 w h hlo ht hI
  by_cases e11 : kd = 11
  · subst e11; exact step_open b3 s4 n7 w h hlo ht hI
  by_cases e10 : kd = 10
  · subst e10; exact step_files b3 s4 n7 w h hlo ht hI
  by_cases e12 : kd = 12
  · subst e12; exact step_put b3 s4 n7 w h hlo ht hI hlow
  by_cases e13 : kd = 13
  · subst e13; exact step_fold b3 s4 n7 w h hlo ht hI hlow hgen
  exact step_else b3 s4 n7 w h hlo ht hI kd ⟨beq_false_of_ne e6, beq_false_of_ne e7, beq_false_of_ne e8, beq_false_of_ne e9, beq_false_of_ne e11, beq_false_of_ne e10, beq_false_of_ne e12, beq_false_of_ne e13⟩
end
end Go.Proofs.YtakcdgeanbpllaaGreatDoor.DJ


/- DrawerKept: what its walk meets. -/
namespace Go.Proofs.YtakcdgeanbpllaaGreatDoor.DJ
open Go.RowKit
set_option linter.constructorNameAsVariable false

/-- A step of the script, as it lies in memory. -/
structure KOp where
  kd : Int
  N : Int
  M : Int
  b3 : Bool
  s4 : ByteArray
  a : Option Addr
  c : Nat
  bs : List Nat
  ka : Option Addr
  kc : Nat
  ks : List Int
  n7 : Int
instance : Inhabited KOp := ⟨⟨0, 0, 0, false, ByteArray.empty, none, 0, [], none, 0, [], 0⟩⟩
structure KOpAt (lo : Nat) (W : World) (b off : Nat) (o : KOp) : Prop where
  c0 : W.cell? ⟨b, off, none⟩ = some (.int .i64 o.kd)
  c1 : W.cell? ⟨b, off + 1, none⟩ = some (.int .i64 o.N)
  c2 : W.cell? ⟨b, off + 2, none⟩ = some (.int .i64 o.M)
  c3 : W.cell? ⟨b, off + 3, none⟩ = some (.bool o.b3)
  c4 : W.cell? ⟨b, off + 4, none⟩ = some (.string o.s4)
  c5 : W.cell? ⟨b, off + 5, none⟩ = some (.slice o.a o.bs.length o.c)
  c6 : W.cell? ⟨b, off + 6, none⟩ = some (.slice o.ka o.ks.length o.kc)
  c7 : W.cell? ⟨b, off + 7, none⟩ = some (.int .u32 o.n7)
  inn : OpIn lo W o.a o.c o.bs o.ka o.ks o.N o.M
  low : o.bs = [] ∨ ∀ p, o.a = some p → p.block < lo
theorem KOpAt.later {lo : Nat} {W X : World} {b off : Nat} {o : KOp} (h : KOpAt lo W b off o) (hb : b < lo) (hX : Below lo W X) : KOpAt lo X b off o := by
  have hG : GrS (fun k => lo ≤ k) W X := ⟨hX.os, hX.tape, hX.output, hX.size, fun k _ hn => hX.block k (by omega)⟩
  have hc : ∀ j v, W.cell? ⟨b, j, none⟩ = some v → X.cell? ⟨b, j, none⟩ = some v := fun j v h => (hX.cell (p := ⟨b, j, none⟩) hb).trans h
  exact ⟨hc _ _ h.c0, hc _ _ h.c1, hc _ _ h.c2, hc _ _ h.c3, hc _ _ h.c4, hc _ _ h.c5, hc _ _ h.c6, hc _ _ h.c7, ⟨h.inn.N, h.inn.M, hG.byts2 h.inn.byt (h.low.imp id (fun hl p hp => by have := hl p hp; omega)), h.inn.cap, h.inn.len, h.inn.kp.grS2 hG (h.inn.klow.imp id (fun hl p hp => by have := hl p hp; omega)), h.inn.klen, h.inn.klow⟩, h.low⟩
def KOpsAt (lo : Nat) (W : World) (a : Option Addr) (L : List KOp) : Prop := L = [] ∨ ∃ b off, a = some ⟨b, off, none⟩ ∧ b < lo ∧ ∀ i (h : i < L.length), KOpAt lo W b (off + i * 8) L[i]

section
variable {lo : Nat} {S T : Nat → Prop} {ub db wb sum : Nat} {d : Dk} {s : List Nat} {R : List Rec} {L : Option Rec} {F : Option (List Nat)} {soft : Bool} {wp : Option Nat} {g : Nat} {W : World}
theorem KpS.base (h : KpS lo S T ub db sum d s R none none soft (some wb) g W) : Base sum s R g d.fs ∧ DwAt W wb db sum g R.length false ∧ soft = false ∧ ¬ S wb := by
  obtain ⟨⟨q1, -⟩, n, st, q5, q6, q7⟩ := h.drw wb rfl
  cases st with
  | true => have := (q7 rfl).1; simp at this
  | false =>
    obtain ⟨hB, -, -, rfl, hs⟩ := q6 rfl
    exact ⟨hB, q5, hs, q1⟩
/-- Some state. -/
def KpE (lo ub db sum : Nat) (w : World) (i : Nat) (W : World) : Prop := ∃ S T d s R L F soft wp g, KpS lo S T ub db sum d s R L F soft wp g W ∧ Below lo w W ∧ gen g F ≤ i + 1
/-- A state whose drawer is open and where all is calm. -/
def KpC (lo ub db sum : Nat) (w : World) (s : List Nat) (R : List Rec) (i : Nat) (W : World) : Prop := ∃ S T d wb g, KpS lo S T ub db sum d s R none none false (some wb) g W ∧ Below lo w W ∧ Calm d ∧ g ≤ i + 1
theorem open_calm (w W : World) (h : KpS lo S T ub db sum d s R L F soft wp g W) (hc : Calm d) (hb : Below lo w W) (hlo : lo ≤ W.heap.size) (ht : TabL lo W) {i : Nat} (hg : gen g F ≤ i + 1) :
    Calls Tryz.prog 9 #[.pointer (some ⟨ub, 0, none⟩)] W fun e w' => e = .returned (.bool true) ∧ ∃ s' R', May s R L F s' R' ∧ KpC lo ub db sum w s' R' i w' := by
  obtain ⟨hop, hcalm⟩ := open_kept h.fine h.shp
  obtain ⟨h0, hC⟩ := hcalm hc
  rcases hop with ⟨-, g', s', R', hn, hm, hg', hB⟩ | ⟨he, -⟩
  · refine (wopen_ok W h hlo ht hn hm hB).mono ?_
    rintro e w' ⟨rfl, S', T', wb, hK, hb'⟩
    refine ⟨rfl, s', R', hm, S', T', _, wb, g', hK, hb.trans hb', hC, ?_⟩
    unfold gen at hg
    rcases hg' with rfl | ⟨rfl, hF⟩
    · omega
    · rw [hF] at hg
      simpa using hg
  · omega
end
/-- A list of bytes that is made on the spot. -/
theorem lit_in {lo : Nat} {w : World} (bs : List Nat) (hb : ∀ x ∈ bs, x < 256) (hl : bs.length ≤ 100) : OpIn lo (w.alloc (.cells (bysV bs).toArray 5)) (some ⟨w.heap.size, 0, none⟩) bs.length bs none [] 0 0 ∧ OpIn lo (w.alloc (.cells (bysV bs).toArray 5)) (some ⟨w.heap.size, 0, none⟩) bs.length bs none [] 9 0 := by
  have hr := heap_new w (.cells (bysV bs).toArray 5)
  have hB : Byts (w.alloc (.cells (bysV bs).toArray 5)) (some ⟨w.heap.size, 0, none⟩) bs := ⟨hb, .inr ⟨w.heap.size, 0, rfl, (Array.getElem?_eq_some_iff.1 hr).1, fun i hi => by
    rw [Nat.zero_add, cell_of_row _ _ i _ _ _ hr]
    simp [bysV, hi]⟩⟩
  exact ⟨⟨by decide, by decide, hB, fun e => (by cases e), by omega, .inl rfl, by decide, .inl rfl⟩, ⟨by decide, by decide, hB, fun e => (by cases e), by omega, .inl rfl, by decide, .inl rfl⟩⟩
theorem begin_kept {lo : Nat} {S : Nat → Prop} {db ub sum : Nat} {W : World} (hsum : sum < 4294967296) (hD : DiskAt W lo S db dk0) (hr : W.heap[ub]? = some (wdRow db none sum (.slice none 0 0) (.slice none 0 0) (.slice none 0 0) (.slice none 0 0) false)) (hu : ¬ S ub) (hl : lo ≤ ub) : KpS lo S (fun _ => False) ub db sum dk0 [] [] none none false none 1 W :=
  ⟨hD, .none rfl rfl rfl, ⟨⟨hsum, by simp, by simp⟩, fun _ e => (by cases e), fun _ e => (by cases e), Nat.le_refl _, by decide⟩, .inl rfl, ⟨_, _, _, _, hr, BytX.nil _ _ _, RcX.nil _ _ _, rfl, rfl⟩, fun wb e => (by cases e), hu, hl, fun k e => e.elim⟩
end Go.Proofs.YtakcdgeanbpllaaGreatDoor.DJ


/- DrawerKept. -/
namespace Go.Proofs.YtakcdgeanbpllaaGreatDoor.DJ
open Go.RowKit
set_option linter.constructorNameAsVariable false

set_option maxRecDepth 8000 in
set_option maxHeartbeats 4000000 in
theorem kept_walk (sum : Nat) (hsum : sum < 4294967296) (a : Option Addr) (cap : Nat) (L : List KOp) (ka : Option Addr) (kc : Nat) (ks : List Int) (hkl : ks.length ≤ 4611686018427387904) (w : World) (ht : TabL w.heap.size w) (hA : KOpsAt w.heap.size w a L) (hK : KpAt w ka ks) (hkb : ks = [] ∨ ∀ p, ka = some p → p.block < w.heap.size) :
    Calls Tryz.prog 5 #[.int .u32 (sum : Int), .slice a L.length cap, .slice ka ks.length kc] w fun e w' => e = .returned (.bool true) ∧ Below w.heap.size w w' := by
  have hKn := known_any w (Nat.le_refl _) ht
  by_cases hbig : 90000000 < L.length
  · have hbig' : (90000000 : Int) < (L.length : Int) := by omega
    go_enter Tryz.func5, Tryz.ntmps5
    go_wp2_with (go_at_call 7; refine hKn.mono ?_; rintro e w1 ⟨rfl, hb1⟩)
    go_ret
    exact ⟨rfl, hb1⟩
  have hbig' : ¬ (90000000 : Int) < (L.length : Int) := by omega
  have hBg := fun X => begin_any sum X
  have hnil : ∀ (b : Nat) (W : World), (binOp BinOp.eql 25 (.pointer (some ⟨b, 0, none⟩)) (.pointer none)).run Tryz.prog W = .ok (.bool false) W := fun _ _ => rfl
  have hnil2 : ∀ (b : Nat) (W : World), (binOp BinOp.eql 28 (.pointer (some ⟨b, 0, none⟩)) (.pointer none)).run Tryz.prog W = .ok (.bool false) W := fun _ _ => rfl
  have hWo := Hid.mk (fun (Y X : World) (S : Nat → Prop) (db ub : Nat) (hY : Below w.heap.size w Y) (hX : Below Y.heap.size Y X) (hD : DiskAt X Y.heap.size S db dk0) (hub : ¬ S ub) (hlu : Y.heap.size ≤ ub) hrow => open_calm (i := 0) w X (begin_kept hsum (hD.mono hY.size) hrow hub (Nat.le_trans hY.size hlu)) calm0 (below_step hY hX) (below_step hY hX).size (ht.next (below_step hY hX)) (Nat.le_refl _))
  replace hA := Hid.mk hA
  replace hK := Hid.mk hK
  replace hkb := Hid.mk hkb
  go_enter Tryz.func5, Tryz.ntmps5
  go_wp2_with (first | (go_at_call 7; refine hKn.mono ?_; rintro e w1 ⟨rfl, hb1⟩) | (go_at_call 8; refine (hBg w1).mono ?_; rintro e w2 ⟨S2, db, ub, rfl, hD2, hr2, hu2, hl2, hb2⟩) | (go_at_call 9; refine (hWo.out _ _ _ _ _ hb1 hb2 hD2 hu2 hl2 hr2).mono ?_; rintro e w3 ⟨rfl, s3, R3, -, hC3⟩))
  have hE0 : Hid (KpE w.heap.size ub db sum w 0 w3) := by
    obtain ⟨S, T, d, wb, g, h1, h2, -, h4⟩ := hC3
    exact ⟨S, T, d, s3, R3, none, none, false, some wb, g, h1, h2, h4⟩
  clear hKn hBg hWo hb1 hb2 hD2 hr2 hu2 hl2 hC3
  go_loopw [8] (fun v wr => ∃ i : Nat, i ≤ L.length ∧ v = .int .i64 (i : Int) ∧ KpE w.heap.size ub db sum w i wr) (fun v _ => L.length - (intOf v).toNat)
  case atStart => exact ⟨0, Nat.zero_le _, rfl, hE0.out⟩
  case round =>
    clear hE0
    obtain ⟨i, hi, rfl, S, T, d, s, R, Lt, F, soft, wp, g, hS, hb, hg⟩ := hrel
    by_cases hlt : i < L.length
    · have hlt' : (i : Int) < (L.length : Int) := by omega
      have hi0 : (0 : Int) ≤ (i : Int) := by omega
      obtain ⟨b, off, rfl, hbl, hc⟩ := hA.out.resolve_left (fun e => by rw [e] at hlt; simp at hlt)
      have hO := (hc i hlt).later hbl hb
      generalize L[i] = o at *
      have hSt := Hid.mk (step_any (kc := o.kc) o.kd o.b3 o.s4 o.n7 wr hS hb.size (ht.next hb) hO.inn hO.low (by omega))
      obtain ⟨q0, q1, q2, q3, q4, q5, q6, q7, -, -⟩ := hO
      have hnx : Hid (∀ e X, StepP w.heap.size ub db sum g F wr e X → e = .returned (.bool true) ∧ KpE w.heap.size ub db sum w (i + 1) X) := ⟨fun e X hX => by
        obtain ⟨h0, S', T', d', s', R', L', F', soft', wp', g', h1, h2, h3⟩ := hX
        exact ⟨h0, S', T', d', s', R', L', F', soft', wp', g', h1, hb.trans h2, by omega⟩⟩
      clear hc hS hb hg
      go_wp2_with (go_at_call 17; refine hSt.out.mono ?_; intro e w5 h5; obtain ⟨rfl, hE5⟩ := hnx.out _ _ h5; clear h5)
      replace hE5 := Hid.mk hE5
      go_roundw
      case rel => exact ⟨i + 1, by omega, by first | rfl | go_num, hE5.out⟩
      case measure => simp [intOf]; omega
    · have hlt' : ¬ (i : Int) < (L.length : Int) := by omega
      have hg9 : gen g F ≤ 90000001 := by omega
      clear hA hg hi hbig
      have hO1 := other_any [] (by decide) none 0 wr hS hb.size (ht.next hb) (.inl rfl) (.inl rfl)
      go_wp2_with (go_at_call 18; refine stopJ ?_)
      unfold StopJ
      refine hO1.mono ?_
      rintro e w4 ⟨rfl, hb4⟩
      have hS4 := hS.later hb4
      have b4 := below_step hb hb4
      clear hO1 hS hb4
      have hO2 := other_any ks hkl ka kc w4 hS4 b4.size (ht.next b4) (hK.out.later b4) (hkb.out.imp id (fun hl p e => Nat.lt_of_lt_of_le (hl p e) b4.size))
      go_wp2_with (go_at_call 18; refine stopJ ?_)
      unfold StopJ
      refine hO2.mono ?_
      rintro e w5 ⟨rfl, hb5⟩
      have hS5 := hS4.later hb5
      have b5 := below_step b4 hb5
      clear hO2 hS4 hb5 b4
      have hR5 := restart_any2 ks hkl ka kc w5 b5.size (hK.out.later b5) (hkb.out.imp id (fun hl p e hp => by have := hl p e; have := (hS5.disk.low _ hp).1; omega)) hS5.disk
      obtain ⟨z0, -⟩ := hS5.dat.cells
      go_wp2_with (go_at_call 19; refine stopJ ?_)
      unfold StopJ
      refine hR5.mono ?_
      rintro e w6 ⟨rfl, S6, hD6, hv6⟩
      have b6 := b5.trans (hv6.below' b5.size hS5.disk.low)
      have hS6 := hS5.move hD6 hv6 (restart_kept hS5.shp ks) (fun hB => base_restart hB ks)
      have hW6 := open_calm (i := 90000000) w w6 hS6 (calm_restart _ _) b6 b6.size (ht.next b6) hg9
      clear hR5 hS5 hD6 hv6 hS6 b5 z0 hg9
      go_wp2_with (go_at_call 9; refine stopJ ?_)
      unfold StopJ
      refine hW6.mono ?_
      rintro e w7 ⟨rfl, s7, R7, -, S7, T7, d7, wb, g7, hS7, b7, hC7, hg7⟩
      clear hW6 b6
      obtain ⟨hB7, hw7, -, hn7⟩ := hS7.base
      obtain ⟨-, y1, -, -⟩ := hS7.dat.cells
      replace y1 : w7.cell? ⟨ub, 1, none⟩ = some (.pointer (some ⟨wb, 0, none⟩)) := y1
      have hO8 := fold_kept (t := [1, 2]) hB7 (by decide) (by omega)
      obtain ⟨h80, hC8⟩ := hO8.calm hC7
      have hB8 : Base sum [1, 2] [] (g7 + 1) (foldD d7 sum g7 [1, 2]).2.fs := by
        rcases hO8.out with ⟨-, h⟩ | ⟨h, -⟩
        · exact h
        · omega
      have bA : Below w7.heap.size w7 (w7.alloc (.cells #[.int .u8 1, .int .u8 2] 5)) := (Below.refl _ _).alloc (Nat.le_refl _) _
      have b7A := below_step b7 bA
      have hI8 : OpIn w.heap.size (w7.alloc (.cells #[.int .u8 1, .int .u8 2] 5)) (some ⟨w7.heap.size, 0, none⟩) 2 [1, 2] none [] 0 0 := (lit_in (lo := w.heap.size) (w := w7) [1, 2] (by decide) (by decide)).1
      have hnb : ∀ p, some (⟨w7.heap.size, 0, none⟩ : Addr) = some p → ¬ S7 p.block ∧ p.block ≠ wb := fun p e => by
        obtain rfl := Option.some.inj e
        exact ⟨fun e => by have := (hS7.disk.low _ e).2; simp at this, by have := hw7.lt; simp; omega⟩
      have hF8 := fold_well (kc := 0) false "".toUTF8 0 _ (hS7.later bA) hB7 (hw7.later bA) b7A.size (ht.next b7A) hI8 (.inr hnb) (by omega) (by decide) h80 hB8
      clear hO8 hS7 hB7 hw7 hC7 hn7 hI8 hnb h80 hB8
      go_wp2_with (go_at_call 17; refine stopJ ?_)
      unfold StopJ
      refine hF8.mono ?_
      rintro e w8 ⟨rfl, ⟨S8, T8, hS8⟩, hb8⟩
      have b8 := b7A.trans hb8
      clear hF8 hb8 b7A bA y1 b7
      obtain ⟨hB8, hw8, -, -⟩ := hS8.base
      have hO9 := put_kept (r := (9, [3])) hB8 (by decide)
      obtain ⟨h90, hC9⟩ := hO9.calm ⟨hC8, by rw [enc_nil, piece_len]; decide⟩
      have hB9 : Base sum [1, 2] ([] ++ [(9, [3])]) (g7 + 1) (putD (foldD d7 sum g7 [1, 2]).2 sum (g7 + 1) 0 (9, [3])).2.fs := by
        rcases hO9.out with ⟨-, h⟩ | ⟨h, -⟩
        · exact h
        · omega
      have bA : Below w8.heap.size w8 (w8.alloc (.cells #[.int .u8 3] 5)) := (Below.refl _ _).alloc (Nat.le_refl _) _
      have b8A := below_step b8 bA
      have hI9 : OpIn w.heap.size (w8.alloc (.cells #[.int .u8 3] 5)) (some ⟨w8.heap.size, 0, none⟩) 1 [3] none [] 9 0 := (lit_in (lo := w.heap.size) (w := w8) [3] (by decide) (by decide)).2
      have hnb : ∀ p, some (⟨w8.heap.size, 0, none⟩ : Addr) = some p → ¬ S8 p.block ∧ p.block ≠ wb := fun p e => by
        obtain rfl := Option.some.inj e
        exact ⟨fun e => by have := (hS8.disk.low _ e).2; simp at this, by have := hw8.lt; simp; omega⟩
      have hP9 := put_well (kc := 0) false "".toUTF8 0 _ (hS8.later bA) hB8 (hw8.later bA) b8A.size (ht.next b8A) hI9 (.inr hnb) 9 (by decide) (by decide) h90 hB9
      clear hO9 hS8 hB8 hw8 hC8 hI9 hnb h90 hB9
      go_wp2_with (go_at_call 17; refine stopJ ?_)
      unfold StopJ
      refine hP9.mono ?_
      rintro e w9 ⟨rfl, ⟨S9, T9, hS9⟩, hb9⟩
      have b9 := b8A.trans hb9
      clear hP9 hb9 b8A bA b8
      obtain ⟨sv, rv, lv, fv, hr, h1, h2, -, -⟩ := hS9.dat
      obtain ⟨sa, sc, rfl, -⟩ := h1.len
      obtain ⟨ra, rc, rfl, -⟩ := h2.rc.len
      obtain ⟨x0, -, -, x3, x4, -⟩ := wd_cells hr
      simp only [List.length_cons, List.length_nil, Nat.zero_add, List.nil_append] at x3 x4
      clear hr h1 h2
      have hR9 := restart_any [] (by decide) none 0 w9 b9.size (.inl rfl) (fun p e => by cases e) hS9.disk
      go_wp2_with (go_at_call 19; refine stopJ ?_)
      unfold StopJ
      refine hR9.mono ?_
      rintro e w10 ⟨rfl, S10, hD10, hv10⟩
      have b10 := b9.trans (hv10.below' b9.size hS9.disk.low)
      have hS10 := hS9.move hD10 hv10 (restart_kept hS9.shp []) (fun hB => base_restart hB [])
      have hW10 := open_calm (i := 90000002) w w10 hS10 (calm_restart _ _) b10 b10.size (ht.next b10) (by unfold gen; simp; omega)
      clear hR9 hS9 hD10 hv10 hS10 b9 x0 x3 x4
      go_wp2_with (go_at_call 9; refine stopJ ?_)
      unfold StopJ
      refine hW10.mono ?_
      rintro e w11 ⟨rfl, s11, R11, hm11, S11, T11, d11, wb11, g11, hS11, b11, -, -⟩
      obtain ⟨rfl, rfl⟩ : s11 = [1, 2] ∧ R11 = [(9, [3])] := by
        rcases hm11 with ⟨h1, h2 | ⟨r, h2, -⟩⟩ | ⟨h1, -⟩
        · exact ⟨h1, h2⟩
        · cases h2
        · cases h1
      obtain ⟨sv, rv, lv, fv, hr, h1, h2, -, -⟩ := hS11.dat
      obtain ⟨ra, rc, rfl, -⟩ := h2.rc.len
      obtain ⟨gb, p, c', rfl, i0, -⟩ := h2.item (i := 0) (by decide)
      obtain ⟨-, -, -, -, x4, -⟩ := wd_cells hr
      simp only [List.length_cons, List.length_nil, Nat.zero_add, List.getElem_cons_zero, Nat.zero_mul] at x4 i0
      clear hW10 hr h1 h2 hS11 hm11 b10
      go_wp2
      go_ret
      exact ⟨rfl, b11⟩
end Go.Proofs.YtakcdgeanbpllaaGreatDoor.DJ


/- A script of DrawerKept that came in. -/
namespace Go.Proofs.YtakcdgeanbpllaaGreatDoor.DJ
open Go.ChangeShapes Go.WideShapes Go.ChangeAt Go.WideMaps Go.WideElems Go.RowKit Go.Joins

theorem cellsI : Tryz.prog.cellsOf 3 = 1 := by kernel_rfl
theorem cellsIs : Tryz.prog.cellsOf 41 = 1 := by kernel_rfl
theorem cellsStr : Tryz.prog.cellsOf 9 = 1 := by kernel_rfl
theorem cellsBool : Tryz.prog.cellsOf 4 = 1 := by kernel_rfl
theorem cellsU32 : Tryz.prog.cellsOf 22 = 1 := by kernel_rfl
theorem cellsOp : Tryz.prog.cellsOf 52 = 8 := by kernel_rfl
theorem bytesB : Tryz.prog.bytesOf 5 = 1 := by kernel_rfl
theorem bytesI : Tryz.prog.bytesOf 3 = 8 := by kernel_rfl
theorem memW {H : Type} {P : Program} {e : TypeId} {d : DataW H} {n : Nat} : ∀ {l : List (DataW H)}, d ∈ l → n ∈ d.weights P e → n ∈ DataW.weightsAll P e l
  | x :: l, h, hn => by
    simp only [DataW.weightsAll, List.mem_append]
    rcases List.mem_cons.1 h with rfl | h
    · exact .inl hn
    · exact .inr (memW h hn)

set_option maxRecDepth 100000 in
/-- Bytes, no longer than what a machine may hold. -/
theorem bytw {H : Type} {enc : TypeId × Value → H} {W : World} {fuel : Nat} {cs : List Value} {x : DataW H × List MemPlace} (hf : DataW.trod enc Tryz.prog W 0 (fun _ => true) true fuel 23 cs = some x) (hz : ∀ n ∈ x.1.weights Tryz.prog 23, n ≤ reachBytes) : ∃ a cap bs, cs = [.slice a (List.length bs) cap] ∧ (a = none → cap = 0) ∧ Byts W a bs ∧ bs.length ≤ 140737488351232 ∧ (bs = [] ∨ ∀ p, a = some p → p.block < W.heap.size) := by
  have hx0 := hf
  obtain ⟨a, cap, bs, rfl, h1, h2, h3⟩ := bytn hf
  refine ⟨a, cap, bs, rfl, h2, h3, ?_, ?_⟩
  · rcases open_ints Tryz.underlying23 Tryz.underlying5 cellsB hx0 with ⟨hcs, hx⟩ | ⟨a', len, cap', zs, hcs, _, hl, hm, hzl, hx, -, -⟩
    · have : bs.length = 0 := (Value.slice.inj (List.cons.inj hcs).1).2.1
      omega
    · have hbl : bs.length = len := (Value.slice.inj (List.cons.inj hcs).1).2.1
      simp only [if_true] at hzl
      have hw : len + (cap' - len) ≤ 140737488351232 := by
        have h4 : ∀ n, n ∈ x.1.weights Tryz.prog 23 → n ≤ 140737488351232 := hz
        rw [hx] at h4
        simp only [DataW.weights, Tryz.underlying23, bytesB] at h4
        have h5 := h4 _ List.mem_cons_self
        simp [lits, hzl] at h5
        omega
      omega
  · rcases h3.2 with h | ⟨b, off, rfl, hb, -⟩
    · exact .inl h
    · exact .inr fun p e => by obtain rfl := Option.some.inj e; exact hb
set_option maxRecDepth 100000 in
/-- Whole numbers. -/
theorem intw {H : Type} {enc : TypeId × Value → H} {W : World} {fuel : Nat} {cs : List Value} {x : DataW H × List MemPlace} (hf : DataW.trod enc Tryz.prog W 0 (fun _ => true) true fuel 41 cs = some x) (hz : ∀ n ∈ x.1.weights Tryz.prog 41, n ≤ reachBytes) : ∃ a cap ks, cs = [.slice a (List.length ks) cap] ∧ KpAt W a ks ∧ ks.length ≤ 4611686018427387904 ∧ (ks = [] ∨ ∀ p, a = some p → p.block < W.heap.size) := by
  rcases open_ints Tryz.underlying41 Tryz.underlying3 cellsI hf with ⟨hcs, hx⟩ | ⟨a, len, cap, zs, hcs, _, hl, hm, hzl, hx, hcell, -⟩
  · exact ⟨none, 0, [], hcs, .inl rfl, by simp, .inl rfl⟩
  · simp only [if_true] at hzl
    have hlen : (zs.take len).length = len := by rw [List.length_take]; omega
    have hw : len + (cap - len) ≤ 140737488351232 := by
      have h4 : ∀ n, n ∈ x.1.weights Tryz.prog 41 → n ≤ 140737488351232 := hz
      rw [hx] at h4
      simp only [DataW.weights, Tryz.underlying41, bytesI] at h4
      have h5 := h4 _ List.mem_cons_self
      simp [lits, hzl] at h5
      omega
    by_cases h0 : len = 0
    · subst h0
      exact ⟨some a, cap, [], hcs, .inl rfl, by simp, .inl rfl⟩
    · obtain ⟨b, off, rfl, hc⟩ := ints_at hcell (by omega)
      have hb := World.block_lt_of_cell? _ _ (hc 0 (by omega))
      refine ⟨_, cap, zs.take len, by rw [hlen]; exact hcs, .inr ⟨b, off, rfl, hb, fun i hi => ?_⟩, by rw [hlen]; omega, .inr fun p e => by obtain rfl := Option.some.inj e; exact hb⟩
      rw [hlen] at hi
      rw [hc i (by omega), List.getD_eq_getElem?_getD, List.getElem?_eq_getElem (by omega)]
      simp

set_option maxRecDepth 100000 in
set_option maxHeartbeats 1000000 in
theorem kop_of {H : Type} {enc : TypeId × Value → H} {W : World} {fuel : Nat} {cs : List Value} {x : DataW H × List MemPlace} {b off : Nat} (hc : ∀ j, j < 8 → W.cell? ⟨b, off + j, none⟩ = cs[j]?) (hcl : cs.length = 8)
    (hf : DataW.trod enc Tryz.prog W 0 (fun _ => true) true fuel 52 cs = some x) (hz : ∀ n ∈ x.1.weights Tryz.prog 52, n ≤ reachBytes) : ∃ o, KOpAt W.heap.size W b off o := by
  obtain ⟨xs, n, -, hx, -, hl, hg⟩ := DataW.trod_struct Tryz.underlying52 hf
  match cs, hcl, xs, hl with
  | [v0, v1, v2, v3, v4, v5, v6, v7], _, [y0, y1, y2, y3, y4, y5, y6, y7], _ =>
    have g0 := hg 0 _ rfl
    have g1 := hg 1 _ rfl
    have g2 := hg 2 _ rfl
    have g3 := hg 3 _ rfl
    have g4 := hg 4 _ rfl
    have g5 := hg 5 _ rfl
    have g6 := hg 6 _ rfl
    have g7 := hg 7 _ rfl
    simp [cellsI] at g0 g1 g2
    simp [cellsBool] at g3
    simp [cellsStr] at g4
    simp [cellsBs] at g5
    simp [cellsIs] at g6
    simp [cellsU32] at g7
    obtain ⟨z0, e0, _, w0⟩ := DataW.trod_int Tryz.underlying3 g0
    obtain ⟨z1, e1, _, w1⟩ := DataW.trod_int Tryz.underlying3 g1
    obtain ⟨z2, e2, _, w2⟩ := DataW.trod_int Tryz.underlying3 g2
    obtain ⟨z3, e3, _⟩ := DataW.trod_bool Tryz.underlying4 g3
    obtain ⟨z4, e4, _, _⟩ := DataW.trod_string Tryz.underlying9 g4
    have hz' : ∀ (j : Nat) (t : TypeId) (y : DataW H × List MemPlace), ([3, 3, 3, 4, 9, 23, 41, 22] : List TypeId)[j]? = some t → ([y0, y1, y2, y3, y4, y5, y6, y7] : List (DataW H × List MemPlace))[j]? = some y → ∀ n ∈ y.1.weights Tryz.prog t, n ≤ reachBytes := fun j t y h1 h2 n hn => by
      apply hz
      rw [hx]
      simp only [DataW.weights, Tryz.underlying52]
      refine DataW.weights_mem_each (j := j) (t := t) (d := y.1) ?_ ?_ _ hn
      · exact h1
      · rw [List.getElem?_map, h2]
        rfl
    obtain ⟨a5, c5, bs5, e5, h51, h52, h53, h54⟩ := bytw g5 (hz' 5 _ y5 rfl rfl)
    obtain ⟨a6, c6, ks6, e6, h61, h62, h63⟩ := intw g6 (hz' 6 _ y6 rfl rfl)
    obtain ⟨z7, e7, _, w7⟩ := DataW.trod_int Tryz.underlying22 g7
    simp at e0 e1 e2 e3 e4 e5 e6 e7
    subst e0 e1 e2 e3 e4 e5 e6 e7
    exact ⟨⟨z0, z1, z2, z3, z4, a5, c5, bs5, a6, c6, ks6, z7⟩, hc 0 (by omega), hc 1 (by omega), hc 2 (by omega), hc 3 (by omega), hc 4 (by omega), hc 5 (by omega), hc 6 (by omega), hc 7 (by omega), ⟨range64 w1, range64 w2, h52, h51, h53, h61, h62, h63⟩, h54⟩

set_option maxRecDepth 100000 in
/-- A script that came in. -/
theorem open_kops {H : Type} {enc : TypeId × Value → H} {W : World} {base : Nat} {v : Value} {d : DataW H} {ps : List MemPlace} (hval : Value.okWide Tryz.prog W .any base 49 v)
    (h : DataW.Trod enc Tryz.prog W 0 (fun _ => true) true 49 v d ps) (hz : ∀ n ∈ d.weights Tryz.prog 49, n ≤ reachBytes) : ∃ a cap L, v = .slice a (List.length L) cap ∧ KOpsAt W.heap.size W a L := by
  obtain ⟨a0, len, cap, rfl⟩ := okWide_slice Tryz.underlying49 hval
  obtain ⟨fuel, hf⟩ := h
  rcases Go.Deep.open_slice Tryz.underlying49 hf with ⟨hcs, hx⟩ | ⟨a, len', cap', m, n, D, Pl, hcs, _, hl, hm, hmm, hx, hcell⟩
  · simp [Value.cells] at hcs
    obtain ⟨rfl, rfl, rfl⟩ := hcs
    exact ⟨none, 0, [], rfl, .inl rfl⟩
  · simp [Value.cells] at hcs
    obtain ⟨rfl, rfl, rfl⟩ := hcs
    simp only [if_true] at hmm
    rw [hmm] at hcell
    by_cases h0 : len = 0
    · subst h0
      exact ⟨some a, cap, [], rfl, .inl rfl⟩
    obtain ⟨b, off, spot⟩ := a
    have hspot : spot = none := by
      obtain ⟨cs', h1, -⟩ := hcell 0 (by omega)
      rw [cellsOp] at h1
      obtain ⟨_, hlen, hc⟩ := World.cells?_some h1
      have h2 := hc 0 (by omega)
      obtain ⟨c, hcc⟩ : ∃ c, cs'[0]? = some c := ⟨cs'[0]'(by omega), List.getElem?_eq_getElem _⟩
      rw [hcc] at h2
      simpa [Addr.add] using World.cell?_spot h2
    subst hspot
    simp only [Prod.mk.injEq] at hx
    have key : ∀ i, i < len → ∃ o, KOpAt W.heap.size W b (off + i * 8) o := fun i hi => by
      obtain ⟨cs', h1, h2⟩ := hcell i (by omega)
      rw [cellsOp] at h1
      obtain ⟨_, hlen, hc⟩ := World.cells?_some h1
      refine kop_of (fun j hj => ?_) hlen h2 (fun n hn => hz n ?_)
      · have := hc j hj
        rwa [add_plain, add_plain] at this
      · rw [hx.1]
        simp only [DataW.weights, Tryz.underlying49, List.mem_cons, List.mem_append]
        exact .inr (.inl (memW (d := D i) (List.mem_map.2 ⟨i, List.mem_range.2 hi, rfl⟩) hn))
    obtain ⟨q, hq⟩ : ∃ q : Nat → KOp, ∀ i, i < len → KOpAt W.heap.size W b (off + i * 8) (q i) := Go.Deep.choose_lt key
    have hlen : ((List.range len).map q).length = len := by simp
    have hb : b < W.heap.size := World.block_lt_of_cell? _ _ (hq 0 (by omega)).c0
    refine ⟨some ⟨b, off, none⟩, cap, (List.range len).map q, by rw [hlen], .inr ⟨b, off, rfl, hb, fun i hi => ?_⟩⟩
    rw [hlen] at hi
    have := hq i hi
    simpa using this
set_option maxRecDepth 100000 in
theorem open_keep {H : Type} {enc : TypeId × Value → H} {W : World} {base : Nat} {v : Value} {d : DataW H} {ps : List MemPlace} (hval : Value.okWide Tryz.prog W .any base 41 v)
    (h : DataW.Trod enc Tryz.prog W 0 (fun _ => true) true 41 v d ps) (hz : ∀ n ∈ d.weights Tryz.prog 41, n ≤ reachBytes) : ∃ a cap ks, v = .slice a (List.length ks) cap ∧ KpAt W a ks ∧ ks.length ≤ 4611686018427387904 ∧ (ks = [] ∨ ∀ p, a = some p → p.block < W.heap.size) := by
  obtain ⟨a0, len, cap, rfl⟩ := okWide_slice Tryz.underlying41 hval
  obtain ⟨fuel, hf⟩ := h
  obtain ⟨a, cap', ks, e, h1, h2, h3⟩ := intw hf hz
  simp [Value.cells] at e
  obtain ⟨rfl, rfl, rfl⟩ := e
  exact ⟨_, _, ks, rfl, h1, h2, h3⟩
end Go.Proofs.YtakcdgeanbpllaaGreatDoor.DJ

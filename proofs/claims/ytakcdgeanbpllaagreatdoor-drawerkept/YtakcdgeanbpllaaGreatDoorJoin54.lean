import Derived.Test.YtakcdgeanbpllaaGreatDoorJoin53
/- world.step: Put, with an error. -/
namespace Go.Proofs.YtakcdgeanbpllaaGreatDoor.DJ
open Go.RowKit
set_option linter.constructorNameAsVariable false

set_option maxRecDepth 4000 in
set_option maxHeartbeats 1000000 in
theorem step_putE {lo db ub wb sum g n : Nat} {st : Bool} {S T : Nat → Prop} {d : Dk} {s : List Nat} {R : List Rec} {N M : Int} {a ka : Option Addr} {c kc : Nat} {bs : List Nat} {ks : List Int} (b3 : Bool) (s4 : ByteArray) (n7 : Int) (w : World) (h : KpM lo S T ub db wb sum g n st d s R none none false w) (hlo : lo ≤ w.heap.size) (ht : TabL lo w) (hI : OpIn lo w a c bs ka ks N M) (hdS : bs = [] ∨ ∀ p, a = some p → ¬ S p.block ∧ p.block ≠ wb) (hg : g ≤ 99999999) (hsum : sum < 4294967296) (hn : n + 1 < 4294967296) (kn : Nat) (hkn : N % 256 = (kn : Int)) {E : Nat} {d' : Dk} (hE : E = 190 ∨ E = 191 ∨ E = 194) (hP : putR d sum g n st (kn, bs) = (E, d', n, true)) :
    Calls Tryz.prog 17 #[.pointer (some ⟨ub, 0, none⟩), .agg #[.int .i64 12, .int .i64 N, .int .i64 M, .bool b3, .string s4, .slice a bs.length c, .slice ka ks.length kc, .int .u32 n7]] w fun e w' => e = .returned (.bool true) ∧ (∃ S' T', KpM lo S' T' ub db wb sum g n true d' s R (some (kn, bs)) none false w') ∧ Below lo w w' := by
  obtain ⟨W1, hW1⟩ : ∃ W1, w.alloc (.cells #[.int .i64 12, .int .i64 N, .int .i64 M, .bool b3, .string s4, .slice a bs.length c, .slice ka ks.length kc, .int .u32 n7] 52) = W1 := ⟨_, rfl⟩
  obtain ⟨b0, r0⟩ := boxed w (cs := #[.int .i64 12, .int .i64 N, .int .i64 M, .bool b3, .string s4, .slice a bs.length c, .slice ka ks.length kc, .int .u32 n7]) (t := 52)
  rw [hW1] at b0 r0
  have k0 : W1.cell? ⟨w.heap.size, 0, none⟩ = some (.int .i64 12) := cell_of_row _ _ 0 _ _ _ r0
  have k1 : W1.cell? ⟨w.heap.size, 1, none⟩ = some (.int .i64 N) := cell_of_row _ _ 1 _ _ _ r0
  have k5 : W1.cell? ⟨w.heap.size, 5, none⟩ = some (.slice a bs.length c) := cell_of_row _ _ 5 _ _ _ r0
  have hx := World.block_lt_of_cell? _ _ k0
  have hl1 : lo ≤ W1.heap.size := Nat.le_trans hlo b0.size
  have bl0 : Below lo w W1 := b0.mono hlo
  have hI1 := hI.later b0
  have hk256 : kn < 256 := by omega
  obtain ⟨la, lc, fa, fc, c5, c6, c7, c1, cf, ra, rc, c4⟩ := (h.later b0).dat.fly
  have hul := (h.later b0).dat.ult
  have hnil : ∀ (b : Nat) (W : World), (binOp BinOp.eql 28 (.pointer (some ⟨b, 0, none⟩)) (.pointer none)).run Tryz.prog W = .ok (.bool false) W := fun _ _ => rfl
  have hRc := Hid.mk (fun X (hX : Byts X a bs) => record_any N a c hI1.cap bs (Nat.le_trans hI1.len (by decide)) X hX)
  have hby1 := Hid.mk hI1.byt
  replace hdS := Hid.mk hdS
  rw [hkn] at hRc
  have hbb := Hid.mk hI1.byt.1
  have hPt := Hid.mk (fun X (hX : Below w.heap.size w X) p cc hc hN => h.put hlo ht hg hsum hn kn hk256 bs (Nat.le_trans hI1.len (by decide)) X hX p cc hc hN)
  have hW1l : W1.heap.size = w.heap.size + 1 := by rw [← hW1]; simp
  have hm := Hid.mk h
  replace c1 : W1.cell? ⟨ub, 1, none⟩ = some (.pointer (some ⟨wb, 0, none⟩)) := c1
  clear r0 h ht hkn
  simp only [hP] at hPt
  rcases hE with rfl | rfl | rfl
  all_goals
    go_enter Tryz.func17, Tryz.ntmps17
    go_upto_region 18 with (go_at_call 13; refine (hRc.out _ hby1.out).mono ?_; rintro e w2 ⟨p2, c2, rfl, ho2, hb2⟩)
    obtain ⟨bA, r3⟩ := boxed w2 (cs := #[.int .u8 (kn : Int), .slice p2 bs.length c2]) (t := 38)
    obtain ⟨W3, hW3⟩ : ∃ W3, w2.alloc (.cells #[.int .u8 (kn : Int), .slice p2 bs.length c2] 38) = W3 := ⟨_, rfl⟩
    rw [hW3] at bA r3 ⊢
    have z0 : W3.cell? ⟨w2.heap.size, 0, none⟩ = some (.int .u8 (kn : Int)) := cell_of_row _ _ 0 _ _ _ r3
    have z1 : W3.cell? ⟨w2.heap.size, 1, none⟩ = some (.slice p2 bs.length c2) := cell_of_row _ _ 1 _ _ _ r3
    have hz3 := World.block_lt_of_cell? _ _ z0
    have B3 : Below W1.heap.size W1 W3 := below_step hb2 bA
    have D3 : Below W3.heap.size W3 W3.drew := (Below.refl _ _).drew
    have B3d : Below W1.heap.size W1 W3.drew := below_step B3 D3
    have Bw : Below w.heap.size w W3.drew := below_step b0 B3d
    have hby3 : Byts W3.drew p2 bs := (byts_of_own (n := bs.length) hbb.out ho2).later (below_step bA D3)
    have hP3 := hPt.out W3.drew Bw p2 c2 (own_none ho2) hby3
    have d1 : W3.drew.cell? ⟨ub, 1, none⟩ = some (.pointer (some ⟨wb, 0, none⟩)) := (B3d.cell (p := ⟨ub, 1, none⟩) hul).trans c1
    have d0 : W3.drew.cell? ⟨w2.heap.size, 0, none⟩ = some (.int .u8 (kn : Int)) := (D3.cell (p := ⟨w2.heap.size, 0, none⟩) hz3).trans z0
    have d2 : W3.drew.cell? ⟨w2.heap.size, 1, none⟩ = some (.slice p2 bs.length c2) := (D3.cell (p := ⟨w2.heap.size, 1, none⟩) hz3).trans z1
    have S3 := And.intro d1 (And.intro d0 d2)
    have k5d : W3.drew.cell? ⟨w.heap.size, 5, none⟩ = some (.slice a bs.length c) := (B3d.cell (p := ⟨w.heap.size, 5, none⟩) hx).trans k5
    have k1d : W3.drew.cell? ⟨w.heap.size, 1, none⟩ = some (.int .i64 N) := (B3d.cell (p := ⟨w.heap.size, 1, none⟩) hx).trans k1
    have hwz := b0.size
    have hw2z := hb2.size
    have hxd : w.heap.size < W3.drew.heap.size := Nat.lt_of_lt_of_le hx B3d.size
    have hzd : w2.heap.size < W3.drew.heap.size := Nat.lt_of_lt_of_le hz3 D3.size
    clear z0 z1 r3 hW3 ho2 c1 c4 c5 c6 c7 cf hby3
    go_region_held3 (fun X => X.cell? ⟨ub, 1, none⟩ = some (.pointer (some ⟨wb, 0, none⟩)) ∧ X.cell? ⟨w2.heap.size, 0, none⟩ = some (.int .u8 (kn : Int)) ∧ X.cell? ⟨w2.heap.size, 1, none⟩ = some (.slice p2 bs.length c2)) (with_reducible assumption) ((go_at_call 12; refine hP3.mono ?_; rintro e w4 ⟨rfl, ⟨S4, hM4⟩, hb4, hce, hgr4⟩; obtain ⟨la, lc, fa, fc, e5, e6, e7, e1, ef, ra, rc, e4⟩ := hM4.dat.fly; replace e1 : w4.cell? ⟨ub, 1, none⟩ = some (.pointer (some ⟨wb, 0, none⟩)) := e1; have S4' := And.intro e1 (And.intro ((hce _ _ (Nat.le_trans hwz hw2z) hzd).trans d0) ((hce _ _ (Nat.le_trans hwz hw2z) hzd).trans d2)); have j5 := (hce _ 5 (Nat.le_refl _) hxd).trans k5d; have j1 := (hce _ 1 (Nat.le_refl _) hxd).trans k1d))
    have Bl4 : Below lo W1 w4 := (B3d.mono hl1).trans hb4
    have hby4 := Hid.mk (hgr4.byts2 (hby1.out.later B3d) (hdS.out.imp id (fun hd p hp e => e.elim (hd p hp).1 (hd p hp).2)))
    clear hgr4 hdS hby1
    have BL : Below lo w w4 := bl0.trans Bl4
    have hl4 : lo ≤ w4.heap.size := Nat.le_trans hl1 Bl4.size
    have hul4 := hM4.dat.ult
    replace hM4 := Hid.mk hM4
    clear S3 S4' d0 d1 d2 k5d k1d hce hP3 hPt k0 k1 k5
    simp only [Option.toList_none, List.length_nil] at e5 e6
    have hR4 := hRc.out _ hby4.out
    have hF4 : Hid (∀ X, Below w4.heap.size w4 X → X.cell? ⟨ub, 5, none⟩ = some (.slice la 0 lc) ∧ X.frozen? ⟨ub, 5, none⟩ = false) := ⟨fun X hX => by
      obtain ⟨-, -, -, -, -, -, -, -, y5, -⟩ := (hM4.out.later hX).dat.fly
      exact ⟨(hX.cell (p := ⟨ub, 5, none⟩) hul4).trans e5, y5 5⟩⟩
    go_wp2_with (go_at_call 13; refine hR4.mono ?_; rintro e w5 ⟨p5, c5, rfl, ho5, hb5⟩; obtain ⟨bA5, -⟩ := boxed w5 (cs := #[.int .u8 (kn : Int), .slice p5 bs.length c5]) (t := 38); obtain ⟨f5, f6⟩ := hF4.out _ (below_step hb5 bA5))
    go_ret
    have hK := hM4.out.late hb5 hk256 hbb.out ho5 rfl hl4
    exact ⟨rfl, ⟨S4, _, hK⟩, (BL.trans ((hb5.mono hl4).trans (bA5.mono (Nat.le_trans hl4 hb5.size)))).trans ((grS_set _ ub 5 _).below (Nat.le_trans (Nat.le_trans hl4 hb5.size) bA5.size) (fun k e => e ▸ hM4.out.lub))⟩
end Go.Proofs.YtakcdgeanbpllaaGreatDoor.DJ


/- world.step: Fold. -/
namespace Go.Proofs.YtakcdgeanbpllaaGreatDoor.DJ
open Go.RowKit
set_option linter.constructorNameAsVariable false

set_option maxRecDepth 4000 in
set_option maxHeartbeats 1000000 in
theorem step_foldS {lo db ub wb sum g n : Nat} {st : Bool} {S T : Nat → Prop} {d : Dk} {s : List Nat} {R : List Rec} {L : Option Rec} {F : Option (List Nat)} {soft : Bool} {N M : Int} {a ka : Option Addr} {c kc : Nat} {bs : List Nat} {ks : List Int} (b3 : Bool) (s4 : ByteArray) (n7 : Int) (w : World) (h : KpM lo S T ub db wb sum g n st d s R L F soft w) (hlo : lo ≤ w.heap.size) (ht : TabL lo w) (hI : OpIn lo w a c bs ka ks N M) (hdS : bs = [] ∨ ∀ p, a = some p → ¬ S p.block ∧ p.block ≠ wb) (hg : g ≤ 99999999) (hsum : sum < 4294967296) (hP : foldR d sum g n st bs = (196, d, g, n, st)) (hfl : L.isSome ∨ F.isSome) :
    Calls Tryz.prog 17 #[.pointer (some ⟨ub, 0, none⟩), .agg #[.int .i64 13, .int .i64 N, .int .i64 M, .bool b3, .string s4, .slice a bs.length c, .slice ka ks.length kc, .int .u32 n7]] w fun e w' => e = .returned (.bool true) ∧ (∃ S', KpM lo S' T ub db wb sum g n st d s R L F soft w') ∧ Below lo w w' := by
  obtain ⟨W1, hW1⟩ : ∃ W1, w.alloc (.cells #[.int .i64 13, .int .i64 N, .int .i64 M, .bool b3, .string s4, .slice a bs.length c, .slice ka ks.length kc, .int .u32 n7] 52) = W1 := ⟨_, rfl⟩
  obtain ⟨b0, r0⟩ := boxed w (cs := #[.int .i64 13, .int .i64 N, .int .i64 M, .bool b3, .string s4, .slice a bs.length c, .slice ka ks.length kc, .int .u32 n7]) (t := 52)
  rw [hW1] at b0 r0
  have k0 : W1.cell? ⟨w.heap.size, 0, none⟩ = some (.int .i64 13) := cell_of_row _ _ 0 _ _ _ r0
  have k5 : W1.cell? ⟨w.heap.size, 5, none⟩ = some (.slice a bs.length c) := cell_of_row _ _ 5 _ _ _ r0
  have hx := World.block_lt_of_cell? _ _ k0
  have hl1 : lo ≤ W1.heap.size := Nat.le_trans hlo b0.size
  have bl0 : Below lo w W1 := b0.mono hlo
  have hI1 := hI.later b0
  obtain ⟨la, lc, fa, fc, c5, c6, c7, c1, cf, ra, rc, c4⟩ := (h.later b0).dat.fly
  have hul := (h.later b0).dat.ult
  have hnil : ∀ (b : Nat) (W : World), (binOp BinOp.eql 28 (.pointer (some ⟨b, 0, none⟩)) (.pointer none)).run Tryz.prog W = .ok (.bool false) W := fun _ _ => rfl
  have hbb := Hid.mk hI1.byt.1
  have D3 : Below W1.heap.size W1 W1.drew := (Below.refl _ _).drew
  have hby1 := Hid.mk (hI1.byt.later D3)
  replace hdS := Hid.mk hdS
  have hcap := hI1.cap
  have hlen := hI1.len
  have hFt := h.fold hlo ht hg hsum bs (Nat.le_trans hI1.len (by decide)) W1.drew (below_step b0 D3) a c hI1.cap (hI1.byt.later D3)
  have d1 : W1.drew.cell? ⟨ub, 1, none⟩ = some (.pointer (some ⟨wb, 0, none⟩)) := (D3.cell (p := ⟨ub, 1, none⟩) hul).trans c1
  have d5 : W1.drew.cell? ⟨w.heap.size, 5, none⟩ = some (.slice a bs.length c) := (D3.cell (p := ⟨w.heap.size, 5, none⟩) hx).trans k5
  have hxd : w.heap.size < W1.drew.heap.size := Nat.lt_of_lt_of_le hx D3.size
  have S3 := And.intro d1 d5
  replace c1 : W1.cell? ⟨ub, 1, none⟩ = some (.pointer (some ⟨wb, 0, none⟩)) := c1
  clear r0 h ht c4 c5 c6 c7 cf hI hI1
  simp only [hP] at hFt
  have hcs : (∃ r, L = some r) ∨ (L = none ∧ ∃ t, F = some t) := by
    cases L with
    | some r => exact .inl ⟨r, rfl⟩
    | none => exact .inr ⟨rfl, Option.isSome_iff_exists.1 (hfl.resolve_left (by simp))⟩
  rcases hcs with ⟨r, rfl⟩ | ⟨rfl, t, rfl⟩
  all_goals
    go_enter Tryz.func17, Tryz.ntmps17
    go_upto_region 33 with fail
    clear c1
    go_region_held3 (fun X => X.cell? ⟨ub, 1, none⟩ = some (.pointer (some ⟨wb, 0, none⟩)) ∧ X.cell? ⟨w.heap.size, 5, none⟩ = some (.slice a bs.length c)) (with_reducible assumption) ((go_at_call 38; refine hFt.mono ?_; rintro e w4 ⟨rfl, ⟨S4, hM4⟩, hb4, hce, hgr4⟩; obtain ⟨la, lc, fa, fc, e5, e6, e7, e1, ef, ra, rc, e4⟩ := hM4.dat.fly; replace e1 : w4.cell? ⟨ub, 1, none⟩ = some (.pointer (some ⟨wb, 0, none⟩)) := e1; have j5 := (hce _ 5 (Nat.le_refl _) hxd).trans d5; have S4' := And.intro e1 j5))
    have Bl4 : Below lo W1 w4 := (D3.mono hl1).trans hb4
    have hby4 := Hid.mk (hgr4.byts2 hby1.out (hdS.out.imp id (fun hd p hp e => e.elim (hd p hp).1 (hd p hp).2)))
    clear hgr4 hdS hby1
    have BL : Below lo w w4 := bl0.trans Bl4
    have hl4 : lo ≤ w4.heap.size := Nat.le_trans hl1 Bl4.size
    have hul4 := hM4.dat.ult
    replace hM4 := Hid.mk hM4
    clear S3 S4' d1 d5 hce hFt k0 k5
    simp only [Option.toList_some, Option.toList_none, List.length_cons, List.length_nil, Nat.zero_add] at e5 e6
    go_wp2
    go_ret
    exact ⟨rfl, ⟨S4, hM4.out⟩, BL⟩

set_option maxRecDepth 4000 in
set_option maxHeartbeats 1000000 in
theorem step_foldL {lo db ub wb sum g n : Nat} {st : Bool} {S T : Nat → Prop} {d : Dk} {s : List Nat} {R : List Rec} {L : Option Rec} {F : Option (List Nat)} {soft : Bool} {N M : Int} {a ka : Option Addr} {c kc : Nat} {bs : List Nat} {ks : List Int} (b3 : Bool) (s4 : ByteArray) (n7 : Int) (w : World) (h : KpM lo S T ub db wb sum g n st d s R L F soft w) (hlo : lo ≤ w.heap.size) (ht : TabL lo w) (hI : OpIn lo w a c bs ka ks N M) (hdS : bs = [] ∨ ∀ p, a = some p → ¬ S p.block ∧ p.block ≠ wb) (hg : g ≤ 99999999) (hsum : sum < 4294967296) (hP : foldR d sum g n st bs = (197, d, g, n, st)) (hlong : 1048576 < bs.length) :
    Calls Tryz.prog 17 #[.pointer (some ⟨ub, 0, none⟩), .agg #[.int .i64 13, .int .i64 N, .int .i64 M, .bool b3, .string s4, .slice a bs.length c, .slice ka ks.length kc, .int .u32 n7]] w fun e w' => e = .returned (.bool true) ∧ (∃ S', KpM lo S' T ub db wb sum g n st d s R L F soft w') ∧ Below lo w w' := by
  obtain ⟨W1, hW1⟩ : ∃ W1, w.alloc (.cells #[.int .i64 13, .int .i64 N, .int .i64 M, .bool b3, .string s4, .slice a bs.length c, .slice ka ks.length kc, .int .u32 n7] 52) = W1 := ⟨_, rfl⟩
  obtain ⟨b0, r0⟩ := boxed w (cs := #[.int .i64 13, .int .i64 N, .int .i64 M, .bool b3, .string s4, .slice a bs.length c, .slice ka ks.length kc, .int .u32 n7]) (t := 52)
  rw [hW1] at b0 r0
  have k0 : W1.cell? ⟨w.heap.size, 0, none⟩ = some (.int .i64 13) := cell_of_row _ _ 0 _ _ _ r0
  have k5 : W1.cell? ⟨w.heap.size, 5, none⟩ = some (.slice a bs.length c) := cell_of_row _ _ 5 _ _ _ r0
  have hx := World.block_lt_of_cell? _ _ k0
  have hl1 : lo ≤ W1.heap.size := Nat.le_trans hlo b0.size
  have bl0 : Below lo w W1 := b0.mono hlo
  have hI1 := hI.later b0
  obtain ⟨la, lc, fa, fc, c5, c6, c7, c1, cf, ra, rc, c4⟩ := (h.later b0).dat.fly
  have hul := (h.later b0).dat.ult
  have hnil : ∀ (b : Nat) (W : World), (binOp BinOp.eql 28 (.pointer (some ⟨b, 0, none⟩)) (.pointer none)).run Tryz.prog W = .ok (.bool false) W := fun _ _ => rfl
  have hbb := Hid.mk hI1.byt.1
  have D3 : Below W1.heap.size W1 W1.drew := (Below.refl _ _).drew
  have hby1 := Hid.mk (hI1.byt.later D3)
  replace hdS := Hid.mk hdS
  have hcap := hI1.cap
  have hlen := hI1.len
  have hFt := h.fold hlo ht hg hsum bs (Nat.le_trans hI1.len (by decide)) W1.drew (below_step b0 D3) a c hI1.cap (hI1.byt.later D3)
  have d1 : W1.drew.cell? ⟨ub, 1, none⟩ = some (.pointer (some ⟨wb, 0, none⟩)) := (D3.cell (p := ⟨ub, 1, none⟩) hul).trans c1
  have d5 : W1.drew.cell? ⟨w.heap.size, 5, none⟩ = some (.slice a bs.length c) := (D3.cell (p := ⟨w.heap.size, 5, none⟩) hx).trans k5
  have hxd : w.heap.size < W1.drew.heap.size := Nat.lt_of_lt_of_le hx D3.size
  have S3 := And.intro d1 d5
  replace c1 : W1.cell? ⟨ub, 1, none⟩ = some (.pointer (some ⟨wb, 0, none⟩)) := c1
  clear r0 h ht c4 c5 c6 c7 cf hI hI1
  simp only [hP] at hFt
  have hgt : (1048576 : Int) < (bs.length : Int) := by omega
  go_enter Tryz.func17, Tryz.ntmps17
  go_upto_region 33 with fail
  clear c1
  go_region_held3 (fun X => X.cell? ⟨ub, 1, none⟩ = some (.pointer (some ⟨wb, 0, none⟩)) ∧ X.cell? ⟨w.heap.size, 5, none⟩ = some (.slice a bs.length c)) (with_reducible assumption) ((go_at_call 38; refine hFt.mono ?_; rintro e w4 ⟨rfl, ⟨S4, hM4⟩, hb4, hce, hgr4⟩; obtain ⟨la, lc, fa, fc, e5, e6, e7, e1, ef, ra, rc, e4⟩ := hM4.dat.fly; replace e1 : w4.cell? ⟨ub, 1, none⟩ = some (.pointer (some ⟨wb, 0, none⟩)) := e1; have j5 := (hce _ 5 (Nat.le_refl _) hxd).trans d5; have S4' := And.intro e1 j5))
  have Bl4 : Below lo W1 w4 := (D3.mono hl1).trans hb4
  have hby4 := Hid.mk (hgr4.byts2 hby1.out (hdS.out.imp id (fun hd p hp e => e.elim (hd p hp).1 (hd p hp).2)))
  clear hgr4 hdS hby1
  have BL : Below lo w w4 := bl0.trans Bl4
  have hl4 : lo ≤ w4.heap.size := Nat.le_trans hl1 Bl4.size
  have hul4 := hM4.dat.ult
  replace hM4 := Hid.mk hM4
  clear S3 S4' d1 d5 hce hFt k0 k5
  go_wp2
  go_ret
  exact ⟨rfl, ⟨S4, hM4.out⟩, BL⟩
end Go.Proofs.YtakcdgeanbpllaaGreatDoor.DJ


/- world.step: Fold, with an error; Fold that goes well. -/
namespace Go.Proofs.YtakcdgeanbpllaaGreatDoor.DJ
open Go.RowKit
set_option linter.constructorNameAsVariable false

section
variable {lo : Nat} {S T : Nat → Prop} {ub db wb sum g n : Nat} {st : Bool} {d : Dk} {s : List Nat} {R : List Rec} {L : Option Rec} {soft : Bool} {W : World}
/-- A summary comes in flight. -/
theorem KpM.flies (h : KpM lo S T ub db wb sum g n st d s R L none soft W) {x : Value} {bs : List Nat} {w8 : World} {gb : Nat} (b : Bool) (hb : Below W.heap.size W w8) (hbs : ∀ y ∈ bs, y < 256) (ho : w8.ownsRow W.heap.size 5 1 x bs.length (bysV bs)) (hgb : gb = w8.heap.size) (hlo : lo ≤ W.heap.size) : KpM lo S (fun z => T z ∨ x.ownBlock = some z ∨ z = gb) ub db wb sum g n st d s R L (some bs) b (((w8.alloc (.cells #[x] 23)).setCell ⟨ub, 6, none⟩ (.slice (some ⟨gb, 0, none⟩) 1 1)).setCell ⟨ub, 7, none⟩ (.bool b)) := by
  subst hgb
  have hA := (Below.refl w8.heap.size w8).alloc (Nat.le_refl _) (.cells #[x] 23)
  have h8 := h.later (below_step hb hA)
  have hr8 := heap_new w8 (.cells #[x] 23)
  have hG : GrS (fun k => k = ub) (w8.alloc (.cells #[x] 23)) (((w8.alloc (.cells #[x] 23)).setCell ⟨ub, 6, none⟩ (.slice (some ⟨w8.heap.size, 0, none⟩) 1 1)).setCell ⟨ub, 7, none⟩ (.bool b)) := (grS_set _ ub 6 _).trans (grS_set _ ub 7 _)
  have hSl := h.disk.low
  have hwl := h.drw.lt
  have hul := h.dat.ult
  have hz8 := hb.size
  have hsz : (w8.alloc (.cells #[x] 23)).heap.size = w8.heap.size + 1 := by simp
  have hT : ∀ z, (T z ∨ x.ownBlock = some z ∨ z = w8.heap.size) → ¬ S z ∧ z ≠ wb ∧ z ≠ ub ∧ lo ≤ z ∧ z < (w8.alloc (.cells #[x] 23)).heap.size := fun z hz => by
    rcases hz with hz | hz | hz
    · exact h8.TS z hz
    · obtain ⟨q1, q2⟩ := own_ltT ho hz
      refine ⟨fun e => ?_, by omega, by omega, by omega, by omega⟩
      have := (hSl _ e).2
      omega
    · refine ⟨fun e => ?_, by omega, by omega, by omega, by omega⟩
      have := (hSl _ e).2
      omega
  obtain ⟨sv, rv, lv, fv, hr, h1, h2, h3, h4⟩ := h8.dat
  have hTu : ∀ z, (T z ∨ x.ownBlock = some z ∨ z = w8.heap.size) → ¬ z = ub := fun z hz => (hT z hz).2.2.1
  refine ⟨h8.disk.grS hG (fun z hz e => h.nub (e ▸ hz)), h8.drw.grS hG h.ne, ⟨sv, rv, lv, _, heap_setCell_same _ _ 7 _ _ _ (heap_setCell_same _ _ 6 _ _ _ hr), (h1.more (fun z hz => .inl hz)).grS hG hTu, (h2.more (fun z hz => .inl hz)).grS hG hTu, (h3.more (fun z hz => .inl hz)).grS hG hTu, ⟨w8.heap.size, x, rfl, .inr (.inr rfl), (hG.block _ (by omega) (by omega)).trans hr8, hbs, hG.own (own_later (ho.mono hlo) hA) (fun z hz => hTu z (.inr (.inl hz))), fun z hz => .inr (.inl hz)⟩⟩, h.nwb, h.nub, h.ne, h.lwb, h.lub, fun z hz => ?_⟩
  obtain ⟨q1, q2, q3, q4, q5⟩ := hT z hz
  exact ⟨q1, q2, q3, q4, Nat.lt_of_lt_of_le q5 hG.size⟩
/-- A summary that is told, no records behind it. -/
theorem KpM.told (h : KpM lo S T ub db wb sum g n false d s R none none soft W) {x : Value} {bs : List Nat} {w8 : World} (hb : Below W.heap.size W w8) (hbs : ∀ y ∈ bs, y < 256) (ho : w8.ownsRow W.heap.size 5 1 x bs.length (bysV bs)) (hlo : lo ≤ W.heap.size) : KpG lo S (fun z => x.ownBlock = some z) ub db wb sum d bs [] g n (.slice none 0 0) (.slice none 0 0) soft ((w8.setCell ⟨ub, 3, none⟩ x).setCell ⟨ub, 4, none⟩ (.slice none 0 0)) := by
  have h8 := h.later hb
  have hG : GrS (fun k => k = ub) w8 ((w8.setCell ⟨ub, 3, none⟩ x).setCell ⟨ub, 4, none⟩ (.slice none 0 0)) := (grS_set _ ub 3 _).trans (grS_set _ ub 4 _)
  have hSl := h.disk.low
  have hwl := h.drw.lt
  have hul := h.dat.ult
  have hT : ∀ z, x.ownBlock = some z → ¬ S z ∧ z ≠ wb ∧ z ≠ ub ∧ lo ≤ z ∧ z < w8.heap.size := fun z hz => by
    obtain ⟨q1, q2⟩ := own_ltT ho hz
    refine ⟨fun e => ?_, by omega, by omega, by omega, q2⟩
    have := (hSl _ e).2
    omega
  obtain ⟨sv, rv, lv, fv, hr, h1, h2, h3, h4⟩ := h8.dat
  obtain rfl : lv = .slice none 0 0 := h3
  obtain rfl : fv = .slice none 0 0 := h4
  refine ⟨h8.disk.grS hG (fun z hz e => h.nub (e ▸ hz)), h8.drw.grS hG h.ne, ⟨x, _, heap_setCell_same _ _ 4 _ _ _ (heap_setCell_same _ _ 3 _ _ _ hr), ⟨hbs, hG.own (ho.mono hlo) (fun z hz => (hT z hz).2.2.1), fun z hz => hz⟩, RcX.nil _ _ _⟩, h.nwb, h.nub, h.ne, h.lwb, h.lub, fun z hz => ?_⟩
  obtain ⟨q1, q2, q3, q4, q5⟩ := hT z hz
  exact ⟨q1, q2, q3, q4, Nat.lt_of_lt_of_le q5 hG.size⟩
end

set_option maxRecDepth 4000 in
set_option maxHeartbeats 1000000 in
theorem step_foldE {lo db ub wb sum g n : Nat} {st : Bool} {S T : Nat → Prop} {d : Dk} {s : List Nat} {R : List Rec} {N M : Int} {a ka : Option Addr} {c kc : Nat} {bs : List Nat} {ks : List Int} (b3 : Bool) (s4 : ByteArray) (n7 : Int) (w : World) (h : KpM lo S T ub db wb sum g n st d s R none none false w) (hlo : lo ≤ w.heap.size) (ht : TabL lo w) (hI : OpIn lo w a c bs ka ks N M) (hdS : bs = [] ∨ ∀ p, a = some p → ¬ S p.block ∧ p.block ≠ wb) (hg : g ≤ 99999999) (hsum : sum < 4294967296) {E : Nat} {d' : Dk} (hE : E = 190 ∨ E = 191 ∨ E = 194) (hP : foldR d sum g n st bs = (E, d', g, n, true)) :
    Calls Tryz.prog 17 #[.pointer (some ⟨ub, 0, none⟩), .agg #[.int .i64 13, .int .i64 N, .int .i64 M, .bool b3, .string s4, .slice a bs.length c, .slice ka ks.length kc, .int .u32 n7]] w fun e w' => e = .returned (.bool true) ∧ (∃ S' T' soft', KpM lo S' T' ub db wb sum g n true d' s R none (some bs) soft' w') ∧ Below lo w w' := by
  obtain ⟨W1, hW1⟩ : ∃ W1, w.alloc (.cells #[.int .i64 13, .int .i64 N, .int .i64 M, .bool b3, .string s4, .slice a bs.length c, .slice ka ks.length kc, .int .u32 n7] 52) = W1 := ⟨_, rfl⟩
  obtain ⟨b0, r0⟩ := boxed w (cs := #[.int .i64 13, .int .i64 N, .int .i64 M, .bool b3, .string s4, .slice a bs.length c, .slice ka ks.length kc, .int .u32 n7]) (t := 52)
  rw [hW1] at b0 r0
  have k0 : W1.cell? ⟨w.heap.size, 0, none⟩ = some (.int .i64 13) := cell_of_row _ _ 0 _ _ _ r0
  have k5 : W1.cell? ⟨w.heap.size, 5, none⟩ = some (.slice a bs.length c) := cell_of_row _ _ 5 _ _ _ r0
  have hx := World.block_lt_of_cell? _ _ k0
  have hl1 : lo ≤ W1.heap.size := Nat.le_trans hlo b0.size
  have bl0 : Below lo w W1 := b0.mono hlo
  have hI1 := hI.later b0
  obtain ⟨la, lc, fa, fc, c5, c6, c7, c1, cf, ra, rc, c4⟩ := (h.later b0).dat.fly
  have hul := (h.later b0).dat.ult
  have hnil : ∀ (b : Nat) (W : World), (binOp BinOp.eql 28 (.pointer (some ⟨b, 0, none⟩)) (.pointer none)).run Tryz.prog W = .ok (.bool false) W := fun _ _ => rfl
  have hbb := Hid.mk hI1.byt.1
  have D3 : Below W1.heap.size W1 W1.drew := (Below.refl _ _).drew
  have hby1 := Hid.mk (hI1.byt.later D3)
  replace hdS := Hid.mk hdS
  have hcap := hI1.cap
  have hlen := hI1.len
  have hFt := h.fold hlo ht hg hsum bs (Nat.le_trans hI1.len (by decide)) W1.drew (below_step b0 D3) a c hI1.cap (hI1.byt.later D3)
  have d1 : W1.drew.cell? ⟨ub, 1, none⟩ = some (.pointer (some ⟨wb, 0, none⟩)) := (D3.cell (p := ⟨ub, 1, none⟩) hul).trans c1
  have d5 : W1.drew.cell? ⟨w.heap.size, 5, none⟩ = some (.slice a bs.length c) := (D3.cell (p := ⟨w.heap.size, 5, none⟩) hx).trans k5
  have hxd : w.heap.size < W1.drew.heap.size := Nat.lt_of_lt_of_le hx D3.size
  have S3 := And.intro d1 d5
  replace c1 : W1.cell? ⟨ub, 1, none⟩ = some (.pointer (some ⟨wb, 0, none⟩)) := c1
  clear r0 h ht c4 c5 c6 c7 cf hI hI1
  simp only [hP] at hFt
  rcases hE with rfl | rfl | rfl
  all_goals
    go_enter Tryz.func17, Tryz.ntmps17
    go_upto_region 33 with fail
    clear c1
    go_region_held3 (fun X => X.cell? ⟨ub, 1, none⟩ = some (.pointer (some ⟨wb, 0, none⟩)) ∧ X.cell? ⟨w.heap.size, 5, none⟩ = some (.slice a bs.length c)) (with_reducible assumption) ((go_at_call 38; refine hFt.mono ?_; rintro e w4 ⟨rfl, ⟨S4, hM4⟩, hb4, hce, hgr4⟩; obtain ⟨la, lc, fa, fc, e5, e6, e7, e1, ef, ra, rc, e4⟩ := hM4.dat.fly; replace e1 : w4.cell? ⟨ub, 1, none⟩ = some (.pointer (some ⟨wb, 0, none⟩)) := e1; have j5 := (hce _ 5 (Nat.le_refl _) hxd).trans d5; have S4' := And.intro e1 j5))
    have Bl4 : Below lo W1 w4 := (D3.mono hl1).trans hb4
    have hby4 := Hid.mk (hgr4.byts2 hby1.out (hdS.out.imp id (fun hd p hp e => e.elim (hd p hp).1 (hd p hp).2)))
    clear hgr4 hdS hby1
    have BL : Below lo w w4 := bl0.trans Bl4
    have hl4 : lo ≤ w4.heap.size := Nat.le_trans hl1 Bl4.size
    have hul4 := hM4.dat.ult
    replace hM4 := Hid.mk hM4
    clear S3 S4' d1 d5 hce hFt k0 k5
    simp only [Option.toList_none, List.length_nil] at e5 e6
    have hF4 : Hid (∀ X, Below w4.heap.size w4 X → X.cell? ⟨ub, 6, none⟩ = some (.slice fa 0 fc) ∧ X.cell? ⟨ub, 7, none⟩ = some (.bool false) ∧ X.frozen? ⟨ub, 6, none⟩ = false ∧ X.frozen? ⟨ub, 7, none⟩ = false) := ⟨fun X hX => by
      obtain ⟨-, -, -, -, -, -, -, -, y5, -⟩ := (hM4.out.later hX).dat.fly
      exact ⟨(hX.cell (p := ⟨ub, 6, none⟩) hul4).trans e6, (hX.cell (p := ⟨ub, 7, none⟩) hul4).trans e7, y5 6, y5 7⟩⟩
    go_wp2_with (at_builtin; refine stopJ ?_)
    unfold StopJ
    refine wpList_copyN w4 rfl _ _ rfl w4.heap.size (Nat.le_refl _) (.slice none 0 0) rfl (World.ownsRow_nil _ _ _ _) a c bs rfl hcap hby4.out (Nat.le_trans hlen (by decide)) ?_
    intro a5 c5 w5 ho5 hB5 hb5
    obtain ⟨bA5, -⟩ := boxed w5 (cs := #[.slice a5 bs.length c5]) (t := 23)
    obtain ⟨f5, f6, f7, f8⟩ := hF4.out _ (below_step hb5 bA5)
    have hK := fun b => Hid.mk (hM4.out.flies b hb5 hbb.out ho5 rfl hl4)
    clear hB5
    go_wp2
    go_ret
    exact ⟨rfl, ⟨S4, _, _, (hK _).out⟩, (BL.trans ((hb5.mono hl4).trans (bA5.mono (Nat.le_trans hl4 hb5.size)))).trans (((grS_set _ ub 6 _).trans (grS_set _ ub 7 _)).below (Nat.le_trans (Nat.le_trans hl4 hb5.size) bA5.size) (fun k e => e ▸ hM4.out.lub))⟩

set_option maxRecDepth 4000 in
set_option maxHeartbeats 1000000 in
theorem step_foldO {lo db ub wb sum g n : Nat} {st : Bool} {S T : Nat → Prop} {d : Dk} {s : List Nat} {R : List Rec} {N M : Int} {a ka : Option Addr} {c kc : Nat} {bs : List Nat} {ks : List Int} (b3 : Bool) (s4 : ByteArray) (n7 : Int) (w : World) (h : KpM lo S T ub db wb sum g n st d s R none none false w) (hlo : lo ≤ w.heap.size) (ht : TabL lo w) (hI : OpIn lo w a c bs ka ks N M) (hdS : bs = [] ∨ ∀ p, a = some p → ¬ S p.block ∧ p.block ≠ wb) (hg : g ≤ 99999999) (hsum : sum < 4294967296) {d' : Dk} (hP : foldR d sum g n st bs = (0, d', g + 1, 0, false)) :
    Calls Tryz.prog 17 #[.pointer (some ⟨ub, 0, none⟩), .agg #[.int .i64 13, .int .i64 N, .int .i64 M, .bool b3, .string s4, .slice a bs.length c, .slice ka ks.length kc, .int .u32 n7]] w fun e w' => e = .returned (.bool true) ∧ (∃ S' T', KpG lo S' T' ub db wb sum d' bs [] (g + 1) 0 (.slice none 0 0) (.slice none 0 0) false w') ∧ Below lo w w' := by
  obtain ⟨W1, hW1⟩ : ∃ W1, w.alloc (.cells #[.int .i64 13, .int .i64 N, .int .i64 M, .bool b3, .string s4, .slice a bs.length c, .slice ka ks.length kc, .int .u32 n7] 52) = W1 := ⟨_, rfl⟩
  obtain ⟨b0, r0⟩ := boxed w (cs := #[.int .i64 13, .int .i64 N, .int .i64 M, .bool b3, .string s4, .slice a bs.length c, .slice ka ks.length kc, .int .u32 n7]) (t := 52)
  rw [hW1] at b0 r0
  have k0 : W1.cell? ⟨w.heap.size, 0, none⟩ = some (.int .i64 13) := cell_of_row _ _ 0 _ _ _ r0
  have k5 : W1.cell? ⟨w.heap.size, 5, none⟩ = some (.slice a bs.length c) := cell_of_row _ _ 5 _ _ _ r0
  have hx := World.block_lt_of_cell? _ _ k0
  have hl1 : lo ≤ W1.heap.size := Nat.le_trans hlo b0.size
  have bl0 : Below lo w W1 := b0.mono hlo
  have hI1 := hI.later b0
  obtain ⟨la, lc, fa, fc, c5, c6, c7, c1, cf, ra, rc, c4⟩ := (h.later b0).dat.fly
  have hul := (h.later b0).dat.ult
  have hnil : ∀ (b : Nat) (W : World), (binOp BinOp.eql 28 (.pointer (some ⟨b, 0, none⟩)) (.pointer none)).run Tryz.prog W = .ok (.bool false) W := fun _ _ => rfl
  have hbb := Hid.mk hI1.byt.1
  have D3 : Below W1.heap.size W1 W1.drew := (Below.refl _ _).drew
  have hby1 := Hid.mk (hI1.byt.later D3)
  replace hdS := Hid.mk hdS
  have hcap := hI1.cap
  have hlen := hI1.len
  have hFt := h.fold hlo ht hg hsum bs (Nat.le_trans hI1.len (by decide)) W1.drew (below_step b0 D3) a c hI1.cap (hI1.byt.later D3)
  have d1 : W1.drew.cell? ⟨ub, 1, none⟩ = some (.pointer (some ⟨wb, 0, none⟩)) := (D3.cell (p := ⟨ub, 1, none⟩) hul).trans c1
  have d5 : W1.drew.cell? ⟨w.heap.size, 5, none⟩ = some (.slice a bs.length c) := (D3.cell (p := ⟨w.heap.size, 5, none⟩) hx).trans k5
  have hxd : w.heap.size < W1.drew.heap.size := Nat.lt_of_lt_of_le hx D3.size
  have S3 := And.intro d1 d5
  replace c1 : W1.cell? ⟨ub, 1, none⟩ = some (.pointer (some ⟨wb, 0, none⟩)) := c1
  clear r0 h ht c4 c5 c6 c7 cf hI hI1
  simp only [hP] at hFt
  go_enter Tryz.func17, Tryz.ntmps17
  go_upto_region 33 with fail
  clear c1
  go_region_held3 (fun X => X.cell? ⟨ub, 1, none⟩ = some (.pointer (some ⟨wb, 0, none⟩)) ∧ X.cell? ⟨w.heap.size, 5, none⟩ = some (.slice a bs.length c)) (with_reducible assumption) ((go_at_call 38; refine hFt.mono ?_; rintro e w4 ⟨rfl, ⟨S4, hM4⟩, hb4, hce, hgr4⟩; obtain ⟨la, lc, fa, fc, e5, e6, e7, e1, ef, ra, rc, e4⟩ := hM4.dat.fly; replace e1 : w4.cell? ⟨ub, 1, none⟩ = some (.pointer (some ⟨wb, 0, none⟩)) := e1; have j5 := (hce _ 5 (Nat.le_refl _) hxd).trans d5; have S4' := And.intro e1 j5))
  have Bl4 : Below lo W1 w4 := (D3.mono hl1).trans hb4
  have hby4 := Hid.mk (hgr4.byts2 hby1.out (hdS.out.imp id (fun hd p hp e => e.elim (hd p hp).1 (hd p hp).2)))
  clear hgr4 hdS hby1
  have BL : Below lo w w4 := bl0.trans Bl4
  have hl4 : lo ≤ w4.heap.size := Nat.le_trans hl1 Bl4.size
  have hul4 := hM4.dat.ult
  replace hM4 := Hid.mk hM4
  clear S3 S4' d1 d5 hce hFt k0 k5
  simp only [Option.toList_none, List.length_nil] at e5 e6
  have hF4 : Hid (∀ X, Below w4.heap.size w4 X → (∃ v, X.cell? ⟨ub, 3, none⟩ = some v) ∧ X.cell? ⟨ub, 4, none⟩ = some (.slice ra R.length rc) ∧ X.frozen? ⟨ub, 3, none⟩ = false ∧ X.frozen? ⟨ub, 4, none⟩ = false) := ⟨fun X hX => by
    obtain ⟨-, -, -, -, -, -, -, -, y5, -⟩ := (hM4.out.later hX).dat.fly
    obtain ⟨sv, rv, lv, fv, hr, -⟩ := (hM4.out.later hX).dat
    exact ⟨⟨_, (wd_cells hr).2.2.2.1⟩, (hX.cell (p := ⟨ub, 4, none⟩) hul4).trans e4, y5 3, y5 4⟩⟩
  go_wp2_with (at_builtin; refine stopJ ?_)
  unfold StopJ
  refine wpList_copyN w4 rfl _ _ rfl w4.heap.size (Nat.le_refl _) (.slice none 0 0) rfl (World.ownsRow_nil _ _ _ _) a c bs rfl hcap hby4.out (Nat.le_trans hlen (by decide)) ?_
  intro a5 c5 w5 ho5 hB5 hb5
  obtain ⟨⟨v3, f3⟩, f4, f5, f6⟩ := hF4.out _ hb5
  have hK := Hid.mk (hM4.out.told hb5 hbb.out ho5 hl4)
  have hBz : Hid (Below lo w ((w5.setCell ⟨ub, 3, none⟩ (.slice a5 bs.length c5)).setCell ⟨ub, 4, none⟩ (.slice none 0 0))) := ⟨(BL.trans (hb5.mono hl4)).trans (((grS_set _ ub 3 _).trans (grS_set _ ub 4 _)).below (Nat.le_trans hl4 hb5.size) (fun k e => e ▸ hM4.out.lub))⟩
  have hLn := Hid.mk (len_any _ hK.out.drw)
  have hrz := hK.out.row
  clear hB5
  obtain ⟨sz, rz, hrz, -⟩ := hrz
  obtain ⟨-, s1, -, -, -, s5, s6, -⟩ := wd_cells hrz
  clear hrz hM4
  go_wp2_with (go_at_call 28; refine hLn.out.mono ?_; rintro e w9 ⟨rfl, rfl⟩)
  go_ret
  exact ⟨rfl, ⟨S4, _, hK.out⟩, hBz.out⟩
end Go.Proofs.YtakcdgeanbpllaaGreatDoor.DJ

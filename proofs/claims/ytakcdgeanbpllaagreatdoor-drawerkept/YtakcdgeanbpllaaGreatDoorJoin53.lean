import Derived.Test.YtakcdgeanbpllaaGreatDoorJoin52
/- world.step, kind by kind. -/
namespace Go.Proofs.YtakcdgeanbpllaaGreatDoor.DJ
open Go.RowKit
set_option linter.constructorNameAsVariable false

/-- How many generations there may be. -/
def gen (g : Nat) (F : Option (List Nat)) : Nat := g + if F.isSome then 1 else 0
/-- What a step that came in hands over. -/
structure OpIn (lo : Nat) (w : World) (a : Option Addr) (c : Nat) (bs : List Nat) (ka : Option Addr) (ks : List Int) (N M : Int) : Prop where
  N : -9223372036854775808 ≤ N ∧ N ≤ 9223372036854775807
  M : -9223372036854775808 ≤ M ∧ M ≤ 9223372036854775807
  byt : Byts w a bs
  cap : a = none → c = 0
  len : bs.length ≤ 140737488351232
  kp : KpAt w ka ks
  klen : ks.length ≤ 4611686018427387904
  klow : ks = [] ∨ ∀ p, ka = some p → p.block < lo
theorem OpIn.later {lo : Nat} {w X : World} {a ka : Option Addr} {c : Nat} {bs : List Nat} {ks : List Int} {N M : Int} (h : OpIn lo w a c bs ka ks N M) (hX : Below w.heap.size w X) : OpIn lo X a c bs ka ks N M := ⟨h.N, h.M, h.byt.later hX, h.cap, h.len, h.kp.later hX, h.klen, h.klow⟩

/-- What a step comes to. -/
def StepP (lo ub db sum g : Nat) (F : Option (List Nat)) (w : World) (e : Ending) (w' : World) : Prop := e = .returned (.bool true) ∧ ∃ S' T' d' s' R' L' F' soft' wp' g', KpS lo S' T' ub db sum d' s' R' L' F' soft' wp' g' w' ∧ Below lo w w' ∧ gen g' F' ≤ gen g F + 1
theorem DiskAt.Sdb {W : World} {lo : Nat} {S : Nat → Prop} {db : Nat} {d : Dk} (h : DiskAt W lo S db d) : S db := by
  obtain ⟨mb, D, fb, vv, h⟩ := h
  exact h.Sdb
theorem boxed (w : World) {cs : Array Value} {t : TypeId} : Below w.heap.size w (w.alloc (.cells cs t)) ∧ (w.alloc (.cells cs t)).heap[w.heap.size]? = some (.cells cs t (0, 0)) := ⟨(Below.refl _ _).alloc (Nat.le_refl _) _, heap_new w _⟩
theorem KpS.moveDb {lo : Nat} {S T : Nat → Prop} {ub db sum : Nat} {d d' : Dk} {s : List Nat} {R : List Rec} {L : Option Rec} {F : Option (List Nat)} {soft : Bool} {wp : Option Nat} {g : Nat} {W X : World} (h : KpS lo S T ub db sum d s R L F soft wp g W) (hD : DiskAt X lo S db d') (hG : GrS (fun k => k = db) W X) (hf : d'.fs = d.fs) : KpS lo S T ub db sum d' s R L F soft wp g X :=
  h.move hD ⟨hG.mono (fun k _ e => e ▸ h.disk.Sdb), fun _ h => .inl h⟩ (by rw [hf]; exact h.shp) (fun hB => by rw [hf]; exact hB)
theorem base_restart {sum : Nat} {s : List Nat} {R : List Rec} {g : Nat} {d : Dk} (h : Base sum s R g d.fs) (ks : List Int) : Base sum s R g (restart d ks).fs := by
  obtain ⟨h1, h2⟩ := h
  refine ⟨?_, h2⟩
  show cuts ks 0 d.fs = _
  rw [h1]
  simp only [cuts, cut_main]

set_option maxRecDepth 4000 in
set_option maxHeartbeats 1000000 in
theorem step_arm {lo db ub sum g : Nat} {S T : Nat → Prop} {d : Dk} {s : List Nat} {R : List Rec} {L : Option Rec} {F : Option (List Nat)} {soft : Bool} {wp : Option Nat} {N M : Int} {a ka : Option Addr} {c kc : Nat} {bs : List Nat} {ks : List Int} (b3 : Bool) (s4 : ByteArray) (n7 : Int) (w : World) (h : KpS lo S T ub db sum d s R L F soft wp g w) (hlo : lo ≤ w.heap.size) (ht : TabL lo w) (hI : OpIn lo w a c bs ka ks N M) :
    Calls Tryz.prog 17 #[.pointer (some ⟨ub, 0, none⟩), .agg #[.int .i64 6, .int .i64 N, .int .i64 M, .bool b3, .string s4, .slice a bs.length c, .slice ka ks.length kc, .int .u32 n7]] w (StepP lo ub db sum g F w) := by
  obtain ⟨W1, hW1⟩ : ∃ W1, w.alloc (.cells #[.int .i64 6, .int .i64 N, .int .i64 M, .bool b3, .string s4, .slice a bs.length c, .slice ka ks.length kc, .int .u32 n7] 52) = W1 := ⟨_, rfl⟩
  obtain ⟨b0, r0⟩ := boxed w (cs := #[.int .i64 6, .int .i64 N, .int .i64 M, .bool b3, .string s4, .slice a bs.length c, .slice ka ks.length kc, .int .u32 n7]) (t := 52)
  rw [hW1] at b0 r0
  have k0 : W1.cell? ⟨w.heap.size, 0, none⟩ = some (.int .i64 6) := cell_of_row _ _ 0 _ _ _ r0
  have k1 : W1.cell? ⟨w.heap.size, 1, none⟩ = some (.int .i64 N) := cell_of_row _ _ 1 _ _ _ r0
  have k2 : W1.cell? ⟨w.heap.size, 2, none⟩ = some (.int .i64 M) := cell_of_row _ _ 2 _ _ _ r0
  have k5 : W1.cell? ⟨w.heap.size, 5, none⟩ = some (.slice a bs.length c) := cell_of_row _ _ 5 _ _ _ r0
  have k6 : W1.cell? ⟨w.heap.size, 6, none⟩ = some (.slice ka ks.length kc) := cell_of_row _ _ 6 _ _ _ r0
  have hx := World.block_lt_of_cell? _ _ k0
  have h1 := h.later b0
  have hl1 : lo ≤ W1.heap.size := Nat.le_trans hlo b0.size
  have ht1 : TabL lo W1 := ht.next (b0.mono hlo)
  have hI1 := hI.later b0
  have bl0 : Below lo w W1 := b0.mono hlo
  have hul := h1.ult
  obtain ⟨q0, q1, q2, -⟩ := h1.dat.cells
  have D1 : Below W1.heap.size W1 W1.drew := (Below.refl _ _).drew
  have hdl : db < w.heap.size := h.disk.lt
  clear r0 h ht hI
  have hud : ¬ ub = db := fun e => h1.nub (e ▸ h1.disk.Sdb)
  have hxd : ¬ w.heap.size = db := fun e => by have := hdl; omega
  have hA := arm_any hI1.N.2 hI1.N.1 W1.drew (h1.disk.later D1)
  have S0 : W1.drew.cell? ⟨ub, 0, none⟩ = some (.pointer (some ⟨db, 0, none⟩)) ∧ W1.drew.cell? ⟨w.heap.size, 1, none⟩ = some (.int .i64 N) := ⟨(D1.cell (p := ⟨ub, 0, none⟩) hul).trans q0, (D1.cell (p := ⟨w.heap.size, 1, none⟩) hx).trans k1⟩
  have hS0 := S0
  obtain ⟨y0, y1⟩ := hS0
  replace h1 := Hid.mk h1
  go_enter Tryz.func17, Tryz.ntmps17
  go_upto_region 3 with fail
  go_region_held3 (fun X => X.cell? ⟨ub, 0, none⟩ = some (.pointer (some ⟨db, 0, none⟩)) ∧ X.cell? ⟨w.heap.size, 1, none⟩ = some (.int .i64 N)) (with_reducible assumption) ((go_at_call 10; refine hA.mono ?_; rintro e w2 ⟨rfl, hD2, hG2⟩; have S2 : w2.cell? ⟨ub, 0, none⟩ = some (.pointer (some ⟨db, 0, none⟩)) ∧ w2.cell? ⟨w.heap.size, 1, none⟩ = some (.int .i64 N) := ⟨(hG2.cell (Nat.lt_of_lt_of_le hul D1.size) hud).trans y0, (hG2.cell (Nat.lt_of_lt_of_le hx D1.size) hxd).trans y1⟩))
  go_wp2
  go_ret
  have hK := (h1.out.later D1).moveDb hD2 hG2 (arm_fs _ _)
  exact ⟨rfl, S, T, _, s, R, L, F, soft, wp, g, hK, bl0.trans ((D1.mono hl1).trans (hG2.below (Nat.le_trans hl1 D1.size) (fun k e => e ▸ (h1.out.disk.low _ h1.out.disk.Sdb).1))), Nat.le_succ _⟩

set_option maxRecDepth 4000 in
set_option maxHeartbeats 1000000 in
theorem step_fail {lo db ub sum g : Nat} {S T : Nat → Prop} {d : Dk} {s : List Nat} {R : List Rec} {L : Option Rec} {F : Option (List Nat)} {soft : Bool} {wp : Option Nat} {N M : Int} {a ka : Option Addr} {c kc : Nat} {bs : List Nat} {ks : List Int} (b3 : Bool) (s4 : ByteArray) (n7 : Int) (w : World) (h : KpS lo S T ub db sum d s R L F soft wp g w) (hlo : lo ≤ w.heap.size) (ht : TabL lo w) (hI : OpIn lo w a c bs ka ks N M) :
    Calls Tryz.prog 17 #[.pointer (some ⟨ub, 0, none⟩), .agg #[.int .i64 7, .int .i64 N, .int .i64 M, .bool b3, .string s4, .slice a bs.length c, .slice ka ks.length kc, .int .u32 n7]] w (StepP lo ub db sum g F w) := by
  obtain ⟨W1, hW1⟩ : ∃ W1, w.alloc (.cells #[.int .i64 7, .int .i64 N, .int .i64 M, .bool b3, .string s4, .slice a bs.length c, .slice ka ks.length kc, .int .u32 n7] 52) = W1 := ⟨_, rfl⟩
  obtain ⟨b0, r0⟩ := boxed w (cs := #[.int .i64 7, .int .i64 N, .int .i64 M, .bool b3, .string s4, .slice a bs.length c, .slice ka ks.length kc, .int .u32 n7]) (t := 52)
  rw [hW1] at b0 r0
  have k0 : W1.cell? ⟨w.heap.size, 0, none⟩ = some (.int .i64 7) := cell_of_row _ _ 0 _ _ _ r0
  have k1 : W1.cell? ⟨w.heap.size, 1, none⟩ = some (.int .i64 N) := cell_of_row _ _ 1 _ _ _ r0
  have k2 : W1.cell? ⟨w.heap.size, 2, none⟩ = some (.int .i64 M) := cell_of_row _ _ 2 _ _ _ r0
  have k5 : W1.cell? ⟨w.heap.size, 5, none⟩ = some (.slice a bs.length c) := cell_of_row _ _ 5 _ _ _ r0
  have k6 : W1.cell? ⟨w.heap.size, 6, none⟩ = some (.slice ka ks.length kc) := cell_of_row _ _ 6 _ _ _ r0
  have hx := World.block_lt_of_cell? _ _ k0
  have h1 := h.later b0
  have hl1 : lo ≤ W1.heap.size := Nat.le_trans hlo b0.size
  have ht1 : TabL lo W1 := ht.next (b0.mono hlo)
  have hI1 := hI.later b0
  have bl0 : Below lo w W1 := b0.mono hlo
  have hul := h1.ult
  obtain ⟨q0, q1, q2, -⟩ := h1.dat.cells
  have D1 : Below W1.heap.size W1 W1.drew := (Below.refl _ _).drew
  have hdl : db < w.heap.size := h.disk.lt
  clear r0 h ht hI
  have hud : ¬ ub = db := fun e => h1.nub (e ▸ h1.disk.Sdb)
  have hxd : ¬ w.heap.size = db := fun e => by have := hdl; omega
  have hA := fail_any hI1.N.2 hI1.N.1 hI1.M.2 hI1.M.1 W1.drew (h1.disk.later D1)
  have S0 : W1.drew.cell? ⟨ub, 0, none⟩ = some (.pointer (some ⟨db, 0, none⟩)) ∧ W1.drew.cell? ⟨w.heap.size, 1, none⟩ = some (.int .i64 N) ∧ W1.drew.cell? ⟨w.heap.size, 2, none⟩ = some (.int .i64 M) := ⟨(D1.cell (p := ⟨ub, 0, none⟩) hul).trans q0, (D1.cell (p := ⟨w.heap.size, 1, none⟩) hx).trans k1, (D1.cell (p := ⟨w.heap.size, 2, none⟩) hx).trans k2⟩
  have hS0 := S0
  obtain ⟨y0, y1, y2⟩ := hS0
  replace h1 := Hid.mk h1
  go_enter Tryz.func17, Tryz.ntmps17
  go_upto_region 5 with fail
  go_region_held3 (fun X => X.cell? ⟨ub, 0, none⟩ = some (.pointer (some ⟨db, 0, none⟩)) ∧ X.cell? ⟨w.heap.size, 1, none⟩ = some (.int .i64 N) ∧ X.cell? ⟨w.heap.size, 2, none⟩ = some (.int .i64 M)) (with_reducible assumption) ((go_at_call 11; refine hA.mono ?_; rintro e w2 ⟨rfl, hD2, hG2⟩; have S2 : w2.cell? ⟨ub, 0, none⟩ = some (.pointer (some ⟨db, 0, none⟩)) ∧ w2.cell? ⟨w.heap.size, 1, none⟩ = some (.int .i64 N) ∧ w2.cell? ⟨w.heap.size, 2, none⟩ = some (.int .i64 M) := ⟨(hG2.cell (Nat.lt_of_lt_of_le hul D1.size) hud).trans y0, (hG2.cell (Nat.lt_of_lt_of_le hx D1.size) hxd).trans y1, (hG2.cell (Nat.lt_of_lt_of_le hx D1.size) hxd).trans y2⟩))
  go_wp2
  go_ret
  have hK := (h1.out.later D1).moveDb hD2 hG2 (fail_fs _ _ _)
  exact ⟨rfl, S, T, _, s, R, L, F, soft, wp, g, hK, bl0.trans ((D1.mono hl1).trans (hG2.below (Nat.le_trans hl1 D1.size) (fun k e => e ▸ (h1.out.disk.low _ h1.out.disk.Sdb).1))), Nat.le_succ _⟩

set_option maxRecDepth 4000 in
set_option maxHeartbeats 1000000 in
theorem step_crash {lo db ub sum g : Nat} {S T : Nat → Prop} {d : Dk} {s : List Nat} {R : List Rec} {L : Option Rec} {F : Option (List Nat)} {soft : Bool} {wp : Option Nat} {N M : Int} {a ka : Option Addr} {c kc : Nat} {bs : List Nat} {ks : List Int} (b3 : Bool) (s4 : ByteArray) (n7 : Int) (w : World) (h : KpS lo S T ub db sum d s R L F soft wp g w) (hlo : lo ≤ w.heap.size) (ht : TabL lo w) (hI : OpIn lo w a c bs ka ks N M) :
    Calls Tryz.prog 17 #[.pointer (some ⟨ub, 0, none⟩), .agg #[.int .i64 8, .int .i64 N, .int .i64 M, .bool b3, .string s4, .slice a bs.length c, .slice ka ks.length kc, .int .u32 n7]] w (StepP lo ub db sum g F w) := by
  obtain ⟨W1, hW1⟩ : ∃ W1, w.alloc (.cells #[.int .i64 8, .int .i64 N, .int .i64 M, .bool b3, .string s4, .slice a bs.length c, .slice ka ks.length kc, .int .u32 n7] 52) = W1 := ⟨_, rfl⟩
  obtain ⟨b0, r0⟩ := boxed w (cs := #[.int .i64 8, .int .i64 N, .int .i64 M, .bool b3, .string s4, .slice a bs.length c, .slice ka ks.length kc, .int .u32 n7]) (t := 52)
  rw [hW1] at b0 r0
  have k0 : W1.cell? ⟨w.heap.size, 0, none⟩ = some (.int .i64 8) := cell_of_row _ _ 0 _ _ _ r0
  have k1 : W1.cell? ⟨w.heap.size, 1, none⟩ = some (.int .i64 N) := cell_of_row _ _ 1 _ _ _ r0
  have k2 : W1.cell? ⟨w.heap.size, 2, none⟩ = some (.int .i64 M) := cell_of_row _ _ 2 _ _ _ r0
  have k5 : W1.cell? ⟨w.heap.size, 5, none⟩ = some (.slice a bs.length c) := cell_of_row _ _ 5 _ _ _ r0
  have k6 : W1.cell? ⟨w.heap.size, 6, none⟩ = some (.slice ka ks.length kc) := cell_of_row _ _ 6 _ _ _ r0
  have hx := World.block_lt_of_cell? _ _ k0
  have h1 := h.later b0
  have hl1 : lo ≤ W1.heap.size := Nat.le_trans hlo b0.size
  have ht1 : TabL lo W1 := ht.next (b0.mono hlo)
  have hI1 := hI.later b0
  have bl0 : Below lo w W1 := b0.mono hlo
  have hul := h1.ult
  obtain ⟨q0, q1, q2, -⟩ := h1.dat.cells
  have D1 : Below W1.heap.size W1 W1.drew := (Below.refl _ _).drew
  have hdl : db < w.heap.size := h.disk.lt
  clear r0 h ht hI
  have hA := crash_any W1 h1.disk
  have hdl : db < w.heap.size := hdl
  replace h1 := Hid.mk h1
  go_enter Tryz.func17, Tryz.ntmps17
  go_wp2_with (go_at_call 37; refine hA.mono ?_; rintro e w2 ⟨rfl, hD2, hG2⟩)
  go_ret
  have hK := h1.out.moveDb hD2 hG2 rfl
  exact ⟨rfl, S, T, _, s, R, L, F, soft, wp, g, hK, bl0.trans (hG2.below hl1 (fun k e => e ▸ (h1.out.disk.low _ h1.out.disk.Sdb).1)), Nat.le_succ _⟩

set_option maxRecDepth 4000 in
set_option maxHeartbeats 1000000 in
theorem step_restart {lo db ub sum g : Nat} {S T : Nat → Prop} {d : Dk} {s : List Nat} {R : List Rec} {L : Option Rec} {F : Option (List Nat)} {soft : Bool} {wp : Option Nat} {N M : Int} {a ka : Option Addr} {c kc : Nat} {bs : List Nat} {ks : List Int} (b3 : Bool) (s4 : ByteArray) (n7 : Int) (w : World) (h : KpS lo S T ub db sum d s R L F soft wp g w) (hlo : lo ≤ w.heap.size) (ht : TabL lo w) (hI : OpIn lo w a c bs ka ks N M) :
    Calls Tryz.prog 17 #[.pointer (some ⟨ub, 0, none⟩), .agg #[.int .i64 9, .int .i64 N, .int .i64 M, .bool b3, .string s4, .slice a bs.length c, .slice ka ks.length kc, .int .u32 n7]] w (StepP lo ub db sum g F w) := by
  obtain ⟨W1, hW1⟩ : ∃ W1, w.alloc (.cells #[.int .i64 9, .int .i64 N, .int .i64 M, .bool b3, .string s4, .slice a bs.length c, .slice ka ks.length kc, .int .u32 n7] 52) = W1 := ⟨_, rfl⟩
  obtain ⟨b0, r0⟩ := boxed w (cs := #[.int .i64 9, .int .i64 N, .int .i64 M, .bool b3, .string s4, .slice a bs.length c, .slice ka ks.length kc, .int .u32 n7]) (t := 52)
  rw [hW1] at b0 r0
  have k0 : W1.cell? ⟨w.heap.size, 0, none⟩ = some (.int .i64 9) := cell_of_row _ _ 0 _ _ _ r0
  have k1 : W1.cell? ⟨w.heap.size, 1, none⟩ = some (.int .i64 N) := cell_of_row _ _ 1 _ _ _ r0
  have k2 : W1.cell? ⟨w.heap.size, 2, none⟩ = some (.int .i64 M) := cell_of_row _ _ 2 _ _ _ r0
  have k5 : W1.cell? ⟨w.heap.size, 5, none⟩ = some (.slice a bs.length c) := cell_of_row _ _ 5 _ _ _ r0
  have k6 : W1.cell? ⟨w.heap.size, 6, none⟩ = some (.slice ka ks.length kc) := cell_of_row _ _ 6 _ _ _ r0
  have hx := World.block_lt_of_cell? _ _ k0
  have h1 := h.later b0
  have hl1 : lo ≤ W1.heap.size := Nat.le_trans hlo b0.size
  have ht1 : TabL lo W1 := ht.next (b0.mono hlo)
  have hI1 := hI.later b0
  have bl0 : Below lo w W1 := b0.mono hlo
  have hul := h1.ult
  obtain ⟨q0, q1, q2, -⟩ := h1.dat.cells
  have D1 : Below W1.heap.size W1 W1.drew := (Below.refl _ _).drew
  have hlS : ∀ k, S k → k < w.heap.size := fun k hk => (h.disk.low k hk).2
  clear r0 h ht hI
  have hnk : ks = [] ∨ ∀ p, ka = some p → ¬ S p.block := hI1.klow.imp id (fun hl p hp e => by have := hl p hp; have := (h1.disk.low _ e).1; omega)
  have hA := restart_any2 ks hI1.klen ka kc W1.drew (Nat.le_trans hl1 D1.size) (hI1.kp.later D1) hnk (h1.disk.later D1)
  have hxS : ¬ S w.heap.size := fun e => by have := hlS _ e; omega
  have y0 : W1.drew.cell? ⟨ub, 0, none⟩ = some (.pointer (some ⟨db, 0, none⟩)) := (D1.cell (p := ⟨ub, 0, none⟩) hul).trans q0
  have y6 : W1.drew.cell? ⟨w.heap.size, 6, none⟩ = some (.slice ka ks.length kc) := (D1.cell (p := ⟨w.heap.size, 6, none⟩) hx).trans k6
  have S0 := And.intro y0 y6
  have hnu := h1.nub
  have hSl := (h1.disk.later D1).low
  replace h1 := Hid.mk h1
  go_enter Tryz.func17, Tryz.ntmps17
  go_upto_region 9 with fail
  go_region_held3 (fun X => X.cell? ⟨ub, 0, none⟩ = some (.pointer (some ⟨db, 0, none⟩)) ∧ X.cell? ⟨w.heap.size, 6, none⟩ = some (.slice ka ks.length kc)) (with_reducible assumption) ((go_at_call 19; refine hA.mono ?_; rintro e w2 ⟨rfl, S2, hD2, hv2⟩; have S2' := And.intro ((hv2.gr.cell (Nat.lt_of_lt_of_le hul D1.size) hnu).trans y0) ((hv2.gr.cell (Nat.lt_of_lt_of_le hx D1.size) hxS).trans y6)))
  go_wp2
  go_ret
  have hK := (h1.out.later D1).move hD2 hv2 (restart_kept h1.out.shp ks) (fun hB => base_restart hB ks)
  exact ⟨rfl, S2, T, _, s, R, L, F, soft, wp, g, hK, bl0.trans ((D1.mono hl1).trans (hv2.below' (Nat.le_trans hl1 D1.size) hSl)), Nat.le_succ _⟩

set_option maxRecDepth 4000 in
set_option maxHeartbeats 1000000 in
theorem step_open {lo db ub sum g : Nat} {S T : Nat → Prop} {d : Dk} {s : List Nat} {R : List Rec} {L : Option Rec} {F : Option (List Nat)} {soft : Bool} {wp : Option Nat} {N M : Int} {a ka : Option Addr} {c kc : Nat} {bs : List Nat} {ks : List Int} (b3 : Bool) (s4 : ByteArray) (n7 : Int) (w : World) (h : KpS lo S T ub db sum d s R L F soft wp g w) (hlo : lo ≤ w.heap.size) (ht : TabL lo w) (hI : OpIn lo w a c bs ka ks N M) :
    Calls Tryz.prog 17 #[.pointer (some ⟨ub, 0, none⟩), .agg #[.int .i64 11, .int .i64 N, .int .i64 M, .bool b3, .string s4, .slice a bs.length c, .slice ka ks.length kc, .int .u32 n7]] w (StepP lo ub db sum g F w) := by
  obtain ⟨W1, hW1⟩ : ∃ W1, w.alloc (.cells #[.int .i64 11, .int .i64 N, .int .i64 M, .bool b3, .string s4, .slice a bs.length c, .slice ka ks.length kc, .int .u32 n7] 52) = W1 := ⟨_, rfl⟩
  obtain ⟨b0, r0⟩ := boxed w (cs := #[.int .i64 11, .int .i64 N, .int .i64 M, .bool b3, .string s4, .slice a bs.length c, .slice ka ks.length kc, .int .u32 n7]) (t := 52)
  rw [hW1] at b0 r0
  have k0 : W1.cell? ⟨w.heap.size, 0, none⟩ = some (.int .i64 11) := cell_of_row _ _ 0 _ _ _ r0
  have k1 : W1.cell? ⟨w.heap.size, 1, none⟩ = some (.int .i64 N) := cell_of_row _ _ 1 _ _ _ r0
  have k2 : W1.cell? ⟨w.heap.size, 2, none⟩ = some (.int .i64 M) := cell_of_row _ _ 2 _ _ _ r0
  have k5 : W1.cell? ⟨w.heap.size, 5, none⟩ = some (.slice a bs.length c) := cell_of_row _ _ 5 _ _ _ r0
  have k6 : W1.cell? ⟨w.heap.size, 6, none⟩ = some (.slice ka ks.length kc) := cell_of_row _ _ 6 _ _ _ r0
  have hx := World.block_lt_of_cell? _ _ k0
  have h1 := h.later b0
  have hl1 : lo ≤ W1.heap.size := Nat.le_trans hlo b0.size
  have ht1 : TabL lo W1 := ht.next (b0.mono hlo)
  have hI1 := hI.later b0
  have bl0 : Below lo w W1 := b0.mono hlo
  have hul := h1.ult
  obtain ⟨q0, q1, q2, -⟩ := h1.dat.cells
  have D1 : Below W1.heap.size W1 W1.drew := (Below.refl _ _).drew
  clear r0 h ht hI
  obtain ⟨hop, -⟩ := open_kept h1.fine h1.shp
  have hA : Calls Tryz.prog 9 #[.pointer (some ⟨ub, 0, none⟩)] W1 (StepP lo ub db sum g F w) := by
    rcases hop with ⟨-, g', s', R', hn, hm, hg, hB⟩ | ⟨he, hn, hs⟩
    · refine (wopen_ok W1 h1 hl1 ht1 hn hm hB).mono ?_
      rintro e w2 ⟨rfl, S2, T2, wb, hK, hb⟩
      refine ⟨rfl, S2, T2, _, s', R', none, none, false, some wb, g', hK, bl0.trans hb, ?_⟩
      rcases hg with rfl | ⟨rfl, hF⟩
      · exact Nat.le_trans (Nat.le_add_right g' _) (Nat.le_succ _)
      · unfold gen
        rw [hF]
        exact Nat.le_succ _
    · refine (wopen_err W1 h1 hl1 ht1 he hn hs).mono ?_
      rintro e w2 ⟨rfl, S2, hK, hb⟩
      exact ⟨rfl, S2, T, _, s, R, L, F, soft, none, g, hK, bl0.trans hb, Nat.le_succ _⟩
  clear hop h1
  go_enter Tryz.func17, Tryz.ntmps17
  go_wp2_with (go_at_call 9; refine hA.mono ?_; rintro e w2 ⟨rfl, hE⟩)
  go_ret
  exact ⟨rfl, hE⟩

set_option maxRecDepth 4000 in
set_option maxHeartbeats 1000000 in
theorem step_files {lo db ub sum g : Nat} {S T : Nat → Prop} {d : Dk} {s : List Nat} {R : List Rec} {L : Option Rec} {F : Option (List Nat)} {soft : Bool} {wp : Option Nat} {N M : Int} {a ka : Option Addr} {c kc : Nat} {bs : List Nat} {ks : List Int} (b3 : Bool) (s4 : ByteArray) (n7 : Int) (w : World) (h : KpS lo S T ub db sum d s R L F soft wp g w) (hlo : lo ≤ w.heap.size) (ht : TabL lo w) (hI : OpIn lo w a c bs ka ks N M) :
    Calls Tryz.prog 17 #[.pointer (some ⟨ub, 0, none⟩), .agg #[.int .i64 10, .int .i64 N, .int .i64 M, .bool b3, .string s4, .slice a bs.length c, .slice ka ks.length kc, .int .u32 n7]] w (StepP lo ub db sum g F w) := by
  obtain ⟨W1, hW1⟩ : ∃ W1, w.alloc (.cells #[.int .i64 10, .int .i64 N, .int .i64 M, .bool b3, .string s4, .slice a bs.length c, .slice ka ks.length kc, .int .u32 n7] 52) = W1 := ⟨_, rfl⟩
  obtain ⟨b0, r0⟩ := boxed w (cs := #[.int .i64 10, .int .i64 N, .int .i64 M, .bool b3, .string s4, .slice a bs.length c, .slice ka ks.length kc, .int .u32 n7]) (t := 52)
  rw [hW1] at b0 r0
  have k0 : W1.cell? ⟨w.heap.size, 0, none⟩ = some (.int .i64 10) := cell_of_row _ _ 0 _ _ _ r0
  have k1 : W1.cell? ⟨w.heap.size, 1, none⟩ = some (.int .i64 N) := cell_of_row _ _ 1 _ _ _ r0
  have k2 : W1.cell? ⟨w.heap.size, 2, none⟩ = some (.int .i64 M) := cell_of_row _ _ 2 _ _ _ r0
  have k5 : W1.cell? ⟨w.heap.size, 5, none⟩ = some (.slice a bs.length c) := cell_of_row _ _ 5 _ _ _ r0
  have k6 : W1.cell? ⟨w.heap.size, 6, none⟩ = some (.slice ka ks.length kc) := cell_of_row _ _ 6 _ _ _ r0
  have hx := World.block_lt_of_cell? _ _ k0
  have h1 := h.later b0
  have hl1 : lo ≤ W1.heap.size := Nat.le_trans hlo b0.size
  have ht1 : TabL lo W1 := ht.next (b0.mono hlo)
  have hI1 := hI.later b0
  have bl0 : Below lo w W1 := b0.mono hlo
  have hul := h1.ult
  obtain ⟨q0, q1, q2, -⟩ := h1.dat.cells
  have D1 : Below W1.heap.size W1 W1.drew := (Below.refl _ _).drew
  clear r0 h ht hI
  have hA := other_any ks hI1.klen ka kc W1 h1 hl1 ht1 hI1.kp (hI1.klow.imp id (fun hl p hp => Nat.lt_of_lt_of_le (hl p hp) hl1))
  replace h1 := Hid.mk h1
  go_enter Tryz.func17, Tryz.ntmps17
  go_wp2_with (go_at_call 18; refine hA.mono ?_; rintro e w2 ⟨rfl, hb2⟩)
  go_ret
  exact ⟨rfl, S, T, d, s, R, L, F, soft, wp, g, h1.out.later hb2, bl0.trans (hb2.mono hl1), Nat.le_succ _⟩

set_option maxRecDepth 4000 in
set_option maxHeartbeats 1000000 in
theorem step_put0 {lo db ub sum g : Nat} {S T : Nat → Prop} {d : Dk} {s : List Nat} {R : List Rec} {L : Option Rec} {F : Option (List Nat)} {soft : Bool} {N M : Int} {a ka : Option Addr} {c kc : Nat} {bs : List Nat} {ks : List Int} (b3 : Bool) (s4 : ByteArray) (n7 : Int) (w : World) (h : KpS lo S T ub db sum d s R L F soft none g w) (hlo : lo ≤ w.heap.size) (ht : TabL lo w) (hI : OpIn lo w a c bs ka ks N M) :
    Calls Tryz.prog 17 #[.pointer (some ⟨ub, 0, none⟩), .agg #[.int .i64 12, .int .i64 N, .int .i64 M, .bool b3, .string s4, .slice a bs.length c, .slice ka ks.length kc, .int .u32 n7]] w (StepP lo ub db sum g F w) := by
  obtain ⟨W1, hW1⟩ : ∃ W1, w.alloc (.cells #[.int .i64 12, .int .i64 N, .int .i64 M, .bool b3, .string s4, .slice a bs.length c, .slice ka ks.length kc, .int .u32 n7] 52) = W1 := ⟨_, rfl⟩
  obtain ⟨b0, r0⟩ := boxed w (cs := #[.int .i64 12, .int .i64 N, .int .i64 M, .bool b3, .string s4, .slice a bs.length c, .slice ka ks.length kc, .int .u32 n7]) (t := 52)
  rw [hW1] at b0 r0
  have k0 : W1.cell? ⟨w.heap.size, 0, none⟩ = some (.int .i64 12) := cell_of_row _ _ 0 _ _ _ r0
  have k1 : W1.cell? ⟨w.heap.size, 1, none⟩ = some (.int .i64 N) := cell_of_row _ _ 1 _ _ _ r0
  have k2 : W1.cell? ⟨w.heap.size, 2, none⟩ = some (.int .i64 M) := cell_of_row _ _ 2 _ _ _ r0
  have k5 : W1.cell? ⟨w.heap.size, 5, none⟩ = some (.slice a bs.length c) := cell_of_row _ _ 5 _ _ _ r0
  have k6 : W1.cell? ⟨w.heap.size, 6, none⟩ = some (.slice ka ks.length kc) := cell_of_row _ _ 6 _ _ _ r0
  have hx := World.block_lt_of_cell? _ _ k0
  have h1 := h.later b0
  have hl1 : lo ≤ W1.heap.size := Nat.le_trans hlo b0.size
  have ht1 : TabL lo W1 := ht.next (b0.mono hlo)
  have hI1 := hI.later b0
  have bl0 : Below lo w W1 := b0.mono hlo
  have hul := h1.ult
  obtain ⟨q0, q1, q2, -⟩ := h1.dat.cells
  have D1 : Below W1.heap.size W1 W1.drew := (Below.refl _ _).drew
  clear r0 h ht hI
  have hnil : ∀ (W : World), (binOp BinOp.eql 28 (.pointer none) (.pointer none)).run Tryz.prog W = .ok (.bool true) W := fun _ => rfl
  replace h1 := Hid.mk h1
  go_enter Tryz.func17, Tryz.ntmps17
  go_wp2
  go_ret
  exact ⟨rfl, S, T, d, s, R, L, F, soft, none, g, h1.out, bl0, Nat.le_succ _⟩

set_option maxRecDepth 4000 in
set_option maxHeartbeats 1000000 in
theorem step_fold0 {lo db ub sum g : Nat} {S T : Nat → Prop} {d : Dk} {s : List Nat} {R : List Rec} {L : Option Rec} {F : Option (List Nat)} {soft : Bool} {N M : Int} {a ka : Option Addr} {c kc : Nat} {bs : List Nat} {ks : List Int} (b3 : Bool) (s4 : ByteArray) (n7 : Int) (w : World) (h : KpS lo S T ub db sum d s R L F soft none g w) (hlo : lo ≤ w.heap.size) (ht : TabL lo w) (hI : OpIn lo w a c bs ka ks N M) :
    Calls Tryz.prog 17 #[.pointer (some ⟨ub, 0, none⟩), .agg #[.int .i64 13, .int .i64 N, .int .i64 M, .bool b3, .string s4, .slice a bs.length c, .slice ka ks.length kc, .int .u32 n7]] w (StepP lo ub db sum g F w) := by
  obtain ⟨W1, hW1⟩ : ∃ W1, w.alloc (.cells #[.int .i64 13, .int .i64 N, .int .i64 M, .bool b3, .string s4, .slice a bs.length c, .slice ka ks.length kc, .int .u32 n7] 52) = W1 := ⟨_, rfl⟩
  obtain ⟨b0, r0⟩ := boxed w (cs := #[.int .i64 13, .int .i64 N, .int .i64 M, .bool b3, .string s4, .slice a bs.length c, .slice ka ks.length kc, .int .u32 n7]) (t := 52)
  rw [hW1] at b0 r0
  have k0 : W1.cell? ⟨w.heap.size, 0, none⟩ = some (.int .i64 13) := cell_of_row _ _ 0 _ _ _ r0
  have k1 : W1.cell? ⟨w.heap.size, 1, none⟩ = some (.int .i64 N) := cell_of_row _ _ 1 _ _ _ r0
  have k2 : W1.cell? ⟨w.heap.size, 2, none⟩ = some (.int .i64 M) := cell_of_row _ _ 2 _ _ _ r0
  have k5 : W1.cell? ⟨w.heap.size, 5, none⟩ = some (.slice a bs.length c) := cell_of_row _ _ 5 _ _ _ r0
  have k6 : W1.cell? ⟨w.heap.size, 6, none⟩ = some (.slice ka ks.length kc) := cell_of_row _ _ 6 _ _ _ r0
  have hx := World.block_lt_of_cell? _ _ k0
  have h1 := h.later b0
  have hl1 : lo ≤ W1.heap.size := Nat.le_trans hlo b0.size
  have ht1 : TabL lo W1 := ht.next (b0.mono hlo)
  have hI1 := hI.later b0
  have bl0 : Below lo w W1 := b0.mono hlo
  have hul := h1.ult
  obtain ⟨q0, q1, q2, -⟩ := h1.dat.cells
  have D1 : Below W1.heap.size W1 W1.drew := (Below.refl _ _).drew
  clear r0 h ht hI
  have hnil : ∀ (W : World), (binOp BinOp.eql 28 (.pointer none) (.pointer none)).run Tryz.prog W = .ok (.bool true) W := fun _ => rfl
  replace h1 := Hid.mk h1
  go_enter Tryz.func17, Tryz.ntmps17
  go_wp2
  go_ret
  exact ⟨rfl, S, T, d, s, R, L, F, soft, none, g, h1.out, bl0, Nat.le_succ _⟩

set_option maxRecDepth 4000 in
set_option maxHeartbeats 1000000 in
theorem step_else {lo db ub sum g : Nat} {S T : Nat → Prop} {d : Dk} {s : List Nat} {R : List Rec} {L : Option Rec} {F : Option (List Nat)} {soft : Bool} {wp : Option Nat} {N M : Int} {a ka : Option Addr} {c kc : Nat} {bs : List Nat} {ks : List Int} (b3 : Bool) (s4 : ByteArray) (n7 : Int) (w : World) (h : KpS lo S T ub db sum d s R L F soft wp g w) (hlo : lo ≤ w.heap.size) (ht : TabL lo w) (hI : OpIn lo w a c bs ka ks N M) (kd : Int) (hkd : (kd == 6) = false ∧ (kd == 7) = false ∧ (kd == 8) = false ∧ (kd == 9) = false ∧ (kd == 11) = false ∧ (kd == 10) = false ∧ (kd == 12) = false ∧ (kd == 13) = false) :
    Calls Tryz.prog 17 #[.pointer (some ⟨ub, 0, none⟩), .agg #[.int .i64 kd, .int .i64 N, .int .i64 M, .bool b3, .string s4, .slice a bs.length c, .slice ka ks.length kc, .int .u32 n7]] w (StepP lo ub db sum g F w) := by
  obtain ⟨W1, hW1⟩ : ∃ W1, w.alloc (.cells #[.int .i64 kd, .int .i64 N, .int .i64 M, .bool b3, .string s4, .slice a bs.length c, .slice ka ks.length kc, .int .u32 n7] 52) = W1 := ⟨_, rfl⟩
  obtain ⟨b0, r0⟩ := boxed w (cs := #[.int .i64 kd, .int .i64 N, .int .i64 M, .bool b3, .string s4, .slice a bs.length c, .slice ka ks.length kc, .int .u32 n7]) (t := 52)
  rw [hW1] at b0 r0
  have k0 : W1.cell? ⟨w.heap.size, 0, none⟩ = some (.int .i64 kd) := cell_of_row _ _ 0 _ _ _ r0
  have k1 : W1.cell? ⟨w.heap.size, 1, none⟩ = some (.int .i64 N) := cell_of_row _ _ 1 _ _ _ r0
  have k2 : W1.cell? ⟨w.heap.size, 2, none⟩ = some (.int .i64 M) := cell_of_row _ _ 2 _ _ _ r0
  have k5 : W1.cell? ⟨w.heap.size, 5, none⟩ = some (.slice a bs.length c) := cell_of_row _ _ 5 _ _ _ r0
  have k6 : W1.cell? ⟨w.heap.size, 6, none⟩ = some (.slice ka ks.length kc) := cell_of_row _ _ 6 _ _ _ r0
  have hx := World.block_lt_of_cell? _ _ k0
  have h1 := h.later b0
  have hl1 : lo ≤ W1.heap.size := Nat.le_trans hlo b0.size
  have ht1 : TabL lo W1 := ht.next (b0.mono hlo)
  have hI1 := hI.later b0
  have bl0 : Below lo w W1 := b0.mono hlo
  have hul := h1.ult
  obtain ⟨q0, q1, q2, -⟩ := h1.dat.cells
  have D1 : Below W1.heap.size W1 W1.drew := (Below.refl _ _).drew
  clear r0 h ht hI
  replace h1 := Hid.mk h1
  obtain ⟨e6, e7, e8, e9, e11, e10, e12, e13⟩ := hkd
  go_enter Tryz.func17, Tryz.ntmps17
  go_wp2
  go_ret
  exact ⟨rfl, S, T, d, s, R, L, F, soft, wp, g, h1.out, bl0, Nat.le_succ _⟩
end Go.Proofs.YtakcdgeanbpllaaGreatDoor.DJ


/- A drawer's Put and Fold in the law's world. -/
namespace Go.Proofs.YtakcdgeanbpllaaGreatDoor.DJ
open Go.RowKit
set_option linter.constructorNameAsVariable false

/-- The law's world and its drawer, whatever the disk holds. -/
structure KpM (lo : Nat) (S T : Nat → Prop) (ub db wb sum g n : Nat) (st : Bool) (d : Dk) (s : List Nat) (R : List Rec) (L : Option Rec) (F : Option (List Nat)) (soft : Bool) (W : World) : Prop where
  disk : DiskAt W lo S db d
  drw : DwAt W wb db sum g n st
  dat : KpD W lo T ub db (some wb) sum s R L F soft
  nwb : ¬ S wb
  nub : ¬ S ub
  ne : wb ≠ ub
  lwb : lo ≤ wb
  lub : lo ≤ ub
  TS : ∀ k, T k → ¬ S k ∧ k ≠ wb ∧ k ≠ ub ∧ lo ≤ k ∧ k < W.heap.size
section
variable {lo : Nat} {S S' T : Nat → Prop} {ub db wb sum g n : Nat} {st : Bool} {d d' : Dk} {s : List Nat} {R : List Rec} {L : Option Rec} {F : Option (List Nat)} {soft : Bool} {W X : World}
theorem KpD.ult {wp : Option Nat} (h : KpD W lo T ub db wp sum s R L F soft) : ub < W.heap.size := by
  obtain ⟨sv, rv, lv, fv, hr, -⟩ := h
  exact wd_lt hr
theorem KpS.m (h : KpS lo S T ub db sum d s R L F soft (some wb) g W) : ∃ n st, KpM lo S T ub db wb sum g n st d s R L F soft W ∧ (st = false → Base sum s R g d.fs ∧ L = none ∧ F = none ∧ n = R.length ∧ soft = false) ∧ (st = true → (L.isSome ∨ F.isSome) ∧ n = R.length) := by
  obtain ⟨⟨q1, q2, q3, q4⟩, n, st, q5, q6, q7⟩ := h.drw wb rfl
  refine ⟨n, st, ⟨h.disk, q5, h.dat, q1, h.nub, q3, q4, h.lub, fun k hk => ?_⟩, q6, q7⟩
  obtain ⟨a, b, c, e⟩ := h.TS k hk
  exact ⟨a, fun e' => q2 (e' ▸ hk), b, c, e⟩
theorem KpM.toS (h : KpM lo S T ub db wb sum g n st d s R L F soft W) (hs : Shp sum s R L F g d.fs) (hf : Fine sum s R L F g) (hlf : L = none ∨ F = none) (hu : st = false → Base sum s R g d.fs ∧ L = none ∧ F = none ∧ n = R.length ∧ soft = false) (hv : st = true → (L.isSome ∨ F.isSome) ∧ n = R.length) : KpS lo S T ub db sum d s R L F soft (some wb) g W := by
  refine ⟨h.disk, hs, hf, hlf, h.dat, fun wb' e => ?_, h.nub, h.lub, fun k hk => ?_⟩
  · obtain rfl := Option.some.inj e
    exact ⟨⟨h.nwb, fun e => (h.TS _ e).2.1 rfl, h.ne, h.lwb⟩, n, st, h.drw, hu, hv⟩
  · obtain ⟨a, -, c, e, f⟩ := h.TS k hk
    exact ⟨a, c, e, f⟩
theorem KpM.move {g' n' : Nat} {st' : Bool} (h : KpM lo S T ub db wb sum g n st d s R L F soft W) (hD : DiskAt X lo S' db d') (hw : DwAt X wb db sum g' n' st') (hv : Dw S wb W S' X) : KpM lo S' T ub db wb sum g' n' st' d' s R L F soft X := by
  have hul := h.dat.ult
  have hwl := h.drw.lt
  have hS' : ∀ k, k < W.heap.size → ¬ S k → ¬ S' k := fun k hk hn e => by
    rcases hv.sub _ e with e | e
    · exact hn e
    · omega
  refine ⟨hD, hw, h.dat.grS hv.gr (fun k hk e => e.elim (h.TS k hk).1 (h.TS k hk).2.1) (fun e => e.elim h.nub (fun e => h.ne e.symm)), hS' _ hwl h.nwb, hS' _ hul h.nub, h.ne, h.lwb, h.lub, fun k hk => ?_⟩
  obtain ⟨a, b, c, e, f⟩ := h.TS k hk
  exact ⟨hS' k f a, b, c, e, Nat.lt_of_lt_of_le f hv.gr.size⟩
theorem KpM.later (h : KpM lo S T ub db wb sum g n st d s R L F soft W) (hX : Below W.heap.size W X) : KpM lo S T ub db wb sum g n st d s R L F soft X := h.move (h.disk.later hX) (h.drw.later hX) ((Dv.below hX).dw wb)
theorem KpM.bel (h : KpM lo S T ub db wb sum g n st d s R L F soft W) (hlo : lo ≤ W.heap.size) (hv : Dw S wb W S' X) : Below lo W X := hv.gr.below hlo (fun k hk => by
  rcases hk with hk | rfl
  · exact (h.disk.low k hk).1
  · exact h.lwb)
/-- Put. -/
theorem KpM.put (h : KpM lo S T ub db wb sum g n st d s R L F soft W) (hlo : lo ≤ W.heap.size) (ht : TabL lo W) (hg : g ≤ 99999999) (hsum : sum < 4294967296) (hn : n + 1 < 4294967296) (kind : Nat) (hk : kind < 256) (bs : List Nat) (hlen : bs.length ≤ 140737488355328) (X : World) (hX : Below W.heap.size W X) (a : Option Addr) (c : Nat) (hc : a = none → c = 0) (hN : Byts X a bs) :
    Calls Tryz.prog 12 #[.pointer (some ⟨wb, 0, none⟩), .agg #[.int .u8 (kind : Int), .slice a bs.length c]] X fun e X' => e = .returned (.int .i64 ((putR d sum g n st (kind, bs)).1 : Nat)) ∧ (∃ S', KpM lo S' T ub db wb sum g (putR d sum g n st (kind, bs)).2.2.1 (putR d sum g n st (kind, bs)).2.2.2 (putR d sum g n st (kind, bs)).2.1 s R L F soft X') ∧ Below lo X X' ∧ (∀ b o, W.heap.size ≤ b → b < X.heap.size → X'.cell? ⟨b, o, none⟩ = X.cell? ⟨b, o, none⟩) ∧ GrS (fun k => S k ∨ k = wb) X X' := by
  have hR := h.later hX
  have hSl := h.disk.low
  have hwl := h.drw.lt
  refine (put_any hg hsum hn kind hk bs hlen a c hc X (Nat.le_trans hlo hX.size) (ht.next (hX.mono hlo)) hN hR.drw h.nwb h.lwb hR.disk).mono ?_
  rintro e X' ⟨rfl, S', h1, h2, h3⟩
  exact ⟨rfl, ⟨S', hR.move h1 h2 h3⟩, hR.bel (Nat.le_trans hlo hX.size) h3, fun b o h4 h5 => h3.gr.cell h5 (fun e => by
    rcases e with e | e
    · have := (hSl _ e).2
      omega
    · omega), h3.gr⟩
/-- Fold. -/
theorem KpM.fold (h : KpM lo S T ub db wb sum g n st d s R L F soft W) (hlo : lo ≤ W.heap.size) (ht : TabL lo W) (hg : g ≤ 99999999) (hsum : sum < 4294967296) (bs : List Nat) (hlen : bs.length ≤ 140737488355328) (X : World) (hX : Below W.heap.size W X) (a : Option Addr) (c : Nat) (hc : a = none → c = 0) (hN : Byts X a bs) :
    Calls Tryz.prog 38 #[.pointer (some ⟨wb, 0, none⟩), .slice a bs.length c] X fun e X' => e = .returned (.int .i64 ((foldR d sum g n st bs).1 : Nat)) ∧ (∃ S', KpM lo S' T ub db wb sum (foldR d sum g n st bs).2.2.1 (foldR d sum g n st bs).2.2.2.1 (foldR d sum g n st bs).2.2.2.2 (foldR d sum g n st bs).2.1 s R L F soft X') ∧ Below lo X X' ∧ (∀ b o, W.heap.size ≤ b → b < X.heap.size → X'.cell? ⟨b, o, none⟩ = X.cell? ⟨b, o, none⟩) ∧ GrS (fun k => S k ∨ k = wb) X X' := by
  have hR := h.later hX
  have hSl := h.disk.low
  have hwl := h.drw.lt
  refine (fold_any hg hsum bs hlen a c hc X (Nat.le_trans hlo hX.size) (ht.next (hX.mono hlo)) hN hR.drw h.nwb hR.disk).mono ?_
  rintro e X' ⟨rfl, S', h1, h2, h3⟩
  exact ⟨rfl, ⟨S', hR.move h1 h2 h3⟩, hR.bel (Nat.le_trans hlo hX.size) h3, fun b o h4 h5 => h3.gr.cell h5 (fun e => by
    rcases e with e | e
    · have := (hSl _ e).2
      omega
    · omega), h3.gr⟩
/-- The lists of what is in flight, by their lengths. -/
theorem KpD.fly {wp : Option Nat} (h : KpD W lo T ub db wp sum s R L F soft) : ∃ la lc fa fc, W.cell? ⟨ub, 5, none⟩ = some (.slice la L.toList.length lc) ∧ W.cell? ⟨ub, 6, none⟩ = some (.slice fa F.toList.length fc) ∧ W.cell? ⟨ub, 7, none⟩ = some (.bool soft) ∧ W.cell? ⟨ub, 1, none⟩ = some (.pointer (wp.map fun b => ⟨b, 0, none⟩)) ∧ (∀ o, W.frozen? ⟨ub, o, none⟩ = false) ∧ ∃ ra rc, W.cell? ⟨ub, 4, none⟩ = some (.slice ra R.length rc) := by
  obtain ⟨sv, rv, lv, fv, hr, h1, h2, h3, h4⟩ := h
  obtain ⟨ra, rc, rfl, -⟩ := h2.rc.len
  obtain ⟨la, lc, rfl, -⟩ := h3.len
  obtain ⟨fa, fc, rfl, -⟩ := h4.len
  obtain ⟨-, c1, -, -, c4, c5, c6, c7⟩ := wd_cells hr
  exact ⟨la, lc, fa, fc, c5, c6, c7, c1, fun o => wd_frozen hr o, ra, rc, c4⟩
/-- A record comes in flight. -/
theorem KpM.late (h : KpM lo S T ub db wb sum g n st d s R none F soft W) {k : Nat} {x : Value} {bs : List Nat} {w8 : World} {gb : Nat} (hb : Below W.heap.size W w8) (hk : k < 256) (hbs : ∀ y ∈ bs, y < 256) (ho : w8.ownsRow W.heap.size 5 1 x bs.length (bysV bs)) (hgb : gb = w8.heap.size) (hlo : lo ≤ W.heap.size) : KpM lo S (fun z => T z ∨ x.ownBlock = some z ∨ z = gb) ub db wb sum g n st d s R (some (k, bs)) F soft ((w8.alloc (.cells #[.int .u8 (k : Int), x] 38)).setCell ⟨ub, 5, none⟩ (.slice (some ⟨gb, 0, none⟩) 1 1)) := by
  subst hgb
  have hA := (Below.refl w8.heap.size w8).alloc (Nat.le_refl _) (.cells #[.int .u8 (k : Int), x] 38)
  have h8 := h.later (below_step hb hA)
  have hr8 := heap_new w8 (.cells #[.int .u8 (k : Int), x] 38)
  have hG := grS_set (w8.alloc (.cells #[.int .u8 (k : Int), x] 38)) ub 5 (.slice (some ⟨w8.heap.size, 0, none⟩) 1 1)
  have hSl := h.disk.low
  have hwl := h.drw.lt
  have hul := h.dat.ult
  have hz8 := hb.size
  have hsz : (w8.alloc (.cells #[.int .u8 (k : Int), x] 38)).heap.size = w8.heap.size + 1 := by simp
  have hT : ∀ z, (T z ∨ x.ownBlock = some z ∨ z = w8.heap.size) → ¬ S z ∧ z ≠ wb ∧ z ≠ ub ∧ lo ≤ z ∧ z < (w8.alloc (.cells #[.int .u8 (k : Int), x] 38)).heap.size := fun z hz => by
    rcases hz with hz | hz | hz
    · exact h8.TS z hz
    · obtain ⟨q1, q2⟩ := own_ltT ho hz
      refine ⟨fun e => ?_, by omega, by omega, by omega, by omega⟩
      have := (hSl _ e).2
      omega
    · refine ⟨fun e => ?_, by omega, by omega, by omega, by omega⟩
      have := (hSl _ e).2
      omega
  obtain ⟨sv, rv, lv, fv, hr, h1, h2, h3, h4⟩ := h8.dat
  have hTu : ∀ z, (T z ∨ x.ownBlock = some z ∨ z = w8.heap.size) → ¬ z = ub := fun z hz => (hT z hz).2.2.1
  refine ⟨h8.disk.grS hG (fun z hz e => h.nub (e ▸ hz)), h8.drw.grS hG h.ne, ⟨sv, rv, _, fv, heap_setCell_same _ _ 5 _ _ _ hr, (h1.more (fun z hz => .inl hz)).grS hG hTu, (h2.more (fun z hz => .inl hz)).grS hG hTu, ⟨hk, w8.heap.size, x, rfl, .inr (.inr rfl), (hG.block _ (by omega) (by omega)).trans hr8, hbs, hG.own (own_later (ho.mono hlo) hA) (fun z hz => hTu z (.inr (.inl hz))), fun z hz => .inr (.inl hz)⟩, (h4.more (fun z hz => .inl hz)).grS hG hTu⟩, h.nwb, h.nub, h.ne, h.lwb, h.lub, fun z hz => ?_⟩
  obtain ⟨q1, q2, q3, q4, q5⟩ := hT z hz
  exact ⟨q1, q2, q3, q4, Nat.lt_of_lt_of_le q5 hG.size⟩
end
end Go.Proofs.YtakcdgeanbpllaaGreatDoor.DJ


/- world.step: Put. -/
namespace Go.Proofs.YtakcdgeanbpllaaGreatDoor.DJ
open Go.RowKit
set_option linter.constructorNameAsVariable false

set_option maxRecDepth 4000 in
set_option maxHeartbeats 1000000 in
theorem step_putS {lo db ub wb sum g n : Nat} {st : Bool} {S T : Nat → Prop} {d : Dk} {s : List Nat} {R : List Rec} {L : Option Rec} {F : Option (List Nat)} {soft : Bool} {N M : Int} {a ka : Option Addr} {c kc : Nat} {bs : List Nat} {ks : List Int} (b3 : Bool) (s4 : ByteArray) (n7 : Int) (w : World) (h : KpM lo S T ub db wb sum g n st d s R L F soft w) (hlo : lo ≤ w.heap.size) (ht : TabL lo w) (hI : OpIn lo w a c bs ka ks N M) (hdS : bs = [] ∨ ∀ p, a = some p → ¬ S p.block ∧ p.block ≠ wb) (hg : g ≤ 99999999) (hsum : sum < 4294967296) (hn : n + 1 < 4294967296) (kn : Nat) (hkn : N % 256 = (kn : Int)) (hP : putR d sum g n st (kn, bs) = (196, d, n, st)) (hfl : L.isSome ∨ F.isSome) :
    Calls Tryz.prog 17 #[.pointer (some ⟨ub, 0, none⟩), .agg #[.int .i64 12, .int .i64 N, .int .i64 M, .bool b3, .string s4, .slice a bs.length c, .slice ka ks.length kc, .int .u32 n7]] w fun e w' => e = .returned (.bool true) ∧ (∃ S', KpM lo S' T ub db wb sum g n st d s R L F soft w') ∧ Below lo w w' := by
  obtain ⟨W1, hW1⟩ : ∃ W1, w.alloc (.cells #[.int .i64 12, .int .i64 N, .int .i64 M, .bool b3, .string s4, .slice a bs.length c, .slice ka ks.length kc, .int .u32 n7] 52) = W1 := ⟨_, rfl⟩
  obtain ⟨b0, r0⟩ := boxed w (cs := #[.int .i64 12, .int .i64 N, .int .i64 M, .bool b3, .string s4, .slice a bs.length c, .slice ka ks.length kc, .int .u32 n7]) (t := 52)
  rw [hW1] at b0 r0
  have k0 : W1.cell? ⟨w.heap.size, 0, none⟩ = some (.int .i64 12) := cell_of_row _ _ 0 _ _ _ r0
  have k1 : W1.cell? ⟨w.heap.size, 1, none⟩ = some (.int .i64 N) := cell_of_row _ _ 1 _ _ _ r0
  have k5 : W1.cell? ⟨w.heap.size, 5, none⟩ = some (.slice a bs.length c) := cell_of_row _ _ 5 _ _ _ r0
  have hx := World.block_lt_of_cell? _ _ k0
  have hl1 : lo ≤ W1.heap.size := Nat.le_trans hlo b0.size
  have bl0 : Below lo w W1 := b0.mono hlo
  have hI1 := hI.later b0
  have hk256 : kn < 256 := by omega
  obtain ⟨la, lc, fa, fc, c5, c6, c7, c1, cf, ra, rc, c4⟩ := (h.later b0).dat.fly
  have hul := (h.later b0).dat.ult
  have hnil : ∀ (b : Nat) (W : World), (binOp BinOp.eql 28 (.pointer (some ⟨b, 0, none⟩)) (.pointer none)).run Tryz.prog W = .ok (.bool false) W := fun _ _ => rfl
  have hRc := Hid.mk (fun X (hX : Byts X a bs) => record_any N a c hI1.cap bs (Nat.le_trans hI1.len (by decide)) X hX)
  have hby1 := Hid.mk hI1.byt
  replace hdS := Hid.mk hdS
  rw [hkn] at hRc
  have hbb := Hid.mk hI1.byt.1
  have hPt := Hid.mk (fun X (hX : Below w.heap.size w X) p cc hc hN => h.put hlo ht hg hsum hn kn hk256 bs (Nat.le_trans hI1.len (by decide)) X hX p cc hc hN)
  have hW1l : W1.heap.size = w.heap.size + 1 := by rw [← hW1]; simp
  have hm := Hid.mk h
  replace c1 : W1.cell? ⟨ub, 1, none⟩ = some (.pointer (some ⟨wb, 0, none⟩)) := c1
  clear r0 h ht hkn
  simp only [hP] at hPt
  have hcs : (∃ r, L = some r) ∨ (L = none ∧ ∃ t, F = some t) := by
    cases L with
    | some r => exact .inl ⟨r, rfl⟩
    | none => exact .inr ⟨rfl, Option.isSome_iff_exists.1 (hfl.resolve_left (by simp))⟩
  rcases hcs with ⟨r, rfl⟩ | ⟨rfl, t, rfl⟩
  all_goals
    go_enter Tryz.func17, Tryz.ntmps17
    go_upto_region 18 with (go_at_call 13; refine (hRc.out _ hby1.out).mono ?_; rintro e w2 ⟨p2, c2, rfl, ho2, hb2⟩)
    obtain ⟨bA, r3⟩ := boxed w2 (cs := #[.int .u8 (kn : Int), .slice p2 bs.length c2]) (t := 38)
    obtain ⟨W3, hW3⟩ : ∃ W3, w2.alloc (.cells #[.int .u8 (kn : Int), .slice p2 bs.length c2] 38) = W3 := ⟨_, rfl⟩
    rw [hW3] at bA r3 ⊢
    have z0 : W3.cell? ⟨w2.heap.size, 0, none⟩ = some (.int .u8 (kn : Int)) := cell_of_row _ _ 0 _ _ _ r3
    have z1 : W3.cell? ⟨w2.heap.size, 1, none⟩ = some (.slice p2 bs.length c2) := cell_of_row _ _ 1 _ _ _ r3
    have hz3 := World.block_lt_of_cell? _ _ z0
    have B3 : Below W1.heap.size W1 W3 := below_step hb2 bA
    have D3 : Below W3.heap.size W3 W3.drew := (Below.refl _ _).drew
    have B3d : Below W1.heap.size W1 W3.drew := below_step B3 D3
    have Bw : Below w.heap.size w W3.drew := below_step b0 B3d
    have hby3 : Byts W3.drew p2 bs := (byts_of_own (n := bs.length) hbb.out ho2).later (below_step bA D3)
    have hP3 := hPt.out W3.drew Bw p2 c2 (own_none ho2) hby3
    have d1 : W3.drew.cell? ⟨ub, 1, none⟩ = some (.pointer (some ⟨wb, 0, none⟩)) := (B3d.cell (p := ⟨ub, 1, none⟩) hul).trans c1
    have d0 : W3.drew.cell? ⟨w2.heap.size, 0, none⟩ = some (.int .u8 (kn : Int)) := (D3.cell (p := ⟨w2.heap.size, 0, none⟩) hz3).trans z0
    have d2 : W3.drew.cell? ⟨w2.heap.size, 1, none⟩ = some (.slice p2 bs.length c2) := (D3.cell (p := ⟨w2.heap.size, 1, none⟩) hz3).trans z1
    have S3 := And.intro d1 (And.intro d0 d2)
    have k5d : W3.drew.cell? ⟨w.heap.size, 5, none⟩ = some (.slice a bs.length c) := (B3d.cell (p := ⟨w.heap.size, 5, none⟩) hx).trans k5
    have k1d : W3.drew.cell? ⟨w.heap.size, 1, none⟩ = some (.int .i64 N) := (B3d.cell (p := ⟨w.heap.size, 1, none⟩) hx).trans k1
    have hwz := b0.size
    have hw2z := hb2.size
    have hxd : w.heap.size < W3.drew.heap.size := Nat.lt_of_lt_of_le hx B3d.size
    have hzd : w2.heap.size < W3.drew.heap.size := Nat.lt_of_lt_of_le hz3 D3.size
    clear z0 z1 r3 hW3 ho2 c1 c4 c5 c6 c7 cf hby3
    go_region_held3 (fun X => X.cell? ⟨ub, 1, none⟩ = some (.pointer (some ⟨wb, 0, none⟩)) ∧ X.cell? ⟨w2.heap.size, 0, none⟩ = some (.int .u8 (kn : Int)) ∧ X.cell? ⟨w2.heap.size, 1, none⟩ = some (.slice p2 bs.length c2)) (with_reducible assumption) ((go_at_call 12; refine hP3.mono ?_; rintro e w4 ⟨rfl, ⟨S4, hM4⟩, hb4, hce, hgr4⟩; obtain ⟨la, lc, fa, fc, e5, e6, e7, e1, ef, ra, rc, e4⟩ := hM4.dat.fly; replace e1 : w4.cell? ⟨ub, 1, none⟩ = some (.pointer (some ⟨wb, 0, none⟩)) := e1; have S4' := And.intro e1 (And.intro ((hce _ _ (Nat.le_trans hwz hw2z) hzd).trans d0) ((hce _ _ (Nat.le_trans hwz hw2z) hzd).trans d2)); have j5 := (hce _ 5 (Nat.le_refl _) hxd).trans k5d; have j1 := (hce _ 1 (Nat.le_refl _) hxd).trans k1d))
    have Bl4 : Below lo W1 w4 := (B3d.mono hl1).trans hb4
    have hby4 := Hid.mk (hgr4.byts2 (hby1.out.later B3d) (hdS.out.imp id (fun hd p hp e => e.elim (hd p hp).1 (hd p hp).2)))
    clear hgr4 hdS hby1
    have BL : Below lo w w4 := bl0.trans Bl4
    have hl4 : lo ≤ w4.heap.size := Nat.le_trans hl1 Bl4.size
    have hul4 := hM4.dat.ult
    replace hM4 := Hid.mk hM4
    clear S3 S4' d0 d1 d2 k5d k1d hce hP3 hPt k0 k1 k5
    simp only [Option.toList_some, Option.toList_none, List.length_cons, List.length_nil, Nat.zero_add] at e5 e6
    go_wp2
    go_ret
    exact ⟨rfl, ⟨S4, hM4.out⟩, BL⟩

set_option maxRecDepth 4000 in
set_option maxHeartbeats 1000000 in
theorem step_putL {lo db ub wb sum g n : Nat} {st : Bool} {S T : Nat → Prop} {d : Dk} {s : List Nat} {R : List Rec} {L : Option Rec} {F : Option (List Nat)} {soft : Bool} {N M : Int} {a ka : Option Addr} {c kc : Nat} {bs : List Nat} {ks : List Int} (b3 : Bool) (s4 : ByteArray) (n7 : Int) (w : World) (h : KpM lo S T ub db wb sum g n st d s R L F soft w) (hlo : lo ≤ w.heap.size) (ht : TabL lo w) (hI : OpIn lo w a c bs ka ks N M) (hdS : bs = [] ∨ ∀ p, a = some p → ¬ S p.block ∧ p.block ≠ wb) (hg : g ≤ 99999999) (hsum : sum < 4294967296) (hn : n + 1 < 4294967296) (kn : Nat) (hkn : N % 256 = (kn : Int)) (hP : putR d sum g n st (kn, bs) = (197, d, n, st)) (hlong : 1048576 < bs.length) :
    Calls Tryz.prog 17 #[.pointer (some ⟨ub, 0, none⟩), .agg #[.int .i64 12, .int .i64 N, .int .i64 M, .bool b3, .string s4, .slice a bs.length c, .slice ka ks.length kc, .int .u32 n7]] w fun e w' => e = .returned (.bool true) ∧ (∃ S', KpM lo S' T ub db wb sum g n st d s R L F soft w') ∧ Below lo w w' := by
  obtain ⟨W1, hW1⟩ : ∃ W1, w.alloc (.cells #[.int .i64 12, .int .i64 N, .int .i64 M, .bool b3, .string s4, .slice a bs.length c, .slice ka ks.length kc, .int .u32 n7] 52) = W1 := ⟨_, rfl⟩
  obtain ⟨b0, r0⟩ := boxed w (cs := #[.int .i64 12, .int .i64 N, .int .i64 M, .bool b3, .string s4, .slice a bs.length c, .slice ka ks.length kc, .int .u32 n7]) (t := 52)
  rw [hW1] at b0 r0
  have k0 : W1.cell? ⟨w.heap.size, 0, none⟩ = some (.int .i64 12) := cell_of_row _ _ 0 _ _ _ r0
  have k1 : W1.cell? ⟨w.heap.size, 1, none⟩ = some (.int .i64 N) := cell_of_row _ _ 1 _ _ _ r0
  have k5 : W1.cell? ⟨w.heap.size, 5, none⟩ = some (.slice a bs.length c) := cell_of_row _ _ 5 _ _ _ r0
  have hx := World.block_lt_of_cell? _ _ k0
  have hl1 : lo ≤ W1.heap.size := Nat.le_trans hlo b0.size
  have bl0 : Below lo w W1 := b0.mono hlo
  have hI1 := hI.later b0
  have hk256 : kn < 256 := by omega
  obtain ⟨la, lc, fa, fc, c5, c6, c7, c1, cf, ra, rc, c4⟩ := (h.later b0).dat.fly
  have hul := (h.later b0).dat.ult
  have hnil : ∀ (b : Nat) (W : World), (binOp BinOp.eql 28 (.pointer (some ⟨b, 0, none⟩)) (.pointer none)).run Tryz.prog W = .ok (.bool false) W := fun _ _ => rfl
  have hRc := Hid.mk (fun X (hX : Byts X a bs) => record_any N a c hI1.cap bs (Nat.le_trans hI1.len (by decide)) X hX)
  have hby1 := Hid.mk hI1.byt
  replace hdS := Hid.mk hdS
  rw [hkn] at hRc
  have hbb := Hid.mk hI1.byt.1
  have hPt := Hid.mk (fun X (hX : Below w.heap.size w X) p cc hc hN => h.put hlo ht hg hsum hn kn hk256 bs (Nat.le_trans hI1.len (by decide)) X hX p cc hc hN)
  have hW1l : W1.heap.size = w.heap.size + 1 := by rw [← hW1]; simp
  have hm := Hid.mk h
  replace c1 : W1.cell? ⟨ub, 1, none⟩ = some (.pointer (some ⟨wb, 0, none⟩)) := c1
  clear r0 h ht hkn
  simp only [hP] at hPt
  have hgt : (1048576 : Int) < (bs.length : Int) := by omega
  go_enter Tryz.func17, Tryz.ntmps17
  go_upto_region 18 with (go_at_call 13; refine (hRc.out _ hby1.out).mono ?_; rintro e w2 ⟨p2, c2, rfl, ho2, hb2⟩)
  obtain ⟨bA, r3⟩ := boxed w2 (cs := #[.int .u8 (kn : Int), .slice p2 bs.length c2]) (t := 38)
  obtain ⟨W3, hW3⟩ : ∃ W3, w2.alloc (.cells #[.int .u8 (kn : Int), .slice p2 bs.length c2] 38) = W3 := ⟨_, rfl⟩
  rw [hW3] at bA r3 ⊢
  have z0 : W3.cell? ⟨w2.heap.size, 0, none⟩ = some (.int .u8 (kn : Int)) := cell_of_row _ _ 0 _ _ _ r3
  have z1 : W3.cell? ⟨w2.heap.size, 1, none⟩ = some (.slice p2 bs.length c2) := cell_of_row _ _ 1 _ _ _ r3
  have hz3 := World.block_lt_of_cell? _ _ z0
  have B3 : Below W1.heap.size W1 W3 := below_step hb2 bA
  have D3 : Below W3.heap.size W3 W3.drew := (Below.refl _ _).drew
  have B3d : Below W1.heap.size W1 W3.drew := below_step B3 D3
  have Bw : Below w.heap.size w W3.drew := below_step b0 B3d
  have hby3 : Byts W3.drew p2 bs := (byts_of_own (n := bs.length) hbb.out ho2).later (below_step bA D3)
  have hP3 := hPt.out W3.drew Bw p2 c2 (own_none ho2) hby3
  have d1 : W3.drew.cell? ⟨ub, 1, none⟩ = some (.pointer (some ⟨wb, 0, none⟩)) := (B3d.cell (p := ⟨ub, 1, none⟩) hul).trans c1
  have d0 : W3.drew.cell? ⟨w2.heap.size, 0, none⟩ = some (.int .u8 (kn : Int)) := (D3.cell (p := ⟨w2.heap.size, 0, none⟩) hz3).trans z0
  have d2 : W3.drew.cell? ⟨w2.heap.size, 1, none⟩ = some (.slice p2 bs.length c2) := (D3.cell (p := ⟨w2.heap.size, 1, none⟩) hz3).trans z1
  have S3 := And.intro d1 (And.intro d0 d2)
  have k5d : W3.drew.cell? ⟨w.heap.size, 5, none⟩ = some (.slice a bs.length c) := (B3d.cell (p := ⟨w.heap.size, 5, none⟩) hx).trans k5
  have k1d : W3.drew.cell? ⟨w.heap.size, 1, none⟩ = some (.int .i64 N) := (B3d.cell (p := ⟨w.heap.size, 1, none⟩) hx).trans k1
  have hwz := b0.size
  have hw2z := hb2.size
  have hxd : w.heap.size < W3.drew.heap.size := Nat.lt_of_lt_of_le hx B3d.size
  have hzd : w2.heap.size < W3.drew.heap.size := Nat.lt_of_lt_of_le hz3 D3.size
  clear z0 z1 r3 hW3 ho2 c1 c4 c5 c6 c7 cf hby3
  go_region_held3 (fun X => X.cell? ⟨ub, 1, none⟩ = some (.pointer (some ⟨wb, 0, none⟩)) ∧ X.cell? ⟨w2.heap.size, 0, none⟩ = some (.int .u8 (kn : Int)) ∧ X.cell? ⟨w2.heap.size, 1, none⟩ = some (.slice p2 bs.length c2)) (with_reducible assumption) ((go_at_call 12; refine hP3.mono ?_; rintro e w4 ⟨rfl, ⟨S4, hM4⟩, hb4, hce, hgr4⟩; obtain ⟨la, lc, fa, fc, e5, e6, e7, e1, ef, ra, rc, e4⟩ := hM4.dat.fly; replace e1 : w4.cell? ⟨ub, 1, none⟩ = some (.pointer (some ⟨wb, 0, none⟩)) := e1; have S4' := And.intro e1 (And.intro ((hce _ _ (Nat.le_trans hwz hw2z) hzd).trans d0) ((hce _ _ (Nat.le_trans hwz hw2z) hzd).trans d2)); have j5 := (hce _ 5 (Nat.le_refl _) hxd).trans k5d; have j1 := (hce _ 1 (Nat.le_refl _) hxd).trans k1d))
  have Bl4 : Below lo W1 w4 := (B3d.mono hl1).trans hb4
  have hby4 := Hid.mk (hgr4.byts2 (hby1.out.later B3d) (hdS.out.imp id (fun hd p hp e => e.elim (hd p hp).1 (hd p hp).2)))
  clear hgr4 hdS hby1
  have BL : Below lo w w4 := bl0.trans Bl4
  have hl4 : lo ≤ w4.heap.size := Nat.le_trans hl1 Bl4.size
  have hul4 := hM4.dat.ult
  replace hM4 := Hid.mk hM4
  clear S3 S4' d0 d1 d2 k5d k1d hce hP3 hPt k0 k1 k5
  go_wp2
  go_ret
  exact ⟨rfl, ⟨S4, hM4.out⟩, BL⟩
end Go.Proofs.YtakcdgeanbpllaaGreatDoor.DJ

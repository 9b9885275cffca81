import Derived.Test.YtakcdgeanbpllaaGreatDoorJoin48
import Derived.Test.YtakcdgeanbpllaaGreatDoorJoin45
import Derived.Test.YtakcdgeanbpllaaGreatDoorJoin44
import Derived.Test.YtakcdgeanbpllaaGreatDoorRows
import Derived.Test.YtakcdgeanbpllaaGreatDoorTie
import Derived.Test.YtakcdgeanbpllaaGreatDoorCards
import Derived.ProofKit
import Derived.LaidMore
import Derived.OpenShut
import Derived.Stop.Joined
import Derived.Lib.SmallJoins
import Derived.Lib.LaidTab
import Derived.Lib.AppendIntMem
import Derived.LaidSub
import Derived.Deep.Strs
import Derived.SevenTiedAt
import Derived.SizedLaws
import Derived.Deep.Slices
import Derived.Carry
/- known(). -/
namespace Go.Proofs.YtakcdgeanbpllaaGreatDoor.DJ
open Go.RowKit
set_option linter.constructorNameAsVariable false

/-- A world of generation 1 whose own lists have not been touched. -/
structure Run (lo : Nat) (S : Nat → Prop) (ub db wb sum : Nat) (d : Dk) (n : Nat) (stuck : Bool) (W : World) : Prop where
  disk : DiskAt W lo S db d
  drw : DwAt W wb db sum 1 n stuck
  row : ∃ a c, W.heap[ub]? = some (wdRow db (some ⟨wb, 0, none⟩) sum (.slice a 0 c) (.slice none 0 0) (.slice none 0 0) (.slice none 0 0) false)
  nwb : ¬ S wb
  nub : ¬ S ub
  ne : wb ≠ ub
  lwb : lo ≤ wb
  lub : lo ≤ ub
theorem Fresh.run {lo : Nat} {S : Nat → Prop} {ub db wb sum : Nat} {d : Dk} {W : World} (h : Fresh lo S ub db wb sum d W) : Run lo S ub db wb sum d 0 false W := ⟨h.disk, h.drw, h.row, h.nwb, h.nub, h.ne, h.lwb, h.lub⟩
theorem Run.later {lo : Nat} {S : Nat → Prop} {ub db wb sum : Nat} {d : Dk} {n : Nat} {stuck : Bool} {W X : World} (h : Run lo S ub db wb sum d n stuck W) (hX : Below W.heap.size W X) : Run lo S ub db wb sum d n stuck X :=
  ⟨h.disk.later hX, h.drw.later hX, by obtain ⟨a, c, hr⟩ := h.row; exact ⟨a, c, (hX.block _ (wd_lt hr)).trans hr⟩, h.nwb, h.nub, h.ne, h.lwb, h.lub⟩
theorem Run.put {lo : Nat} {S S' : Nat → Prop} {ub db wb sum : Nat} {d d' : Dk} {n n' : Nat} {stuck st' : Bool} {W X : World} (h : Run lo S ub db wb sum d n stuck W) (hD : DiskAt X lo S' db d') (hw : DwAt X wb db sum 1 n' st') (hv : Dw S wb W S' X) : Run lo S' ub db wb sum d' n' st' X := by
  obtain ⟨a, c, hr⟩ := h.row
  have hl := wd_lt hr
  have hwl := h.drw.lt
  refine ⟨hD, hw, ⟨a, c, (hv.gr.block ub hl (fun e => ?_)).trans hr⟩, fun e => ?_, fun e => ?_, h.ne, h.lwb, h.lub⟩
  · rcases e with e | e
    · exact h.nub e
    · exact h.ne e.symm
  · rcases hv.sub _ e with e | e
    · exact h.nwb e
    · omega
  · rcases hv.sub _ e with e | e
    · exact h.nub e
    · omega
theorem Run.bel {lo : Nat} {S S' : Nat → Prop} {ub db wb sum : Nat} {d : Dk} {n : Nat} {stuck : Bool} {W X : World} (h : Run lo S ub db wb sum d n stuck W) (hlo : lo ≤ W.heap.size) (hv : Dw S wb W S' X) : Below lo W X := hv.gr.below hlo (fun k hk => by
  rcases hk with hk | rfl
  · exact (h.disk.low k hk).1
  · exact h.lwb)
theorem Run.rig {lo : Nat} {S : Nat → Prop} {ub db wb sum : Nat} {d d' : Dk} {n : Nat} {stuck : Bool} {W X : World} (h : Run lo S ub db wb sum d n stuck W) (hD : DiskAt X lo S db d') (hg : GrS (fun k => k = db) W X) : Run lo S ub db wb sum d' n stuck X := by
  obtain ⟨a, c, hr⟩ := h.row
  have hdb : S db := by obtain ⟨mb, D, fb, vv, hL⟩ := h.disk; exact hL.Sdb
  exact ⟨hD, h.drw.grS hg (fun e => h.nwb (e ▸ hdb)), ⟨a, c, (hg.block ub (wd_lt hr) (fun e => h.nub (e ▸ hdb))).trans hr⟩, h.nwb, h.nub, h.ne, h.lwb, h.lub⟩
theorem Run.dv {lo : Nat} {S S' : Nat → Prop} {ub db wb sum : Nat} {d d' : Dk} {n : Nat} {stuck : Bool} {W X : World} (h : Run lo S ub db wb sum d n stuck W) (hD : DiskAt X lo S' db d') (hv : Dv S W S' X) : Run lo S' ub db wb sum d' n stuck X := h.put hD (h.drw.grS hv.gr h.nwb) (hv.dw wb)
theorem Run.ldb {lo : Nat} {S : Nat → Prop} {ub db wb sum : Nat} {d : Dk} {n : Nat} {stuck : Bool} {W : World} (h : Run lo S ub db wb sum d n stuck W) : lo ≤ db := by
  have hdb : S db := by obtain ⟨mb, D, fb, vv, hL⟩ := h.disk; exact hL.Sdb
  exact (h.disk.low _ hdb).1
theorem Run.c1 {lo : Nat} {S : Nat → Prop} {ub db wb sum : Nat} {d : Dk} {n : Nat} {stuck : Bool} {W : World} (h : Run lo S ub db wb sum d n stuck W) : W.cell? ⟨ub, 1, none⟩ = some (.pointer (some ⟨wb, 0, none⟩)) := by
  obtain ⟨a, c, hr⟩ := h.row; exact (wd_cells hr).2.1
theorem Run.c0 {lo : Nat} {S : Nat → Prop} {ub db wb sum : Nat} {d : Dk} {n : Nat} {stuck : Bool} {W : World} (h : Run lo S ub db wb sum d n stuck W) : W.cell? ⟨ub, 0, none⟩ = some (.pointer (some ⟨db, 0, none⟩)) := by
  obtain ⟨a, c, hr⟩ := h.row; exact (wd_cells hr).1

theorem run_put {lo : Nat} {S : Nat → Prop} {ub db wb sum : Nat} {d : Dk} {n : Nat} {stuck : Bool} {W : World} (h : Run lo S ub db wb sum d n stuck W) (hsum : sum < 4294967296) (hn : n + 1 < 4294967296) (hlo : lo ≤ W.heap.size) (ht : TabL lo W) (kind : Nat) (hk : kind < 256) (bs : List Nat) (hlen : bs.length ≤ 140737488355328) (X : World) (hX : Below W.heap.size W X) (a : Option Addr) (c : Nat) (hc : a = none → c = 0) (hN : Byts X a bs) :
    Calls Tryz.prog 12 #[.pointer (some ⟨wb, 0, none⟩), .agg #[.int .u8 (kind : Int), .slice a bs.length c]] X fun e X' => e = .returned (.int .i64 ((putR d sum 1 n stuck (kind, bs)).1 : Nat)) ∧ ∃ S', Run lo S' ub db wb sum (putR d sum 1 n stuck (kind, bs)).2.1 (putR d sum 1 n stuck (kind, bs)).2.2.1 (putR d sum 1 n stuck (kind, bs)).2.2.2 X' ∧ Below lo W X' := by
  have hR := h.later hX
  refine (put_any (g := 1) (by decide) hsum hn kind hk bs hlen a c hc X (Nat.le_trans hlo hX.size) (ht.next (hX.mono hlo)) hN hR.drw h.nwb h.lwb hR.disk).mono ?_
  rintro e X' ⟨rfl, S', h1, h2, h3⟩
  exact ⟨rfl, S', hR.put h1 h2 h3, (hX.mono hlo).trans (hR.bel (Nat.le_trans hlo hX.size) h3)⟩
theorem byts_lit (W : World) (k : Nat) (hk : k < 256) : Byts (W.alloc (.cells #[.int .u8 (k : Int)] 5)).drew (some ⟨W.heap.size, 0, none⟩) [k] := (byts1 W k hk).later ((Below.refl _ _).drew)

set_option maxRecDepth 20000 in
set_option maxHeartbeats 2000000 in
theorem known_any {lo : Nat} (w : World) (hlo : lo ≤ w.heap.size) (ht : TabL lo w) :
    Calls Tryz.prog 7 #[] w fun e w' => e = .returned (.bool true) ∧ Below w.heap.size w w' := by
  have hB := begin_any 7 w
  have htw : TabL w.heap.size w := ht.mono hlo
  have hWo := fun (X : World) (S : Nat → Prop) (db ub : Nat) (hX : Below w.heap.size w X) (hD : DiskAt X w.heap.size S db dk0) (hub : ¬ S ub) (hlu : w.heap.size ≤ ub) hrow => wopen_fresh (wp := none) (sum := 7) (by decide) ⟨rfl, rfl, rfl⟩ rfl X hX.size (htw.next hX) hD hub hlu hrow
  have hnil : ∀ (b : Nat) (W : World), (binOp BinOp.eql 25 (.pointer (some ⟨b, 0, none⟩)) (.pointer none)).run Tryz.prog W = .ok (.bool false) W := fun _ _ => rfl
  have hnil2 : ∀ (b : Nat) (W : World), (binOp BinOp.eql 28 (.pointer (some ⟨b, 0, none⟩)) (.pointer none)).run Tryz.prog W = .ok (.bool false) W := fun _ _ => rfl
  replace hWo := Hid.mk hWo
  go_enter Tryz.func7, Tryz.ntmps7
  go_upto_region 4 with (first | (go_at_call 8; refine hB.mono ?_; rintro e w1 ⟨S1, db, ub, rfl, hD1, hr1, hu1, hl1, hb1⟩) | (go_at_call 9; refine (hWo.out _ _ _ _ hb1 hD1 hu1 hl1 hr1).mono ?_; rintro e w2 ⟨rfl, S2, wb, hF2, hb2⟩; have R2 := Fresh.run hF2; have c1 := R2.c1; have c0 := R2.c0))
  have hbw2 : Below w.heap.size w w2 := hb1.trans hb2
  clear hWo hB hF2 hD1 hr1
  have kR : (openD dk0 7).2.2 = kd1 := rfl
  rw [kR] at R2
  obtain ⟨k11, k12⟩ := kf1
  have hPt := run_put R2 (by decide) (by decide) hbw2.size (htw.next hbw2) 5 (by decide) [97] (by decide)
  rw [k11, k12, show (putR kd1 7 1 0 false (5, [97])).2.1 = kd2 from rfl] at hPt
  have BA2 : Below w2.heap.size w2 (w2.alloc (.cells #[.int .u8 97] 5)).drew := ((Below.refl _ _).alloc (Nat.le_refl _) _).drew
  have hRc := record_any 5 (some ⟨w2.heap.size, 0, none⟩) 1 (fun e => by cases e) [97] (by decide) _ (byts_lit w2 97 (by decide))
  have cA : ∀ X, Below w2.heap.size w2 X → X.cell? ⟨ub, 1, none⟩ = some (.pointer (some ⟨wb, 0, none⟩)) := fun X hX => (R2.later hX).c1
  have S2' := cA _ BA2
  have S2'' := cA _ (Below.refl w2.heap.size w2).drew
  replace cA := Hid.mk cA
  replace hPt := Hid.mk hPt
  go_region_held3 (fun X => X.cell? ⟨ub, 1, none⟩ = some (.pointer (some ⟨wb, 0, none⟩))) (with_reducible assumption) (first | (go_at_call 13; refine hRc.mono ?_; rintro e w3 ⟨p3, c3, rfl, ho3, hb3⟩; have B3 := BA2.trans (hb3.mono BA2.size); have S3 := cA.out _ B3; have hby3 := Hid.mk (byts_of_own (n := 1) (bs := [97]) (by decide) ho3); have hcc3 := own_none ho3) | (go_at_call 12; refine (hPt.out w3 B3 p3 c3 hcc3 hby3.out).mono ?_; rintro e w4 ⟨rfl, S4, R4, hb4⟩; have S4' := R4.c1; have c40 := R4.c0))
  have hbw4 : Below w.heap.size w w4 := hbw2.trans hb4
  have hAr := arm_any (u := 3) (by decide) (by decide) w4 R4.disk
  clear hPt cA hRc S2' S2'' S3 hby3 ho3 BA2 B3 hb3 hcc3 c1 c0 R2 k11 k12 kR hb2 hb1 hu1 hl1
  go_upto_region 7 with (go_at_call 10; refine hAr.mono ?_; rintro e w5 ⟨rfl, hD5, hg5⟩)
  have R5 : Run w.heap.size S4 ub db wb 7 kd3 1 false w5 := R4.rig hD5 hg5
  have hbw5 : Below w.heap.size w w5 := hbw4.trans (hg5.below hbw4.size (fun k e => e ▸ R4.ldb))
  clear hAr hD5 hg5 R4 S4' c40 hb4 hbw4 hbw2
  obtain ⟨k21, k22⟩ := kf2
  have hPt := run_put R5 (by decide) (by decide) hbw5.size (htw.next hbw5) 6 (by decide) [98] (by decide)
  rw [k21, k22, show (putR kd3 7 1 1 false (6, [98])).2.1 = kd4 from rfl] at hPt
  have BA5 : Below w5.heap.size w5 (w5.alloc (.cells #[.int .u8 98] 5)).drew := ((Below.refl _ _).alloc (Nat.le_refl _) _).drew
  have hRc := record_any 6 (some ⟨w5.heap.size, 0, none⟩) 1 (fun e => by cases e) [98] (by decide) _ (byts_lit w5 98 (by decide))
  have cA : ∀ X, Below w5.heap.size w5 X → X.cell? ⟨ub, 1, none⟩ = some (.pointer (some ⟨wb, 0, none⟩)) := fun X hX => (R5.later hX).c1
  have S5' := cA _ BA5
  have S5'' := cA _ (Below.refl w5.heap.size w5).drew
  replace cA := Hid.mk cA
  replace hPt := Hid.mk hPt
  go_region_held3 (fun X => X.cell? ⟨ub, 1, none⟩ = some (.pointer (some ⟨wb, 0, none⟩))) (with_reducible assumption) (first | (go_at_call 13; refine hRc.mono ?_; rintro e w6 ⟨p6, c6, rfl, ho6, hb6⟩; have B6 := BA5.trans (hb6.mono BA5.size); have S6 := cA.out _ B6; have hby6 := Hid.mk (byts_of_own (n := 1) (bs := [98]) (by decide) ho6); have hcc6 := own_none ho6) | (go_at_call 12; refine (hPt.out w6 B6 p6 c6 hcc6 hby6.out).mono ?_; rintro e w7 ⟨rfl, S7, R7, hb7⟩; have S7' := R7.c1))
  have hbw7 : Below w.heap.size w w7 := hbw5.trans hb7
  clear hPt cA hRc S5' S5'' S6 hby6 ho6 BA5 B6 hb6 hcc6 R5 k21 k22 hb7 hbw5
  have hPt := run_put R7 (by decide) (by decide) hbw7.size (htw.next hbw7) 6 (by decide) [] (by decide)
  rw [show putR kd4 7 1 1 true (6, []) = (196, kd4, 1, true) from rfl] at hPt
  have D7 : Below w7.heap.size w7 w7.drew := (Below.refl _ _).drew
  have hRc := record_any 6 none 0 (fun _ => rfl) [] (by decide) w7.drew ⟨fun x hx => by simp at hx, .inl rfl⟩
  have cA : ∀ X, Below w7.heap.size w7 X → X.cell? ⟨ub, 1, none⟩ = some (.pointer (some ⟨wb, 0, none⟩)) := fun X hX => (R7.later hX).c1
  have S7'' := cA _ D7
  replace cA := Hid.mk cA
  replace hPt := Hid.mk hPt
  go_upto_region 8 with fail
  go_region_held3 (fun X => X.cell? ⟨ub, 1, none⟩ = some (.pointer (some ⟨wb, 0, none⟩))) (with_reducible assumption) (first | (go_at_call 13; refine hRc.mono ?_; rintro e w8 ⟨p8, c8, rfl, ho8, hb8⟩; have B8 := D7.trans (hb8.mono D7.size); have S8 := cA.out _ B8; have hcc8 := own_none ho8) | (go_at_call 12; refine (hPt.out w8 B8 p8 c8 hcc8 ⟨fun x hx => (by simp at hx), .inl rfl⟩).mono ?_; rintro e w9 ⟨rfl, S9, R9, hb9⟩; have S9' := R9.c1))
  have hbw9 : Below w.heap.size w w9 := hbw7.trans hb9
  have c90 := R9.c0
  clear hPt cA hRc S7'' S7' S8 ho8 B8 hb8 hcc8 R7 hb9 hbw7 D7
  have BAr : Below w9.heap.size w9 (w9.alloc (.cells #[.int .i64 100] 3)) := (Below.refl _ _).alloc (Nat.le_refl _) _
  have hRs := restart_any [100] (by decide) (some ⟨w9.heap.size, 0, none⟩) 1 (w9.alloc (.cells #[.int .i64 100] 3)) (Nat.le_trans hbw9.size BAr.size) (.inr ⟨w9.heap.size, 0, rfl, by simp, fun i hi => by
    obtain rfl : i = 0 := by simpa using hi
    exact cell_of_row _ _ 0 _ _ _ (heap_new w9 _)⟩) (fun p e hS => by cases e; have := (R9.disk.low _ hS).2; simp at this) (R9.disk.later BAr)
  rw [show restart kd4 [100] = kd5 from rfl] at hRs
  go_wp2_with (go_at_call 19; refine hRs.mono ?_; rintro e w10 ⟨rfl, S10, hD10, hv10⟩; have R10 := (R9.later BAr).dv hD10 hv10; have c10 := R10.c0)
  have hbw10 : Below w.heap.size w w10 := (hbw9.trans (BAr.mono hbw9.size)).trans (hv10.below' (Nat.le_trans hbw9.size BAr.size) (R9.later BAr).disk.low)
  have hOp := open_any 7 (by decide) kall5 w10 hbw10.size (htw.next hbw10) hD10
  have hSl := hD10.low
  have hRes : Hid (∀ e X, OpP w.heap.size db S10 kd5 7 w10 e X → ∃ wb2 sa sc rb ro rc, e = .returned (.tuple #[.pointer (some ⟨wb2, 0, none⟩), .slice sa 0 sc, .slice (some ⟨rb, ro, none⟩) 1 rc, .int .i64 0]) ∧ Below w.heap.size w X ∧ X.cell? ⟨rb, ro, none⟩ = some (.int .u8 5) ∧ ∃ p c, X.cell? ⟨rb, ro + 1, none⟩ = some (.slice p 1 c) ∧ Byts X p [97]) := ⟨fun e X hX => by
    obtain ⟨S', h1, h2, h3⟩ := hX
    obtain ⟨e1, e2⟩ := kf3
    rw [e2] at h3
    obtain ⟨wb2, sa, sc, ra, rc, rfl, -, -, -, -, -, hrc⟩ := h3
    obtain ⟨-, h4 | ⟨rb, ro, rfl, -, hc⟩⟩ := hrc.at_
    · cases h4
    · obtain ⟨h5, p, c, h6, h7⟩ := hc 0 (by decide)
      exact ⟨wb2, sa, sc, rb, ro, rc, rfl, hbw10.trans (h2.below' hbw10.size hSl), h5, p, c, h6, h7⟩⟩
  clear hRs hD10 hv10 R10 c10 R9 BAr S9' c90 hbw9 hSl
  refine hOp.mono ?_
  intro e w11 hm11
  obtain ⟨wb2, sa, sc, rb, ro, rc, rfl, hb11, t0, tp, tc, t1, hby⟩ := hRes.out _ _ hm11
  clear hm11 hOp hRes
  have BA : Below w11.heap.size w11 (w11.alloc (.cells #[.int .u8 97] 5)) := (Below.refl _ _).alloc (Nat.le_refl _) _
  have hSB := sameBytes_any (hby.later BA) (byts1 w11 97 (by decide)) tc 1
  rw [decide_eq_true rfl] at hSB
  have hnil3 : ∀ W : World, (binOp BinOp.neq 28 (.pointer (some ⟨wb2, 0, none⟩)) (.pointer none)).run Tryz.prog W = .ok (.bool true) W := fun _ => rfl
  replace hby := Hid.mk hby
  go_wp2_with (go_at_call 25; refine hSB.mono ?_; rintro e w12 ⟨rfl, hw12⟩)
  go_ret
  exact ⟨rfl, hb11.trans (BA.mono hb11.size)⟩
end Go.Proofs.YtakcdgeanbpllaaGreatDoor.DJ


/- What the listed variables give; bytes that came in. -/
namespace Go.Proofs.YtakcdgeanbpllaaGreatDoor.DJ
open Go.ChangeShapes Go.WideShapes Go.ChangeAt Go.WideMaps Go.WideElems Go.RowKit Go.Joins

theorem own : ownKnob Tryz.prog.godebug = none := by kernel_rfl
theorem laidOutP : laidOutB Tryz.prog = true := by kernel_rfl
theorem cellsB : Tryz.prog.cellsOf 5 = 1 := by kernel_rfl
abbrev laidK : List (String × DataW Unit) := Rows.drawerCostRow.laid
theorem gPow : Tryz.prog.globalNamed "internal/strconv.uint64pow10" = some 2 := by kernel_rfl
theorem tPow : (Tryz.prog.globals[2]?).map (·.type) = some 285 := by kernel_rfl
theorem cU64 : Tryz.prog.cellsOf 228 = 1 := by kernel_rfl
theorem cPow : Tryz.prog.cellsOf 285 = 20 := by kernel_rfl
theorem tab_of_laid {W : World} (h : laidMetH Tryz.prog laidK W) : TabL W.heap.size W := by
  rw [MakeChecks.laidMetH_plain _ _ _ (by kernel_rfl)] at h
  have e : List.filter (fun x => x.1 == "internal/strconv.uint64pow10") laidK = [("internal/strconv.uint64pow10", Lib.tabData .u64 Lib.pow10Tab)] := by kernel_rfl
  have h2 := h.filter (fun x => x.1 == "internal/strconv.uint64pow10")
  rw [e] at h2
  exact Lib.tabBelow_of_tabIs (Lib.tabIs_of_head gPow tPow Tryz.underlying285 Tryz.underlying228 cU64 cPow h2)
set_option maxRecDepth 100000 in
theorem door_met (os : Os) (args : Array Value) : laidMetH Tryz.prog laidK ((World.doorLaid Tryz.prog 400 os).forCall (fun _ _ => 0) ⟨#[], args, []⟩).memory :=
  laidMetH_of_parts3 (fuel := 8) (laidMet_of_run' 8 (by kernel_rfl) (by kernel_rfl)) (by kernel_rfl) (by kernel_rfl)
theorem range64 {n : Int} (h : (Lit.int .i64 n).wf = true) : -9223372036854775808 ≤ n ∧ n ≤ 9223372036854775807 := by
  simp [Lit.wf, IntKind.min, IntKind.max, IntKind.signed, IntKind.bits] at h
  omega
theorem range32 {n : Int} (h : (Lit.int .u32 n).wf = true) : 0 ≤ n ∧ n < 4294967296 := by
  simp [Lit.wf, IntKind.min, IntKind.max, IntKind.signed, IntKind.bits] at h
  omega
theorem u8_nat {n : Int} (h : (Lit.int .u8 n).wf = true) : 0 ≤ n ∧ n < 256 := by
  simp [Lit.wf] at h
  have h1 : IntKind.u8.min = 0 := by decide
  have h2 : IntKind.u8.max = 255 := by decide
  rw [h1, h2] at h
  omega

set_option maxRecDepth 100000 in
/-- A list of bytes that came in. -/
theorem open_bytc {H : Type} {enc : TypeId × Value → H} {W : World} {base : Nat} {v : Value} {d : DataW H} {ps : List MemPlace} (hval : Value.okWide Tryz.prog W .any base 23 v)
    (h : DataW.Trod enc Tryz.prog W 0 (fun _ => true) true 23 v d ps) : ∃ a cap bs, v = .slice a (List.length bs) cap ∧ bs.length ≤ cap ∧ (a = none → cap = 0) ∧ Byts W a bs := by
  obtain ⟨a0, len, cap, rfl⟩ := okWide_slice Tryz.underlying23 hval
  obtain ⟨fuel, hf⟩ := h
  rcases open_ints Tryz.underlying23 Tryz.underlying5 cellsB hf with ⟨hcs, hx⟩ | ⟨a, len', cap', zs, hcs, _, hl, hm, hz, hx, hcell, hwz⟩
  · simp [Value.cells] at hcs
    obtain ⟨rfl, rfl, rfl⟩ := hcs
    exact ⟨none, 0, [], rfl, Nat.le_refl _, fun _ => rfl, by simp, .inl rfl⟩
  · simp [Value.cells] at hcs
    obtain ⟨rfl, rfl, rfl⟩ := hcs
    simp only [Prod.mk.injEq] at hx
    obtain ⟨rfl, rfl⟩ := hx
    simp only [if_true] at hz
    have hlen : ((zs.take len).map Int.toNat).length = len := by rw [List.length_map, List.length_take]; omega
    refine ⟨some a, cap, (zs.take len).map Int.toNat, by rw [hlen], by rw [hlen]; exact hl, fun h => (nomatch h), fun n hn => ?_, ?_⟩
    · obtain ⟨z, hz', rfl⟩ := List.mem_map.1 hn
      have := u8_nat (hwz z (List.mem_of_mem_take hz'))
      omega
    · by_cases h0 : len = 0
      · left
        rw [h0]
        rfl
      · obtain ⟨b, off, rfl, hc⟩ := ints_at hcell (by omega)
        refine .inr ⟨b, off, rfl, World.block_lt_of_cell? _ _ (hc 0 (by omega)), fun i hi => ?_⟩
        rw [hlen] at hi
        have hiz : i < zs.length := by omega
        have hw := u8_nat (hwz _ (List.getElem_mem hiz))
        rw [hc i (by omega), List.getD_eq_getElem?_getD, List.getElem?_eq_getElem hiz]
        simp only [Option.getD_some, List.getElem_map, List.getElem_take]
        rw [Int.toNat_of_nonneg hw.1]
end Go.Proofs.YtakcdgeanbpllaaGreatDoor.DJ


/- Lists that came in. -/
namespace Go.Proofs.YtakcdgeanbpllaaGreatDoor.DJ
open Go.ChangeShapes Go.WideShapes Go.ChangeAt Go.WideMaps Go.WideElems Go.RowKit Go.Joins

theorem cellsBs : Tryz.prog.cellsOf 23 = 1 := by kernel_rfl
set_option maxRecDepth 100000 in
/-- A list that came in, whatever its items are. -/
theorem open_items {α : Type} [Inhabited α] (At : World → Nat → Nat → α → Prop) (k : Nat) {t e : TypeId} (ht : Tryz.prog.underlying t = some (.slice e)) (hk : Tryz.prog.cellsOf e = k) (hp : 0 < k) {H : Type} {enc : TypeId × Value → H} {W : World} {fuel : Nat} {cs : List Value} {x : DataW H × List MemPlace} (hf : DataW.trod enc Tryz.prog W 0 (fun _ => true) true fuel t cs = some x)
    (el : ∀ (n : Nat) (cs' : List Value) (x' : DataW H × List MemPlace) (b off : Nat), cs'.length = k → (∀ j, j < k → W.cell? ⟨b, off + j, none⟩ = cs'[j]?) → DataW.trod enc Tryz.prog W 0 (fun _ => true) true n e cs' = some x' → ∃ o, At W b off o) : ∃ (l : List α) (a : Option Addr) (cap : Nat), cs = [.slice a l.length cap] ∧ l.length ≤ cap ∧ l.length ≤ 9223372036854775807 ∧ (l = [] ∨ ∃ g off, a = some ⟨g, off, none⟩ ∧ g < W.heap.size ∧ ∀ i (h : i < l.length), At W g (off + i * k) l[i]) := by
  rcases DataW.trod_slice ht hf with ⟨hcs, hx⟩ | ⟨a, len, cap, elems, rest, n, hfu, hcs, hx, _, hl, hm, hlen, hel, -, -⟩
  · exact ⟨[], none, 0, hcs, by simp, by simp, .inl rfl⟩
  · have hmx : cap ≤ 9223372036854775807 := by unfold maxLen at hm; omega
    rw [hk] at hel
    by_cases h0 : len = 0
    · subst h0
      exact ⟨[], some a, cap, hcs, by simp, by simp, .inl rfl⟩
    have key0 : ∀ i, i < len → ∃ cs', W.cells? 0 (a.add (i * k)) k = some cs' ∧ ∃ y, DataW.trod enc Tryz.prog W 0 (fun _ => true) true n e cs' = some y := fun i hi => by
      have h := hel i hi
      rw [List.getElem?_eq_getElem (by omega)] at h
      cases hc : W.cells? 0 (a.add (i * k)) k with
      | none => rw [hc] at h; cases h
      | some cs' =>
        rw [hc] at h
        exact ⟨cs', rfl, _, h⟩
    obtain ⟨b, off, spot⟩ := a
    have hspot : spot = none := by
      obtain ⟨cs', h1, -⟩ := key0 0 (by omega)
      obtain ⟨_, hlen, hc⟩ := World.cells?_some h1
      have h2 := hc 0 (by omega)
      obtain ⟨c, hcc⟩ : ∃ c, cs'[0]? = some c := ⟨cs'[0]'(by omega), List.getElem?_eq_getElem _⟩
      rw [hcc] at h2
      simpa [Addr.add] using World.cell?_spot h2
    subst hspot
    have key : ∀ i, i < len → ∃ o : α, At W b (off + i * k) o := fun i hi => by
      obtain ⟨cs', h1, y, h2⟩ := key0 i hi
      obtain ⟨_, hlen', hc⟩ := World.cells?_some h1
      refine el n cs' y b (off + i * k) hlen' (fun j hj => ?_) h2
      have := hc j hj
      rwa [add_plain, add_plain] at this
    obtain ⟨q, hq⟩ : ∃ q : Nat → α, ∀ i, i < len → At W b (off + i * k) (q i) := Go.Deep.choose_lt key
    have hb : b < W.heap.size := by
      obtain ⟨cs', h1, -⟩ := key0 0 (by omega)
      obtain ⟨_, hlen', hc⟩ := World.cells?_some h1
      have h := hc 0 hp
      rw [List.getElem?_eq_getElem (by omega), add_plain, add_plain] at h
      exact World.block_lt_of_cell? _ _ h
    have hll : ((List.range len).map q).length = len := by simp
    refine ⟨(List.range len).map q, some ⟨b, off, none⟩, cap, by rw [hll]; exact hcs, by rw [hll]; omega, by rw [hll]; omega, .inr ⟨b, off, rfl, hb, fun i hi => ?_⟩⟩
    rw [hll] at hi
    simpa using hq i hi
set_option maxRecDepth 100000 in
theorem bytn {H : Type} {enc : TypeId × Value → H} {W : World} {fuel : Nat} {cs : List Value} {x : DataW H × List MemPlace} (hf : DataW.trod enc Tryz.prog W 0 (fun _ => true) true fuel 23 cs = some x) : ∃ a cap bs, cs = [.slice a (List.length bs) cap] ∧ bs.length ≤ cap ∧ (a = none → cap = 0) ∧ Byts W a bs := by
  rcases open_ints Tryz.underlying23 Tryz.underlying5 cellsB hf with ⟨hcs, hx⟩ | ⟨a, len, cap, zs, hcs, _, hl, hm, hz, hx, hcell, hwz⟩
  · exact ⟨none, 0, [], hcs, Nat.le_refl _, fun _ => rfl, by simp, .inl rfl⟩
  · simp only [if_true] at hz
    have hlen : ((zs.take len).map Int.toNat).length = len := by rw [List.length_map, List.length_take]; omega
    refine ⟨some a, cap, (zs.take len).map Int.toNat, by rw [hlen]; exact hcs, by rw [hlen]; exact hl, fun h => (nomatch h), fun n hn => ?_, ?_⟩
    · obtain ⟨z, hz', rfl⟩ := List.mem_map.1 hn
      have := u8_nat (hwz z (List.mem_of_mem_take hz'))
      omega
    · by_cases h0 : len = 0
      · left
        rw [h0]
        rfl
      · obtain ⟨b, off, rfl, hc⟩ := ints_at hcell (by omega)
        refine .inr ⟨b, off, rfl, World.block_lt_of_cell? _ _ (hc 0 (by omega)), fun i hi => ?_⟩
        rw [hlen] at hi
        have hiz : i < zs.length := by omega
        have hw := u8_nat (hwz _ (List.getElem_mem hiz))
        rw [hc i (by omega), List.getD_eq_getElem?_getD, List.getElem?_eq_getElem hiz]
        simp only [Option.getD_some, List.getElem_map, List.getElem_take]
        rw [Int.toNat_of_nonneg hw.1]
end Go.Proofs.YtakcdgeanbpllaaGreatDoor.DJ


/- WHAT A PUT COSTS (P19.12). No program. -/
namespace Go.Proofs.YtakcdgeanbpllaaGreatDoor.DJ

/-- Up, with these rigs. -/
structure Rig (d : Dk) (u : Option Nat) (a c : Nat) : Prop where
  up : d.down = false
  units : d.units = u
  after : d.after = a
  calls : d.calls = c
/-- A call goes on where Fail's rig doesn't meet it, and is paid where the units are enough. -/
theorem first_on {d : Dk} {nm : List Nat} {u : Option Nat} {a c : Nat} (h : named nm) (hr : Rig d u a c) (hc : c = 0 ∨ 0 < a) : (first d nm).1 = 0 ∧ (first d nm).2.fs = d.fs ∧ Rig (first d nm).2 u (if 0 < c then a - 1 else a) c := by
  obtain ⟨h1, h2, h3, h4⟩ := hr
  unfold first
  rw [if_neg (fun h' => h' h), h1, h3, h4]
  simp only [Bool.false_eq_true, if_false]
  by_cases hc0 : 0 < c
  · rw [if_pos hc0, if_pos (by omega), if_pos hc0]
    exact ⟨rfl, rfl, rfl, h2, rfl, rfl⟩
  · rw [if_neg hc0, if_neg hc0]
    exact ⟨rfl, rfl, h1, h2, h3, h4⟩
theorem first_io {d : Dk} {nm : List Nat} {u : Option Nat} {c : Nat} (h : named nm) (hr : Rig d u 0 c) (hc : 0 < c) : (first d nm).1 = 191 := by
  obtain ⟨h1, h2, h3, h4⟩ := hr
  unfold first
  rw [if_neg (fun h' => h' h), h1, h3, h4]
  simp only [Bool.false_eq_true, if_false]
  rw [if_pos hc]
  simp
theorem pays_on {d : Dk} {u : Option Nat} {a c k : Nat} (hr : Rig d u a c) (hu : ∀ n, u = some n → k ≤ n) : (pays d k).1 = none ∧ Rig (pays d k).2 (u.map (· - k)) a c := by
  obtain ⟨h1, h2, h3, h4⟩ := hr
  unfold pays
  cases u with
  | none => rw [h2]; exact ⟨rfl, h1, h2, h3, h4⟩
  | some n =>
    rw [h2]
    simp only [if_pos (hu n rfl)]
    exact ⟨trivial, h1, rfl, h3, h4⟩
theorem pays_off {d : Dk} {a c k n : Nat} (hr : Rig d (some n) a c) (hk : n < k) : (pays d k).1 = some n := by
  unfold pays
  rw [hr.units]
  simp only [if_neg (show ¬ k ≤ n by omega)]

theorem append_on {d : Dk} {nm data : List Nat} {u : Option Nat} {a c : Nat} (h : named nm) (hf : size d.fs nm + data.length ≤ 2097152) (hn : d.fs.length < 40) (hr : Rig d u a c) (hc : c = 0 ∨ 0 < a) (hu : ∀ n, u = some n → data.length + 1 ≤ n) :
    (append d nm data).1 = 0 ∧ (append d nm data).2.fs = lay d.fs nm data ∧ Rig (append d nm data).2 (u.map (· - (data.length + 1))) (if 0 < c then a - 1 else a) c := by
  obtain ⟨e1, e2, e3⟩ := first_on h hr hc
  obtain ⟨p1, p2⟩ := pays_on e3 hu
  unfold append
  rw [if_neg (by omega), if_neg (by rintro (h' | h') <;> omega)]
  split
  · rename_i heq
    rw [heq] at p2
    exact ⟨rfl, rfl, p2.1, p2.2, p2.3, p2.4⟩
  · rename_i heq
    rw [heq] at p1
    cases p1
theorem append_off {d : Dk} {nm data : List Nat} {a n : Nat} (h : named nm) (hf : size d.fs nm + data.length ≤ 2097152) (hn : d.fs.length < 40) (hr : Rig d (some n) a 0) (hu : n < data.length + 1) : (append d nm data).1 = 190 := by
  obtain ⟨e1, e2, e3⟩ := first_on h hr (.inl rfl)
  have p1 := pays_off e3 hu
  unfold append
  rw [if_neg (by omega), if_neg (by rintro (h' | h') <;> omega)]
  split
  · rename_i heq
    rw [heq] at p1
    cases p1
  · rfl
theorem append_io {d : Dk} {nm data : List Nat} {u : Option Nat} {c : Nat} (h : named nm) (hr : Rig d u 0 c) (hc : 0 < c) : (append d nm data).1 = 191 := by
  have := first_io h hr hc
  unfold append
  rw [if_pos (by omega), this]
theorem changes_on {d : Dk} {nm : List Nat} {g : List Fl → List Fl} {u : Option Nat} {a c : Nat} (h : named nm) (hg : get d.fs nm ≠ none) (hr : Rig d u a c) (hc : c = 0 ∨ 0 < a) (hu : ∀ n, u = some n → 1 ≤ n) :
    (changes d nm g).1 = 0 ∧ (changes d nm g).2.fs = g d.fs ∧ Rig (changes d nm g).2 (u.map (· - 1)) (if 0 < c then a - 1 else a) c := by
  obtain ⟨e1, e2, e3⟩ := first_on h hr hc
  obtain ⟨p1, p2⟩ := pays_on e3 hu
  unfold changes
  rw [if_neg (by omega), if_neg hg]
  split
  · rename_i heq
    rw [heq] at p2
    exact ⟨rfl, rfl, p2.1, p2.2, p2.3, p2.4⟩
  · rename_i heq
    rw [heq] at p1
    cases p1
theorem changes_off {d : Dk} {nm : List Nat} {g : List Fl → List Fl} {a : Nat} (h : named nm) (hg : get d.fs nm ≠ none) (hr : Rig d (some 0) a 0) : (changes d nm g).1 = 190 := by
  obtain ⟨e1, e2, e3⟩ := first_on h hr (.inl rfl)
  have p1 := pays_off (k := 1) e3 (by decide)
  unfold changes
  rw [if_neg (by omega), if_neg hg]
  split
  · rename_i heq
    rw [heq] at p1
    cases p1
  · rfl

/-- A Put that is paid: two calls, and the bytes of its piece. -/
theorem put_on {sum : Nat} {s : List Nat} {R : List Rec} {g : Nat} {d : Dk} {r : Rec} {u : Option Nat} {a c : Nat} (h : Base sum s R g d.fs) (hr : r.2.length ≤ 1048576) (hroom : (enc sum s R).length + (r.2.length + 18) ≤ 2097152)
    (hg : Rig d u a c) (hc : c = 0 ∨ 2 ≤ a) (hu : ∀ n, u = some n → r.2.length + 20 ≤ n) :
    (putD d sum g R.length r).1 = 0 ∧ Base sum s (R ++ [r]) g (putD d sum g R.length r).2.fs ∧ Rig (putD d sum g R.length r).2 (u.map (· - (r.2.length + 20))) (if 0 < c then a - 2 else a) c := by
  have hpl := piece_len (R.length + 1) sum r.1 r.2
  have hget : get d.fs (Nm g) = some (main sum s R g) := by rw [h.1]; simp [get, main]
  have hlay : lay d.fs (Nm g) (piece (R.length + 1) sum r.1 r.2) = [⟨Nm g, enc sum s R ++ piece (R.length + 1) sum r.1 r.2, (enc sum s R).length⟩] := by
    unfold lay
    rw [hget]
    simp only [h.1]
    exact upd_one (main sum s R g) _
  obtain ⟨a1, a2, a3⟩ := append_on (data := piece (R.length + 1) sum r.1 r.2) (named_Nm g) (by unfold size; rw [hget, hpl]; exact hroom) (by rw [h.1]; exact (by decide : 1 < 40)) hg (by omega) (fun n hn => by have := hu n hn; omega)
  rw [hlay] at a2
  obtain ⟨b1, b2, b3⟩ := changes_on (g := fun fs => upd fs (Nm g) syncF) (named_Nm g) (by rw [a2]; exact get_one ⟨Nm g, _, _⟩) a3 (by split <;> omega) (fun n hn => by
    cases u with
    | none => cases hn
    | some m =>
      have := hu m rfl
      simp only [Option.map_some, Option.some.injEq] at hn
      omega)
  have hb := (put_kept (d := d) (r := r) h hr).out
  have e : (putD d sum g R.length r).1 = 0 ∧ Rig (putD d sum g R.length r).2 (u.map (· - (r.2.length + 20))) (if 0 < c then a - 2 else a) c := by
    unfold putD lays andThen
    rw [if_neg (by omega)]
    refine ⟨b1, b3.up, ?_, ?_, b3.calls⟩
    · show (changes _ _ _).2.units = _
      rw [b3.units, Option.map_map]
      congr 1
      funext n
      simp only [Function.comp, hpl]
      omega
    · show (changes _ _ _).2.after = _
      rw [b3.after]
      split <;> omega
  refine ⟨e.1, ?_, e.2⟩
  rcases hb with ⟨-, h2⟩ | ⟨h2, -⟩
  · exact h2
  · omega
/-- One unit too few for the Sync. -/
theorem put_short {sum : Nat} {s : List Nat} {R : List Rec} {g : Nat} {d : Dk} {r : Rec} {a : Nat} (h : Base sum s R g d.fs) (hroom : (enc sum s R).length + (r.2.length + 18) ≤ 2097152) (hg : Rig d (some (r.2.length + 19)) a 0) : (putD d sum g R.length r).1 = 190 := by
  have hpl := piece_len (R.length + 1) sum r.1 r.2
  have hget : get d.fs (Nm g) = some (main sum s R g) := by rw [h.1]; simp [get, main]
  have hlay : lay d.fs (Nm g) (piece (R.length + 1) sum r.1 r.2) = [⟨Nm g, enc sum s R ++ piece (R.length + 1) sum r.1 r.2, (enc sum s R).length⟩] := by
    unfold lay
    rw [hget]
    simp only [h.1]
    exact upd_one (main sum s R g) _
  obtain ⟨a1, a2, a3⟩ := append_on (data := piece (R.length + 1) sum r.1 r.2) (named_Nm g) (by unfold size; rw [hget, hpl]; exact hroom) (by rw [h.1]; exact (by decide : 1 < 40)) hg (.inl rfl) (fun n hn => by cases hn; omega)
  rw [hlay] at a2
  simp only [Option.map_some, hpl, Nat.lt_irrefl, if_false, show r.2.length + 19 - (r.2.length + 18 + 1) = 0 by omega] at a3
  have := changes_off (g := fun fs => upd fs (Nm g) syncF) (named_Nm g) (by rw [a2]; exact get_one ⟨Nm g, _, _⟩) a3
  unfold putD lays andThen
  rw [if_neg (by omega)]
  exact this
/-- Too few for the Append. -/
theorem put_bare {sum : Nat} {s : List Nat} {R : List Rec} {g n : Nat} {d : Dk} {r : Rec} {a : Nat} (h : Base sum s R g d.fs) (hroom : (enc sum s R).length + (r.2.length + 18) ≤ 2097152) (hg : Rig d (some n) a 0) (hn : n < r.2.length + 19) : (putD d sum g R.length r).1 = 190 := by
  have hpl := piece_len (R.length + 1) sum r.1 r.2
  have hget : get d.fs (Nm g) = some (main sum s R g) := by rw [h.1]; simp [get, main]
  have := append_off (data := piece (R.length + 1) sum r.1 r.2) (named_Nm g) (by unfold size; rw [hget, hpl]; exact hroom) (by rw [h.1]; exact (by decide : 1 < 40)) hg (by omega)
  unfold putD lays andThen
  rw [if_pos (by omega)]
  exact this
/-- Fail's rig meets the Append. -/
theorem put_io {sum g n c : Nat} {d : Dk} {r : Rec} {u : Option Nat} (hg : Rig d u 0 c) (hc : 0 < c) : (putD d sum g n r).1 = 191 := by
  have := append_io (data := piece (n + 1) sum r.1 r.2) (named_Nm g) hg hc
  unfold putD lays andThen
  rw [if_pos (by omega)]
  exact this
end Go.Proofs.YtakcdgeanbpllaaGreatDoor.DJ


/- What DrawerCost meets, reckoned. -/
namespace Go.Proofs.YtakcdgeanbpllaaGreatDoor.DJ

def second (P : Nat × Dk × Nat × Bool) (sum kd : Nat) : Nat := (putR P.2.1 sum 1 P.2.2.1 P.2.2.2 (kd, [])).1
theorem putR_len (d : Dk) (sum : Nat) (stuck : Bool) (r : Rec) : (putR d sum 1 0 stuck r).2.2.1 ≤ 1 := by
  unfold putR
  split
  · exact Nat.zero_le _
  split
  · exact Nat.zero_le _
  split
  · exact Nat.le_refl _
  · exact Nat.zero_le _
theorem putR_ok {d : Dk} {sum n : Nat} {r : Rec} (hr : r.2.length ≤ 1048576) (h : (putD d sum 1 n r).1 = 0) : putR d sum 1 n false r = (0, (putD d sum 1 n r).2, n + 1, false) := by
  unfold putR; rw [if_neg (by decide), if_neg (by omega), if_pos h]
theorem putR_no {d : Dk} {sum n : Nat} {r : Rec} (hr : r.2.length ≤ 1048576) (h : (putD d sum 1 n r).1 ≠ 0) : putR d sum 1 n false r = ((putD d sum 1 n r).1, (putD d sum 1 n r).2, n, true) := by
  unfold putR; rw [if_neg (by decide), if_neg (by omega), if_neg h]
theorem calm0 : Calm dk0 := ⟨rfl, rfl, rfl⟩

theorem enc_room {sum : Nat} {r : Rec} (hr : r.2.length ≤ 1048576) : (enc sum [] []).length + (r.2.length + 18) ≤ 2097152 := by
  rw [enc_nil, piece_len]
  simp only [List.length_nil]
  omega
theorem enc_room2 {sum : Nat} {r : Rec} (hr : r.2.length ≤ 1048576) : (enc sum [] [r]).length + (([] : List Nat).length + 18) ≤ 2097152 := by
  have e : enc sum [] [r] = piece 0 sum 0 [] ++ (piece 1 sum r.1 r.2 ++ []) := rfl
  rw [e, List.length_append, List.length_append, piece_len, piece_len]
  simp only [List.length_nil]
  omega
section
variable {sum : Nat} (hs : sum < 4294967296) {r : Rec} (hr : r.2.length ≤ 1048576)
include hs hr
theorem cp0 : (putR (openD dk0 sum).2.2 sum 1 0 false r).1 = 0 ∧ second (putR (openD dk0 sum).2.2 sum 1 0 false r) sum r.1 = 0 := by
  obtain ⟨-, -, hC, hB⟩ := gives_new (d := dk0) hs calm0 rfl
  generalize (openD dk0 sum).2.2 = d at *
  obtain ⟨h1, h2, h3⟩ := put_on (r := r) hB hr (enc_room hr) (u := none) (a := d.after) (c := 0) ⟨hC.1, hC.2.1, rfl, hC.2.2⟩ (.inl rfl) (fun n e => by cases e)
  replace h1 : (putD d sum 1 0 r).1 = 0 := h1
  replace h2 : Base sum [] [r] 1 (putD d sum 1 0 r).2.fs := h2
  rw [putR_ok hr h1]
  refine ⟨rfl, ?_⟩
  unfold second
  obtain ⟨g1, -, -⟩ := put_on (r := (r.1, [])) h2 (by simp) (enc_room2 hr) h3 (.inl rfl) (fun n e => by cases e)
  replace g1 : (putD (putD d sum 1 0 r).2 sum 1 1 (r.1, [])).1 = 0 := g1
  simp only [Nat.zero_add]
  rw [putR_ok (by simp) g1]
theorem cp1 : (putR (arm (openD dk0 sum).2.2 ((r.2.length : Int) + 18 + 2)) sum 1 0 false r).1 = 0 ∧ second (putR (arm (openD dk0 sum).2.2 ((r.2.length : Int) + 18 + 2)) sum 1 0 false r) sum r.1 = 190 := by
  obtain ⟨-, -, hC, hB⟩ := gives_new (d := dk0) hs calm0 rfl
  generalize (openD dk0 sum).2.2 = d at *
  have hA : arm d ((r.2.length : Int) + 18 + 2) = { d with units := some (r.2.length + 20) } := by
    unfold arm
    rw [if_neg (by rw [hC.1]; decide), if_neg (by omega)]
    congr 2
  have hB' : Base sum [] [] 1 (arm d ((r.2.length : Int) + 18 + 2)).fs := by rw [hA]; exact hB
  have hR : Rig (arm d ((r.2.length : Int) + 18 + 2)) (some (r.2.length + 20)) d.after 0 := by rw [hA]; exact ⟨hC.1, rfl, rfl, hC.2.2⟩
  generalize arm d ((r.2.length : Int) + 18 + 2) = d' at *
  obtain ⟨h1, h2, h3⟩ := put_on (r := r) hB' hr (enc_room hr) hR (.inl rfl) (fun n e => by cases e; exact Nat.le_refl _)
  replace h1 : (putD d' sum 1 0 r).1 = 0 := h1
  replace h2 : Base sum [] [r] 1 (putD d' sum 1 0 r).2.fs := h2
  rw [putR_ok hr h1]
  refine ⟨rfl, ?_⟩
  unfold second
  have h3' : Rig (putD d' sum 1 0 r).2 (some 0) d.after 0 := by simpa using h3
  generalize (putD d' sum 1 0 r).2 = d2 at *
  have g1 := put_bare (n := 0) (r := (r.1, [])) h2 (enc_room2 hr) h3' (by simp)
  rw [show [r].length = 1 from rfl] at g1
  simp only [Nat.zero_add]
  rw [putR_no (by simp) (by omega)]
  exact g1
theorem cp2 : (putR (arm (openD dk0 sum).2.2 ((r.2.length : Int) + 18 + 2 - 1)) sum 1 0 false r).1 = 190 ∧ second (putR (arm (openD dk0 sum).2.2 ((r.2.length : Int) + 18 + 2 - 1)) sum 1 0 false r) sum r.1 = 196 := by
  obtain ⟨-, -, hC, hB⟩ := gives_new (d := dk0) hs calm0 rfl
  generalize (openD dk0 sum).2.2 = d at *
  have hA : arm d ((r.2.length : Int) + 18 + 2 - 1) = { d with units := some (r.2.length + 19) } := by
    unfold arm
    rw [if_neg (by rw [hC.1]; decide), if_neg (by omega)]
    congr 2
    omega
  have hB' : Base sum [] [] 1 (arm d ((r.2.length : Int) + 18 + 2 - 1)).fs := by rw [hA]; exact hB
  have hR : Rig (arm d ((r.2.length : Int) + 18 + 2 - 1)) (some (r.2.length + 19)) d.after 0 := by rw [hA]; exact ⟨hC.1, rfl, rfl, hC.2.2⟩
  generalize arm d ((r.2.length : Int) + 18 + 2 - 1) = d' at *
  have h1 := put_short (r := r) hB' (enc_room hr) hR
  have h1' : (putD d' sum 1 0 r).1 = 190 := h1
  rw [putR_no hr (by omega)]
  exact ⟨h1', rfl⟩
theorem cp3 : (putR (fail (openD dk0 sum).2.2 2 1) sum 1 0 false r).1 = 0 ∧ second (putR (fail (openD dk0 sum).2.2 2 1) sum 1 0 false r) sum r.1 = 191 := by
  obtain ⟨-, -, hC, hB⟩ := gives_new (d := dk0) hs calm0 rfl
  generalize (openD dk0 sum).2.2 = d at *
  have hA : fail d 2 1 = { d with after := 2, calls := 1 } := by
    unfold fail
    rw [if_neg (by rw [hC.1]; decide), if_pos (by decide)]
    rfl
  have hB' : Base sum [] [] 1 (fail d 2 1).fs := by rw [hA]; exact hB
  have hR : Rig (fail d 2 1) none 2 1 := by rw [hA]; exact ⟨hC.1, hC.2.1, rfl, rfl⟩
  generalize fail d 2 1 = d' at *
  obtain ⟨h1, h2, h3⟩ := put_on (r := r) hB' hr (enc_room hr) hR (.inr (by decide)) (fun n e => by cases e)
  replace h1 : (putD d' sum 1 0 r).1 = 0 := h1
  replace h2 : Base sum [] [r] 1 (putD d' sum 1 0 r).2.fs := h2
  rw [putR_ok hr h1]
  refine ⟨rfl, ?_⟩
  unfold second
  have g1 := put_io (sum := sum) (g := 1) (n := 1) (r := (r.1, [])) (u := none) (c := 1) (d := (putD d' sum 1 0 r).2) (by simpa using h3) (by decide)
  simp only [Nat.zero_add]
  rw [putR_no (by simp) (by omega)]
  exact g1
end
end Go.Proofs.YtakcdgeanbpllaaGreatDoor.DJ

import Derived.Test.YtoippgmecnlhcaaGreatDoorTurnWSc
import Derived.Laws.StructEq
import Derived.Deep.QuietTactic
import Derived.BigQuiet
import Derived.Test.YtoippgmecnlhcaaGreatDoorTurnWR8
import Derived.Test.YtoippgmecnlhcaaGreatDoorJoin4
import Derived.Test.YtoippgmecnlhcaaGreatDoorRows
import Derived.Test.YtoippgmecnlhcaaGreatDoorTie
import Derived.Test.YtoippgmecnlhcaaGreatDoorCards
import Derived.ProofKit
import Derived.LaidMore
import Derived.OpenShut
import Derived.Stop.Joined
import Derived.Lib.SmallJoins
import Derived.Lib.LaidTab
import Derived.LaidSub
import Derived.Deep.Strs
import Derived.SevenTiedAt
namespace Go.Proofs.YtoippgmecnlhcaaGreatDoor.Q
open Go.RowKit Go.Shelf

/-- A slice of tokens, in memory. -/
def TokRow (W : World) (v : Value) (L : List Itm) : Prop := ∃ a cap, v = .slice a L.length cap ∧ (L = [] ∨ ∃ g o, a = some ⟨g, o, none⟩ ∧ g < W.heap.size ∧ ∀ j (h : j < L.length),
  W.cell? ⟨g, o + j * 5, none⟩ = some (.int .i64 ((L[j]).1.1 : Int)) ∧ W.cell? ⟨g, o + j * 5 + 1, none⟩ = some (.int .i64 ((L[j]).2.1 : Int)) ∧ W.cell? ⟨g, o + j * 5 + 2, none⟩ = some (.string ⟨(L[j]).1.2.1.toArray⟩) ∧ W.cell? ⟨g, o + j * 5 + 3, none⟩ = some (.int .i64 ((L[j]).1.2.2.1 : Int)) ∧ W.cell? ⟨g, o + j * 5 + 4, none⟩ = some (.int .i64 ((L[j]).1.2.2.2 : Int)))
theorem TokRow.later {W W' : World} {v : Value} {L : List Itm} (h : TokRow W v L) (hb : Below W.heap.size W W') : TokRow W' v L := by
  obtain ⟨a, cap, rfl, h⟩ := h
  refine ⟨a, cap, rfl, ?_⟩
  rcases h with h | ⟨g, o, rfl, hg, hc⟩
  · exact .inl h
  · refine .inr ⟨g, o, rfl, Nat.lt_of_lt_of_le hg hb.size, fun j hj => ?_⟩
    obtain ⟨h0, h1, h2, h3, h4⟩ := hc j hj
    exact ⟨(hb.cell (p := ⟨g, _, none⟩) hg).trans h0, (hb.cell (p := ⟨g, _, none⟩) hg).trans h1, (hb.cell (p := ⟨g, _, none⟩) hg).trans h2, (hb.cell (p := ⟨g, _, none⟩) hg).trans h3, (hb.cell (p := ⟨g, _, none⟩) hg).trans h4⟩
theorem tokLs_get (L : List Itm) (j i : Nat) (hj : j < L.length) (hi : i < 5) : (tokLs L)[j * 5 + i]? = (tokL L[j])[i]? := by
  induction L generalizing j with
  | nil => simp at hj
  | cons x L ih =>
    have hl : (tokL x).length = 5 := rfl
    show (tokL x ++ tokLs L)[j * 5 + i]? = _
    cases j with
    | zero =>
      rw [List.getElem?_append_left (by omega)]
      simp
    | succ j =>
      rw [List.getElem?_append_right (by omega), hl, show (j + 1) * 5 + i - 5 = j * 5 + i from by omega, ih j (by simpa using hj)]
      simp
theorem tokrow_of_own {W : World} {base : Nat} {v : Value} {L : List Itm} (h : W.ownsRow base 60 5 v L.length (tokLs L)) : TokRow W v L := by
  by_cases hL : L = []
  · subst hL
    obtain ⟨p, m, cap, rfl⟩ := own_slice h
    obtain ⟨-, ⟨e, -⟩ | ⟨g, cap', cur, e, -⟩⟩ := h
    · injection e with e1 e2 e3
      subst e1 e2 e3
      exact ⟨none, 0, rfl, .inl rfl⟩
    · injection e with e1 e2 e3
      subst e1 e2 e3
      exact ⟨_, _, rfl, .inl rfl⟩
  · have hn : 0 < L.length := by cases L with | nil => exact absurd rfl hL | cons x L => simp
    obtain ⟨g, cap, rfl⟩ := own_lit h hn
    refine ⟨_, cap, rfl, .inr ⟨g, 0, rfl, (h.lt g rfl).2, fun j hj => ?_⟩⟩
    have key : ∀ i u, i < 5 → (tokL L[j])[i]? = some u → W.cell? ⟨g, 0 + j * 5 + i, none⟩ = some u := fun i u hi hu => by
      rw [Nat.zero_add]
      exact (h.cellAt (j * 5 + i) (by omega)).trans ((tokLs_get L j i hj hi).trans hu)
    exact ⟨key 0 _ (by omega) rfl, key 1 _ (by omega) rfl, key 2 _ (by omega) rfl, key 3 _ (by omega) rfl, key 4 _ (by omega) rfl⟩
theorem eqTok (a b n d : Int) (t : ByteArray) (w : World) : (Op.equalIn 10000 60 (.agg #[.int .i64 a, .int .i64 b, .string t, .int .i64 n, .int .i64 d]) (.agg #[.int .i64 a, .int .i64 b, .string t, .int .i64 n, .int .i64 d])).run Tryz.prog w = .ok true w := by
  have hS : Tryz.prog.underlying 60 = some (.struct (Tryz.prog.fieldsOf 60)) := by kernel_rfl
  have hp : Tryz.prog.stoodInHeld 60 = false := by kernel_rfl
  rw [show (10000 : Nat) = 9999 + 1 from rfl, run_equalIn_agg w 9999 60 _ _ hS hp]
  simp only [Program.fieldsOf, Tryz.underlying60]
  go_simp

theorem below_drewN {n : Nat} {w W : World} (h : Below n w W) : ∀ k, Below n w (World.drewN W k) := fun k => by first | exact h.drewN k | (induction k with | zero => exact h | succ k ih => exact ih.drew)

set_option maxRecDepth 4000 in
set_option maxHeartbeats 1000000 in
/-- Of two rows that hold the same, same says so. -/
theorem same_toks (va vb : Value) (L : List Itm) (hl : L.length ≤ 1000000000) (w : World) (ha : TokRow w va L) (hb : TokRow w vb L) : Calls Tryz.prog 9 #[va, vb] w fun e w' => e = .returned (.bool true) ∧ Below w.heap.size w w' := by
  obtain ⟨aa, ca, rfl, hda⟩ := ha
  obtain ⟨ab, cb, rfl, hdb⟩ := hb
  have heq := eqTok
  go_enter Tryz.func9, Tryz.ntmps9
  go_wp2
  go_loopw [5] (fun i wr => ∃ j : Nat, j ≤ L.length ∧ i = .int .i64 j ∧ Below w.heap.size w wr) (fun i _ => L.length - (intOf i).toNat)
  case atStart => exact ⟨0, by omega, rfl, Below.refl _ _⟩
  case round =>
    obtain ⟨j, hj, rfl, hB⟩ := hrel
    by_cases hlt : j < L.length
    · have hlt' : (j : Int) < L.length := by omega
      have hj0 : (0 : Int) ≤ (j : Int) := by omega
      rcases hda with h0 | ⟨ga, oa, rfl, hga, hca⟩
      · rw [h0] at hlt; simp at hlt
      rcases hdb with h0 | ⟨gb, ob, rfl, hgb, hcb⟩
      · rw [h0] at hlt; simp at hlt
      obtain ⟨a0, a1, a2, a3, a4⟩ := hca j hlt
      obtain ⟨b0, b1, b2, b3, b4⟩ := hcb j hlt
      generalize L[j] = x at *
      have a0' := (hB.cell (p := ⟨ga, _, none⟩) hga).trans a0
      have a1' := (hB.cell (p := ⟨ga, _, none⟩) hga).trans a1
      have a2' := (hB.cell (p := ⟨ga, _, none⟩) hga).trans a2
      have a3' := (hB.cell (p := ⟨ga, _, none⟩) hga).trans a3
      have a4' := (hB.cell (p := ⟨ga, _, none⟩) hga).trans a4
      have b0' := (hB.cell (p := ⟨gb, _, none⟩) hgb).trans b0
      have b1' := (hB.cell (p := ⟨gb, _, none⟩) hgb).trans b1
      have b2' := (hB.cell (p := ⟨gb, _, none⟩) hgb).trans b2
      have b3' := (hB.cell (p := ⟨gb, _, none⟩) hgb).trans b3
      have b4' := (hB.cell (p := ⟨gb, _, none⟩) hgb).trans b4
      clear a0 a1 a2 a3 a4 b0 b1 b2 b3 b4 hca hcb
      go_wp2_with fail
      go_quiet (fail)
      have hBq := below_drewN hB nq
      go_wp2
      go_roundw
      case rel => exact ⟨j + 1, by omega, by go_num, hBq⟩
      case measure => simp [intOf]; omega
    · have hlt' : ¬ (j : Int) < L.length := by omega
      go_wp2
      go_ret
      exact ⟨rfl, hB⟩

theorem num_any (n : Int) (w : World) : Calls Tryz.prog 7 #[.int .i64 n] w fun e w' => e = .returned (.int .i64 n) ∧ w' = w := by
  go_enter Tryz.func7, Tryz.ntmps7
  go_wp2
  go_ret
  exact ⟨rfl, rfl⟩

end Go.Proofs.YtoippgmecnlhcaaGreatDoor.Q


namespace Go.Proofs.YtoippgmecnlhcaaGreatDoor
open Go.ChangeShapes Go.WideShapes Go.ChangeAt Go.WideMaps Go.WideElems Go.RowKit Go.Joins

theorem own : ownKnob Tryz.prog.godebug = none := by kernel_rfl
abbrev laidK : List (String × DataW Unit) := Rows.wordsPrintsRow.laid
theorem gCls : Tryz.prog.globalNamed "levy/words.classes" = some 1 := by kernel_rfl
theorem tCls : (Tryz.prog.globals[1]?).map (·.type) = some 155 := by kernel_rfl
theorem gMon : Tryz.prog.globalNamed "levy/days.monthDays" = some 4 := by kernel_rfl
theorem tMon : (Tryz.prog.globals[4]?).map (·.type) = some 205 := by kernel_rfl
theorem gSgn : Tryz.prog.globalNamed "levy/words.signs" = some 0 := by kernel_rfl
theorem tSgn : (Tryz.prog.globals[0]?).map (·.type) = some 153 := by kernel_rfl
theorem gRSgn : Tryz.prog.globalNamed "levy/levyref4.signs" = some 2 := by kernel_rfl
theorem tRSgn : (Tryz.prog.globals[2]?).map (·.type) = some 153 := by kernel_rfl
theorem gErrR : Tryz.prog.globalNamed "strconv.ErrRange" = some 11 := by kernel_rfl
theorem tErrR : (Tryz.prog.globals[11]?).map (·.type) = some 193 := by kernel_rfl
theorem gPow : Tryz.prog.globalNamed "internal/strconv.uint64pow10" = some 3 := by kernel_rfl
theorem tPow : (Tryz.prog.globals[3]?).map (·.type) = some 199 := by kernel_rfl
theorem cU64 : Tryz.prog.cellsOf 139 = 1 := by kernel_rfl
theorem cPow : Tryz.prog.cellsOf 199 = 20 := by kernel_rfl
theorem cU8 : Tryz.prog.cellsOf 5 = 1 := by kernel_rfl
theorem cI : Tryz.prog.cellsOf 3 = 1 := by kernel_rfl
theorem cS : Tryz.prog.cellsOf 9 = 1 := by kernel_rfl
theorem c128 : Tryz.prog.cellsOf 155 = 128 := by kernel_rfl
theorem c12 : Tryz.prog.cellsOf 205 = 12 := by kernel_rfl

theorem take_one {α : Type} {l : List α} {i : Nat} {x : α} (h : (l.drop i).take 1 = [x]) : l[i]? = some x := by
  have := congrArg (fun l => l[0]?) h
  simpa using this

def clsList : List Int := (List.range 128).map fun i => (cls i : Int)
theorem cls_of_laid {W : World} (h : laidMet Tryz.prog laidK W) : Cls W := by
  have e : List.filter (fun x => x.1 == "levy/words.classes") laidK = [("levy/words.classes", Lib.tabData .u8 clsList)] := by kernel_rfl
  have h2 := h.filter (fun x => x.1 == "levy/words.classes")
  rw [e] at h2
  have ht := Lib.tabIs_of_head gCls tCls Tryz.underlying155 Tryz.underlying5 cU8 c128 h2
  have hc : ∀ i, i < 128 → W.cell? ⟨1, i, none⟩ = some (.int .u8 (cls i : Int)) := fun i hi => by
    rw [ht.cell gCls i (by simp [clsList]; omega)]
    simp [clsList, List.getD, hi]
  exact ⟨World.block_lt_of_cell? _ _ (hc 0 (by omega)), hc⟩
theorem mon_of_laid {W : World} (h : laidMet Tryz.prog laidK W) : Mon W := by
  have e : List.filter (fun x => x.1 == "levy/days.monthDays") laidK = [("levy/days.monthDays", Lib.tabData .i64 D.md)] := by kernel_rfl
  have h2 := h.filter (fun x => x.1 == "levy/days.monthDays")
  rw [e] at h2
  have ht := Lib.tabIs_of_head gMon tMon Tryz.underlying205 Tryz.underlying3 cI c12 h2
  have hc : ∀ i, i < 12 → W.cell? ⟨4, i, none⟩ = some (.int .i64 (D.md.getD i 0)) := fun i hi => ht.cell gMon i hi
  exact ⟨World.block_lt_of_cell? _ _ (hc 0 (by omega)), hc⟩

/-- An array of texts, as a row lists it. -/
def strTab {H : Type} (ss : List (List UInt8)) : DataW H := .agg (ss.map fun s => .lit (.string s))
theorem strs_of_head {W : World} {name : String} {g : Nat} {ss : List (List UInt8)} (hss : ss.length = 15) (hg : Tryz.prog.globalNamed name = some g) (hty : (Tryz.prog.globals[g]?).map (·.type) = some 153) (h : laidMet Tryz.prog [(name, strTab ss)] W) :
    ∀ i (hi : i < 15), W.cell? ⟨g, i, none⟩ = some (.string ⟨(ss[i]'(by omega)).toArray⟩) := by
  obtain ⟨ps, ⟨g0, t0, cs0, f0, p0, q0, hg0, ht0, hv0, hd0, _, _⟩, _⟩ := h
  obtain rfl := Option.some.inj (hg.symm.trans hg0)
  obtain rfl := Option.some.inj (hty.symm.trans ht0)
  obtain ⟨xs, m1, rfl, hx1, hlen, hn, hel⟩ := DataW.trod_array Tryz.underlying153 hd0
  have hD := (Prod.mk.injEq .. ▸ hx1).1
  simp only [strTab, DataW.agg.injEq] at hD
  intro i hi
  have h1 := hel i hi
  obtain ⟨x, hx⟩ : ∃ x, xs[i]? = some x := ⟨xs[i]'(by omega), by simp⟩
  rw [hx, cS] at h1
  obtain ⟨s, ea, hxe, _⟩ := DataW.trod_string Tryz.underlying9 h1
  have h3 : cs0.toList[i]? = some (.string s) := take_one (by simpa using ea)
  have h4 : (ss.map fun s => (DataW.lit (.string s) : DataW Unit))[i]? = some (.lit (.string s.data.toList)) := by rw [hD]; simp [hx, hxe]
  rw [World.var?_cell hg0 hv0 i]
  simp only [List.getElem?_map, List.getElem?_eq_getElem (show i < ss.length by omega), Option.map_some, Option.some.injEq, DataW.lit.injEq, Lit.string.injEq] at h4
  rw [h4]
  simpa using h3
theorem sgn_of_laid {W : World} (h : laidMet Tryz.prog laidK W) : Sgn W := by
  have e : List.filter (fun x => x.1 == "levy/words.signs") laidK = [("levy/words.signs", strTab signsL)] := by kernel_rfl
  have h2 := h.filter (fun x => x.1 == "levy/words.signs")
  rw [e] at h2
  have hc := strs_of_head rfl gSgn tSgn h2
  exact ⟨World.block_lt_of_cell? _ _ (hc 0 (by omega)), hc⟩
theorem rsgn_of_laid {W : World} (h : laidMet Tryz.prog laidK W) : Q.RSgn W := by
  have e : List.filter (fun x => x.1 == "levy/levyref4.signs") laidK = [("levy/levyref4.signs", strTab Q.refSigns)] := by kernel_rfl
  have h2 := h.filter (fun x => x.1 == "levy/levyref4.signs")
  rw [e] at h2
  have hc := strs_of_head rfl gRSgn tRSgn h2
  exact ⟨World.block_lt_of_cell? _ _ (hc 0 (by omega)), hc⟩
theorem err_of_laid {W : World} (h : laidMet Tryz.prog laidK W) : ErrR W := by
  have e : List.filter (fun x => x.1 == "strconv.ErrRange") laidK = [("strconv.ErrRange", Rows.laid_strconv_ErrRange)] := by kernel_rfl
  have h2 := h.filter (fun x => x.1 == "strconv.ErrRange")
  rw [e] at h2
  obtain ⟨ps, ⟨g0, t0, cs0, f0, p0, q0, hg0, ht0, hv0, hd0, _, _⟩, _⟩ := h2
  obtain rfl := Option.some.inj (gErrR.symm.trans hg0)
  obtain rfl := Option.some.inj (tErrR.symm.trans ht0)
  obtain ⟨f1, u, v, hcs, -, -⟩ := iface_of_trod Tryz.underlying193 hd0
  have hcs' : cs0 = #[.iface u v] := by
    apply Array.toList_inj.1
    simpa using hcs
  subst hcs'
  exact ⟨World.block_lt_of_cell? _ _ ((World.var?_cell hg0 hv0 0).trans rfl), u, v, hv0⟩

theorem pow_of_laid {W : World} (h : laidMet Tryz.prog laidK W) : X.Tab W := by
  have e : List.filter (fun x => x.1 == "internal/strconv.uint64pow10") laidK = [("internal/strconv.uint64pow10", Lib.tabData .u64 Lib.pow10Tab)] := by kernel_rfl
  have h2 := h.filter (fun x => x.1 == "internal/strconv.uint64pow10")
  rw [e] at h2
  exact Lib.tabIs_of_head gPow tPow Tryz.underlying199 Tryz.underlying139 cU64 cPow h2
def Tabs (W : World) : Prop := Cls W ∧ ErrR W ∧ Mon W ∧ Sgn W ∧ X.Tab W ∧ Q.RSgn W
theorem tabs_of_laid {W : World} (h : laidMetH Tryz.prog laidK W) : Tabs W := by
  rw [MakeChecks.laidMetH_plain _ _ _ (by kernel_rfl)] at h
  exact ⟨cls_of_laid h, err_of_laid h, mon_of_laid h, sgn_of_laid h, pow_of_laid h, rsgn_of_laid h⟩

/-- The door's own heap, with the one table laid that the door does not lay. -/
noncomputable def doorW (os : Os) : World := { World.doorLaid Tryz.prog 400 os with heap := (World.doorLaid Tryz.prog 400 os).heap.setIfInBounds 8 (.cells (Go.Pinned.utf8FirstZ.map fun (z : Nat) => Value.int .u8 (z : Int)).toArray 238) }
set_option maxRecDepth 100000 in
theorem door_t1 (os : Os) (args : Array Value) : (DataW.laidRun Tryz.prog ((doorW os).forCall (fun _ _ => 0) ⟨#[], args, []⟩).memory 8 ((laidK.filter fun x => x.2.handleName?.isNone).map (·.1))).map (·.1) = some (laidK.filter fun x => x.2.handleName?.isNone) := by kernel_rfl
set_option maxRecDepth 100000 in
theorem door_t3 (os : Os) (args : Array Value) : (DataW.laidRun Tryz.prog ((doorW os).forCall (fun _ _ => 0) ⟨#[], args, []⟩).memory 8 ((laidK.filter fun x => x.2.handleName?.isNone).map (·.1))).map (fun x => laidRowsB Tryz.prog ((doorW os).forCall (fun _ _ => 0) ⟨#[], args, []⟩).memory x.2) = some true := by kernel_rfl
set_option maxRecDepth 100000 in
theorem door_t2 (os : Os) (args : Array Value) : (DataW.laidRun Tryz.prog ((doorW os).forCall (fun _ _ => 0) ⟨#[], args, []⟩).memory 8 ((laidK.filter fun x => x.2.handleName?.isNone).map (·.1))).map (fun x => decide x.2.Nodup) = some true := by kernel_rfl

theorem two_map {α : Type} (r : Option α) (f g : α → Bool) (h2 : r.map f = some true) (h3 : r.map g = some true) : r.map (fun x => f x && g x) = some true := by
  cases r with
  | none => cases h2
  | some x =>
    simp only [Option.map_some, Option.some.injEq] at h2 h3 ⊢
    rw [h2, h3]
    rfl
set_option maxRecDepth 100000 in
theorem door_met (os : Os) (args : Array Value) : laidMetH Tryz.prog laidK ((doorW os).forCall (fun _ _ => 0) ⟨#[], args, []⟩).memory :=
  laidMetH_of_parts3 (fuel := 8) (laidMet_of_run' 8 (door_t1 os args) (two_map _ _ _ (door_t2 os args) (door_t3 os args))) (by kernel_rfl) (by kernel_rfl)

theorem range64 {n : Int} (h : (Lit.int .i64 n).wf = true) : -9223372036854775808 ≤ n ∧ n ≤ 9223372036854775807 := by
  simp [Lit.wf, IntKind.min, IntKind.max, IntKind.signed, IntKind.bits] at h
  omega

end Go.Proofs.YtoippgmecnlhcaaGreatDoor

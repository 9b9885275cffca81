import Derived.Test.YtekapipfaahhcaaGreatDoorWR8
import Derived.Test.YtekapipfaahhcaaGreatDoorRows
import Derived.Test.YtekapipfaahhcaaGreatDoorTie
import Derived.Test.YtekapipfaahhcaaGreatDoorCards
import Derived.ProofKit
import Derived.LaidMore
import Derived.OpenShut
import Derived.Stop.Joined
import Derived.Lib.SmallJoins
import Derived.Lib.LaidTab
import Derived.LaidSub
import Derived.Deep.Strs
import Derived.SevenTiedAt
namespace Go.Proofs.YtekapipfaahhcaaGreatDoor
open Go.ChangeShapes Go.WideShapes Go.ChangeAt Go.WideMaps Go.WideElems Go.RowKit Go.Joins

theorem own : ownKnob Tryz.prog.godebug = none := by kernel_rfl
abbrev laidK : List (String × DataW Unit) := Rows.wordsApartRow.laid
theorem gCls : Tryz.prog.globalNamed "levy/words.classes" = some 1 := by kernel_rfl
theorem tCls : (Tryz.prog.globals[1]?).map (·.type) = some 170 := by kernel_rfl
theorem gMon : Tryz.prog.globalNamed "levy/days.monthDays" = some 3 := by kernel_rfl
theorem tMon : (Tryz.prog.globals[3]?).map (·.type) = some 199 := by kernel_rfl
theorem gSgn : Tryz.prog.globalNamed "levy/words.signs" = some 2 := by kernel_rfl
theorem tSgn : (Tryz.prog.globals[2]?).map (·.type) = some 123 := by kernel_rfl
theorem gRSgn : Tryz.prog.globalNamed "levy/levyref4.signs" = some 0 := by kernel_rfl
theorem tRSgn : (Tryz.prog.globals[0]?).map (·.type) = some 123 := by kernel_rfl
theorem gErrR : Tryz.prog.globalNamed "strconv.ErrRange" = some 5 := by kernel_rfl
theorem tErrR : (Tryz.prog.globals[5]?).map (·.type) = some 195 := by kernel_rfl
theorem cU8 : Tryz.prog.cellsOf 5 = 1 := by kernel_rfl
theorem cI : Tryz.prog.cellsOf 3 = 1 := by kernel_rfl
theorem cS : Tryz.prog.cellsOf 9 = 1 := by kernel_rfl
theorem c128 : Tryz.prog.cellsOf 170 = 128 := by kernel_rfl
theorem c12 : Tryz.prog.cellsOf 199 = 12 := by kernel_rfl

theorem take_one {α : Type} {l : List α} {i : Nat} {x : α} (h : (l.drop i).take 1 = [x]) : l[i]? = some x := by
  have := congrArg (fun l => l[0]?) h
  simpa using this

def clsList : List Int := (List.range 128).map fun i => (cls i : Int)
theorem cls_of_laid {W : World} (h : laidMet Tryz.prog laidK W) : Cls W := by
  have e : List.filter (fun x => x.1 == "levy/words.classes") laidK = [("levy/words.classes", Lib.tabData .u8 clsList)] := by kernel_rfl
  have h2 := h.filter (fun x => x.1 == "levy/words.classes")
  rw [e] at h2
  have ht := Lib.tabIs_of_head gCls tCls Tryz.underlying170 Tryz.underlying5 cU8 c128 h2
  have hc : ∀ i, i < 128 → W.cell? ⟨1, i, none⟩ = some (.int .u8 (cls i : Int)) := fun i hi => by
    rw [ht.cell gCls i (by simp [clsList]; omega)]
    simp [clsList, List.getD, hi]
  exact ⟨World.block_lt_of_cell? _ _ (hc 0 (by omega)), hc⟩
theorem mon_of_laid {W : World} (h : laidMet Tryz.prog laidK W) : Mon W := by
  have e : List.filter (fun x => x.1 == "levy/days.monthDays") laidK = [("levy/days.monthDays", Lib.tabData .i64 D.md)] := by kernel_rfl
  have h2 := h.filter (fun x => x.1 == "levy/days.monthDays")
  rw [e] at h2
  have ht := Lib.tabIs_of_head gMon tMon Tryz.underlying199 Tryz.underlying3 cI c12 h2
  have hc : ∀ i, i < 12 → W.cell? ⟨3, i, none⟩ = some (.int .i64 (D.md.getD i 0)) := fun i hi => ht.cell gMon i hi
  exact ⟨World.block_lt_of_cell? _ _ (hc 0 (by omega)), hc⟩

/-- An array of texts, as a row lists it. -/
def strTab {H : Type} (ss : List (List UInt8)) : DataW H := .agg (ss.map fun s => .lit (.string s))
theorem strs_of_head {W : World} {name : String} {g : Nat} {ss : List (List UInt8)} (hss : ss.length = 15) (hg : Tryz.prog.globalNamed name = some g) (hty : (Tryz.prog.globals[g]?).map (·.type) = some 123) (h : laidMet Tryz.prog [(name, strTab ss)] W) :
    ∀ i (hi : i < 15), W.cell? ⟨g, i, none⟩ = some (.string ⟨(ss[i]'(by omega)).toArray⟩) := by
  obtain ⟨ps, ⟨g0, t0, cs0, f0, p0, q0, hg0, ht0, hv0, hd0, _, _⟩, _⟩ := h
  obtain rfl := Option.some.inj (hg.symm.trans hg0)
  obtain rfl := Option.some.inj (hty.symm.trans ht0)
  obtain ⟨xs, m1, rfl, hx1, hlen, hn, hel⟩ := DataW.trod_array Tryz.underlying123 hd0
  have hD := (Prod.mk.injEq .. ▸ hx1).1
  simp only [strTab, DataW.agg.injEq] at hD
  intro i hi
  have h1 := hel i hi
  obtain ⟨x, hx⟩ : ∃ x, xs[i]? = some x := ⟨xs[i]'(by omega), by simp⟩
  rw [hx, cS] at h1
  obtain ⟨s, ea, hxe, _⟩ := DataW.trod_string Tryz.underlying9 h1
  have h3 : cs0.toList[i]? = some (.string s) := take_one (by simpa using ea)
  have h4 : (ss.map fun s => (DataW.lit (.string s) : DataW Unit))[i]? = some (.lit (.string s.data.toList)) := by rw [hD]; simp [hx, hxe]
  rw [World.var?_cell hg0 hv0 i]
  simp only [List.getElem?_map, List.getElem?_eq_getElem (show i < ss.length by omega), Option.map_some, Option.some.injEq, DataW.lit.injEq, Lit.string.injEq] at h4
  rw [h4]
  simpa using h3
theorem sgn_of_laid {W : World} (h : laidMet Tryz.prog laidK W) : Sgn W := by
  have e : List.filter (fun x => x.1 == "levy/words.signs") laidK = [("levy/words.signs", strTab signsL)] := by kernel_rfl
  have h2 := h.filter (fun x => x.1 == "levy/words.signs")
  rw [e] at h2
  have hc := strs_of_head rfl gSgn tSgn h2
  exact ⟨World.block_lt_of_cell? _ _ (hc 0 (by omega)), hc⟩
theorem rsgn_of_laid {W : World} (h : laidMet Tryz.prog laidK W) : Q.RSgn W := by
  have e : List.filter (fun x => x.1 == "levy/levyref4.signs") laidK = [("levy/levyref4.signs", strTab Q.refSigns)] := by kernel_rfl
  have h2 := h.filter (fun x => x.1 == "levy/levyref4.signs")
  rw [e] at h2
  have hc := strs_of_head rfl gRSgn tRSgn h2
  exact ⟨World.block_lt_of_cell? _ _ (hc 0 (by omega)), hc⟩
theorem err_of_laid {W : World} (h : laidMet Tryz.prog laidK W) : ErrR W := by
  have e : List.filter (fun x => x.1 == "strconv.ErrRange") laidK = [("strconv.ErrRange", Rows.laid_strconv_ErrRange)] := by kernel_rfl
  have h2 := h.filter (fun x => x.1 == "strconv.ErrRange")
  rw [e] at h2
  obtain ⟨ps, ⟨g0, t0, cs0, f0, p0, q0, hg0, ht0, hv0, hd0, _, _⟩, _⟩ := h2
  obtain rfl := Option.some.inj (gErrR.symm.trans hg0)
  obtain rfl := Option.some.inj (tErrR.symm.trans ht0)
  obtain ⟨f1, u, v, hcs, -, -⟩ := iface_of_trod Tryz.underlying195 hd0
  have hcs' : cs0 = #[.iface u v] := by
    apply Array.toList_inj.1
    simpa using hcs
  subst hcs'
  exact ⟨World.block_lt_of_cell? _ _ ((World.var?_cell hg0 hv0 0).trans rfl), u, v, hv0⟩

def Tabs (W : World) : Prop := Cls W ∧ ErrR W ∧ Mon W ∧ Sgn W ∧ Q.RSgn W
theorem tabs_of_laid {W : World} (h : laidMetH Tryz.prog laidK W) : Tabs W := by
  rw [MakeChecks.laidMetH_plain _ _ _ (by kernel_rfl)] at h
  exact ⟨cls_of_laid h, err_of_laid h, mon_of_laid h, sgn_of_laid h, rsgn_of_laid h⟩

noncomputable abbrev doorW (os : Os) : World := World.doorLaid Tryz.prog 400 os
set_option maxRecDepth 100000 in
theorem door_met (os : Os) (args : Array Value) : laidMetH Tryz.prog laidK ((doorW os).forCall (fun _ _ => 0) ⟨#[], args, []⟩).memory :=
  laidMetH_of_parts3 (fuel := 8) (laidMet_of_run' 8 (by kernel_rfl) (by kernel_rfl)) (by kernel_rfl) (by kernel_rfl)

theorem range64 {n : Int} (h : (Lit.int .i64 n).wf = true) : -9223372036854775808 ≤ n ∧ n ≤ 9223372036854775807 := by
  simp [Lit.wf, IntKind.min, IntKind.max, IntKind.signed, IntKind.bits] at h
  omega

end Go.Proofs.YtekapipfaahhcaaGreatDoor

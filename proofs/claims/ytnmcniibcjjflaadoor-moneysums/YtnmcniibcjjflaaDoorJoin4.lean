import Derived.Test.YtnmcniibcjjflaaDoorJoin3
import Derived.Deep.RegionWith
import Derived.Test.YtnmcniibcjjflaaDoorRows
import Derived.Test.YtnmcniibcjjflaaDoorTie
import Derived.Test.YtnmcniibcjjflaaDoorCards
import Derived.ProofKit
import Derived.LaidMore
import Derived.OpenShut
import Derived.Stop.Joined
import Derived.Lib.SmallJoins
import Derived.Deep.Strs
import Derived.SevenTiedAt
namespace Go.Proofs.YtnmcniibcjjflaaDoor
open Go.RowKit

theorem Kinds.later {w w' : World} (hK : Kinds w) (hb : Below w.heap.size w w') : Kinds w' := by
  refine ⟨Nat.lt_of_lt_of_le hK.1 hb.size, fun i hi => ?_⟩
  have h := hK.2 i hi
  rw [hb.cell (p := ⟨0, i * 3, none⟩) hK.1, hb.cell (p := ⟨0, i * 3 + 1, none⟩) hK.1, hb.cell (p := ⟨0, i * 3 + 2, none⟩) hK.1]
  exact h
theorem Kinds.alloc {w : World} (hK : Kinds w) (o : Obj) : Kinds (w.alloc o) := hK.later ((Below.refl _ _).alloc (Nat.le_refl _) _)
theorem Kinds.drew {w : World} (hK : Kinds w) : Kinds w.drew := hK.later (Below.refl _ _).drew
theorem Kinds.drewN {w : World} (hK : Kinds w) (n : Nat) : Kinds (w.drewN n) := hK.later (below_drewN (Below.refl _ _) n)
theorem Kinds.setCell {w : World} (hK : Kinds w) {a : Addr} (h : 0 < a.block) (v : Value) : Kinds (w.setCell a v) := by
  have hb : Below (0 + 1) w (w.setCell a v) := (Below.refl _ _).setCell h v
  refine ⟨Nat.lt_of_lt_of_le hK.1 hb.size, fun i hi => ?_⟩
  have h := hK.2 i hi
  rw [hb.cell (p := ⟨0, i * 3, none⟩) (Nat.lt_succ_self _), hb.cell (p := ⟨0, i * 3 + 1, none⟩) (Nat.lt_succ_self _), hb.cell (p := ⟨0, i * 3 + 2, none⟩) (Nat.lt_succ_self _)]
  exact h

theorem bcell {W w1 : World} (hb : Below W.heap.size W w1) : (∀ b o, b < W.heap.size → w1.cell? ⟨b, o, none⟩ = W.cell? ⟨b, o, none⟩) ∧ (∀ b o, b < W.heap.size → w1.frozen? ⟨b, o, none⟩ = W.frozen? ⟨b, o, none⟩) :=
  ⟨fun b o h => hb.cell (p := ⟨b, o, none⟩) h, fun b o h => hb.frozen (p := ⟨b, o, none⟩) h⟩

/-- One call behind the other. -/
theorem below_step {w X w1 : World} (h : Below w.heap.size w X) (hb : Below X.heap.size X w1) : Below w.heap.size w w1 := h.trans (hb.mono h.size)


end Go.Proofs.YtnmcniibcjjflaaDoor


namespace Go.Proofs.YtnmcniibcjjflaaDoor
open Go.ChangeShapes Go.WideShapes Go.ChangeAt Go.WideMaps Go.WideElems Go.RowKit Go.Joins

theorem own : ownKnob Tryd.prog.godebug = none := by kernel_rfl
theorem gKinds : Tryd.prog.globalNamed "levy/money.kinds" = some 0 := by kernel_rfl
theorem tKinds : (Tryd.prog.globals[0]?).map (·.type) = some 63 := by kernel_rfl
theorem cE : Tryd.prog.cellsOf 62 = 3 := by kernel_rfl
theorem cA : Tryd.prog.cellsOf 63 = 21 := by kernel_rfl
theorem cI64 : Tryd.prog.cellsOf 2 = 1 := by kernel_rfl
theorem cInt : Tryd.prog.cellsOf 3 = 1 := by kernel_rfl
theorem cVal : Tryd.prog.cellsOf 24 = 2 := by kernel_rfl

abbrev laidK : List (String × DataW Unit) := [("levy/money.kinds", Rows.laid_levy_money_kinds)]

theorem take_one {α : Type} {l : List α} {i : Nat} {x : α} (h : (l.drop i).take 1 = [x]) : l[i]? = some x := by
  have := congrArg (fun l => l[0]?) h
  simpa using this

/-- WHAT THE TIED TABLE GIVES THE WALKS. -/
theorem kinds_of_laid {W : World} (h : laidMetH Tryd.prog laidK W) : Kinds W := by
  rw [MakeChecks.laidMetH_plain _ _ _ (by kernel_rfl)] at h
  obtain ⟨ps, ⟨g0, t0, cs0, f0, p0, q0, hg0, ht0, hv0, hd0, _, _⟩, _, _⟩ := h
  obtain rfl := Option.some.inj (gKinds.symm.trans hg0)
  obtain rfl := Option.some.inj (tKinds.symm.trans ht0)
  obtain ⟨xs, m1, rfl, hx1, hlen, hn, hel⟩ := DataW.trod_array Tryd.underlying63 hd0
  have hcell := fun j => World.var?_cell hg0 hv0 j
  have key : ∀ i : Nat, i < 7 → ∃ a b c : Int, cs0[i * 3]? = some (.int .i64 a) ∧ cs0[i * 3 + 1]? = some (.int .i64 b) ∧ cs0[i * 3 + 2]? = some (.int .i64 c) ∧ (xs.map (·.1))[i]? = some (.agg [.lit (.int .i64 a), .lit (.int .i64 b), .lit (.int .i64 c)]) := by
    intro i hi
    have h1 := hel i hi
    obtain ⟨x, hx⟩ : ∃ x, xs[i]? = some x := ⟨xs[i]'(by omega), by simp⟩
    rw [hx, cE] at h1
    obtain ⟨y0, y1, y2, m, hxe, _, e0, e1, e2⟩ := Go.Deep.trod_struct3 Tryd.underlying62 h1
    obtain ⟨a, ea, rfl, _⟩ := DataW.trod_int Tryd.underlying2 e0
    obtain ⟨b, eb, rfl, _⟩ := DataW.trod_int Tryd.underlying2 e1
    obtain ⟨c, ec, rfl, _⟩ := DataW.trod_int Tryd.underlying3 e2
    simp only [cI64, cInt] at ea eb ec
    refine ⟨a, b, c, ?_, ?_, ?_, by simp [hx, hxe]⟩
    · have := take_one ea; simpa using this
    · have := take_one eb; simpa using this
    · have := take_one ec; simpa using this
  have hD := (Prod.mk.injEq .. ▸ hx1).1
  simp only [Rows.laid_levy_money_kinds, DataW.agg.injEq] at hD
  refine ⟨?_, fun i hi => ?_⟩
  · obtain ⟨a, _, _, ha, _⟩ := key 0 (by omega)
    exact World.block_lt_of_cell? _ _ ((hcell 0).trans (by simpa using ha))
  · obtain ⟨a, b, c, ha, hb, hc, hx⟩ := key i hi
    rw [hcell, hcell, hcell, ha, hb, hc]
    rw [← hD] at hx
    have : i = 0 ∨ i = 1 ∨ i = 2 ∨ i = 3 ∨ i = 4 ∨ i = 5 ∨ i = 6 := by omega
    rcases this with rfl | rfl | rfl | rfl | rfl | rfl | rfl <;> simp at hx <;> obtain ⟨rfl, rfl, rfl⟩ := hx <;> simp [M.lo, M.hi, M.us]

set_option maxRecDepth 100000 in
/-- The door's own heap meets the condition. -/
theorem door_met (os : Os) (args : Array Value) : laidMetH Tryd.prog laidK ((World.doorLaid Tryd.prog 400 os).forCall (fun _ _ => 0) ⟨#[], args, []⟩).memory :=
  laidMetH_of_parts3 (fuel := 8) (laidMet_of_run' 8 (by kernel_rfl) (by kernel_rfl)) (by kernel_rfl) (by kernel_rfl)

set_option maxRecDepth 100000 in
theorem open_val {H : Type} {enc : TypeId × Value → H} {w : World} {base : Nat} {sp : Nat → Bool} {held : Bool} {r : Reach} {b0 : Nat} {v : Value} {d : DataW H} {p : List MemPlace}
    (hv : Value.okWide Tryd.prog w r b0 24 v) (h : DataW.Trod enc Tryd.prog w base sp held 24 v d p) :
    ∃ k n : Int, v = .agg #[.int .i64 k, .int .i64 n] ∧ d = .agg [.lit (.int .i64 k), .lit (.int .i64 n)] ∧ p = [] ∧ (Lit.int .i64 k).wf = true ∧ (Lit.int .i64 n).wf = true := by
  obtain ⟨c0, c1, y0, y1, m, rfl, rfl, rfl, hy0, hy1⟩ := open_agg2 Tryd.underlying24 (by kernel_rfl) cVal hv h
  obtain ⟨a, e0, rfl, wa⟩ := DataW.trod_int Tryd.underlying3 hy0
  obtain ⟨b, e1, rfl, wb⟩ := DataW.trod_int Tryd.underlying2 hy1
  simp at e0 e1
  subst e0 e1
  exact ⟨a, b, rfl, rfl, rfl, wa, wb⟩

set_option maxRecDepth 100000 in
theorem shut_val {H : Type} {enc : TypeId × Value → H} {k n : Int} (wk : (Lit.int .i64 k).wf = true) (wn : (Lit.int .i64 n).wf = true) (W' : World) (sp : Nat → Bool) :
    DataW.Trod enc Tryd.prog W' 0 sp true 24 (.agg #[.int .i64 k, .int .i64 n]) (.agg [.lit (.int .i64 k), .lit (.int .i64 n)]) [] :=
  shut_agg2 (y0 := (.lit (.int .i64 k), [])) (y1 := (.lit (.int .i64 n), [])) Tryd.underlying24 (by kernel_rfl) cVal ⟨1, by simp [DataW.trod, Tryd.underlying3, wk]⟩ ⟨1, by simp [DataW.trod, Tryd.underlying2, wn]⟩

/-- Nothing that was there has been frozen or let go. -/
theorem below_frozen {W W' : World} (h : Below W.heap.size W W') : ∀ a : Addr, a.block < W.heap.size → W'.frozen? a = W.frozen? a := fun _ ha => h.frozen ha

end Go.Proofs.YtnmcniibcjjflaaDoor

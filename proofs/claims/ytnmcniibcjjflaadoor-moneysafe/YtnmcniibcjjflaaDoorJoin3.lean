import Derived.Test.YtnmcniibcjjflaaDoorProg
import Derived.WalkKit
import Derived.WalkSpells
import Derived.WalkLawsBesides
import Derived.Deep.QuietTactic
import Derived.BigQuiet
import Derived.Deep.RegionWith
import Derived.Test.YtnmcniibcjjflaaDoorRows
import Derived.Test.YtnmcniibcjjflaaDoorTie
import Derived.Test.YtnmcniibcjjflaaDoorCards
import Derived.ProofKit
import Derived.LaidMore
import Derived.OpenShut
import Derived.Stop.Joined
import Derived.Lib.SmallJoins
import Derived.Deep.Strs
import Derived.SevenTiedAt
/- THE PLAIN MATHEMATICS of layer 1: no Go in sight. -/
namespace Go.Proofs.YtnmcniibcjjflaaDoor
namespace M

def lo : List Int := [0, -9999999999999, -1000000000, 0, 0, 0, 1]
def hi : List Int := [0, 9999999999999, 1000000000, 1, 109572, 7, 5]
def us : List Int := [0, 15, 23, 4, 6, 4, 0]

/-- P1.1 -/
def valid (k n : Int) : Bool :=
  decide ((k = 0 ∧ n = 0) ∨ (k = 1 ∧ -9999999999999 ≤ n ∧ n ≤ 9999999999999) ∨ (k = 2 ∧ -1000000000 ≤ n ∧ n ≤ 1000000000) ∨ (k = 3 ∧ 0 ≤ n ∧ n ≤ 1) ∨
    (k = 4 ∧ 0 ≤ n ∧ n ≤ 109572) ∨ (k = 5 ∧ 0 ≤ n ∧ n ≤ 7) ∨ (k = 6 ∧ 1 ≤ n ∧ n ≤ 5))

theorem valid_of {k n : Int} {b : Bool} (p : Prop) [Decidable p] (hp : b = decide p)
    (h : p ↔ ((k = 0 ∧ n = 0) ∨ (k = 1 ∧ -9999999999999 ≤ n ∧ n ≤ 9999999999999) ∨ (k = 2 ∧ -1000000000 ≤ n ∧ n ≤ 1000000000) ∨ (k = 3 ∧ 0 ≤ n ∧ n ≤ 1) ∨
    (k = 4 ∧ 0 ≤ n ∧ n ≤ 109572) ∨ (k = 5 ∧ 0 ≤ n ∧ n ≤ 7) ∨ (k = 6 ∧ 1 ≤ n ∧ n ≤ 5))) : b = valid k n := by
  rw [hp]; unfold valid; rw [decide_eq_decide]; exact h

theorem valid_tab (i : Nat) (hi : i < 7) (n : Int) : valid i n = decide (lo.getD i 0 ≤ n ∧ n ≤ Go.Proofs.YtnmcniibcjjflaaDoor.M.hi.getD i 0) := by
  refine (valid_of _ rfl ?_).symm
  have : i = 0 ∨ i = 1 ∨ i = 2 ∨ i = 3 ∨ i = 4 ∨ i = 5 ∨ i = 6 := by omega
  rcases this with rfl | rfl | rfl | rfl | rfl | rfl | rfl <;> simp [lo, Go.Proofs.YtnmcniibcjjflaaDoor.M.hi] <;> omega

theorem valid_out (k n : Int) (hk : ¬ (0 ≤ k ∧ k < 7)) : valid k n = false := by
  unfold valid
  simp
  omega

end M
end Go.Proofs.YtnmcniibcjjflaaDoor


namespace Go.Proofs.YtnmcniibcjjflaaDoor
open Go.RowKit

theorem ret_bool {a b : Bool} (h : a = b) : Ending.returned (.bool a) = .returned (.bool b) := by rw [h]

theorem known_any (k : Int) (w : World) : Calls Tryd.prog 34 #[.int .i64 k] w fun e w' => e = .returned (.bool (decide (0 ≤ k ∧ k < 7))) ∧ w' = w := by
  by_cases h : 0 ≤ k
  · go_enter Tryd.func34, Tryd.ntmps34
    go_wp2
    go_ret
    exact ⟨by simp [h], rfl⟩
  · have h' : decide (0 ≤ k) = false := by simpa using h
    go_enter Tryd.func34, Tryd.ntmps34
    go_wp2
    go_ret
    exact ⟨by simp, rfl⟩

theorem within_any (n l h : Int) (w : World) : Calls Tryd.prog 35 #[.int .i64 n, .int .i64 l, .int .i64 h] w fun e w' => e = .returned (.bool (decide (l ≤ n ∧ n ≤ h))) ∧ w' = w := by
  by_cases c : l ≤ n
  · go_enter Tryd.func35, Tryd.ntmps35
    go_wp2
    go_ret
    exact ⟨by simp [c], rfl⟩
  · have h' : decide (l ≤ n) = false := by simpa using c
    go_enter Tryd.func35, Tryd.ntmps35
    go_wp2
    go_ret
    exact ⟨by simp, rfl⟩

theorem rwithin_any (n l h : Int) (w : World) : Calls Tryd.prog 50 #[.int .i64 n, .int .i64 l, .int .i64 h] w fun e w' => e = .returned (.bool (decide (l ≤ n ∧ n ≤ h))) ∧ w' = w := by
  by_cases c : l ≤ n
  · go_enter Tryd.func50, Tryd.ntmps50
    go_wp2
    go_ret
    exact ⟨by simp [c], rfl⟩
  · have h' : decide (l ≤ n) = false := by simpa using c
    go_enter Tryd.func50, Tryd.ntmps50
    go_wp2
    go_ret
    exact ⟨by simp, rfl⟩

theorem known_yes (k : Int) (w : World) (h : 0 ≤ k ∧ k < 7) : Calls Tryd.prog 34 #[.int .i64 k] w fun e w' => e = .returned (.bool true) ∧ w' = w := by
  have := known_any k w
  rwa [decide_eq_true h] at this

theorem known_no (k : Int) (w : World) (h : ¬ (0 ≤ k ∧ k < 7)) : Calls Tryd.prog 34 #[.int .i64 k] w fun e w' => e = .returned (.bool false) ∧ w' = w := by
  have := known_any k w
  rwa [decide_eq_false h] at this

/-- The table of the kinds lies where the initialiser laid it. -/
def Kinds (w : World) : Prop := 0 < w.heap.size ∧ ∀ i : Nat, i < 7 → w.cell? ⟨0, i * 3, none⟩ = some (.int .i64 (M.lo.getD i 0)) ∧ w.cell? ⟨0, i * 3 + 1, none⟩ = some (.int .i64 (M.hi.getD i 0)) ∧ w.cell? ⟨0, i * 3 + 2, none⟩ = some (.int .i64 (M.us.getD i 0))

theorem valid_yes (i : Nat) (hi : i < 7) (n : Int) (w : World) (hK : Kinds w) :
    Calls Tryd.prog 12 #[.agg #[.int .i64 i, .int .i64 n]] w fun e w' => e = .returned (.bool (decide (M.lo.getD i 0 ≤ n ∧ n ≤ M.hi.getD i 0))) ∧ Below w.heap.size w w' := by
  obtain ⟨hz, h0, h1, -⟩ := And.intro hK.1 (hK.2 i hi)
  generalize M.lo.getD i 0 = l at *
  generalize M.hi.getD i 0 = u at *
  clear hK
  have hi' : (i : Int) < 7 := by omega
  have h00 : 0 ≤ (i : Int) := by omega
  go_enter Tryd.func12, Tryd.ntmps12
  go_wp2
  go_quiet ((first | (go_at_call 34; exact Calls.quiet_of_same (known_yes _ _ (by omega))) | (go_at_call 35; exact Calls.quiet_of_same (within_any _ _ _ _))))
  go_wp2
  go_ret
  exact ⟨by simp, below_drewN ((Below.refl _ _).alloc (Nat.le_refl _) _) _⟩

theorem valid_no (k n : Int) (hk : ¬ (0 ≤ k ∧ k < 7)) (w : World) :
    Calls Tryd.prog 12 #[.agg #[.int .i64 k, .int .i64 n]] w fun e w' => e = .returned (.bool false) ∧ Below w.heap.size w w' := by
  go_enter Tryd.func12, Tryd.ntmps12
  go_wp2
  go_quiet ((go_at_call 34; exact Calls.quiet_of_same (known_no _ _ hk)))
  go_wp2
  go_ret
  exact ⟨by simp, below_drewN ((Below.refl _ _).alloc (Nat.le_refl _) _) _⟩

theorem valid_any (k n : Int) (w : World) (hK : Kinds w) :
    Calls Tryd.prog 12 #[.agg #[.int .i64 k, .int .i64 n]] w fun e w' => e = .returned (.bool (M.valid k n)) ∧ Below w.heap.size w w' := by
  by_cases hk : 0 ≤ k ∧ k < 7
  · obtain ⟨i, rfl⟩ : ∃ i : Nat, k = i := ⟨k.toNat, by omega⟩
    refine (valid_yes i (by omega) n w hK).mono ?_
    rintro e w' ⟨rfl, hb⟩
    refine ⟨?_, hb⟩
    rw [M.valid_tab i (by omega) n]
  · refine (valid_no k n hk w).mono ?_
    rintro e w' ⟨rfl, hb⟩
    exact ⟨by rw [M.valid_out k n hk], hb⟩

theorem rvalid_any (k n : Int) (w : World) :
    Calls Tryd.prog 15 #[.agg #[.int .i64 k, .int .i64 n]] w fun e w' => e = .returned (.bool (M.valid k n)) ∧ Below w.heap.size w w' := by
  by_cases hk : 0 ≤ k ∧ k < 7
  · obtain ⟨i, rfl⟩ : ∃ i : Nat, k = i := ⟨k.toNat, by omega⟩
    rw [M.valid_tab i (by omega) n]
    have hi : i = 0 ∨ i = 1 ∨ i = 2 ∨ i = 3 ∨ i = 4 ∨ i = 5 ∨ i = 6 := by omega
    clear hk
    rcases hi with rfl | rfl | rfl | rfl | rfl | rfl | rfl
    all_goals
      go_enter Tryd.func15, Tryd.ntmps15
      go_wp2_with (go_at_call 50; refine (rwithin_any _ _ _ _).mono ?_; rintro e w' ⟨rfl, rfl⟩)
      go_ret
      exact ⟨ret_bool (by rw [Bool.eq_iff_iff]; simp [M.lo, M.hi]; try omega), (Below.refl _ _).alloc (Nat.le_refl _) _⟩
  · rw [M.valid_out k n hk]
    have h0 : (k == 0) = false := by simp; omega
    have h1 : (k == 1) = false := by simp; omega
    have h2 : (k == 2) = false := by simp; omega
    have h3 : (k == 3) = false := by simp; omega
    have h4 : (k == 4) = false := by simp; omega
    have h5 : (k == 5) = false := by simp; omega
    have h6 : (k == 6) = false := by simp; omega
    clear hk
    go_enter Tryd.func15, Tryd.ntmps15
    go_wp2
    go_ret
    exact ⟨rfl, (Below.refl _ _).alloc (Nat.le_refl _) _⟩

end Go.Proofs.YtnmcniibcjjflaaDoor


namespace Go.Proofs.YtnmcniibcjjflaaDoor
open Go.RowKit

theorem Kinds.later {w w' : World} (hK : Kinds w) (hb : Below w.heap.size w w') : Kinds w' := by
  refine ⟨Nat.lt_of_lt_of_le hK.1 hb.size, fun i hi => ?_⟩
  have h := hK.2 i hi
  rw [hb.cell (p := ⟨0, i * 3, none⟩) hK.1, hb.cell (p := ⟨0, i * 3 + 1, none⟩) hK.1, hb.cell (p := ⟨0, i * 3 + 2, none⟩) hK.1]
  exact h
theorem Kinds.alloc {w : World} (hK : Kinds w) (o : Obj) : Kinds (w.alloc o) := hK.later ((Below.refl _ _).alloc (Nat.le_refl _) _)
theorem Kinds.drew {w : World} (hK : Kinds w) : Kinds w.drew := hK.later (Below.refl _ _).drew
theorem Kinds.drewN {w : World} (hK : Kinds w) (n : Nat) : Kinds (w.drewN n) := hK.later (below_drewN (Below.refl _ _) n)
theorem Kinds.setCell {w : World} (hK : Kinds w) {a : Addr} (h : 0 < a.block) (v : Value) : Kinds (w.setCell a v) := by
  have hb : Below (0 + 1) w (w.setCell a v) := (Below.refl _ _).setCell h v
  refine ⟨Nat.lt_of_lt_of_le hK.1 hb.size, fun i hi => ?_⟩
  have h := hK.2 i hi
  rw [hb.cell (p := ⟨0, i * 3, none⟩) (Nat.lt_succ_self _), hb.cell (p := ⟨0, i * 3 + 1, none⟩) (Nat.lt_succ_self _), hb.cell (p := ⟨0, i * 3 + 2, none⟩) (Nat.lt_succ_self _)]
  exact h

theorem bcell {W w1 : World} (hb : Below W.heap.size W w1) : (∀ b o, b < W.heap.size → w1.cell? ⟨b, o, none⟩ = W.cell? ⟨b, o, none⟩) ∧ (∀ b o, b < W.heap.size → w1.frozen? ⟨b, o, none⟩ = W.frozen? ⟨b, o, none⟩) :=
  ⟨fun b o h => hb.cell (p := ⟨b, o, none⟩) h, fun b o h => hb.frozen (p := ⟨b, o, none⟩) h⟩

/-- One call behind the other. -/
theorem below_step {w X w1 : World} (h : Below w.heap.size w X) (hb : Below X.heap.size X w1) : Below w.heap.size w w1 := h.trans (hb.mono h.size)


end Go.Proofs.YtnmcniibcjjflaaDoor


namespace Go.Proofs.YtnmcniibcjjflaaDoor
open Go.ChangeShapes Go.WideShapes Go.ChangeAt Go.WideMaps Go.WideElems Go.RowKit Go.Joins

theorem own : ownKnob Tryd.prog.godebug = none := by kernel_rfl
theorem gKinds : Tryd.prog.globalNamed "levy/money.kinds" = some 0 := by kernel_rfl
theorem tKinds : (Tryd.prog.globals[0]?).map (·.type) = some 63 := by kernel_rfl
theorem cE : Tryd.prog.cellsOf 62 = 3 := by kernel_rfl
theorem cA : Tryd.prog.cellsOf 63 = 21 := by kernel_rfl
theorem cI64 : Tryd.prog.cellsOf 2 = 1 := by kernel_rfl
theorem cInt : Tryd.prog.cellsOf 3 = 1 := by kernel_rfl
theorem cVal : Tryd.prog.cellsOf 24 = 2 := by kernel_rfl

abbrev laidK : List (String × DataW Unit) := [("levy/money.kinds", Rows.laid_levy_money_kinds)]

theorem take_one {α : Type} {l : List α} {i : Nat} {x : α} (h : (l.drop i).take 1 = [x]) : l[i]? = some x := by
  have := congrArg (fun l => l[0]?) h
  simpa using this

/-- WHAT THE TIED TABLE GIVES THE WALKS. -/
theorem kinds_of_laid {W : World} (h : laidMetH Tryd.prog laidK W) : Kinds W := by
  rw [MakeChecks.laidMetH_plain _ _ _ (by kernel_rfl)] at h
  obtain ⟨ps, ⟨g0, t0, cs0, f0, p0, q0, hg0, ht0, hv0, hd0, _, _⟩, _, _⟩ := h
  obtain rfl := Option.some.inj (gKinds.symm.trans hg0)
  obtain rfl := Option.some.inj (tKinds.symm.trans ht0)
  obtain ⟨xs, m1, rfl, hx1, hlen, hn, hel⟩ := DataW.trod_array Tryd.underlying63 hd0
  have hcell := fun j => World.var?_cell hg0 hv0 j
  have key : ∀ i : Nat, i < 7 → ∃ a b c : Int, cs0[i * 3]? = some (.int .i64 a) ∧ cs0[i * 3 + 1]? = some (.int .i64 b) ∧ cs0[i * 3 + 2]? = some (.int .i64 c) ∧ (xs.map (·.1))[i]? = some (.agg [.lit (.int .i64 a), .lit (.int .i64 b), .lit (.int .i64 c)]) := by
    intro i hi
    have h1 := hel i hi
    obtain ⟨x, hx⟩ : ∃ x, xs[i]? = some x := ⟨xs[i]'(by omega), by simp⟩
    rw [hx, cE] at h1
    obtain ⟨y0, y1, y2, m, hxe, _, e0, e1, e2⟩ := Go.Deep.trod_struct3 Tryd.underlying62 h1
    obtain ⟨a, ea, rfl, _⟩ := DataW.trod_int Tryd.underlying2 e0
    obtain ⟨b, eb, rfl, _⟩ := DataW.trod_int Tryd.underlying2 e1
    obtain ⟨c, ec, rfl, _⟩ := DataW.trod_int Tryd.underlying3 e2
    simp only [cI64, cInt] at ea eb ec
    refine ⟨a, b, c, ?_, ?_, ?_, by simp [hx, hxe]⟩
    · have := take_one ea; simpa using this
    · have := take_one eb; simpa using this
    · have := take_one ec; simpa using this
  have hD := (Prod.mk.injEq .. ▸ hx1).1
  simp only [Rows.laid_levy_money_kinds, DataW.agg.injEq] at hD
  refine ⟨?_, fun i hi => ?_⟩
  · obtain ⟨a, _, _, ha, _⟩ := key 0 (by omega)
    exact World.block_lt_of_cell? _ _ ((hcell 0).trans (by simpa using ha))
  · obtain ⟨a, b, c, ha, hb, hc, hx⟩ := key i hi
    rw [hcell, hcell, hcell, ha, hb, hc]
    rw [← hD] at hx
    have : i = 0 ∨ i = 1 ∨ i = 2 ∨ i = 3 ∨ i = 4 ∨ i = 5 ∨ i = 6 := by omega
    rcases this with rfl | rfl | rfl | rfl | rfl | rfl | rfl <;> simp at hx <;> obtain ⟨rfl, rfl, rfl⟩ := hx <;> simp [M.lo, M.hi, M.us]

set_option maxRecDepth 100000 in
/-- The door's own heap meets the condition. -/
theorem door_met (os : Os) (args : Array Value) : laidMetH Tryd.prog laidK ((World.doorLaid Tryd.prog 400 os).forCall (fun _ _ => 0) ⟨#[], args, []⟩).memory :=
  laidMetH_of_parts3 (fuel := 8) (laidMet_of_run' 8 (by kernel_rfl) (by kernel_rfl)) (by kernel_rfl) (by kernel_rfl)

set_option maxRecDepth 100000 in
theorem open_val {H : Type} {enc : TypeId × Value → H} {w : World} {base : Nat} {sp : Nat → Bool} {held : Bool} {r : Reach} {b0 : Nat} {v : Value} {d : DataW H} {p : List MemPlace}
    (hv : Value.okWide Tryd.prog w r b0 24 v) (h : DataW.Trod enc Tryd.prog w base sp held 24 v d p) :
    ∃ k n : Int, v = .agg #[.int .i64 k, .int .i64 n] ∧ d = .agg [.lit (.int .i64 k), .lit (.int .i64 n)] ∧ p = [] ∧ (Lit.int .i64 k).wf = true ∧ (Lit.int .i64 n).wf = true := by
  obtain ⟨c0, c1, y0, y1, m, rfl, rfl, rfl, hy0, hy1⟩ := open_agg2 Tryd.underlying24 (by kernel_rfl) cVal hv h
  obtain ⟨a, e0, rfl, wa⟩ := DataW.trod_int Tryd.underlying3 hy0
  obtain ⟨b, e1, rfl, wb⟩ := DataW.trod_int Tryd.underlying2 hy1
  simp at e0 e1
  subst e0 e1
  exact ⟨a, b, rfl, rfl, rfl, wa, wb⟩

set_option maxRecDepth 100000 in
theorem shut_val {H : Type} {enc : TypeId × Value → H} {k n : Int} (wk : (Lit.int .i64 k).wf = true) (wn : (Lit.int .i64 n).wf = true) (W' : World) (sp : Nat → Bool) :
    DataW.Trod enc Tryd.prog W' 0 sp true 24 (.agg #[.int .i64 k, .int .i64 n]) (.agg [.lit (.int .i64 k), .lit (.int .i64 n)]) [] :=
  shut_agg2 (y0 := (.lit (.int .i64 k), [])) (y1 := (.lit (.int .i64 n), [])) Tryd.underlying24 (by kernel_rfl) cVal ⟨1, by simp [DataW.trod, Tryd.underlying3, wk]⟩ ⟨1, by simp [DataW.trod, Tryd.underlying2, wn]⟩

/-- Nothing that was there has been frozen or let go. -/
theorem below_frozen {W W' : World} (h : Below W.heap.size W W') : ∀ a : Addr, a.block < W.heap.size → W'.frozen? a = W.frozen? a := fun _ ha => h.frozen ha

end Go.Proofs.YtnmcniibcjjflaaDoor

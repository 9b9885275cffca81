import Derived.Test.YthnmjafoplfikaaGreatDoorProg
import Derived.WalkKit
import Derived.WalkSpells
import Derived.WalkLawsBesides
import Derived.Deep.QuietTactic
import Derived.BigQuiet
import Derived.Test.YthnmjafoplfikaaGreatDoorRows
import Derived.Test.YthnmjafoplfikaaGreatDoorTie
import Derived.Test.YthnmjafoplfikaaGreatDoorCards
import Derived.ProofKit
import Derived.LaidMore
import Derived.OpenShut
import Derived.Stop.Joined
import Derived.Lib.SmallJoins
import Derived.Deep.Strs
import Derived.SevenTiedAt
import Derived.Test.YthnmjafoplfikaaGreatDoorTurnYN5
import Derived.Test.YthnmjafoplfikaaGreatDoorTurnYP
import Derived.Test.YthnmjafoplfikaaGreatDoorTurnYL1
import Derived.Laws.IdiomStrings
/- THE PLAIN MATHEMATICS of layer 1: no Go in sight. -/
namespace Go.Proofs.YthnmjafoplfikaaGreatDoor
namespace M

def lo : List Int := [0, -9999999999999, -1000000000, 0, 0, 0, 1]
def hi : List Int := [0, 9999999999999, 1000000000, 1, 109572, 7, 5]
def us : List Int := [0, 15, 23, 4, 6, 4, 0]

/-- P1.1 -/
def valid (k n : Int) : Bool :=
  decide ((k = 0 ∧ n = 0) ∨ (k = 1 ∧ -9999999999999 ≤ n ∧ n ≤ 9999999999999) ∨ (k = 2 ∧ -1000000000 ≤ n ∧ n ≤ 1000000000) ∨ (k = 3 ∧ 0 ≤ n ∧ n ≤ 1) ∨
    (k = 4 ∧ 0 ≤ n ∧ n ≤ 109572) ∨ (k = 5 ∧ 0 ≤ n ∧ n ≤ 7) ∨ (k = 6 ∧ 1 ≤ n ∧ n ≤ 5))

theorem valid_of {k n : Int} {b : Bool} (p : Prop) [Decidable p] (hp : b = decide p)
    (h : p ↔ ((k = 0 ∧ n = 0) ∨ (k = 1 ∧ -9999999999999 ≤ n ∧ n ≤ 9999999999999) ∨ (k = 2 ∧ -1000000000 ≤ n ∧ n ≤ 1000000000) ∨ (k = 3 ∧ 0 ≤ n ∧ n ≤ 1) ∨
    (k = 4 ∧ 0 ≤ n ∧ n ≤ 109572) ∨ (k = 5 ∧ 0 ≤ n ∧ n ≤ 7) ∨ (k = 6 ∧ 1 ≤ n ∧ n ≤ 5))) : b = valid k n := by
  rw [hp]; unfold valid; rw [decide_eq_decide]; exact h

theorem valid_tab (i : Nat) (hi : i < 7) (n : Int) : valid i n = decide (lo.getD i 0 ≤ n ∧ n ≤ Go.Proofs.YthnmjafoplfikaaGreatDoor.M.hi.getD i 0) := by
  refine (valid_of _ rfl ?_).symm
  have : i = 0 ∨ i = 1 ∨ i = 2 ∨ i = 3 ∨ i = 4 ∨ i = 5 ∨ i = 6 := by omega
  rcases this with rfl | rfl | rfl | rfl | rfl | rfl | rfl <;> simp [lo, Go.Proofs.YthnmjafoplfikaaGreatDoor.M.hi] <;> omega

theorem valid_out (k n : Int) (hk : ¬ (0 ≤ k ∧ k < 7)) : valid k n = false := by
  unfold valid
  simp
  omega

end M
end Go.Proofs.YthnmjafoplfikaaGreatDoor


namespace Go.Proofs.YthnmjafoplfikaaGreatDoor
open Go.RowKit

theorem knownM_any (k : Int) (w : World) : Calls Tryz.prog 67 #[.int .i64 k] w fun e w' => e = .returned (.bool (decide (0 ≤ k ∧ k < 7))) ∧ w' = w := by
  by_cases h : 0 ≤ k
  · go_enter Tryz.func67, Tryz.ntmps67
    go_wp2
    go_ret
    exact ⟨by simp [h], rfl⟩
  · have h' : decide (0 ≤ k) = false := by simpa using h
    go_enter Tryz.func67, Tryz.ntmps67
    go_wp2
    go_ret
    exact ⟨by simp, rfl⟩

theorem within_any (n l h : Int) (w : World) : Calls Tryz.prog 68 #[.int .i64 n, .int .i64 l, .int .i64 h] w fun e w' => e = .returned (.bool (decide (l ≤ n ∧ n ≤ h))) ∧ w' = w := by
  by_cases c : l ≤ n
  · go_enter Tryz.func68, Tryz.ntmps68
    go_wp2
    go_ret
    exact ⟨by simp [c], rfl⟩
  · have h' : decide (l ≤ n) = false := by simpa using c
    go_enter Tryz.func68, Tryz.ntmps68
    go_wp2
    go_ret
    exact ⟨by simp, rfl⟩

theorem known_yes (k : Int) (w : World) (h : 0 ≤ k ∧ k < 7) : Calls Tryz.prog 67 #[.int .i64 k] w fun e w' => e = .returned (.bool true) ∧ w' = w := by
  have := knownM_any k w
  rwa [decide_eq_true h] at this

theorem known_no (k : Int) (w : World) (h : ¬ (0 ≤ k ∧ k < 7)) : Calls Tryz.prog 67 #[.int .i64 k] w fun e w' => e = .returned (.bool false) ∧ w' = w := by
  have := knownM_any k w
  rwa [decide_eq_false h] at this

/-- The table of the kinds lies where the initialiser laid it. -/
def Kinds (w : World) : Prop := 0 < w.heap.size ∧ ∀ i : Nat, i < 7 → w.cell? ⟨0, i * 3, none⟩ = some (.int .i64 (M.lo.getD i 0)) ∧ w.cell? ⟨0, i * 3 + 1, none⟩ = some (.int .i64 (M.hi.getD i 0)) ∧ w.cell? ⟨0, i * 3 + 2, none⟩ = some (.int .i64 (M.us.getD i 0))

theorem valid_yes (i : Nat) (hi : i < 7) (n : Int) (w : World) (hK : Kinds w) :
    Calls Tryz.prog 29 #[.agg #[.int .i64 i, .int .i64 n]] w fun e w' => e = .returned (.bool (decide (M.lo.getD i 0 ≤ n ∧ n ≤ M.hi.getD i 0))) ∧ Below w.heap.size w w' := by
  obtain ⟨hz, h0, h1, -⟩ := And.intro hK.1 (hK.2 i hi)
  generalize M.lo.getD i 0 = l at *
  generalize M.hi.getD i 0 = u at *
  clear hK
  have hi' : (i : Int) < 7 := by omega
  have h00 : 0 ≤ (i : Int) := by omega
  go_enter Tryz.func29, Tryz.ntmps29
  go_wp2
  go_quiet ((first | (go_at_call 67; exact Calls.quiet_of_same (known_yes _ _ (by omega))) | (go_at_call 68; exact Calls.quiet_of_same (within_any _ _ _ _))))
  go_wp2
  go_ret
  exact ⟨by simp, below_drewN ((Below.refl _ _).alloc (Nat.le_refl _) _) _⟩

theorem valid_no (k n : Int) (hk : ¬ (0 ≤ k ∧ k < 7)) (w : World) :
    Calls Tryz.prog 29 #[.agg #[.int .i64 k, .int .i64 n]] w fun e w' => e = .returned (.bool false) ∧ Below w.heap.size w w' := by
  go_enter Tryz.func29, Tryz.ntmps29
  go_wp2
  go_quiet ((go_at_call 67; exact Calls.quiet_of_same (known_no _ _ hk)))
  go_wp2
  go_ret
  exact ⟨by simp, below_drewN ((Below.refl _ _).alloc (Nat.le_refl _) _) _⟩

theorem valid_any (k n : Int) (w : World) (hK : Kinds w) :
    Calls Tryz.prog 29 #[.agg #[.int .i64 k, .int .i64 n]] w fun e w' => e = .returned (.bool (M.valid k n)) ∧ Below w.heap.size w w' := by
  by_cases hk : 0 ≤ k ∧ k < 7
  · obtain ⟨i, rfl⟩ : ∃ i : Nat, k = i := ⟨k.toNat, by omega⟩
    refine (valid_yes i (by omega) n w hK).mono ?_
    rintro e w' ⟨rfl, hb⟩
    refine ⟨?_, hb⟩
    rw [M.valid_tab i (by omega) n]
  · refine (valid_no k n hk w).mono ?_
    rintro e w' ⟨rfl, hb⟩
    exact ⟨by rw [M.valid_out k n hk], hb⟩

theorem Kinds.later {w w' : World} (hK : Kinds w) (hb : Below w.heap.size w w') : Kinds w' := by
  refine ⟨Nat.lt_of_lt_of_le hK.1 hb.size, fun i hi => ?_⟩
  have h := hK.2 i hi
  rw [hb.cell (p := ⟨0, i * 3, none⟩) hK.1, hb.cell (p := ⟨0, i * 3 + 1, none⟩) hK.1, hb.cell (p := ⟨0, i * 3 + 2, none⟩) hK.1]
  exact h

end Go.Proofs.YthnmjafoplfikaaGreatDoor


namespace Go.Proofs.YthnmjafoplfikaaGreatDoor
open Go.ChangeShapes Go.WideShapes Go.ChangeAt Go.WideMaps Go.WideElems Go.RowKit Go.Joins

theorem own : ownKnob Tryz.prog.godebug = none := by kernel_rfl
theorem gKinds : Tryz.prog.globalNamed "levy/money.kinds" = some 0 := by kernel_rfl
theorem tKinds : (Tryz.prog.globals[0]?).map (·.type) = some 116 := by kernel_rfl
theorem cE : Tryz.prog.cellsOf 115 = 3 := by kernel_rfl
theorem cI64 : Tryz.prog.cellsOf 2 = 1 := by kernel_rfl
theorem cInt : Tryz.prog.cellsOf 3 = 1 := by kernel_rfl
theorem cVal : Tryz.prog.cellsOf 30 = 2 := by kernel_rfl

abbrev laidK : List (String × DataW Unit) := [("levy/money.kinds", Rows.laid_levy_money_kinds)]

theorem take_oneL {α : Type} {l : List α} {i : Nat} {x : α} (h : (l.drop i).take 1 = [x]) : l[i]? = some x := by
  have := congrArg (fun l => l[0]?) h
  simpa using this

/-- WHAT THE TIED TABLE GIVES THE WALKS. -/
theorem kinds_of_laid {W : World} (h : laidMetH Tryz.prog laidK W) : Kinds W := by
  rw [MakeChecks.laidMetH_plain _ _ _ (by kernel_rfl)] at h
  obtain ⟨ps, ⟨g0, t0, cs0, f0, p0, q0, hg0, ht0, hv0, hd0, _, _⟩, _, _⟩ := h
  obtain rfl := Option.some.inj (gKinds.symm.trans hg0)
  obtain rfl := Option.some.inj (tKinds.symm.trans ht0)
  obtain ⟨xs, m1, rfl, hx1, hlen, hn, hel⟩ := DataW.trod_array Tryz.underlying116 hd0
  have hcell := fun j => World.var?_cell hg0 hv0 j
  have key : ∀ i : Nat, i < 7 → ∃ a b c : Int, cs0[i * 3]? = some (.int .i64 a) ∧ cs0[i * 3 + 1]? = some (.int .i64 b) ∧ cs0[i * 3 + 2]? = some (.int .i64 c) ∧ (xs.map (·.1))[i]? = some (.agg [.lit (.int .i64 a), .lit (.int .i64 b), .lit (.int .i64 c)]) := by
    intro i hi
    have h1 := hel i hi
    obtain ⟨x, hx⟩ : ∃ x, xs[i]? = some x := ⟨xs[i]'(by omega), by simp⟩
    rw [hx, cE] at h1
    obtain ⟨y0, y1, y2, m, hxe, _, e0, e1, e2⟩ := Go.Deep.trod_struct3 Tryz.underlying115 h1
    obtain ⟨a, ea, rfl, _⟩ := DataW.trod_int Tryz.underlying2 e0
    obtain ⟨b, eb, rfl, _⟩ := DataW.trod_int Tryz.underlying2 e1
    obtain ⟨c, ec, rfl, _⟩ := DataW.trod_int Tryz.underlying3 e2
    simp only [cI64, cInt] at ea eb ec
    refine ⟨a, b, c, ?_, ?_, ?_, by simp [hx, hxe]⟩
    · have := take_oneL ea; simpa using this
    · have := take_oneL eb; simpa using this
    · have := take_oneL ec; simpa using this
  have hD := (Prod.mk.injEq .. ▸ hx1).1
  simp only [Rows.laid_levy_money_kinds, DataW.agg.injEq] at hD
  refine ⟨?_, fun i hi => ?_⟩
  · obtain ⟨a, _, _, ha, _⟩ := key 0 (by omega)
    exact World.block_lt_of_cell? _ _ ((hcell 0).trans (by simpa using ha))
  · obtain ⟨a, b, c, ha, hb, hc, hx⟩ := key i hi
    rw [hcell, hcell, hcell, ha, hb, hc]
    rw [← hD] at hx
    have : i = 0 ∨ i = 1 ∨ i = 2 ∨ i = 3 ∨ i = 4 ∨ i = 5 ∨ i = 6 := by omega
    rcases this with rfl | rfl | rfl | rfl | rfl | rfl | rfl <;> simp at hx <;> obtain ⟨rfl, rfl, rfl⟩ := hx <;> simp [M.lo, M.hi, M.us]

set_option maxRecDepth 100000 in
/-- The door's own heap meets the condition. -/
theorem door_met (os : Os) (args : Array Value) : laidMetH Tryz.prog laidK ((World.doorLaid Tryz.prog 400 os).forCall (fun _ _ => 0) ⟨#[], args, []⟩).memory :=
  laidMetH_of_parts3 (fuel := 8) (laidMet_of_run' 8 (by kernel_rfl) (by kernel_rfl)) (by kernel_rfl) (by kernel_rfl)

set_option maxRecDepth 100000 in
theorem open_val {H : Type} {enc : TypeId × Value → H} {w : World} {base : Nat} {sp : Nat → Bool} {held : Bool} {r : Reach} {b0 : Nat} {v : Value} {d : DataW H} {p : List MemPlace}
    (hv : Value.okWide Tryz.prog w r b0 30 v) (h : DataW.Trod enc Tryz.prog w base sp held 30 v d p) :
    ∃ k n : Int, v = .agg #[.int .i64 k, .int .i64 n] ∧ d = .agg [.lit (.int .i64 k), .lit (.int .i64 n)] ∧ p = [] ∧ (Lit.int .i64 k).wf = true ∧ (Lit.int .i64 n).wf = true := by
  obtain ⟨c0, c1, y0, y1, m, rfl, rfl, rfl, hy0, hy1⟩ := open_agg2 Tryz.underlying30 (by kernel_rfl) cVal hv h
  obtain ⟨a, e0, rfl, wa⟩ := DataW.trod_int Tryz.underlying3 hy0
  obtain ⟨b, e1, rfl, wb⟩ := DataW.trod_int Tryz.underlying2 hy1
  simp at e0 e1
  subst e0 e1
  exact ⟨a, b, rfl, rfl, rfl, wa, wb⟩

set_option maxRecDepth 100000 in
theorem shut_val {H : Type} {enc : TypeId × Value → H} {k n : Int} (wk : (Lit.int .i64 k).wf = true) (wn : (Lit.int .i64 n).wf = true) (W' : World) (sp : Nat → Bool) :
    DataW.Trod enc Tryz.prog W' 0 sp true 30 (.agg #[.int .i64 k, .int .i64 n]) (.agg [.lit (.int .i64 k), .lit (.int .i64 n)]) [] :=
  shut_agg2 (y0 := (.lit (.int .i64 k), [])) (y1 := (.lit (.int .i64 n), [])) Tryz.underlying30 (by kernel_rfl) cVal ⟨1, by simp [DataW.trod, Tryz.underlying3, wk]⟩ ⟨1, by simp [DataW.trod, Tryz.underlying2, wn]⟩

end Go.Proofs.YthnmjafoplfikaaGreatDoor


namespace Go.Proofs.YthnmjafoplfikaaGreatDoor
open Go.RowKit

/-- Another row of its own grows. -/
theorem LkS.gr {p : Pk} {sv : List Value} {lb s : Nat} {W X : World} {n : Nat} {path : List Nat} {pv : Value} {r : Option Nat} (h : LkS p sv lb s W n path pv) (hg : W.grownBy X r) (hr : ∀ b, r = some b → pB lb s ≤ b) (hne : ∀ b, r = some b → some b ≠ pv.ownBlock) : LkS p sv lb s X n path pv := by
  have h1 := pB_lb lb s
  have h2 := pB_s lb s
  have nb : ∀ c, c < pB lb s → some c ≠ r := fun c hc e => by
    have := hr c e.symm
    omega
  have k := fun j => gr_cell hg h.lt (nb lb (by omega)) j
  have hlo := h.lo
  exact ⟨fun j hj => (k j).trans (h.sc j hj), (k 8).trans h.c8, (k 9).trans h.c9, (k 10).trans h.c10, fun j => (gr_frozen hg h.lt (nb lb (by omega)) j).trans (h.fz j), h.own.kept hg (by cases hv : pv.ownBlock with
    | none => exact .inl rfl
    | some g => exact .inr (fun e => hne g e.symm hv.symm)), h.ops.kept (fun c _ hlt => hg.block c (by have := h.ops.1; omega) (nb c (by omega))) hg.size, h.lo, pke_fr h.pk hg.size (fun c hc hlt => hg.block c hlt (nb c (by omega)))⟩
theorem Fr.gr {lb : Nat} {W X Y : World} {p q : Value} {r : Option Nat} (h : Fr lb W p X q) (hg : X.grownBy Y r) (hr : ∀ b, r = some b → W.heap.size ≤ b) : Fr lb W p Y q :=
  ⟨hg.os.trans h.os, hg.tape.trans h.tape, hg.output.trans h.output, Nat.le_trans h.size hg.size, fun b hb h1 h2 => (hg.block b (Nat.lt_of_lt_of_le hb h.size) (fun e => by have := hr b e.symm; omega)).trans (h.blk b hb h1 h2), h.new⟩
theorem own_pos {W : World} {base n : Nat} {v : Value} {xs : List Value} (h : W.ownsRow base 3 1 v (n + 1) xs) : ∃ g cap, v = .slice (some ⟨g, 0, none⟩) (n + 1) cap ∧ n + 1 ≤ cap := by
  obtain ⟨_, ⟨e, h0⟩ | ⟨g, cap, cur, e, _, _, h1, _⟩⟩ := h
  · cases h0
  · exact ⟨g, cap, e, h1⟩
set_option maxRecDepth 20000 in
set_option maxHeartbeats 4000000 in
theorem args_any (p : Pk) (g : Int) (a3 a4 a5 a6 a7 : Option Addr) (c3 c4 c5 c6 c7 : Nat) (lb s d : Nat) (ih : NodeIs p g a3 a4 a5 a6 a7 c3 c4 c5 c6 c7 lb s d) (her : ∀ x n m e, tN p g d x n = (m, .error e) → 0 < e.2) (l : List Ex) (al : Option Addr) (cl : Nat) (W : World) (n : Nat) (path : List Nat) (pv : Value) (h : LkS p (scG p a3 a4 a5 a6 a7 c3 c4 c5 c6 c7 g) lb s W n path pv) (hn : n ≤ 60) (hd : path.length + 1 + d = 8) (hR : RowR eE W (fun b => b < lb) l al) (hz : ∀ x ∈ l, SzE x) (hl : l.length ≤ 6) : Calls Tryz.prog 117 #[.pointer (some ⟨lb, 0, none⟩), .slice al l.length cl] W (ArP p (scG p a3 a4 a5 a6 a7 c3 c4 c5 c6 c7 g) lb s path pv (tFold (tN p g d) l 0 n []) W) := by
  obtain ⟨R, hRe⟩ : ∃ R, R = tFold (tN p g d) l 0 n [] := ⟨_, rfl⟩
  rw [← hRe]
  obtain ⟨i0, hi1, hz0, hz1, hz2⟩ := info_parts infoInt
  obtain ⟨ik, hik, hk0, hk1, hk2⟩ := info_parts infoKind
  have hst : Hid (tFold (tN p g d) (l.drop 0) 0 n [] = R) := ⟨by rw [hRe]; rfl⟩
  have hlb := h.lt
  obtain ⟨Q, hQ⟩ : ∃ Q, ArP p (scG p a3 a4 a5 a6 a7 c3 c4 c5 c6 c7 g) lb s path pv R W = Q := ⟨_, rfl⟩
  rw [hQ]
  have hQH := Hid.mk hQ
  clear hRe hQ
  go_enter Tryz.func117, Tryz.ntmps117
  go_wp2
  go_loopw [6, 13] (fun kv iv wr => ∃ (i : Nat) (ks : List Kd) (m : Nat) (qv : Value), iv = .int .i64 (i : Int) ∧ i ≤ l.length ∧ Hid (ks.length = i) ∧ wr.ownsRow W.heap.size 163 2 kv ks.length (kdC ks) ∧ (∀ b, kv.ownBlock = some b → some b ≠ qv.ownBlock) ∧ LkS p (scG p a3 a4 a5 a6 a7 c3 c4 c5 c6 c7 g) lb s wr m path qv ∧ m ≤ 60 ∧ Fr lb W pv wr qv ∧ Hid (tFold (tN p g d) (l.drop i) i m ks = R)) (fun _ iv _ => l.length - (intOf iv).toNat)
  case atStart => exact ⟨0, [], n, pv, rfl, Nat.zero_le _, ⟨rfl⟩, World.ownsRow_nil _ _ _ _, (fun b hb => by cases hb), h, hn, Fr.refl _ _ _, hst⟩
  case round =>
    obtain ⟨i, ks, m, qv, rfl, hi, hks, hkv, hkq, hL, hm, hF, hinv⟩ := hrel
    by_cases hlt : i < l.length
    · have hlt' : (i : Int) < (l.length : Int) := by omega
      have hi0 : (0 : Int) ≤ (i : Int) := by omega
      have hRr : RowR eE wr (fun b => b < lb) l al := hR.fr hF.size (fun b hb hbl => hF.blk b hbl (by omega) (fun e => by have := (h.pg b e.symm).1; omega))
      obtain ⟨ge, oe, rfl⟩ := hRr.some hlt
      obtain ⟨cs, -, hge, ⟨ay, cy, rfl, -, hFy⟩, hcs⟩ := hRr.item hlt
      have kx : wr.cell? ⟨ge, oe + i * 5, none⟩ = some (.int .i64 (l[i]).op) ∧ wr.cell? ⟨ge, oe + i * 5 + 1, none⟩ = some (.int .i64 (l[i]).num) ∧ wr.cell? ⟨ge, oe + i * 5 + 2, none⟩ = some (.int .i64 (l[i]).den) ∧ wr.cell? ⟨ge, oe + i * 5 + 3, none⟩ = some (.int .i64 (l[i]).mode) ∧ wr.cell? ⟨ge, oe + i * 5 + 4, none⟩ = some (.slice ay (l[i]).args.len cy) := ⟨hcs 0 (by decide), hcs 1 (by decide), hcs 2 (by decide), hcs 3 (by decide), hcs 4 (by decide)⟩
      have hzy := hz _ (List.getElem_mem hlt)
      have hinv := hinv.out
      rw [fold_step _ _ hlt] at hinv
      generalize l[i] = y at kx hFy hzy hinv
      obtain ⟨e0, e1, e2, e3, e4⟩ := kx
      obtain ⟨qa, qcap, rfl, hqa, hqc⟩ := own_int hL.own
      obtain ⟨X1, hX1⟩ : ∃ X1, X1 = wr.alloc (.cells #[.int .i64 y.op, .int .i64 y.num, .int .i64 y.den, .int .i64 y.mode, .slice ay y.args.len cy] 73) := ⟨_, rfl⟩
      have hB1 : Below wr.heap.size wr X1 := by rw [hX1]; exact (Below.refl _ _).alloc (Nat.le_refl _) _
      have hs1 : X1.heap.size = wr.heap.size + 1 := by rw [hX1]; simp
      have hL1 := hL.bel hB1
      have hbe : Bx X1 wr.heap.size [.int .i64 y.op, .int .i64 y.num, .int .i64 y.den, .int .i64 y.mode, .slice ay y.args.len cy] := by rw [hX1]; exact bx_new _ _ _
      have q10 := hL.c10
      have hlr := hL.lt
      have qo := hL1.own.alloc (.cells #[.int .i64 (i : Int)] 3)
      have qb : pB lb s ≤ (X1.alloc (.cells #[.int .i64 (i : Int)] 3)).heap.size := Nat.le_trans hL1.base (by simp)
      have hpl : path.length ≤ 7 := by omega
      have hXH := Hid.mk hX1
      subst hX1
      have hne1 : wr.heap.size ≠ lb := by omega
      have hnq : some wr.heap.size ≠ (Value.slice qa path.length qcap).ownBlock := fun e => by
        have := (hL.pg _ e.symm).2
        omega
      clear hcs hRr
      go_wp2_with (at_builtin; refine wpList_append_own_at _ rfl _ _ 103 rfl (pB lb s) 3 i0 (.int .i64 0) 1 8 Tryz.underlying103 hi1 hz0 hz1 hz2 rfl (by decide) _ _ _ rfl qo ⟨wr.heap.size + 1, 0, none⟩ 1 1 [.int .i64 (i : Int)] rfl rfl (by have hcn := cell_one_new (wr.alloc (.cells #[.int .i64 y.op, .int .i64 y.num, .int .i64 y.den, .int .i64 y.mode, .slice ay y.args.len cy] 73)) (.int .i64 (i : Int)) 3; rw [hs1] at hcn; exact hcn) (by simp [Value.oneCell']) (by unfold maxLen; omega) (by omega) qb ?_; intro v4 w4 hown4 hgrow4 _ hat4; obtain ⟨hL4, hF4, ⟨u4, hu4⟩, hz4⟩ := hL1.push hgrow4 hown4 hat4; obtain ⟨p4, cap4, rfl, -, -⟩ := own_int hown4; have hbe4 := hF4.box hbe hne1 hnq; have b0 := hbe4.2.1 0 (by simp); have b1 := hbe4.2.1 1 (by simp); have b2 := hbe4.2.1 2 (by simp); have b3 := hbe4.2.1 3 (by simp); have b4 := hbe4.2.1 4 (by simp))
      have hkv1 := hkv.alloc (.cells #[.int .i64 y.op, .int .i64 y.num, .int .i64 y.den, .int .i64 y.mode, .slice ay y.args.len cy] 73)
      have hkv4 := own_fr hlb hkv1 hF4 hkq
      have hkq4 : ∀ b, u6.ownBlock = some b → some b ≠ (Value.slice p4 (path.length + 1) cap4).ownBlock := fun b hb => by
        have hb2 := (hkv1.lt b hb).2
        rcases hF4.new with e | ⟨c, e, hc⟩
        · rw [e]; exact hkq b hb
        · rw [e]; intro e2; injection e2 with e2; omega
      have hFw4 := (hF.trans (Fr.bel hB1 _)).trans hF4
      obtain ⟨X2, hX2⟩ : ∃ X2, X2 = w4.setCell ⟨lb, 10, none⟩ (.slice p4 (path.length + 1) cap4) := ⟨_, rfl⟩
      rw [← hX2] at hL4 hF4 hbe4 hkv4 hFw4 b0 b1 b2 b3 b4 ⊢
      have hFy4 : FoAt X2 (fun b => b < lb) y.args ay := FoAt.fr (Nat.le_trans hB1.size hF4.size) (fun b hb hbl => (hF4.blk b (Nat.lt_of_lt_of_le hbl hB1.size) (by omega) (fun e => by have := (hL.pg b e.symm).1; omega)).trans (hB1.block b hbl)) _ _ hFy
      have hnode := ih y ay cy X2 m (path ++ [i]) (.slice p4 (path.length + 1) cap4) hL4 hm (by rw [List.length_append, List.length_singleton]; omega) hzy hFy4
      clear hX2 hgrow4 hown4 hat4 hu4 hz4 hL1 hbe hkv1 qo qb e0 e1 e2 e3 e4 q10 hXH
      obtain ⟨m5, r5, hmr⟩ : ∃ m5 r5, tN p g d y m = (m5, r5) := ⟨_, _, rfl⟩
      have hle := tN_le p g d y m m5
      have her := her y m m5
      rw [hmr] at hnode hinv hle her
      clear hmr
      cases r5 with
      | error e5 =>
        have he5 := her e5 rfl
        have he5' : ((e5.2 : Int) != 0) = true := by simp; omega
        have hnode2 : Calls Tryz.prog 83 #[.pointer (some ⟨lb, 0, none⟩), .agg #[.int .i64 y.op, .int .i64 y.num, .int .i64 y.den, .int .i64 y.mode, .slice ay y.args.len cy]] X2 (fun e W' => e = .returned (.tuple #[.agg #[.int .i64 0, .int .i64 0], .int .i64 (e5.2 : Int)]) ∧ ∃ pv5, LkS p (scG p a3 a4 a5 a6 a7 c3 c4 c5 c6 c7 g) lb s W' m5 (path ++ [i] ++ e5.1) pv5 ∧ Fr lb X2 (.slice p4 (path.length + 1) cap4) W' pv5) := hnode
        have hfin : ∀ w5 pv5 Y, LkS p (scG p a3 a4 a5 a6 a7 c3 c4 c5 c6 c7 g) lb s w5 m5 (path ++ [i] ++ e5.1) pv5 → Fr lb X2 (.slice p4 (path.length + 1) cap4) w5 pv5 → Below w5.heap.size w5 Y → Q (.returned (.tuple #[.slice none 0 0, .int .i64 (e5.2 : Int)])) Y := fun w5 pv5 Y g1 g2 hY => by
          rw [← hQH.out, ← hinv]
          refine ⟨pv5, (hFw4.trans g2).trans (Fr.bel hY _), rfl, ?_⟩
          have := g1.bel hY
          rw [List.append_assoc] at this
          exact this
        have hfinH := Hid.mk hfin
        clear hfin hnode hinv hle her
        refine hnode2.mono ?_
        clear hnode2
        rintro e w5 ⟨rfl, pv5, hL5, hF5⟩
        have hff := hfinH.out w5 pv5 (w5.alloc (.cells #[.int .i64 0, .int .i64 0] 163)) hL5 hF5 ((Below.refl _ _).alloc (Nat.le_refl _) _)
        go_wp2
        exact hff
      | ok k =>
        have hm5 := hle k rfl
        have hnode2 : Calls Tryz.prog 83 #[.pointer (some ⟨lb, 0, none⟩), .agg #[.int .i64 y.op, .int .i64 y.num, .int .i64 y.den, .int .i64 y.mode, .slice ay y.args.len cy]] X2 (fun e W' => e = .returned (.tuple #[.agg #[.int .i64 k.1, .int .i64 k.2], .int .i64 0]) ∧ ∃ pv5, LkS p (scG p a3 a4 a5 a6 a7 c3 c4 c5 c6 c7 g) lb s W' m5 (path ++ [i]) pv5 ∧ Fr lb X2 (.slice p4 (path.length + 1) cap4) W' pv5) := hnode
        have hinvH := Hid.mk hinv
        clear hnode hinv hle her
        refine hnode2.mono ?_
        clear hnode2
        rintro e w5 ⟨rfl, pv5, hL5, hF5⟩
        have ho5 : w5.ownsRow (pB lb s) 3 1 pv5 (path.length + 1) (ptC (path ++ [i])) := by
          have := hL5.own
          rwa [List.length_append, List.length_singleton] at this
        obtain ⟨g5, cap5, rfl, hc5⟩ := own_pos ho5
        have q5 := hL5.c10
        have z5 := hL5.fz 10
        have l5 := hL5.lt
        obtain ⟨X6, hX6⟩ : ∃ X6, X6 = w5.setCell ⟨lb, 10, none⟩ (.slice (some ⟨g5, 0, none⟩) path.length cap5) := ⟨_, rfl⟩
        have hL6 : LkS p (scG p a3 a4 a5 a6 a7 c3 c4 c5 c6 c7 g) lb s X6 m5 path (.slice (some ⟨g5, 0, none⟩) path.length cap5) := by
          rw [hX6]
          have ho6 := own_cut ho5 (Nat.le_succ path.length) (by simp)
          rw [ptC_take, List.take_left'  rfl] at ho6
          exact (hL5.set10 (gr_refl _ _) ho6).1
        have hF6 : Fr lb X2 (.slice p4 (path.length + 1) cap4) X6 (.slice (some ⟨g5, 0, none⟩) path.length cap5) := by
          rw [hX6]
          exact hF5.trans (Fr.set _ _ _ 10 _ rfl)
        have hs6 : X6.heap.size = w5.heap.size := by rw [hX6]; simp [World.setCell]
        obtain ⟨X7, hX7⟩ : ∃ X7, X7 = (X6.alloc (.cells #[.int .i64 k.1, .int .i64 k.2] 163)).drew := ⟨_, rfl⟩
        have hB7 : Below X6.heap.size X6 X7 := by rw [hX7]; exact ((Below.refl _ _).alloc (Nat.le_refl _) _).drew
        have hbk : Bx X7 w5.heap.size [.int .i64 k.1, .int .i64 k.2] := by
          rw [← hs6, hX7]
          exact bx_new X6 #[.int .i64 k.1, .int .i64 k.2] 163
        have hL7 := hL6.bel hB7
        have hF7 := hF6.trans (Fr.bel hB7 _)
        have hkv7 := own_fr hlb hkv4 hF7 hkq4
        have hkq7 : ∀ b, u6.ownBlock = some b → some b ≠ (Value.slice (some ⟨g5, 0, none⟩) path.length cap5).ownBlock := fun b hb => by
          have hb2 := (hkv4.lt b hb).2
          rcases hF7.new with e | ⟨c, e, hc⟩
          · rw [e]; exact hkq4 b hb
          · rw [e]; intro e2; injection e2 with e2; omega
        have hFw7 := hFw4.trans hF7
        go_wp2
        go_region
        rw [← hX6, ← hX7]
        clear hX6 hX7 q5 z5 l5 hL5 hF5 ho5
        have k0 := hbk.2.1 0 (by simp)
        have k1 := hbk.2.1 1 (by simp)
        have hk6 : ks.length ≤ 6 := by have := hks.out; omega
        have hws : W.heap.size ≤ (X7.alloc (.cells #[.int .i64 k.1, .int .i64 k.2] 163)).heap.size := Nat.le_trans hFw7.size (by simp)
        go_wp2_with (at_builtin; refine wpList_append_own_at _ rfl _ _ 204 rfl W.heap.size 163 ik (.agg #[.int .i64 0, .int .i64 0]) 2 16 Tryz.underlying204 hik hk0 hk1 hk2 rfl (by decide) _ _ _ rfl (hkv7.alloc _) ⟨X7.heap.size, 0, none⟩ 1 1 [.int .i64 k.1, .int .i64 k.2] rfl rfl (lit_at _ _ _) (by simp [Value.oneCell']) (by unfold maxLen; omega) (by omega) hws ?_; intro v8 w8 hown8 hgrow8 _ hat8)
        have hB8 : Below X7.heap.size X7 (X7.alloc (.cells #[.int .i64 k.1, .int .i64 k.2] 163)) := (Below.refl _ _).alloc (Nat.le_refl _) _
        have hsz : ks.length + 1 = (ks ++ [k]).length := by rw [List.length_append, List.length_singleton]
        rw [kdC_snoc, hsz] at hown8
        have hbs := h.base
        refine ⟨⟨i + 1, ks ++ [k], m5, _, rfl, hlt, ⟨by rw [← hsz, hks.out]⟩, hown8, ?_, (hL7.bel hB8).gr hgrow8 (fun b hb => Nat.le_trans hbs (hkv7.lt b hb).1) hkq7, hm5, (hFw7.trans (Fr.bel hB8 _)).gr hgrow8 (fun b hb => (hkv7.lt b hb).1), hinvH⟩, ?_⟩
        · intro b hb e
          rcases hat8 with e2 | e2
          · exact hkq7 b (e2.symm.trans hb) e
          · have := (hL7.pg b e.symm).2
            rw [e2] at hb
            injection hb with hb
            have := hB8.size
            omega
        · simp only [intOf]
          omega
    · have hlt' : ¬ (i : Int) < (l.length : Int) := by omega
      obtain ⟨ak, ck, rfl, hRk⟩ := kd_row hkv
      have hRi := hinv.out
      rw [List.drop_eq_nil_of_le (by omega)] at hRi
      have hf : Q (.returned (.tuple #[.slice ak ks.length ck, .int .i64 0])) wr := by
        rw [← hQH.out, ← hRi]
        exact ⟨qv, hF, ak, ck, rfl, hL, hRk⟩
      clear hinv hRi
      go_wp2
      exact hf
end Go.Proofs.YthnmjafoplfikaaGreatDoor


namespace Go.Proofs.YthnmjafoplfikaaGreatDoor
open Go.RowKit

def letB (b : UInt8) : Bool := decide (97 ≤ b.toNat) && decide (b.toNat ≤ 122)
def digB (b : UInt8) : Bool := decide (48 ≤ b.toNat) && decide (b.toNat ≤ 57)
def wrdB (b : UInt8) : Bool := letB b || digB b || decide (b.toNat = 95)
def shwB (b : UInt8) : Bool := decide (32 ≤ b.toNat) && decide (b.toNat ≤ 126)
def nmB : List UInt8 → Bool
  | [] => false
  | c :: r => decide ((c :: r).length ≤ 12) && letB c && (c :: r).all wrdB
def txB (s : List UInt8) : Bool := decide (1 ≤ s.length) && decide (s.length ≤ 40) && s.all shwB
/-- What a new name is answered. -/
def nwN (s : List UInt8) (ahead : List (List UInt8)) : Nat := if nmB s then (if ahead.contains s then 62 else 0) else 61
/-- A place: the part, the item, the clause, the path. -/
structure Sp where
  part : Int
  at_ : Int
  clause : Int
  path : List Nat
abbrev Sn := List (List UInt8)
def itF (part i : Nat) : Sp := ⟨part, i, -1, []⟩
/-- The items of a part one by one. -/
def frF {α : Type} (f : α → Sn → Sn × Nat) : List α → Nat → Sn → Sn × Option (Nat × Nat)
  | [], _, s => (s, none)
  | x :: l, i, s => match f x s with
    | (s', 0) => frF f l (i + 1) s'
    | (s', e + 1) => (s', some (i, e + 1))
/-- The first name of a list that may not be. -/
def nsF (l : List (List UInt8)) : List (List UInt8) → Nat → Nat
  | [], _ => 0
  | x :: r, i => match nwN x (l.take i) with
    | 0 => nsF l r (i + 1)
    | e + 1 => e + 1
def opF (o : List UInt8 × List (List UInt8)) (s : Sn) : Sn × Nat := (s ++ [o.1], match nwN o.1 s with
  | 0 => if o.2.length < 1 ∨ 8 < o.2.length then 60 else nsF o.2 o.2 0
  | e + 1 => e + 1)
def bdB (l : List (Int × Int)) (i : Nat) (b : Int × Int) : Bool := (if i = 0 then decide (b.1 = 0) else decide ((l.getD (i - 1) (0, 0)).1 < b.1)) && decide (b.1 ≤ 9999999999999) && decide (0 ≤ b.2) && decide (b.2 ≤ 1000000)
def rsF (l : List (Int × Int)) : List (Int × Int) → Nat → Bool
  | [], _ => true
  | b :: r, i => bdB l i b && rsF l r (i + 1)
def tbF (t : List UInt8 × List (Int × Int)) (s : Sn) : Sn × Nat := (s ++ [t.1], match nwN t.1 s with
  | 0 => if t.2.length < 1 ∨ 8 < t.2.length then 60 else if rsF t.2 t.2 0 then 0 else 63
  | e + 1 => e + 1)
def gpF (g : List UInt8 × Int) (s : Sn) : Sn × Nat := (s ++ [g.1], match nwN g.1 s with
  | 0 => if g.2 < 1 ∨ 8 < g.2 then 64 else 0
  | e + 1 => e + 1)
def inG (p : Pk) (g : Int) : Bool := decide (g = -1) || (decide (0 ≤ g) && decide (g < p.grps.length))
def ckF (p : Pk) (k : Ck) (s : Sn) : Sn × Nat := (s ++ [k.name], match nwN k.name s with
  | 0 => if inG p k.group then (if txB k.text then 0 else 61) else 64
  | e + 1 => e + 1)
def tyB (p : Pk) (l : Ln) : Bool := if l.type = 5 then decide (0 ≤ l.opts) && decide (l.opts < p.opts.length) else isK l.type && decide (l.opts = -1)
def lnE (p : Pk) (l : Ln) (s : Sn) : Sn × Nat := (s ++ [l.name], match nwN l.name s with
  | 0 => if tyB p l then (if inG p l.group then (if l.input then (if l.cls.length > 0 then 65 else 0) else if l.cls.length < 1 ∨ 6 < l.cls.length then 65 else 0) else 64) else 65
  | e + 1 => e + 1)
def zrB (e : Ex) : Bool := decide (e.op = 0) && decide (e.num = 0) && decide (e.den = 0) && decide (e.mode = 0) && decide (e.args.len = 0)
def clB (l : List Cl) (i : Nat) (c : Cl) : Bool := if i = 0 then decide (c.pri = 0) && !c.guarded && zrB c.guard else (l.take i).all (fun a => decide (a.pri ≠ c.pri)) && c.guarded && decide (1 ≤ c.pri) && decide (c.pri ≤ 9)
/-- The first clause that may not stand there. -/
def clF (l : List Cl) : List Cl → Nat → Option Nat
  | [], _ => none
  | c :: r, i => if clB l i c then clF l r (i + 1) else some i
def lsF (p : Pk) : List Ln → Nat → Sn → Sn × Option (Sp × Nat)
  | [], _, s => (s, none)
  | l :: r, i, s => match lnE p l s with
    | (s', e + 1) => (s', some (itF 5 i, e + 1))
    | (s', 0) => match clF l.cls l.cls 0 with
      | some j => (s', some (⟨5, i, j, []⟩, 66))
      | none => lsF p r (i + 1) s'
def szF (p : Pk) : Option (Sp × Nat) := if 4 < p.opts.length then some (itF 2 0, 60) else if 4 < p.tabs.length then some (itF 3 0, 60) else if 4 < p.grps.length then some (itF 4 0, 60) else if p.lns.length < 1 ∨ 48 < p.lns.length then some (itF 5 0, 60) else if 16 < p.cks.length then some (itF 6 0, 60) else none
def hdF (p : Pk) : Option (Sp × Nat) := if nmB p.name then (if p.year < 1900 ∨ 2199 < p.year then some (itF 1 0, 60) else none) else some (itF 1 0, 61)
def rwF (g : List UInt8 × Int) : Int := min (max g.2 0) 8
def ceF (p : Pk) (g : Int) : Int := match at? p.grps g with
  | some r => rwF r
  | none => 1
def cesF (p : Pk) : Int := ((p.lns.map (fun l => ceF p l.group)).sum + (p.cks.map (fun c => ceF p c.group)).sum) + (p.grps.map rwF).sum
def celF (p : Pk) : Option (Sp × Nat) := if 256 < cesF p then some (itF 1 0, 60) else none
/-- The next expression of a line or check: how many nodes there are then, or the fault. -/
def nxF (p : Pk) (g : Int) (root : Sp) (must : Kd) (e : Ex) (n : Nat) : Nat × Option (Sp × Nat) := match tN p g 8 e 0 with
  | (_, .error er) => (n, some (⟨root.part, root.at_, root.clause, root.path ++ er.1⟩, er.2))
  | (m, .ok k) => if k = must then (n + m, if 60 < n + m then some (root, 60) else none) else (n, some (root, 69))
def lcF (p : Pk) (l : Ln) (i : Nat) : List Cl → Nat → Nat → Option (Sp × Nat)
  | [], _, _ => none
  | c :: r, j, n => match (if c.guarded then nxF p l.group ⟨5, i, j, [0]⟩ (3, -1) c.guard n else (n, none)) with
    | (_, some f) => some f
    | (n1, none) => match nxF p l.group ⟨5, i, j, [1]⟩ (lineK l) c.body n1 with
      | (_, some f) => some f
      | (n2, none) => lcF p l i r (j + 1) n2
def leF (p : Pk) : List Ln → Nat → Option (Sp × Nat)
  | [], _ => none
  | l :: r, i => match lcF p l i l.cls 0 0 with
    | some f => some f
    | none => leF p r (i + 1)
def keF (p : Pk) : List Ck → Nat → Option (Sp × Nat)
  | [], _ => none
  | k :: r, i => match (nxF p k.group (itF 6 i) (3, -1) k.when_ 0).2 with
    | some f => some f
    | none => keF p r (i + 1)
def itO (part : Nat) : Option (Nat × Nat) → Option (Sp × Nat)
  | none => none
  | some (i, e) => some (itF part i, e)
end Go.Proofs.YthnmjafoplfikaaGreatDoor


namespace Go.Proofs.YthnmjafoplfikaaGreatDoor
open Go.RowKit

set_option maxRecDepth 20000 in
theorem isLetter_any (b : UInt8) (W : World) : Calls Tryz.prog 124 #[.int .u8 (b.toNat : Int)] W fun e W' => e = .returned (.bool (letB b)) ∧ W = W' := by
  have hb : (0 : Int) ≤ (b.toNat : Int) := by omega
  have hr : letB b = (decide ((97 : Int) ≤ (b.toNat : Int)) && decide ((b.toNat : Int) ≤ 122)) := by
    unfold letB
    congr 1 <;> (apply decide_eq_decide.2; omega)
  by_cases h : (97 : Int) ≤ (b.toNat : Int)
  · rw [hr, decide_eq_true h, Bool.true_and]
    go_enter Tryz.func124, Tryz.ntmps124
    go_wp2
    go_ret
    exact ⟨rfl, rfl⟩
  · rw [hr, decide_eq_false h, Bool.false_and]
    go_enter Tryz.func124, Tryz.ntmps124
    go_wp2
    go_ret
    exact ⟨rfl, rfl⟩
set_option maxRecDepth 20000 in
theorem isDigit_any (b : UInt8) (W : World) : Calls Tryz.prog 125 #[.int .u8 (b.toNat : Int)] W fun e W' => e = .returned (.bool (digB b)) ∧ W = W' := by
  have hb : (0 : Int) ≤ (b.toNat : Int) := by omega
  have hr : digB b = (decide ((48 : Int) ≤ (b.toNat : Int)) && decide ((b.toNat : Int) ≤ 57)) := by
    unfold digB
    congr 1 <;> (apply decide_eq_decide.2; omega)
  by_cases h : (48 : Int) ≤ (b.toNat : Int)
  · rw [hr, decide_eq_true h, Bool.true_and]
    go_enter Tryz.func125, Tryz.ntmps125
    go_wp2
    go_ret
    exact ⟨rfl, rfl⟩
  · rw [hr, decide_eq_false h, Bool.false_and]
    go_enter Tryz.func125, Tryz.ntmps125
    go_wp2
    go_ret
    exact ⟨rfl, rfl⟩
end Go.Proofs.YthnmjafoplfikaaGreatDoor


namespace Go.Proofs.YthnmjafoplfikaaGreatDoor
open Go.RowKit

/-- '[]byte(s)': a new row of the bytes. -/
theorem conv_bytes (W : World) (s : List UInt8) : ∃ W1 cap, (convert 9 122 (.string ⟨s.toArray⟩)).run Tryz.prog W = .ok (.slice (some ⟨W.heap.size, 0, none⟩) s.length cap) W1 ∧ Below W.heap.size W W1 ∧ ∀ j (h : j < s.length), W1.cell? ⟨W.heap.size, j, none⟩ = some (.int .u8 (s[j].toNat : Int)) := by
  have h := run_bytes_of_string (P := Tryz.prog) W 9 122 5 ⟨s.toArray⟩ Tryz.underlying9 Tryz.underlying122 Tryz.underlying5
  refine ⟨_, _, h, (Below.refl _ _).drew.alloc (Nat.le_refl _) _, fun j hj => ?_⟩
  have hz : W.heap.size = W.drew.heap.size := rfl
  rw [hz, World.cell?_alloc_mark, bytesRow_at _ _ j (by simpa using hj)]
  simp
theorem nmB_cons (c : UInt8) (r : List UInt8) : nmB (c :: r) = (decide ((c :: r).length ≤ 12) && letB c && (c :: r).all wrdB) := rfl

set_option maxRecDepth 20000 in
set_option maxHeartbeats 1000000 in
theorem isName_any (s : List UInt8) (W : World) : Calls Tryz.prog 97 #[.string ⟨s.toArray⟩] W (Lk (.bool (nmB s)) W) := by
  cases s with
  | nil =>
    have hf : Lk (.bool (nmB [])) W (.returned (.bool false)) W := ⟨rfl, Below.refl _ _⟩
    go_enter Tryz.func97, Tryz.ntmps97
    go_wp2
    go_ret
    exact hf
  | cons c r =>
    have hl1 : ¬ ((c :: r).length : Int) < 1 := by simp only [List.length_cons]; omega
    by_cases h2 : (c :: r).length ≤ 12
    rotate_left
    · have h2' : (12 : Int) < ((c :: r).length : Int) := by omega
      have hf : Lk (.bool (nmB (c :: r))) W (.returned (.bool false)) W := ⟨by rw [nmB_cons, decide_eq_false h2, Bool.false_and, Bool.false_and], Below.refl _ _⟩
      generalize hs : c :: r = s at hl1 h2' hf ⊢
      go_enter Tryz.func97, Tryz.ntmps97
      go_wp2
      go_ret
      exact hf
    · have h2' : ¬ (12 : Int) < ((c :: r).length : Int) := by omega
      have hix : ∀ w, (Instr.index 9 (.string ⟨(c :: r).toArray⟩) (.int .i64 0)).run Tryz.prog w = .ok (.int .u8 (c.toNat : Int)) w := fun w => by
        rw [run_index_string w 9 ⟨(c :: r).toArray⟩ .i64 0 Tryz.underlying9, dif_pos ⟨by omega, by simp [ByteArray.size]⟩]
        rfl
      have hlet := isLetter_any c
      obtain ⟨W1, cap, hcv, hB1, hcell⟩ := conv_bytes W (c :: r)
      have hnm := nmB_cons c r
      rw [decide_eq_true h2, Bool.true_and] at hnm
      cases hc : letB c with
      | false =>
        rw [hc] at hlet
        have hf : Lk (.bool (nmB (c :: r))) W (.returned (.bool false)) W := ⟨by rw [hnm, hc, Bool.false_and], Below.refl _ _⟩
        generalize hs : c :: r = s at hl1 h2' hf hix ⊢
        go_enter Tryz.func97, Tryz.ntmps97
        go_wp2_with (go_at_call 124; refine (hlet _).mono ?_; rintro e w1 ⟨rfl, rfl⟩)
        go_ret
        exact hf
      | true =>
        rw [hc] at hlet
        rw [hc, Bool.true_and] at hnm
        clear hc h2
        have hletH := Hid.mk hlet
        have hnmH := Hid.mk hnm
        clear hnm hlet
        generalize hs : c :: r = s at hl1 h2' hix hnmH hcv hcell ⊢
        clear hs
        have hcH := Hid.mk hcell
        clear hcell
        go_enter Tryz.func97, Tryz.ntmps97
        go_wp2_with (go_at_call 124; refine (hletH.out _).mono ?_; rintro e w1 ⟨rfl, rfl⟩)
        clear hcv hl1 hix
        go_loopw [22] (fun iv wr => ∃ i : Nat, iv = .int .i64 (i : Int) ∧ i ≤ s.length ∧ wr = W1 ∧ Hid (∀ j (h : j < s.length), j < i → wrdB s[j] = true)) (fun iv _ => s.length - (intOf iv).toNat)
        case atStart => exact ⟨0, rfl, Nat.zero_le _, rfl, ⟨fun j _ h => absurd h (Nat.not_lt_zero _)⟩⟩
        case round =>
          obtain ⟨i, rfl, hi, rfl, hall⟩ := hrel
          by_cases hlt : i < s.length
          · have hlt' : (i : Int) < (s.length : Int) := by omega
            have hi0 : (0 : Int) ≤ (i : Int) := by omega
            have hci := hcH.out i hlt
            have hst : Hid (wrdB s[i] = true → ∀ j (h : j < s.length), j < i + 1 → wrdB s[j] = true) := ⟨fun he j h hj => by
              by_cases hji : j < i
              · exact hall.out j h hji
              · obtain rfl : j = i := by omega
                exact he⟩
            have hno : Hid (wrdB s[i] = false → nmB s = false) := ⟨fun he => by
              rw [hnmH.out]
              cases hq : s.all wrdB with
              | false => rfl
              | true =>
                have := List.all_eq_true.1 hq _ (List.getElem_mem hlt)
                rw [he] at this
                cases this⟩
            generalize s[i] = b at hci hst hno
            have hb := b.toNat_lt
            have hL := isLetter_any b
            have hD := isDigit_any b
            have hw : wrdB b = (letB b || digB b || decide (b.toNat = 95)) := rfl
            cases hl : letB b with
            | true =>
              rw [hl] at hL
              have hs2 := Hid.mk (hst.out (by rw [hw, hl]; rfl))
              clear hst hno hall hw hl
              go_wp2_with (go_at_call 124; refine (hL _).mono ?_; rintro e w1 ⟨rfl, rfl⟩)
              exact ⟨⟨i + 1, rfl, hlt, (by first | rfl | trivial), hs2⟩, by simp only [intOf]; omega⟩
            | false =>
              rw [hl] at hL
              cases hd : digB b with
              | true =>
                rw [hd] at hD
                have hs2 := Hid.mk (hst.out (by rw [hw, hl, hd]; rfl))
                clear hst hno hall hw hl hd
                go_wp2_with (first | (go_at_call 124; refine (hL _).mono ?_; rintro e w1 ⟨rfl, rfl⟩) | (go_at_call 125; refine (hD _).mono ?_; rintro e w1 ⟨rfl, rfl⟩))
                exact ⟨⟨i + 1, rfl, hlt, (by first | rfl | trivial), hs2⟩, by simp only [intOf]; omega⟩
              | false =>
                rw [hd] at hD
                by_cases h9 : b.toNat = 95
                · have h9' : ((b.toNat : Int) != 95) = false := by simp; omega
                  have hs2 := Hid.mk (hst.out (by rw [hw, hl, hd, decide_eq_true h9]; rfl))
                  clear hst hno hall hw hl hd h9
                  go_wp2_with (first | (go_at_call 124; refine (hL _).mono ?_; rintro e w1 ⟨rfl, rfl⟩) | (go_at_call 125; refine (hD _).mono ?_; rintro e w1 ⟨rfl, rfl⟩))
                  exact ⟨⟨i + 1, rfl, hlt, (by first | rfl | trivial), hs2⟩, by simp only [intOf]; omega⟩
                · have h9' : ((b.toNat : Int) != 95) = true := by simp; omega
                  have hff : Lk (.bool (nmB s)) W (.returned (.bool false)) wr := ⟨by rw [hno.out (by rw [hw, hl, hd, decide_eq_false h9]; rfl)], hB1⟩
                  clear hst hno hall hw hl hd h9
                  go_wp2_with (first | (go_at_call 124; refine (hL _).mono ?_; rintro e w1 ⟨rfl, rfl⟩) | (go_at_call 125; refine (hD _).mono ?_; rintro e w1 ⟨rfl, rfl⟩))
                  go_ret
                  exact hff
          · have hlt' : ¬ (i : Int) < (s.length : Int) := by omega
            have hff : Lk (.bool (nmB s)) W (.returned (.bool true)) wr := ⟨by
              rw [hnmH.out]
              have : s.all wrdB = true := List.all_eq_true.2 (fun a ha => by
                obtain ⟨j, hj, rfl⟩ := List.mem_iff_getElem.1 ha
                exact hall.out j hj (by omega))
              rw [this], hB1⟩
            clear hall
            go_wp2
            go_ret
            exact hff

set_option maxRecDepth 20000 in
set_option maxHeartbeats 1000000 in
theorem isText_any (s : List UInt8) (W : World) : Calls Tryz.prog 112 #[.string ⟨s.toArray⟩] W (Lk (.bool (txB s)) W) := by
  by_cases h1 : s.length < 1
  · have h1' : (s.length : Int) < 1 := by omega
    have hff : Lk (.bool (txB s)) W (.returned (.bool false)) W := ⟨by unfold txB; rw [decide_eq_false (by omega), Bool.false_and, Bool.false_and], Below.refl _ _⟩
    go_enter Tryz.func112, Tryz.ntmps112
    go_wp2
    go_ret
    exact hff
  · have h1' : ¬ (s.length : Int) < 1 := by omega
    by_cases h2 : 40 < s.length
    · have h2' : (40 : Int) < (s.length : Int) := by omega
      have hff : Lk (.bool (txB s)) W (.returned (.bool false)) W := ⟨by unfold txB; rw [decide_eq_false (p := s.length ≤ 40) (by omega), Bool.and_false, Bool.false_and], Below.refl _ _⟩
      go_enter Tryz.func112, Tryz.ntmps112
      go_wp2
      go_ret
      exact hff
    · have h2' : ¬ (40 : Int) < (s.length : Int) := by omega
      obtain ⟨W1, cap, hcv, hB1, hcell⟩ := conv_bytes W s
      have hnmH : Hid (txB s = s.all shwB) := ⟨by unfold txB; rw [decide_eq_true (p := 1 ≤ s.length) (by omega), decide_eq_true (p := s.length ≤ 40) (by omega), Bool.true_and, Bool.true_and]⟩
      have hcH := Hid.mk hcell
      clear hcell
      go_enter Tryz.func112, Tryz.ntmps112
      go_wp2
      clear hcv
      go_loopw [16] (fun iv wr => ∃ i : Nat, iv = .int .i64 (i : Int) ∧ i ≤ s.length ∧ wr = W1 ∧ Hid (∀ j (h : j < s.length), j < i → shwB s[j] = true)) (fun iv _ => s.length - (intOf iv).toNat)
      case atStart => exact ⟨0, rfl, Nat.zero_le _, rfl, ⟨fun j _ h => absurd h (Nat.not_lt_zero _)⟩⟩
      case round =>
        obtain ⟨i, rfl, hi, rfl, hall⟩ := hrel
        by_cases hlt : i < s.length
        · have hlt' : (i : Int) < (s.length : Int) := by omega
          have hi0 : (0 : Int) ≤ (i : Int) := by omega
          have hci := hcH.out i hlt
          have hst : Hid (shwB s[i] = true → ∀ j (h : j < s.length), j < i + 1 → shwB s[j] = true) := ⟨fun he j h hj => by
            by_cases hji : j < i
            · exact hall.out j h hji
            · obtain rfl : j = i := by omega
              exact he⟩
          have hno : Hid (shwB s[i] = false → txB s = false) := ⟨fun he => by
            rw [hnmH.out]
            cases hq : s.all shwB with
            | false => rfl
            | true =>
              have := List.all_eq_true.1 hq _ (List.getElem_mem hlt)
              rw [he] at this
              cases this⟩
          generalize s[i] = b at hci hst hno
          have hw : shwB b = (decide (32 ≤ b.toNat) && decide (b.toNat ≤ 126)) := rfl
          by_cases h3 : 32 ≤ b.toNat
          · have h3' : ¬ (b.toNat : Int) < 32 := by omega
            by_cases h4 : b.toNat ≤ 126
            · have h4' : ¬ (126 : Int) < (b.toNat : Int) := by omega
              have hs2 := Hid.mk (hst.out (by rw [hw, decide_eq_true h3, decide_eq_true h4]; rfl))
              clear hst hno hall hw h3 h4
              go_wp2
              exact ⟨⟨i + 1, rfl, hlt, (by first | rfl | trivial), hs2⟩, by simp only [intOf]; omega⟩
            · have h4' : (126 : Int) < (b.toNat : Int) := by omega
              have hff : Lk (.bool (txB s)) W (.returned (.bool false)) wr := ⟨by rw [hno.out (by rw [hw, decide_eq_false h4, Bool.and_false])], hB1⟩
              clear hst hno hall hw h3 h4
              go_wp2
              go_ret
              exact hff
          · have h3' : (b.toNat : Int) < 32 := by omega
            have hff : Lk (.bool (txB s)) W (.returned (.bool false)) wr := ⟨by rw [hno.out (by rw [hw, decide_eq_false h3, Bool.false_and])], hB1⟩
            clear hst hno hall hw h3
            go_wp2
            go_ret
            exact hff
        · have hlt' : ¬ (i : Int) < (s.length : Int) := by omega
          have hff : Lk (.bool (txB s)) W (.returned (.bool true)) wr := ⟨by
            rw [hnmH.out]
            have : s.all shwB = true := List.all_eq_true.2 (fun a ha => by
              obtain ⟨j, hj, rfl⟩ := List.mem_iff_getElem.1 ha
              exact hall.out j hj (by omega))
            rw [this], hB1⟩
          clear hall
          go_wp2
          go_ret
          exact hff
end Go.Proofs.YthnmjafoplfikaaGreatDoor

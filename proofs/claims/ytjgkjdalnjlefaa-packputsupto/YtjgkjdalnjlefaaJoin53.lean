import Derived.Test.YtjgkjdalnjlefaaJoin52
import Derived.Deep.CutBlock
import Derived.Deep.DeepCutAuto
namespace Go.Proofs.Ytjgkjdalnjlefaa.V
open Go.RowKit

/-- How many nodes a row of expressions has. -/
def pn : Fo → Nat
  | .nil => 0
  | .cons _ _ _ _ args rest => 1 + pn args + pn rest
/-- Expressions whose lists are not too long. -/
def SzM (x : Ex) : Prop := pn x.args ≤ 1000000
theorem pn_len : ∀ f : Fo, f.len ≤ pn f
  | .nil => Nat.le_refl _
  | .cons a b c d x r => by
    have := pn_len r
    show r.len + 1 ≤ 1 + pn x + pn r
    omega

def pcZ (z : Int) : List Pc := if z = 0 then [] else [⟨2, z, []⟩]
theorem pcZ_len (z : Int) : (pcZ z).length ≤ 1 := by unfold pcZ; split <;> simp
theorem pcZ_0 {z : Int} (h : z = 0) : pcZ z = [] := by rw [pcZ, if_pos h]
def mF (num den mode : Int) (n : Nat) : Int := (if num = 0 then 0 else 1) + (if den = 0 then 0 else 2) + (if mode = 0 then 0 else 4) + (if n = 0 then 0 else 8)
/-- The pieces of a row of expressions. -/
def pcF : Fo → List Pc
  | .nil => []
  | .cons op num den mode args rest => ([⟨2, op, []⟩] ++ [⟨4, mF num den mode args.len, []⟩] ++ pcZ num ++ pcZ den ++ pcZ mode ++ (if args.len = 0 then [] else [⟨1, (args.len : Int), []⟩] ++ pcF args)) ++ pcF rest
def pcE (x : Ex) : List Pc := [⟨2, x.op, []⟩] ++ [⟨4, mF x.num x.den x.mode x.args.len, []⟩] ++ pcZ x.num ++ pcZ x.den ++ pcZ x.mode ++ (if x.args.len = 0 then [] else [⟨1, (x.args.len : Int), []⟩] ++ pcF x.args)
/-- What a call that lays an expression's pieces does. -/
def RX (lo wb : Nat) (P : List Pc) (b : Bool) (x : List Pc) (cnt : Nat) (ok : Prop) (W : World) (e : Ending) (W' : World) : Prop := e = .returned (.tuple #[]) ∧ ∃ P2 b2, RS lo wb W' P2 b2 ∧ BkR lo wb W W' ∧ (b2 = false ↔ b = false ∧ ok) ∧ (b2 = false → P2 = P ++ x) ∧ P2.length ≤ P.length + cnt
theorem rx_box {lo wb : Nat} {W : World} (hlt : wb < W.heap.size) (x : Ex) (a : Option Addr) (cap : Nat) : Hid (∀ w : World, BkR lo wb (W.alloc (.cells #[.int .i64 x.op, .int .i64 x.num, .int .i64 x.den, .int .i64 x.mode, .slice a x.args.len cap] 83)) w → w.cell? ⟨W.heap.size, 0, none⟩ = some (.int .i64 x.op) ∧ w.cell? ⟨W.heap.size, 1, none⟩ = some (.int .i64 x.num) ∧ w.cell? ⟨W.heap.size, 2, none⟩ = some (.int .i64 x.den) ∧ w.cell? ⟨W.heap.size, 3, none⟩ = some (.int .i64 x.mode) ∧ w.cell? ⟨W.heap.size, 4, none⟩ = some (.slice a x.args.len cap)) := ⟨fun w hw => by
  have h0 := heap_alloc_new W (.cells #[.int .i64 x.op, .int .i64 x.num, .int .i64 x.den, .int .i64 x.mode, .slice a x.args.len cap] 83)
  have h1 := (hw.kt W.heap.size _ _ _ (by omega) h0 (by decide)).trans h0
  exact ⟨cell_of_row _ _ 0 _ _ _ h1, cell_of_row _ _ 1 _ _ _ h1, cell_of_row _ _ 2 _ _ _ h1, cell_of_row _ _ 3 _ _ _ h1, cell_of_row _ _ 4 _ _ _ h1⟩⟩
theorem deep_nil {f : Fo} (h : f.len = 0) : deepF f = 0 := by
  cases f with
  | nil => rfl
  | cons a b c d x r => exact absurd h (by simp [Fo.len])
theorem deep_allR (d : Nat) (hd : d ≤ 64) : ∀ f : Fo, (d + deepF f ≤ 64 ↔ ∀ y ∈ toL f, d + 1 + deepF y.args ≤ 64)
  | .nil => ⟨fun _ y hy => by (cases hy), fun _ => by simp [deepF]; omega⟩
  | .cons a b c e x r => by
    have h := deep_allR d hd r
    have h1 : deepF (.cons a b c e x r) = max (1 + deepF x) (deepF r) := rfl
    have h2 : toL (.cons a b c e x r) = ⟨a, b, c, e, x⟩ :: toL r := rfl
    rw [h1, h2]
    constructor
    · intro h3 y hy
      rcases List.mem_cons.1 hy with rfl | hy
      · show d + 1 + deepF x ≤ 64
        omega
      · exact h.1 (by omega) y hy
    · intro h3
      have h4 := h.2 (fun y hy => h3 y (List.mem_cons_of_mem _ hy))
      have h5 : d + 1 + deepF x ≤ 64 := h3 _ (List.mem_cons_self ..)
      omega
theorem sum_takeR {α : Type} (f : α → Nat) (xs : List α) (k : Nat) : ((xs.take k).map f).sum ≤ (xs.map f).sum := by
  conv => rhs; rw [← List.take_append_drop k xs]
  rw [List.map_append, List.sum_append]
  omega
theorem pn_toL : ∀ f : Fo, pn f = ((toL f).map (fun y => 1 + pn y.args)).sum
  | .nil => rfl
  | .cons a b c d x r => by
    have := pn_toL r
    show 1 + pn x + pn r = _
    rw [this]
    rfl
theorem pn_mem : ∀ (f : Fo) (y : Ex), y ∈ toL f → pn y.args < pn f
  | .nil, y, h => by (cases h)
  | .cons a b c d x r, y, h => by
    show pn y.args < 1 + pn x + pn r
    rcases List.mem_cons.1 h with rfl | h
    · show pn x < 1 + pn x + pn r
      omega
    · have := pn_mem r y h
      omega
theorem pcF_toL : ∀ f : Fo, pcF f = (toL f).flatMap pcE
  | .nil => rfl
  | .cons a b c d x r => by
    have := pcF_toL r
    show pcE ⟨a, b, c, d, x⟩ ++ pcF r = _
    rw [this]
    rfl
/-- What expr does, whatever the row is. -/
def RXall (x : Ex) : Prop := ∀ (lo wb d : Nat) (a : Option Addr) (cap : Nat) (W : World) (P : List Pc) (b : Bool), RS lo wb W P b → d ≤ 65 → SzM x → P.length + 6 * (1 + pn x.args) ≤ 1000000000 → FoAt W (fun b => b < lo) x.args a → Calls Try.prog 58 #[.pointer (some ⟨wb, 0, none⟩), .agg #[.int .i64 x.op, .int .i64 x.num, .int .i64 x.den, .int .i64 x.mode, .slice a x.args.len cap], .int .i64 (d : Int)] W (RX lo wb P b (pcE x) (6 * (1 + pn x.args)) (d + deepF x.args ≤ 64) W)
/-- Too deep already: nothing is laid. -/
theorem rexpr_no (lo wb d : Nat) (x : Ex) (a : Option Addr) (cap : Nat) (W : World) {P : List Pc} {b : Bool} (h : RS lo wb W P b) (hd : d ≤ 1000) (hno : 64 < d ∨ b = true) (ok : Prop) (hok : b = false → ¬ ok) (y : List Pc) (cnt : Nat) : Calls Try.prog 58 #[.pointer (some ⟨wb, 0, none⟩), .agg #[.int .i64 x.op, .int .i64 x.num, .int .i64 x.den, .int .i64 x.mode, .slice a x.args.len cap], .int .i64 (d : Int)] W (RX lo wb P b y cnt ok W) := by
  have hA := h.alloc (.cells #[.int .i64 x.op, .int .i64 x.num, .int .i64 x.den, .int .i64 x.mode, .slice a x.args.len cap] 83)
  have hBA : BkR lo wb W (W.alloc (.cells #[.int .i64 x.op, .int .i64 x.num, .int .i64 x.den, .int .i64 x.mode, .slice a x.args.len cap] 83)) := BkR.alloc W (Nat.le_trans h.lo (Nat.le_of_lt h.lt)) _
  obtain ⟨X, hX⟩ : ∃ X, W.alloc (.cells #[.int .i64 x.op, .int .i64 x.num, .int .i64 x.den, .int .i64 x.mode, .slice a x.args.len cap] 83) = X := ⟨_, rfl⟩
  rw [hX] at hA hBA
  have hfin : RX lo wb P b y cnt ok W (.returned (.tuple #[])) (X.setCell ⟨wb, 1, none⟩ (.bool true)) := ⟨rfl, P, true, hA.set1 true, hBA.trans (BkR.set X h.lo 1 _), ⟨fun h => by (cases h), fun h => absurd h.2 (hok h.1)⟩, fun h => by (cases h), Nat.le_add_right _ _⟩
  have c1 := hA.c1
  have f1 := hA.fz 1
  have hwl := h.lt
  clear h hA hBA
  by_cases hd2 : 64 < d
  · have hd' : (64 : Int) < (d : Int) := by omega
    go_enter Try.func58, Try.ntmps58
    go_wp2
    exact bodyPost_ret (v := .tuple #[]) (by simp [results, Try.results58, go_sem]) rfl hfin
  · have hd' : ¬ (64 : Int) < (d : Int) := by omega
    obtain rfl : b = true := by rcases hno with h | h; omega; exact h
    go_enter Try.func58, Try.ntmps58
    go_wp2
    exact bodyPost_ret (v := .tuple #[]) (by simp [results, Try.results58, go_sem]) rfl hfin

set_option maxRecDepth 8000 in
set_option maxHeartbeats 4000000 in
theorem rexpr_s (lo wb d : Nat) (x : Ex) (a : Option Addr) (cap : Nat) (W : World) {P : List Pc} (h : RS lo wb W P false) (hd : d ≤ 64) (hM : SzM x) (hPl : P.length + 6 * (1 + pn x.args) ≤ 1000000000) (ih : ∀ y : Ex, pn y.args < pn x.args → RXall y) (hF : FoAt W (fun b => b < lo) x.args a) : Calls Try.prog 58 #[.pointer (some ⟨wb, 0, none⟩), .agg #[.int .i64 x.op, .int .i64 x.num, .int .i64 x.den, .int .i64 x.mode, .slice a x.args.len cap], .int .i64 (d : Int)] W (RX lo wb P false (pcE x) (6 * (1 + pn x.args)) (d + deepF x.args ≤ 64) W) := by
  have hBx := rx_box (lo := lo) h.lt x a cap
  have hRX := h.alloc (.cells #[.int .i64 x.op, .int .i64 x.num, .int .i64 x.den, .int .i64 x.mode, .slice a x.args.len cap] 83)
  have hBA : BkR lo wb W (W.alloc (.cells #[.int .i64 x.op, .int .i64 x.num, .int .i64 x.den, .int .i64 x.mode, .slice a x.args.len cap] 83)) := BkR.alloc W (Nat.le_trans h.lo (Nat.le_of_lt h.lt)) _
  have hlo := h.lo
  have hwl := h.lt
  obtain ⟨X, hX⟩ : ∃ X, W.alloc (.cells #[.int .i64 x.op, .int .i64 x.num, .int .i64 x.den, .int .i64 x.mode, .slice a x.args.len cap] 83) = X := ⟨_, rfl⟩
  rw [hX] at hBx hRX hBA
  obtain ⟨o0, o1, o2, o3, o4⟩ := hBx.out X (BkR.refl _ _ _)
  have c1 := hRX.c1
  have hd' : ¬ (64 : Int) < (d : Int) := by omega
  have hlen : x.args.len ≤ 1000000 := Nat.le_trans (pn_len _) hM
  have hM : Hid (pn x.args ≤ 1000000) := ⟨hM⟩
  clear h
  go_enter Try.func58, Try.ntmps58
  go_upto_if 21 with fail
  obtain ⟨m1, hm1⟩ : ∃ m : Int, m = 0 + (if x.num = 0 then 0 else 1) := ⟨_, rfl⟩
  have hm1b : 0 ≤ m1 ∧ m1 ≤ 1 := by split at hm1 <;> omega
  go_cut [6] (fun mv wx => mv = .int .i64 m1 ∧ wx = X)
  case first =>
    by_cases hz : x.num = 0
    · have hzb : (x.num != 0) = false := by simp [hz]
      rw [if_pos hz] at hm1
      have hmm : Hid (0 = m1) := ⟨by omega⟩
      clear hm1 hz
      go_wp2_with fail
      go_meet
      exact ⟨by have hm := hmm.out; simp only [Value.int.injEq, true_and]; omega, rfl⟩
    · have hzb : (x.num != 0) = true := by simp [hz]
      rw [if_neg hz] at hm1
      have hmm : Hid (0 + 1 = m1) := ⟨by omega⟩
      clear hm1 hz
      go_wp2_with fail
      go_meet
      exact ⟨by have hm := hmm.out; simp only [Value.int.injEq, true_and]; omega, rfl⟩
  case rest =>
  obtain ⟨rfl, hwc⟩ := hcut
  have hwd := hwc.symm
  subst hwd
  clear hwc
  replace hm1 := Hid.mk hm1
  go_upto_if 26 with fail
  obtain ⟨m2, hm2⟩ : ∃ m : Int, m = m1 + (if x.den = 0 then 0 else 2) := ⟨_, rfl⟩
  have hm2b : 0 ≤ m2 ∧ m2 ≤ 3 := by split at hm2 <;> omega
  go_cut [6] (fun mv wx => mv = .int .i64 m2 ∧ wx = X)
  case first =>
    by_cases hz : x.den = 0
    · have hzb : (x.den != 0) = false := by simp [hz]
      rw [if_pos hz] at hm2
      have hmm : Hid (m1 = m2) := ⟨by omega⟩
      clear hm2 hz
      go_wp2_with fail
      go_meet
      exact ⟨by have hm := hmm.out; simp only [Value.int.injEq, true_and]; omega, rfl⟩
    · have hzb : (x.den != 0) = true := by simp [hz]
      rw [if_neg hz] at hm2
      have hmm : Hid (m1 + 2 = m2) := ⟨by omega⟩
      clear hm2 hz
      go_wp2_with fail
      go_meet
      exact ⟨by have hm := hmm.out; simp only [Value.int.injEq, true_and]; omega, rfl⟩
  case rest =>
  obtain ⟨rfl, hwc⟩ := hcut
  have hwd := hwc.symm
  subst hwd
  clear hwc
  replace hm2 := Hid.mk hm2
  go_upto_if 31 with fail
  obtain ⟨m3, hm3⟩ : ∃ m : Int, m = m2 + (if x.mode = 0 then 0 else 4) := ⟨_, rfl⟩
  have hm3b : 0 ≤ m3 ∧ m3 ≤ 7 := by split at hm3 <;> omega
  go_cut [6] (fun mv wx => mv = .int .i64 m3 ∧ wx = X)
  case first =>
    by_cases hz : x.mode = 0
    · have hzb : (x.mode != 0) = false := by simp [hz]
      rw [if_pos hz] at hm3
      have hmm : Hid (m2 = m3) := ⟨by omega⟩
      clear hm3 hz
      go_wp2_with fail
      go_meet
      exact ⟨by have hm := hmm.out; simp only [Value.int.injEq, true_and]; omega, rfl⟩
    · have hzb : (x.mode != 0) = true := by simp [hz]
      rw [if_neg hz] at hm3
      have hmm : Hid (m2 + 4 = m3) := ⟨by omega⟩
      clear hm3 hz
      go_wp2_with fail
      go_meet
      exact ⟨by have hm := hmm.out; simp only [Value.int.injEq, true_and]; omega, rfl⟩
  case rest =>
  obtain ⟨rfl, hwc⟩ := hcut
  have hwd := hwc.symm
  subst hwd
  clear hwc
  replace hm3 := Hid.mk hm3
  go_upto_if 37 with fail
  obtain ⟨m4, hm4⟩ : ∃ m : Int, m = m3 + (if x.args.len = 0 then 0 else 8) := ⟨_, rfl⟩
  have hm4b : 0 ≤ m4 ∧ m4 ≤ 15 := by split at hm4 <;> omega
  go_cut [6] (fun mv wx => mv = .int .i64 m4 ∧ wx = X)
  case first =>
    by_cases hz : x.args.len = 0
    · have hzb : ¬ (0 : Int) < (x.args.len : Int) := by omega
      rw [if_pos hz] at hm4
      have hmm : Hid (m3 = m4) := ⟨by omega⟩
      clear hm4 hz
      go_wp2_with fail
      go_meet
      exact ⟨by have hm := hmm.out; simp only [Value.int.injEq, true_and]; omega, rfl⟩
    · have hzb : (0 : Int) < (x.args.len : Int) := by omega
      rw [if_neg hz] at hm4
      have hmm : Hid (m3 + 8 = m4) := ⟨by omega⟩
      clear hm4 hz
      go_wp2_with fail
      go_meet
      exact ⟨by have hm := hmm.out; simp only [Value.int.injEq, true_and]; omega, rfl⟩
  case rest =>
  obtain ⟨rfl, hwc⟩ := hcut
  have hwd := hwc.symm
  subst hwd
  clear hwc
  have hmE : Hid (mF x.num x.den x.mode x.args.len = m4) := ⟨by rw [hm4, hm3.out, hm2.out, hm1.out]; unfold mF; omega⟩
  clear hm4 hm1 hm2 hm3 hm1b hm2b hm3b c1
  have hc := rint_any lo wb x.op _ hRX (by omega)
  go_wp2_with (go_at_call 57; fail)
  refine hc.mono ?_
  rintro e w1 ⟨rfl, hR1, hB1⟩
  clear hc o0 o1 o2 o3 o4 hRX
  obtain ⟨o0, o1, o2, o3, o4⟩ := hBx.out w1 hB1
  obtain ⟨i0, hi, hz0, hz1, hz2⟩ := info_parts infoPc
  obtain ⟨p0, cap0, c0, ho⟩ := hR1.own
  have hwl1 := hR1.lt
  have hA := hR1.alloc (.cells #[.int .i64 4, .int .i64 m4, .string ⟨#[]⟩] 121)
  have hoA := ho.alloc (.cells #[.int .i64 4, .int .i64 m4, .string ⟨#[]⟩] 121)
  have hBA1 : BkR lo wb w1 (w1.alloc (.cells #[.int .i64 4, .int .i64 m4, .string ⟨#[]⟩] 121)) := BkR.alloc w1 (Nat.le_trans hlo (Nat.le_of_lt hwl1)) _
  have hl1 : (P ++ [(⟨2, x.op, []⟩ : Pc)]).length = P.length + 1 := by simp
  generalize hP1 : P ++ [(⟨2, x.op, []⟩ : Pc)] = P1 at *
  replace hl1 := Hid.mk hl1
  replace hP1 := Hid.mk hP1
  have hP1b : P1.length ≤ 999999999 := by have := hl1.out; omega
  clear ho
  go_upto_if 57 with (at_builtin; refine wpList_append_own _ rfl _ _ 110 rfl (wb + 1) 121 i0 _ 3 32 Try.underlying110 hi hz0 hz1 hz2 rfl (by decide) _ _ _ rfl hoA ⟨w1.heap.size, 0, none⟩ 1 1 [.int .i64 4, .int .i64 m4, .string ⟨#[]⟩] rfl rfl (lit_at w1 _ _) (by simp [Value.oneCell']) (by unfold maxLen; omega) (by omega) (by simp; omega) ?_; intro v4 w4 hown4 hgrow4 _; replace hown4 : w4.ownsRow (wb + 1) 121 3 v4 (P1.length + 1) (pcs P1 ++ pcC ⟨4, m4, []⟩) := hown4; rw [← pcs_snoc] at hown4; obtain ⟨p4, cap4, rfl⟩ := own_sliceR hown4; obtain ⟨hW4, hB4, ⟨u4, hu4⟩, hz4⟩ := hA.push (P2 := P1 ++ [⟨4, m4, []⟩]) hoA hgrow4 (by rw [List.length_append]; exact hown4) (by rw [List.length_append, List.length_singleton]; omega); clear hown4 hgrow4; obtain ⟨o0, o1, o2, o3, o4⟩ := hBx.out _ (hB1.trans (hBA1.trans hB4)))
  obtain ⟨w2, hw2⟩ : ∃ w, w = w4.setCell ⟨wb, 0, none⟩ (.slice p4 (P1.length + 1) cap4) := ⟨_, rfl⟩
  have hRw2 : RS lo wb w2 (P1 ++ [⟨4, m4, []⟩]) false := by rw [hw2]; exact hW4
  have hBw2 : BkR lo wb X w2 := by rw [hw2]; have h := hB1.trans (hBA1.trans hB4); exact h
  rw [← hw2]
  rw [← hw2] at o0 o1 o2 o3 o4
  have hl2 : Hid ((P1 ++ [(⟨4, m4, []⟩ : Pc)]).length = P.length + 2) := ⟨by have := hl1.out; simp; omega⟩
  generalize hP2 : P1 ++ [(⟨4, m4, []⟩ : Pc)] = P2 at *
  replace hP2 := Hid.mk hP2
  clear hw2 hu4 hz4 hW4 hB4 hA hoA hBA1 hB1 hR1 hP1b c0
  go_upto_if 57 with fail
  go_cut [6] (fun mv wx => mv = .int .i64 m4 ∧ RS lo wb wx (P2 ++ pcZ x.num) false ∧ BkR lo wb X wx)
  case first =>
    by_cases hz : x.num = 0
    · have hzb : (x.num != 0) = false := by simp [hz]
      have hq : Hid (P2 ++ pcZ x.num = P2) := ⟨by rw [pcZ_0 hz, List.append_nil]⟩
      clear hz
      go_wp2_with fail
      go_meet
      exact ⟨rfl, by rw [hq.out]; exact hRw2, hBw2⟩
    · have hzb : (x.num != 0) = true := by simp [hz]
      have hq : Hid (pcZ x.num = [⟨2, x.num, []⟩]) := ⟨by rw [pcZ, if_neg hz]⟩
      clear hz
      have hc := rint_any lo wb x.num w2 hRw2 (by have h2 := hl2.out; have := pcZ_len x.num; have := pcZ_len x.den; first | omega | (simp only [List.length_append]; omega))
      go_wp2_with (go_at_call 57; fail)
      refine hc.mono ?_
      rintro e w9 ⟨rfl, hR9, hB9⟩
      have hB9' := hBw2.trans hB9
      clear hc
      go_wp2_with fail
      go_meet
      exact ⟨rfl, by rw [hq.out]; exact hR9, hB9'⟩
  case rest =>
  obtain ⟨rfl, hRw3, hBw3⟩ := hcut
  obtain ⟨w3, hw⟩ : ∃ w, w = wc := ⟨_, rfl⟩
  rw [← hw] at hRw3 hBw3 ⊢
  clear hw o0 o1 o2 o3 o4 hRw2 hBw2
  obtain ⟨o0, o1, o2, o3, o4⟩ := hBx.out w3 hBw3
  go_upto_if 64 with fail
  go_cut [6] (fun mv wx => mv = .int .i64 m4 ∧ RS lo wb wx (P2 ++ pcZ x.num ++ pcZ x.den) false ∧ BkR lo wb X wx)
  case first =>
    by_cases hz : x.den = 0
    · have hzb : (x.den != 0) = false := by simp [hz]
      have hq : Hid (P2 ++ pcZ x.num ++ pcZ x.den = P2 ++ pcZ x.num) := ⟨by rw [pcZ_0 hz, List.append_nil]⟩
      clear hz
      go_wp2_with fail
      go_meet
      exact ⟨rfl, by rw [hq.out]; exact hRw3, hBw3⟩
    · have hzb : (x.den != 0) = true := by simp [hz]
      have hq : Hid (pcZ x.den = [⟨2, x.den, []⟩]) := ⟨by rw [pcZ, if_neg hz]⟩
      clear hz
      have hc := rint_any lo wb x.den w3 hRw3 (by have h2 := hl2.out; have := pcZ_len x.num; have := pcZ_len x.den; first | omega | (simp only [List.length_append]; omega))
      go_wp2_with (go_at_call 57; fail)
      refine hc.mono ?_
      rintro e w9 ⟨rfl, hR9, hB9⟩
      have hB9' := hBw3.trans hB9
      clear hc
      go_wp2_with fail
      go_meet
      exact ⟨rfl, by rw [hq.out]; exact hR9, hB9'⟩
  case rest =>
  obtain ⟨rfl, hRw5, hBw5⟩ := hcut
  obtain ⟨w5, hw⟩ : ∃ w, w = wc := ⟨_, rfl⟩
  rw [← hw] at hRw5 hBw5 ⊢
  clear hw o0 o1 o2 o3 o4 hRw3 hBw3
  obtain ⟨o0, o1, o2, o3, o4⟩ := hBx.out w5 hBw5
  go_upto_if 71 with fail
  go_cut [6] (fun mv wx => mv = .int .i64 m4 ∧ RS lo wb wx (P2 ++ pcZ x.num ++ pcZ x.den ++ pcZ x.mode) false ∧ BkR lo wb X wx)
  case first =>
    by_cases hz : x.mode = 0
    · have hzb : (x.mode != 0) = false := by simp [hz]
      have hq : Hid (P2 ++ pcZ x.num ++ pcZ x.den ++ pcZ x.mode = P2 ++ pcZ x.num ++ pcZ x.den) := ⟨by rw [pcZ_0 hz, List.append_nil]⟩
      clear hz
      go_wp2_with fail
      go_meet
      exact ⟨rfl, by rw [hq.out]; exact hRw5, hBw5⟩
    · have hzb : (x.mode != 0) = true := by simp [hz]
      have hq : Hid (pcZ x.mode = [⟨2, x.mode, []⟩]) := ⟨by rw [pcZ, if_neg hz]⟩
      clear hz
      have hc := rint_any lo wb x.mode w5 hRw5 (by have h2 := hl2.out; have := pcZ_len x.num; have := pcZ_len x.den; first | omega | (simp only [List.length_append]; omega))
      go_wp2_with (go_at_call 57; fail)
      refine hc.mono ?_
      rintro e w9 ⟨rfl, hR9, hB9⟩
      have hB9' := hBw5.trans hB9
      clear hc
      go_wp2_with fail
      go_meet
      exact ⟨rfl, by rw [hq.out]; exact hR9, hB9'⟩
  case rest =>
  obtain ⟨rfl, hRw6, hBw6⟩ := hcut
  obtain ⟨w6, hw⟩ : ∃ w, w = wc := ⟨_, rfl⟩
  rw [← hw] at hRw6 hBw6 ⊢
  clear hw o0 o1 o2 o3 o4 hRw5 hBw5
  obtain ⟨o0, o1, o2, o3, o4⟩ := hBx.out w6 hBw6
  have hl5 : Hid ((P2 ++ pcZ x.num ++ pcZ x.den ++ pcZ x.mode).length ≤ P.length + 5) := ⟨by have h2 := hl2.out; have := pcZ_len x.num; have := pcZ_len x.den; have := pcZ_len x.mode; simp only [List.length_append]; omega⟩
  have hE5 : Hid (pcE x = [⟨2, x.op, []⟩] ++ [⟨4, m4, []⟩] ++ pcZ x.num ++ pcZ x.den ++ pcZ x.mode ++ (if x.args.len = 0 then [] else [⟨1, (x.args.len : Int), []⟩] ++ pcF x.args)) := ⟨by rw [pcE, hmE.out]⟩
  have hP5 : Hid (P2 ++ pcZ x.num ++ pcZ x.den ++ pcZ x.mode = P ++ ([⟨2, x.op, []⟩] ++ [⟨4, m4, []⟩] ++ pcZ x.num ++ pcZ x.den ++ pcZ x.mode)) := ⟨by rw [← hP2.out, ← hP1.out]; simp only [List.append_assoc]⟩
  generalize P2 ++ pcZ x.num ++ pcZ x.den ++ pcZ x.mode = P5 at *
  clear hl1 hl2 hP1 hP2 hmE
  by_cases hz : x.args.len = 0
  · have hzb : ¬ (0 : Int) < (x.args.len : Int) := by omega
    have hfin : RX lo wb P false (pcE x) (6 * (1 + pn x.args)) (d + deepF x.args ≤ 64) W (.returned (.tuple #[])) w6 := ⟨rfl, P5, false, hRw6, hBA.trans hBw6, ⟨fun _ => ⟨rfl, by rw [deep_nil hz]; omega⟩, fun _ => rfl⟩, fun _ => by rw [hE5.out, if_pos hz, List.append_nil, hP5.out], by have := hl5.out; omega⟩
    clear hz
    go_wp2
    exact bodyPost_end (v := .tuple #[]) (by simp [results, Try.results58, go_sem]) rfl hfin
  have hzb : (0 : Int) < (x.args.len : Int) := by omega
  have hn := rnum_any lo wb (x.args.len : Int) w6 hRw6 (by have := hl5.out; omega)
  go_wp2_with (go_at_call 53; fail)
  refine hn.mono ?_
  rintro e w7 ⟨rfl, hR7, hB7'⟩
  have hB7 := hBw6.trans hB7'
  clear hn hB7' o0 o1 o2 o3 o4 hRw6 hBw6
  obtain ⟨o0, o1, o2, o3, o4⟩ := hBx.out w7 hB7
  have hl6 : Hid ((P5 ++ [(⟨1, (x.args.len : Int), []⟩ : Pc)]).length ≤ P.length + 6) := ⟨by have := hl5.out; simp; omega⟩
  have hP6 : Hid (P5 ++ [(⟨1, (x.args.len : Int), []⟩ : Pc)] ++ pcF x.args = P ++ pcE x) := ⟨by rw [hE5.out, if_neg hz, hP5.out]; simp only [List.append_assoc]⟩
  generalize P5 ++ [(⟨1, (x.args.len : Int), []⟩ : Pc)] = P6 at *
  have hrow := row_of_fo hF
  have hdeep := Hid.mk (deep_allR d hd x.args)
  have hpn := Hid.mk (pn_toL x.args)
  rw [pcF_toL] at hP6
  have hlx : x.args.len = (toL x.args).length := (toL_len x.args).symm
  rw [hlx] at o4 hlen hzb ⊢
  have ihH := Hid.mk ih
  have hmem := Hid.mk (pn_mem x.args)
  have hlxH := Hid.mk hlx
  generalize hxs : toL x.args = xs at *
  have hPlH := Hid.mk hPl
  clear hl5 hE5 hP5 hz hlx hxs hF ih
  go_wp2_with fail
  go_loopw [7] (fun iv wr => ∃ (i : Nat) (P' : List Pc) (b' : Bool), i ≤ xs.length ∧ iv = .int .i64 (i : Int) ∧ RS lo wb wr P' b' ∧ BkR lo wb X wr ∧ Hid ((b' = false ↔ ∀ y ∈ xs.take i, d + 1 + deepF y.args ≤ 64) ∧ (b' = false → P' = P6 ++ (xs.take i).flatMap pcE) ∧ P'.length ≤ P6.length + 6 * ((xs.take i).map (fun y : Ex => 1 + pn y.args)).sum)) (fun iv _ => xs.length - (intOf iv).toNat)
  case atStart => exact ⟨0, P6, false, Nat.zero_le _, rfl, hR7, hB7, ⟨⟨fun _ y hy => by (simp at hy), fun _ => rfl⟩, fun _ => by simp, by simp⟩⟩
  case round =>
    clear o0 o1 o2 o3 o4 hR7 hB7
    obtain ⟨i, P', b', hi, rfl, hRr, hBr, hinv⟩ := hrel
    obtain ⟨o0, o1, o2, o3, o4⟩ := hBx.out wr hBr
    rw [hlxH.out] at o4
    by_cases hlt : i < xs.length
    · have hlt' : (i : Int) < (xs.length : Int) := by omega
      have hi0 : (0 : Int) ≤ (i : Int) := by omega
      have hbl := (hBA.trans hBr).bl
      have hrw : RowR eE wr (fun b => b < lo) xs a := hrow.fr hbl.size (fun b hb _ => hbl.block b hb)
      obtain ⟨g, o, hga⟩ := hrw.some hlt
      rw [hga] at hrw o4
      obtain ⟨cs, -, -, hE, hcc⟩ := hrw.item hlt
      have hy := List.getElem_mem hlt
      have hst := Hid.mk (List.take_succ_eq_append_getElem hlt)
      have hle2 := Hid.mk (sum_takeR (fun y : Ex => 1 + pn y.args) xs (i + 1))
      rw [hst.out] at hle2
      generalize xs[i] = y at *
      obtain ⟨a1, c1, rfl, -, hFo⟩ := hE
      have e0 : wr.cell? ⟨g, o + i * 5, none⟩ = some (.int .i64 y.op) := hcc 0 (by decide)
      have e1 : wr.cell? ⟨g, o + i * 5 + 1, none⟩ = some (.int .i64 y.num) := hcc 1 (by decide)
      have e2 : wr.cell? ⟨g, o + i * 5 + 2, none⟩ = some (.int .i64 y.den) := hcc 2 (by decide)
      have e3 : wr.cell? ⟨g, o + i * 5 + 3, none⟩ = some (.int .i64 y.mode) := hcc 3 (by decide)
      have e4 : wr.cell? ⟨g, o + i * 5 + 4, none⟩ = some (.slice a1 y.args.len c1) := hcc 4 (by decide)
      have hpy := hmem.out y hy
      have hcall := ihH.out y hpy lo wb (d + 1) a1 c1 wr P' b' hRr (by omega) (by have := hM.out; unfold SzM; omega) (by
        have h1 := hinv.out.2.2
        have h2 := hle2.out
        have h3 := hl6.out
        have h4 := hPlH.out
        have h5 := hpn.out
        simp only [List.map_append, List.map_cons, List.map_nil, List.sum_append, List.sum_cons, List.sum_nil] at h2
        omega) hFo
      have hcast : ((d + 1 : Nat) : Int) = (d : Int) + 1 := by omega
      rw [hcast] at hcall
      clear hcc hrw hbl hga hcast
      go_wp2_with (go_at_call 58; fail)
      refine hcall.mono ?_
      rintro e w8 ⟨rfl, P3, b3, hR8, hB8, hf1, hf2, hf3⟩
      have hB9 := hBr.trans hB8
      have hfH := Hid.mk (And.intro hf1 (And.intro hf2 hf3))
      clear hcall e0 e1 e2 e3 e4 o0 o1 o2 o3 o4 hf1 hf2 hf3
      go_wp2
      go_roundw
      case rel =>
        refine ⟨i + 1, P3, b3, by omega, by go_num, hR8, hB9, ⟨?_, ?_, ?_⟩⟩
        · rw [hst.out, hfH.out.1, hinv.out.1]
          constructor
          · rintro ⟨h1, h2⟩ z hz
            rcases List.mem_append.1 hz with hz | hz
            · exact h1 z hz
            · rw [List.mem_singleton.1 hz]; exact h2
          · intro h1
            exact ⟨fun z hz => h1 z (List.mem_append_left _ hz), h1 y (List.mem_append_right _ (List.mem_singleton.2 rfl))⟩
        · intro h3
          have hb' := (hfH.out.1.1 h3).1
          rw [hfH.out.2.1 h3, hinv.out.2.1 hb', hst.out, List.flatMap_append]
          simp
        · have h1 := hfH.out.2.2
          have h2 := hinv.out.2.2
          rw [hst.out]
          simp only [List.map_append, List.map_cons, List.map_nil, List.sum_append, List.sum_cons, List.sum_nil]
          omega
      case measure => simp [intOf]; omega
    · have hlt' : ¬ (i : Int) < (xs.length : Int) := by omega
      obtain rfl : i = xs.length := by omega
      have hi2 := hinv.out
      rw [List.take_length] at hi2
      have hfin : RX lo wb P false (pcE x) (6 * (1 + pn x.args)) (d + deepF x.args ≤ 64) W (.returned (.tuple #[])) wr := ⟨rfl, P', b', hRr, hBA.trans hBr, by rw [hi2.1, hdeep.out]; simp, fun h => by rw [hi2.2.1 h, hP6.out], by have h1 := hi2.2.2; have h2 := hl6.out; have h3 := hpn.out; rw [← h3] at h1; omega⟩
      clear hi2 hinv
      go_wp2
      exact bodyPost_end (v := .tuple #[]) (by simp [results, Try.results58, go_sem]) rfl hfin

theorem rexpr_any : ∀ (m : Nat) (x : Ex), pn x.args < m → RXall x
  | 0, _, h => absurd h (Nat.not_lt_zero _)
  | m + 1, x, hm => fun lo wb d a cap W P b h hd hz hP hF => by
    by_cases hb : b = false ∧ d ≤ 64
    · obtain ⟨rfl, hd2⟩ := hb
      exact rexpr_s lo wb d x a cap W h hd2 hz hP (fun y hy => rexpr_any m y (by omega)) hF
    · refine rexpr_no lo wb d x a cap W h (by omega) ?_ _ (fun hbf => ?_) _ _
      · cases b with
        | true => exact .inr rfl
        | false => exact .inl (by by_cases h1 : d ≤ 64; exact absurd ⟨rfl, h1⟩ hb; omega)
      · have h1 : ¬ d ≤ 64 := fun h1 => hb ⟨hbf, h1⟩
        omega

end Go.Proofs.Ytjgkjdalnjlefaa.V


namespace Go.Proofs.Ytjgkjdalnjlefaa.V
open Go.RowKit

/-- A row under way since X: what was laid, how much at most, and when it is not too deep. -/
structure RA (lo wb : Nat) (X : World) (P0 x : List Pc) (cnt : Nat) (ok : Prop) (W : World) : Prop where
  ex : ∃ P b, RS lo wb W P b ∧ (b = false ↔ ok) ∧ (b = false → P = P0 ++ x) ∧ P.length ≤ P0.length + cnt
  bk : BkR lo wb X W
/-- What a call that lays more does. -/
def RaP (lo wb : Nat) (X : World) (P0 x : List Pc) (cnt : Nat) (ok : Prop) (W : World) (e : Ending) (W' : World) : Prop := e = .returned (.tuple #[]) ∧ RA lo wb X P0 x cnt ok W' ∧ BkR lo wb W W'
theorem RA.lt {lo wb : Nat} {X : World} {P0 x : List Pc} {cnt : Nat} {ok : Prop} {W : World} (h : RA lo wb X P0 x cnt ok W) : wb < W.heap.size := by
  obtain ⟨P, b, hR, -⟩ := h.ex
  exact hR.lt
theorem RA.lo {lo wb : Nat} {X : World} {P0 x : List Pc} {cnt : Nat} {ok : Prop} {W : World} (h : RA lo wb X P0 x cnt ok W) : lo ≤ wb := by
  obtain ⟨P, b, hR, -⟩ := h.ex
  exact hR.lo
theorem RA.le {lo wb : Nat} {X : World} {P0 x : List Pc} {cnt : Nat} {ok : Prop} {W : World} (h : RA lo wb X P0 x cnt ok W) : lo ≤ W.heap.size := Nat.le_trans h.lo (Nat.le_of_lt h.lt)
theorem RA.alloc {lo wb : Nat} {X : World} {P0 x : List Pc} {cnt : Nat} {ok : Prop} {W : World} (h : RA lo wb X P0 x cnt ok W) (o : Obj) : RA lo wb X P0 x cnt ok (W.alloc o) := by
  obtain ⟨P, b, hR, h1⟩ := h.ex
  exact ⟨⟨P, b, hR.alloc o, h1⟩, h.bk.trans (BkR.alloc W h.le o)⟩
theorem RA.cast {lo wb : Nat} {X : World} {P0 x x' : List Pc} {cnt cnt' : Nat} {ok ok' : Prop} {W : World} (h : RA lo wb X P0 x cnt ok W) (hx : x = x') (hc : cnt ≤ cnt') (ho : ok ↔ ok') : RA lo wb X P0 x' cnt' ok' W := by
  obtain ⟨P, b, hR, h1, h2, h3⟩ := h.ex
  exact ⟨⟨P, b, hR, h1.trans ho, fun hb => by rw [h2 hb, hx], by omega⟩, h.bk⟩
theorem RA.more {lo wb : Nat} {X : World} {P0 x y : List Pc} {cnt k : Nat} {ok : Prop} {W W' : World} {P : List Pc} {b : Bool} (hbk : BkR lo wb X W) (hr : b = false ↔ ok) (hp : b = false → P = P0 ++ x) (hl : P.length ≤ P0.length + cnt) (hk : y.length ≤ k) {e : Ending} (h : Rp lo wb P b y W e W') : RaP lo wb X P0 (x ++ y) (cnt + k) ok W e W' := by
  obtain ⟨rfl, hR, hB⟩ := h
  exact ⟨rfl, ⟨⟨_, b, hR, hr, fun hb => by rw [hp hb, List.append_assoc], by rw [List.length_append]; omega⟩, hbk.trans hB⟩, hB⟩
theorem RA.int {lo wb : Nat} {X : World} {P0 x : List Pc} {cnt : Nat} {ok : Prop} {W : World} (h : RA lo wb X P0 x cnt ok W) (n : Int) (hl : P0.length + cnt + 1 ≤ 1000000000) : Calls Try.prog 57 #[.pointer (some ⟨wb, 0, none⟩), .int .i64 n] W (RaP lo wb X P0 (x ++ [⟨2, n, []⟩]) (cnt + 1) ok W) := by
  obtain ⟨P, b, hR, h1, h2, h3⟩ := h.ex
  exact (rint_any lo wb n W hR (by omega)).mono fun e W' hp => RA.more h.bk h1 h2 h3 (by simp) hp
theorem RA.num {lo wb : Nat} {X : World} {P0 x : List Pc} {cnt : Nat} {ok : Prop} {W : World} (h : RA lo wb X P0 x cnt ok W) (n : Int) (hl : P0.length + cnt + 1 ≤ 1000000000) : Calls Try.prog 53 #[.pointer (some ⟨wb, 0, none⟩), .int .i64 n] W (RaP lo wb X P0 (x ++ [⟨1, n, []⟩]) (cnt + 1) ok W) := by
  obtain ⟨P, b, hR, h1, h2, h3⟩ := h.ex
  exact (rnum_any lo wb n W hR (by omega)).mono fun e W' hp => RA.more h.bk h1 h2 h3 (by simp) hp
theorem RA.text {lo wb : Nat} {X : World} {P0 x : List Pc} {cnt : Nat} {ok : Prop} {W : World} (h : RA lo wb X P0 x cnt ok W) (s : List UInt8) (hl : P0.length + cnt + 1 ≤ 1000000000) : Calls Try.prog 55 #[.pointer (some ⟨wb, 0, none⟩), .string ⟨s.toArray⟩] W (RaP lo wb X P0 (x ++ [⟨3, 0, s⟩]) (cnt + 1) ok W) := by
  obtain ⟨P, b, hR, h1, h2, h3⟩ := h.ex
  exact (rtext_any lo wb s W hR (by omega)).mono fun e W' hp => RA.more h.bk h1 h2 h3 (by simp) hp
theorem RA.flag {lo wb : Nat} {X : World} {P0 x : List Pc} {cnt : Nat} {ok : Prop} {W : World} (h : RA lo wb X P0 x cnt ok W) (f : Bool) (hl : P0.length + cnt + 1 ≤ 1000000000) : Calls Try.prog 56 #[.pointer (some ⟨wb, 0, none⟩), .bool f] W (RaP lo wb X P0 (x ++ [⟨4, if f = true then 1 else 0, []⟩]) (cnt + 1) ok W) := by
  obtain ⟨P, b, hR, h1, h2, h3⟩ := h.ex
  exact (rflag_any lo wb f W hR (by omega)).mono fun e W' hp => RA.more h.bk h1 h2 h3 (by simp) hp
/-- How many pieces an expression has at most. -/
def nE (y : Ex) : Nat := 6 * (1 + pn y.args)
theorem RA.expr {lo wb : Nat} {X : World} {P0 x : List Pc} {cnt : Nat} {ok : Prop} {W : World} (h : RA lo wb X P0 x cnt ok W) (y : Ex) (a : Option Addr) (cap : Nat) (hM : pn y.args ≤ 1000000) (hl : P0.length + cnt + nE y ≤ 1000000000) (hF : FoAt W (fun b => b < lo) y.args a) : Calls Try.prog 58 #[.pointer (some ⟨wb, 0, none⟩), .agg #[.int .i64 y.op, .int .i64 y.num, .int .i64 y.den, .int .i64 y.mode, .slice a y.args.len cap], .int .i64 1] W (RaP lo wb X P0 (x ++ pcE y) (cnt + nE y) (ok ∧ deepE y + 1 ≤ 65) W) := by
  obtain ⟨P, b, hR, h1, h2, h3⟩ := h.ex
  unfold nE at hl
  have hc := rexpr_any _ y (Nat.lt_succ_self _) lo wb 1 a cap W P b hR (by omega) hM (by omega) hF
  refine Calls.mono (show Calls Try.prog 58 #[.pointer (some ⟨wb, 0, none⟩), .agg #[.int .i64 y.op, .int .i64 y.num, .int .i64 y.den, .int .i64 y.mode, .slice a y.args.len cap], .int .i64 1] W _ from hc) ?_
  rintro e W' ⟨rfl, P2, b2, hR2, hB2, k1, k2, k3⟩
  refine ⟨rfl, ⟨⟨P2, b2, hR2, ?_, fun hb => ?_, ?_⟩, h.bk.trans hB2⟩, hB2⟩
  · rw [k1, h1]
    unfold deepE
    constructor
    · rintro ⟨q1, q2⟩; exact ⟨q1, by omega⟩
    · rintro ⟨q1, q2⟩; exact ⟨q1, by omega⟩
  · rw [k2 hb, h2 (k1.1 hb).1, List.append_assoc]
  · unfold nE; omega

def fl (b : Bool) : Pc := ⟨4, if b = true then 1 else 0, []⟩
def pcCl (c : Cl) : List Pc := [⟨2, c.pri, []⟩] ++ [fl c.guarded] ++ pcE c.guard ++ pcE c.body
def nCl (c : Cl) : Nat := 2 + nE c.guard + nE c.body
def pcLn (l : Ln) : List Pc := [⟨3, 0, l.name⟩] ++ [fl l.input] ++ [fl l.must] ++ [⟨2, l.type, []⟩] ++ [⟨2, l.opts, []⟩] ++ [⟨2, l.group, []⟩] ++ [⟨1, (l.cls.length : Int), []⟩] ++ l.cls.flatMap pcCl
def nLn (l : Ln) : Nat := 7 + (l.cls.map nCl).sum
def pcCk (c : Ck) : List Pc := [⟨3, 0, c.name⟩] ++ [fl c.hard] ++ [⟨2, c.group, []⟩] ++ pcE c.when_ ++ [⟨3, 0, c.text⟩]
def nCk (c : Ck) : Nat := 4 + nE c.when_
def pcO (o : List UInt8 × List (List UInt8)) : List Pc := [⟨3, 0, o.1⟩] ++ [⟨1, (o.2.length : Int), []⟩] ++ o.2.flatMap (fun s => [(⟨3, 0, s⟩ : Pc)])
def nO (o : List UInt8 × List (List UInt8)) : Nat := 2 + o.2.length
def pcT (o : List UInt8 × List (Int × Int)) : List Pc := [⟨3, 0, o.1⟩] ++ [⟨1, (o.2.length : Int), []⟩] ++ o.2.flatMap (fun b => [(⟨2, b.1, []⟩ : Pc)] ++ [⟨2, b.2, []⟩])
def nT (o : List UInt8 × List (Int × Int)) : Nat := 2 + 2 * o.2.length
def pcG (o : List UInt8 × Int) : List Pc := [⟨3, 0, o.1⟩] ++ [⟨2, o.2, []⟩]
theorem take_sumR {α : Type} (f : α → Nat) {xs : List α} {i : Nat} (h : i < xs.length) : ((xs.take (i + 1)).map f).sum = ((xs.take i).map f).sum + f xs[i] := by
  rw [List.take_succ_eq_append_getElem h]
  simp only [List.map_append, List.map_cons, List.map_nil, List.sum_append, List.sum_cons, List.sum_nil, Nat.add_zero]
theorem take_flatR {α β : Type} (f : α → List β) {xs : List α} {i : Nat} (h : i < xs.length) : (xs.take (i + 1)).flatMap f = (xs.take i).flatMap f ++ f xs[i] := by
  rw [List.take_succ_eq_append_getElem h]
  simp only [List.flatMap_append, List.flatMap_cons, List.flatMap_nil, List.append_nil]
theorem take_allR {α : Type} (p : α → Prop) {xs : List α} {i : Nat} (h : i < xs.length) : (∀ y ∈ xs.take (i + 1), p y) ↔ (∀ y ∈ xs.take i, p y) ∧ p xs[i] := by
  rw [List.take_succ_eq_append_getElem h]
  constructor
  · exact fun k => ⟨fun y hy => k y (List.mem_append_left _ hy), k _ (List.mem_append_right _ (List.mem_singleton.2 rfl))⟩
  · rintro ⟨k1, k2⟩ y hy
    rcases List.mem_append.1 hy with hy | hy
    · exact k1 y hy
    · rw [List.mem_singleton.1 hy]; exact k2
/-- A box stays as it is. -/
theorem bx_keep {lo wb : Nat} {W w : World} {cs : Array Value} {t : TypeId} (hlt : wb < W.heap.size) (ht : t ≠ 121) (hw : BkR lo wb (W.alloc (.cells cs t)) w) : ∀ j, w.cell? ⟨W.heap.size, j, none⟩ = cs[j]? := fun j => by
  have h0 := heap_alloc_new W (.cells cs t)
  have h1 := (hw.kt W.heap.size _ _ _ (by omega) h0 ht).trans h0
  exact cell_of_row _ _ j _ _ _ h1

end Go.Proofs.Ytjgkjdalnjlefaa.V


namespace Go.Proofs.Ytjgkjdalnjlefaa.V
open Go.RowKit

set_option maxRecDepth 8000 in
set_option maxHeartbeats 4000000 in
theorem rline_any (lo wb : Nat) (l : Ln) (a : Option Addr) (c : Nat) (W : World) {X : World} {P0 x : List Pc} {cnt : Nat} {ok : Prop} (h : RA lo wb X P0 x cnt ok W) (hm : ∀ y ∈ l.cls, pn y.guard.args ≤ 1000000 ∧ pn y.body.args ≤ 1000000) (hcl : l.cls.length ≤ 10000000) (hl : P0.length + cnt + nLn l ≤ 1000000000) (hR : RowR eC W (fun b => b < lo) l.cls a) : Calls Try.prog 54 #[.pointer (some ⟨wb, 0, none⟩), .agg #[.string ⟨l.name.toArray⟩, .bool l.input, .bool l.must, .int .i64 l.type, .int .i64 l.opts, .int .i64 l.group, .slice a l.cls.length c]] W (RaP lo wb X P0 (x ++ pcLn l) (cnt + nLn l) (ok ∧ okL l) W) := by
  have hwl := h.lt
  have hlo := h.le
  have hA := h.alloc (.cells #[.string ⟨l.name.toArray⟩, .bool l.input, .bool l.must, .int .i64 l.type, .int .i64 l.opts, .int .i64 l.group, .slice a l.cls.length c] 80)
  have hBA : BkR lo wb W (W.alloc (.cells #[.string ⟨l.name.toArray⟩, .bool l.input, .bool l.must, .int .i64 l.type, .int .i64 l.opts, .int .i64 l.group, .slice a l.cls.length c] 80)) := BkR.alloc W h.le _
  clear h
  go_enter Try.func54, Try.ntmps54
  have hc0 := hA.text l.name (by unfold nLn at hl; omega)
  go_wp2_with (go_at_call 55; fail)
  refine hc0.mono ?_
  rintro e v0 ⟨rfl, k0, q0⟩
  have p0 := q0
  clear hc0 q0
  have o0 : v0.cell? ⟨W.heap.size, 0, none⟩ = some (.string ⟨l.name.toArray⟩) := bx_keep hwl (by decide) p0 0
  have o1 : v0.cell? ⟨W.heap.size, 1, none⟩ = some (.bool l.input) := bx_keep hwl (by decide) p0 1
  have o2 : v0.cell? ⟨W.heap.size, 2, none⟩ = some (.bool l.must) := bx_keep hwl (by decide) p0 2
  have o3 : v0.cell? ⟨W.heap.size, 3, none⟩ = some (.int .i64 l.type) := bx_keep hwl (by decide) p0 3
  have o4 : v0.cell? ⟨W.heap.size, 4, none⟩ = some (.int .i64 l.opts) := bx_keep hwl (by decide) p0 4
  have o5 : v0.cell? ⟨W.heap.size, 5, none⟩ = some (.int .i64 l.group) := bx_keep hwl (by decide) p0 5
  have o6 : v0.cell? ⟨W.heap.size, 6, none⟩ = some (.slice a l.cls.length c) := bx_keep hwl (by decide) p0 6
  have hc1 := k0.flag l.input (by unfold nLn at hl; omega)
  go_wp2_with (go_at_call 56; fail)
  refine hc1.mono ?_
  rintro e v1 ⟨rfl, k1, q1⟩
  have p1 := p0.trans q1
  clear hc1 o0 o1 o2 o3 o4 o5 o6 q1 p0
  have o0 : v1.cell? ⟨W.heap.size, 0, none⟩ = some (.string ⟨l.name.toArray⟩) := bx_keep hwl (by decide) p1 0
  have o1 : v1.cell? ⟨W.heap.size, 1, none⟩ = some (.bool l.input) := bx_keep hwl (by decide) p1 1
  have o2 : v1.cell? ⟨W.heap.size, 2, none⟩ = some (.bool l.must) := bx_keep hwl (by decide) p1 2
  have o3 : v1.cell? ⟨W.heap.size, 3, none⟩ = some (.int .i64 l.type) := bx_keep hwl (by decide) p1 3
  have o4 : v1.cell? ⟨W.heap.size, 4, none⟩ = some (.int .i64 l.opts) := bx_keep hwl (by decide) p1 4
  have o5 : v1.cell? ⟨W.heap.size, 5, none⟩ = some (.int .i64 l.group) := bx_keep hwl (by decide) p1 5
  have o6 : v1.cell? ⟨W.heap.size, 6, none⟩ = some (.slice a l.cls.length c) := bx_keep hwl (by decide) p1 6
  have hc2 := k1.flag l.must (by unfold nLn at hl; omega)
  go_wp2_with (go_at_call 56; fail)
  refine hc2.mono ?_
  rintro e v2 ⟨rfl, k2, q2⟩
  have p2 := p1.trans q2
  clear hc2 o0 o1 o2 o3 o4 o5 o6 q2 p1
  have o0 : v2.cell? ⟨W.heap.size, 0, none⟩ = some (.string ⟨l.name.toArray⟩) := bx_keep hwl (by decide) p2 0
  have o1 : v2.cell? ⟨W.heap.size, 1, none⟩ = some (.bool l.input) := bx_keep hwl (by decide) p2 1
  have o2 : v2.cell? ⟨W.heap.size, 2, none⟩ = some (.bool l.must) := bx_keep hwl (by decide) p2 2
  have o3 : v2.cell? ⟨W.heap.size, 3, none⟩ = some (.int .i64 l.type) := bx_keep hwl (by decide) p2 3
  have o4 : v2.cell? ⟨W.heap.size, 4, none⟩ = some (.int .i64 l.opts) := bx_keep hwl (by decide) p2 4
  have o5 : v2.cell? ⟨W.heap.size, 5, none⟩ = some (.int .i64 l.group) := bx_keep hwl (by decide) p2 5
  have o6 : v2.cell? ⟨W.heap.size, 6, none⟩ = some (.slice a l.cls.length c) := bx_keep hwl (by decide) p2 6
  have hc3 := k2.int l.type (by unfold nLn at hl; omega)
  go_wp2_with (go_at_call 57; fail)
  refine hc3.mono ?_
  rintro e v3 ⟨rfl, k3, q3⟩
  have p3 := p2.trans q3
  clear hc3 o0 o1 o2 o3 o4 o5 o6 q3 p2
  have o0 : v3.cell? ⟨W.heap.size, 0, none⟩ = some (.string ⟨l.name.toArray⟩) := bx_keep hwl (by decide) p3 0
  have o1 : v3.cell? ⟨W.heap.size, 1, none⟩ = some (.bool l.input) := bx_keep hwl (by decide) p3 1
  have o2 : v3.cell? ⟨W.heap.size, 2, none⟩ = some (.bool l.must) := bx_keep hwl (by decide) p3 2
  have o3 : v3.cell? ⟨W.heap.size, 3, none⟩ = some (.int .i64 l.type) := bx_keep hwl (by decide) p3 3
  have o4 : v3.cell? ⟨W.heap.size, 4, none⟩ = some (.int .i64 l.opts) := bx_keep hwl (by decide) p3 4
  have o5 : v3.cell? ⟨W.heap.size, 5, none⟩ = some (.int .i64 l.group) := bx_keep hwl (by decide) p3 5
  have o6 : v3.cell? ⟨W.heap.size, 6, none⟩ = some (.slice a l.cls.length c) := bx_keep hwl (by decide) p3 6
  have hc4 := k3.int l.opts (by unfold nLn at hl; omega)
  go_wp2_with (go_at_call 57; fail)
  refine hc4.mono ?_
  rintro e v4 ⟨rfl, k4, q4⟩
  have p4 := p3.trans q4
  clear hc4 o0 o1 o2 o3 o4 o5 o6 q4 p3
  have o0 : v4.cell? ⟨W.heap.size, 0, none⟩ = some (.string ⟨l.name.toArray⟩) := bx_keep hwl (by decide) p4 0
  have o1 : v4.cell? ⟨W.heap.size, 1, none⟩ = some (.bool l.input) := bx_keep hwl (by decide) p4 1
  have o2 : v4.cell? ⟨W.heap.size, 2, none⟩ = some (.bool l.must) := bx_keep hwl (by decide) p4 2
  have o3 : v4.cell? ⟨W.heap.size, 3, none⟩ = some (.int .i64 l.type) := bx_keep hwl (by decide) p4 3
  have o4 : v4.cell? ⟨W.heap.size, 4, none⟩ = some (.int .i64 l.opts) := bx_keep hwl (by decide) p4 4
  have o5 : v4.cell? ⟨W.heap.size, 5, none⟩ = some (.int .i64 l.group) := bx_keep hwl (by decide) p4 5
  have o6 : v4.cell? ⟨W.heap.size, 6, none⟩ = some (.slice a l.cls.length c) := bx_keep hwl (by decide) p4 6
  have hc5 := k4.int l.group (by unfold nLn at hl; omega)
  go_wp2_with (go_at_call 57; fail)
  refine hc5.mono ?_
  rintro e v5 ⟨rfl, k5, q5⟩
  have p5 := p4.trans q5
  clear hc5 o0 o1 o2 o3 o4 o5 o6 q5 p4
  have o0 : v5.cell? ⟨W.heap.size, 0, none⟩ = some (.string ⟨l.name.toArray⟩) := bx_keep hwl (by decide) p5 0
  have o1 : v5.cell? ⟨W.heap.size, 1, none⟩ = some (.bool l.input) := bx_keep hwl (by decide) p5 1
  have o2 : v5.cell? ⟨W.heap.size, 2, none⟩ = some (.bool l.must) := bx_keep hwl (by decide) p5 2
  have o3 : v5.cell? ⟨W.heap.size, 3, none⟩ = some (.int .i64 l.type) := bx_keep hwl (by decide) p5 3
  have o4 : v5.cell? ⟨W.heap.size, 4, none⟩ = some (.int .i64 l.opts) := bx_keep hwl (by decide) p5 4
  have o5 : v5.cell? ⟨W.heap.size, 5, none⟩ = some (.int .i64 l.group) := bx_keep hwl (by decide) p5 5
  have o6 : v5.cell? ⟨W.heap.size, 6, none⟩ = some (.slice a l.cls.length c) := bx_keep hwl (by decide) p5 6
  have hc6 := k5.num (l.cls.length : Int) (by unfold nLn at hl; omega)
  go_wp2_with (go_at_call 53; fail)
  refine hc6.mono ?_
  rintro e v6 ⟨rfl, k6, q6⟩
  have p6 := p5.trans q6
  clear hc6 o0 o1 o2 o3 o4 o5 o6 q6 p5
  have o0 : v6.cell? ⟨W.heap.size, 0, none⟩ = some (.string ⟨l.name.toArray⟩) := bx_keep hwl (by decide) p6 0
  have o1 : v6.cell? ⟨W.heap.size, 1, none⟩ = some (.bool l.input) := bx_keep hwl (by decide) p6 1
  have o2 : v6.cell? ⟨W.heap.size, 2, none⟩ = some (.bool l.must) := bx_keep hwl (by decide) p6 2
  have o3 : v6.cell? ⟨W.heap.size, 3, none⟩ = some (.int .i64 l.type) := bx_keep hwl (by decide) p6 3
  have o4 : v6.cell? ⟨W.heap.size, 4, none⟩ = some (.int .i64 l.opts) := bx_keep hwl (by decide) p6 4
  have o5 : v6.cell? ⟨W.heap.size, 5, none⟩ = some (.int .i64 l.group) := bx_keep hwl (by decide) p6 5
  have o6 : v6.cell? ⟨W.heap.size, 6, none⟩ = some (.slice a l.cls.length c) := bx_keep hwl (by decide) p6 6
  obtain ⟨x7, hx7⟩ : ∃ x7, x7 = x ++ [⟨3, 0, l.name⟩] ++ [fl l.input] ++ [fl l.must] ++ [⟨2, l.type, []⟩] ++ [⟨2, l.opts, []⟩] ++ [⟨2, l.group, []⟩] ++ [⟨1, (l.cls.length : Int), []⟩] := ⟨_, rfl⟩
  replace k6 : RA lo wb X P0 x7 (cnt + 7) ok v6 := k6.cast (by rw [hx7]; rfl) (by omega) Iff.rfl
  have hx7 := Hid.mk hx7
  have hlH := Hid.mk hl
  clear hl hA
  go_wp2_with fail
  go_loopw [4] (fun iv wr => ∃ i : Nat, i ≤ l.cls.length ∧ iv = .int .i64 (i : Int) ∧ RA lo wb X P0 (x7 ++ (l.cls.take i).flatMap pcCl) (cnt + 7 + ((l.cls.take i).map nCl).sum) (ok ∧ ∀ y ∈ l.cls.take i, okC y) wr ∧ BkR lo wb (W.alloc (.cells #[.string ⟨l.name.toArray⟩, .bool l.input, .bool l.must, .int .i64 l.type, .int .i64 l.opts, .int .i64 l.group, .slice a l.cls.length c] 80)) wr) (fun iv _ => l.cls.length - (intOf iv).toNat)
  case atStart => exact ⟨0, Nat.zero_le _, rfl, k6.cast (by simp) (by omega) ⟨fun h => ⟨h, fun y hy => by simp at hy⟩, fun h => h.1⟩, p6⟩
  case round =>
    clear o0 o1 o2 o3 o4 o5 o6 k6 p6
    obtain ⟨i, hi, rfl, hr, hb⟩ := hrel
    have o6 : wr.cell? ⟨W.heap.size, 6, none⟩ = some (.slice a l.cls.length c) := bx_keep hwl (by decide) hb 6
    by_cases hlt : i < l.cls.length
    · have hlt' : (i : Int) < (l.cls.length : Int) := by omega
      have hi0 : (0 : Int) ≤ (i : Int) := by omega
      have hbl := (hBA.trans hb).bl
      have hrw : RowR eC wr (fun b => b < lo) l.cls a := hR.fr hbl.size (fun b hb _ => hbl.block b hb)
      obtain ⟨g, o, hga⟩ := hrw.some hlt
      rw [hga] at hrw o6
      obtain ⟨cs, -, -, hE, hcc⟩ := hrw.item hlt
      have hy := hm _ (List.getElem_mem hlt)
      have s1 := Hid.mk (take_flatR pcCl hlt)
      have s2 := Hid.mk (take_sumR nCl hlt)
      have s3 := Hid.mk (take_allR okC hlt)
      have s4 := Hid.mk (sum_takeR nCl l.cls (i + 1))
      rw [s2.out] at s4
      generalize l.cls[i] = y at *
      obtain ⟨a1, c1, a2, c2, rfl, -, -, hF1, hF2⟩ := hE
      have e0 : wr.cell? ⟨g, o + i * 12, none⟩ = some (.int .i64 y.pri) := hcc 0 (by decide)
      have e1 : wr.cell? ⟨g, o + i * 12 + 1, none⟩ = some (.bool y.guarded) := hcc 1 (by decide)
      have e2 : wr.cell? ⟨g, o + i * 12 + 2, none⟩ = some (.int .i64 y.guard.op) := hcc 2 (by decide)
      have e3 : wr.cell? ⟨g, o + i * 12 + 3, none⟩ = some (.int .i64 y.guard.num) := hcc 3 (by decide)
      have e4 : wr.cell? ⟨g, o + i * 12 + 4, none⟩ = some (.int .i64 y.guard.den) := hcc 4 (by decide)
      have e5 : wr.cell? ⟨g, o + i * 12 + 5, none⟩ = some (.int .i64 y.guard.mode) := hcc 5 (by decide)
      have e6 : wr.cell? ⟨g, o + i * 12 + 6, none⟩ = some (.slice a1 y.guard.args.len c1) := hcc 6 (by decide)
      have e7 : wr.cell? ⟨g, o + i * 12 + 7, none⟩ = some (.int .i64 y.body.op) := hcc 7 (by decide)
      have e8 : wr.cell? ⟨g, o + i * 12 + 8, none⟩ = some (.int .i64 y.body.num) := hcc 8 (by decide)
      have e9 : wr.cell? ⟨g, o + i * 12 + 9, none⟩ = some (.int .i64 y.body.den) := hcc 9 (by decide)
      have e10 : wr.cell? ⟨g, o + i * 12 + 10, none⟩ = some (.int .i64 y.body.mode) := hcc 10 (by decide)
      have e11 : wr.cell? ⟨g, o + i * 12 + 11, none⟩ = some (.slice a2 y.body.args.len c2) := hcc 11 (by decide)
      have hwr := hr.lt
      have hlr := hr.le
      have hr2 := hr.alloc (.cells #[.int .i64 y.pri, .bool y.guarded, .int .i64 y.guard.op, .int .i64 y.guard.num, .int .i64 y.guard.den, .int .i64 y.guard.mode, .slice a1 y.guard.args.len c1, .int .i64 y.body.op, .int .i64 y.body.num, .int .i64 y.body.den, .int .i64 y.body.mode, .slice a2 y.body.args.len c2] 108)
      have hbA : BkR lo wb wr (wr.alloc (.cells #[.int .i64 y.pri, .bool y.guarded, .int .i64 y.guard.op, .int .i64 y.guard.num, .int .i64 y.guard.den, .int .i64 y.guard.mode, .slice a1 y.guard.args.len c1, .int .i64 y.body.op, .int .i64 y.body.num, .int .i64 y.body.den, .int .i64 y.body.mode, .slice a2 y.body.args.len c2] 108)) := BkR.alloc wr hlr _
      have hle : P0.length + (cnt + 7 + ((l.cls.take i).map nCl).sum) + nCl y ≤ 1000000000 := by
        have h1 := hlH.out
        have h2 := s4.out
        unfold nLn at h1
        omega
      have hF1' := FoAt.fr hbA.bl.size (fun b hb _ => hbA.bl.block b hb) _ _ hF1
      have hF2' := FoAt.fr hbA.bl.size (fun b hb _ => hbA.bl.block b hb) _ _ hF2
      clear hcc hrw hbl hr hF1 hF2 hga
      generalize (l.cls.take i).flatMap pcCl = zz at *
      generalize ((l.cls.take i).map nCl).sum = nn at *
      unfold nCl at hle
      have d0 := hr2.int y.pri (by omega)
      go_wp2_with (go_at_call 57; fail)
      refine d0.mono ?_
      rintro e u0 ⟨rfl, j0, n0⟩
      have m0 := n0
      clear d0 n0 o6
      have o0 : u0.cell? ⟨wr.heap.size, 0, none⟩ = some (.int .i64 y.pri) := bx_keep hwr (by decide) m0 0
      have o1 : u0.cell? ⟨wr.heap.size, 1, none⟩ = some (.bool y.guarded) := bx_keep hwr (by decide) m0 1
      have o2 : u0.cell? ⟨wr.heap.size, 2, none⟩ = some (.int .i64 y.guard.op) := bx_keep hwr (by decide) m0 2
      have o3 : u0.cell? ⟨wr.heap.size, 3, none⟩ = some (.int .i64 y.guard.num) := bx_keep hwr (by decide) m0 3
      have o4 : u0.cell? ⟨wr.heap.size, 4, none⟩ = some (.int .i64 y.guard.den) := bx_keep hwr (by decide) m0 4
      have o5 : u0.cell? ⟨wr.heap.size, 5, none⟩ = some (.int .i64 y.guard.mode) := bx_keep hwr (by decide) m0 5
      have o6 : u0.cell? ⟨wr.heap.size, 6, none⟩ = some (.slice a1 y.guard.args.len c1) := bx_keep hwr (by decide) m0 6
      have o7 : u0.cell? ⟨wr.heap.size, 7, none⟩ = some (.int .i64 y.body.op) := bx_keep hwr (by decide) m0 7
      have o8 : u0.cell? ⟨wr.heap.size, 8, none⟩ = some (.int .i64 y.body.num) := bx_keep hwr (by decide) m0 8
      have o9 : u0.cell? ⟨wr.heap.size, 9, none⟩ = some (.int .i64 y.body.den) := bx_keep hwr (by decide) m0 9
      have o10 : u0.cell? ⟨wr.heap.size, 10, none⟩ = some (.int .i64 y.body.mode) := bx_keep hwr (by decide) m0 10
      have o11 : u0.cell? ⟨wr.heap.size, 11, none⟩ = some (.slice a2 y.body.args.len c2) := bx_keep hwr (by decide) m0 11
      have d1 := j0.flag y.guarded (by omega)
      go_wp2_with (go_at_call 56; fail)
      refine d1.mono ?_
      rintro e u1 ⟨rfl, j1, n1⟩
      have m1 := m0.trans n1
      clear d1 n1 o0 o1 o2 o3 o4 o5 o6 o7 o8 o9 o10 o11
      clear m0
      have o0 : u1.cell? ⟨wr.heap.size, 0, none⟩ = some (.int .i64 y.pri) := bx_keep hwr (by decide) m1 0
      have o1 : u1.cell? ⟨wr.heap.size, 1, none⟩ = some (.bool y.guarded) := bx_keep hwr (by decide) m1 1
      have o2 : u1.cell? ⟨wr.heap.size, 2, none⟩ = some (.int .i64 y.guard.op) := bx_keep hwr (by decide) m1 2
      have o3 : u1.cell? ⟨wr.heap.size, 3, none⟩ = some (.int .i64 y.guard.num) := bx_keep hwr (by decide) m1 3
      have o4 : u1.cell? ⟨wr.heap.size, 4, none⟩ = some (.int .i64 y.guard.den) := bx_keep hwr (by decide) m1 4
      have o5 : u1.cell? ⟨wr.heap.size, 5, none⟩ = some (.int .i64 y.guard.mode) := bx_keep hwr (by decide) m1 5
      have o6 : u1.cell? ⟨wr.heap.size, 6, none⟩ = some (.slice a1 y.guard.args.len c1) := bx_keep hwr (by decide) m1 6
      have o7 : u1.cell? ⟨wr.heap.size, 7, none⟩ = some (.int .i64 y.body.op) := bx_keep hwr (by decide) m1 7
      have o8 : u1.cell? ⟨wr.heap.size, 8, none⟩ = some (.int .i64 y.body.num) := bx_keep hwr (by decide) m1 8
      have o9 : u1.cell? ⟨wr.heap.size, 9, none⟩ = some (.int .i64 y.body.den) := bx_keep hwr (by decide) m1 9
      have o10 : u1.cell? ⟨wr.heap.size, 10, none⟩ = some (.int .i64 y.body.mode) := bx_keep hwr (by decide) m1 10
      have o11 : u1.cell? ⟨wr.heap.size, 11, none⟩ = some (.slice a2 y.body.args.len c2) := bx_keep hwr (by decide) m1 11
      have d2 := j1.expr y.guard a1 c1 hy.1 (by omega) (FoAt.fr m1.bl.size (fun b hb _ => m1.bl.block b hb) _ _ hF1')
      go_wp2_with (go_at_call 58; fail)
      refine d2.mono ?_
      rintro e u2 ⟨rfl, j2, n2⟩
      have m2 := m1.trans n2
      clear d2 n2 o0 o1 o2 o3 o4 o5 o6 o7 o8 o9 o10 o11
      clear m1
      have o0 : u2.cell? ⟨wr.heap.size, 0, none⟩ = some (.int .i64 y.pri) := bx_keep hwr (by decide) m2 0
      have o1 : u2.cell? ⟨wr.heap.size, 1, none⟩ = some (.bool y.guarded) := bx_keep hwr (by decide) m2 1
      have o2 : u2.cell? ⟨wr.heap.size, 2, none⟩ = some (.int .i64 y.guard.op) := bx_keep hwr (by decide) m2 2
      have o3 : u2.cell? ⟨wr.heap.size, 3, none⟩ = some (.int .i64 y.guard.num) := bx_keep hwr (by decide) m2 3
      have o4 : u2.cell? ⟨wr.heap.size, 4, none⟩ = some (.int .i64 y.guard.den) := bx_keep hwr (by decide) m2 4
      have o5 : u2.cell? ⟨wr.heap.size, 5, none⟩ = some (.int .i64 y.guard.mode) := bx_keep hwr (by decide) m2 5
      have o6 : u2.cell? ⟨wr.heap.size, 6, none⟩ = some (.slice a1 y.guard.args.len c1) := bx_keep hwr (by decide) m2 6
      have o7 : u2.cell? ⟨wr.heap.size, 7, none⟩ = some (.int .i64 y.body.op) := bx_keep hwr (by decide) m2 7
      have o8 : u2.cell? ⟨wr.heap.size, 8, none⟩ = some (.int .i64 y.body.num) := bx_keep hwr (by decide) m2 8
      have o9 : u2.cell? ⟨wr.heap.size, 9, none⟩ = some (.int .i64 y.body.den) := bx_keep hwr (by decide) m2 9
      have o10 : u2.cell? ⟨wr.heap.size, 10, none⟩ = some (.int .i64 y.body.mode) := bx_keep hwr (by decide) m2 10
      have o11 : u2.cell? ⟨wr.heap.size, 11, none⟩ = some (.slice a2 y.body.args.len c2) := bx_keep hwr (by decide) m2 11
      have d3 := j2.expr y.body a2 c2 hy.2 (by omega) (FoAt.fr m2.bl.size (fun b hb _ => m2.bl.block b hb) _ _ hF2')
      go_wp2_with (go_at_call 58; fail)
      refine d3.mono ?_
      rintro e u3 ⟨rfl, j3, n3⟩
      have m3 := m2.trans n3
      clear d3 n3 o0 o1 o2 o3 o4 o5 o6 o7 o8 o9 o10 o11
      clear m2
      have o0 : u3.cell? ⟨wr.heap.size, 0, none⟩ = some (.int .i64 y.pri) := bx_keep hwr (by decide) m3 0
      have o1 : u3.cell? ⟨wr.heap.size, 1, none⟩ = some (.bool y.guarded) := bx_keep hwr (by decide) m3 1
      have o2 : u3.cell? ⟨wr.heap.size, 2, none⟩ = some (.int .i64 y.guard.op) := bx_keep hwr (by decide) m3 2
      have o3 : u3.cell? ⟨wr.heap.size, 3, none⟩ = some (.int .i64 y.guard.num) := bx_keep hwr (by decide) m3 3
      have o4 : u3.cell? ⟨wr.heap.size, 4, none⟩ = some (.int .i64 y.guard.den) := bx_keep hwr (by decide) m3 4
      have o5 : u3.cell? ⟨wr.heap.size, 5, none⟩ = some (.int .i64 y.guard.mode) := bx_keep hwr (by decide) m3 5
      have o6 : u3.cell? ⟨wr.heap.size, 6, none⟩ = some (.slice a1 y.guard.args.len c1) := bx_keep hwr (by decide) m3 6
      have o7 : u3.cell? ⟨wr.heap.size, 7, none⟩ = some (.int .i64 y.body.op) := bx_keep hwr (by decide) m3 7
      have o8 : u3.cell? ⟨wr.heap.size, 8, none⟩ = some (.int .i64 y.body.num) := bx_keep hwr (by decide) m3 8
      have o9 : u3.cell? ⟨wr.heap.size, 9, none⟩ = some (.int .i64 y.body.den) := bx_keep hwr (by decide) m3 9
      have o10 : u3.cell? ⟨wr.heap.size, 10, none⟩ = some (.int .i64 y.body.mode) := bx_keep hwr (by decide) m3 10
      have o11 : u3.cell? ⟨wr.heap.size, 11, none⟩ = some (.slice a2 y.body.args.len c2) := bx_keep hwr (by decide) m3 11
      have hfin := ((j3.cast (x' := x7 ++ (l.cls.take (i + 1)).flatMap pcCl) (cnt' := cnt + 7 + ((l.cls.take (i + 1)).map nCl).sum) (ok' := ok ∧ ∀ y ∈ l.cls.take (i + 1), okC y) (by rw [s1.out, pcCl]; simp only [List.append_assoc]; rfl) (by rw [s2.out]; unfold nCl; omega) (by rw [s3.out]; unfold okC; simp only [and_assoc])))
      have hfb := hb.trans (hbA.trans m3)
      have hfin := Hid.mk hfin
      clear j3 m3 o0 o1 o2 o3 o4 o5 o6 o7 o8 o9 o10 o11 e0 e1 e2 e3 e4 e5 e6 e7 e8 e9 e10 e11
      go_wp2
      go_roundw
      case rel => exact ⟨i + 1, by omega, by go_num, hfin.out, hfb⟩
      case measure => simp [intOf]; omega
    · have hlt' : ¬ (i : Int) < (l.cls.length : Int) := by omega
      obtain rfl : i = l.cls.length := by omega
      have hfin : RaP lo wb X P0 (x ++ pcLn l) (cnt + nLn l) (ok ∧ okL l) W (.returned (.tuple #[])) wr := ⟨rfl, hr.cast (by rw [List.take_length, hx7.out, pcLn]; simp only [List.append_assoc]) (by rw [List.take_length]; unfold nLn; omega) (by rw [List.take_length]; rfl), hBA.trans hb⟩
      clear hr hb
      go_wp2
      exact bodyPost_end (v := .tuple #[]) (by simp [results, Try.results54, go_sem]) rfl hfin

end Go.Proofs.Ytjgkjdalnjlefaa.V


namespace Go.Proofs.Ytjgkjdalnjlefaa.V
open Go.RowKit

def pcH (p : Pk) : List Pc := [⟨3, 0, p.name⟩] ++ [⟨2, p.year, []⟩] ++ [⟨1, (p.opts.length : Int), []⟩] ++ p.opts.flatMap pcO ++ [⟨1, (p.tabs.length : Int), []⟩] ++ p.tabs.flatMap pcT ++ [⟨1, (p.grps.length : Int), []⟩] ++ p.grps.flatMap pcG
def nH (p : Pk) : Nat := 5 + (p.opts.map nO).sum + (p.tabs.map nT).sum + (p.grps.map (fun _ => 2)).sum
structure SzH (p : Pk) : Prop where
  o1 : p.opts.length ≤ 10000000
  o2 : ∀ y ∈ p.opts, y.2.length ≤ 10000000
  t1 : p.tabs.length ≤ 10000000
  t2 : ∀ y ∈ p.tabs, y.2.length ≤ 10000000
  g1 : p.grps.length ≤ 10000000
theorem bk_cell {lo wb : Nat} {W w : World} (h : BkR lo wb W w) {g : Nat} (hg : g < lo) (i : Nat) : w.cell? ⟨g, i, none⟩ = W.cell? ⟨g, i, none⟩ := World.cell?_of_block (h.bl.block g hg)

set_option maxRecDepth 8000 in
set_option maxHeartbeats 4000000 in
theorem rheads_any (lo wb : Nat) (p : Pk) (a3 a4 a5 a6 a7 : Option Addr) (c3 c4 c5 c6 c7 : Nat) (W : World) {X : World} {P0 x : List Pc} {cnt : Nat} {ok : Prop} (h : RA lo wb X P0 x cnt ok W) (hz : SzH p) (hl : P0.length + cnt + nH p ≤ 1000000000) (hR3 : RowR eO W (fun b => b < lo) p.opts a3) (hR4 : RowR eT W (fun b => b < lo) p.tabs a4) (hR5 : RowR eG W (fun b => b < lo) p.grps a5) : Calls Try.prog 52 #[.pointer (some ⟨wb, 0, none⟩), .agg #[.string ⟨p.name.toArray⟩, .int .i64 p.year, .slice a3 p.opts.length c3, .slice a4 p.tabs.length c4, .slice a5 p.grps.length c5, .slice a6 p.lns.length c6, .slice a7 p.cks.length c7]] W (RaP lo wb X P0 (x ++ pcH p) (cnt + nH p) ok W) := by
  have hwl := h.lt
  have hlo := h.le
  have hA := h.alloc (.cells #[.string ⟨p.name.toArray⟩, .int .i64 p.year, .slice a3 p.opts.length c3, .slice a4 p.tabs.length c4, .slice a5 p.grps.length c5, .slice a6 p.lns.length c6, .slice a7 p.cks.length c7] 29)
  have hBA : BkR lo wb W (W.alloc (.cells #[.string ⟨p.name.toArray⟩, .int .i64 p.year, .slice a3 p.opts.length c3, .slice a4 p.tabs.length c4, .slice a5 p.grps.length c5, .slice a6 p.lns.length c6, .slice a7 p.cks.length c7] 29)) := BkR.alloc W h.le _
  have hzo := hz.o1
  have hzt := hz.t1
  have hzg := hz.g1
  have hzH := Hid.mk hz
  obtain ⟨sO, hsO⟩ : ∃ s, s = (p.opts.map nO).sum := ⟨_, rfl⟩
  obtain ⟨sT, hsT⟩ : ∃ s, s = (p.tabs.map nT).sum := ⟨_, rfl⟩
  obtain ⟨sG, hsG⟩ : ∃ s, s = (p.grps.map (fun _ => 2)).sum := ⟨_, rfl⟩
  have hnH : Hid (nH p = 5 + sO + sT + sG) := ⟨by rw [hsO, hsT, hsG, nH]⟩
  have hl' : P0.length + cnt + (5 + sO + sT + sG) ≤ 1000000000 := by rw [← hnH.out]; exact hl
  replace hsO := Hid.mk hsO
  replace hsT := Hid.mk hsT
  replace hsG := Hid.mk hsG
  clear h hz hl
  go_enter Try.func52, Try.ntmps52
  have hc0 := hA.text p.name (by omega)
  go_wp2_with (go_at_call 55; fail)
  refine hc0.mono ?_
  rintro e v0 ⟨rfl, k0, q0⟩
  have p0 := q0
  clear hc0 q0
  have o1 : v0.cell? ⟨W.heap.size, 1, none⟩ = some (.int .i64 p.year) := bx_keep hwl (by decide) p0 1
  have hc1 := k0.int p.year (by omega)
  go_wp2_with (go_at_call 57; fail)
  refine hc1.mono ?_
  rintro e v1 ⟨rfl, k1, q1⟩
  have p1 := p0.trans q1
  clear hc1 q1
  clear o1 k0 p0
  have o2 : v1.cell? ⟨W.heap.size, 2, none⟩ = some (.slice a3 p.opts.length c3) := bx_keep hwl (by decide) p1 2
  have hc2 := k1.num (p.opts.length : Int) (by omega)
  go_wp2_with (go_at_call 53; fail)
  refine hc2.mono ?_
  rintro e v2 ⟨rfl, k2, q2⟩
  have p2 := p1.trans q2
  clear hc2 q2
  clear o2 k1 p1 hA
  have o2 : v2.cell? ⟨W.heap.size, 2, none⟩ = some (.slice a3 p.opts.length c3) := bx_keep hwl (by decide) p2 2
  obtain ⟨x1, hx1⟩ : ∃ x1, x1 = x ++ [⟨3, 0, p.name⟩] ++ [⟨2, p.year, []⟩] ++ [⟨1, (p.opts.length : Int), []⟩] := ⟨_, rfl⟩
  replace k2 : RA lo wb X P0 x1 (cnt + 3) ok v2 := k2.cast (by rw [hx1]) (by omega) Iff.rfl
  replace hx1 := Hid.mk hx1
  go_wp2_with fail
  go_loopw [4] (fun iv wr => ∃ i : Nat, i ≤ p.opts.length ∧ iv = .int .i64 (i : Int) ∧ RA lo wb X P0 (x1 ++ (p.opts.take i).flatMap pcO) ((cnt + 3) + ((p.opts.take i).map nO).sum) ok wr ∧ BkR lo wb (W.alloc (.cells #[.string ⟨p.name.toArray⟩, .int .i64 p.year, .slice a3 p.opts.length c3, .slice a4 p.tabs.length c4, .slice a5 p.grps.length c5, .slice a6 p.lns.length c6, .slice a7 p.cks.length c7] 29)) wr) (fun iv _ => p.opts.length - (intOf iv).toNat)
  case atStart => exact ⟨0, Nat.zero_le _, rfl, k2.cast (by simp) (by omega) Iff.rfl, p2⟩
  case round =>
    clear o2 k2 p2
    obtain ⟨i, hi, rfl, hr, hb⟩ := hrel
    have o2 : wr.cell? ⟨W.heap.size, 2, none⟩ = some (.slice a3 p.opts.length c3) := bx_keep hwl (by decide) hb 2
    by_cases hlt : i < p.opts.length
    · have hlt' : (i : Int) < (p.opts.length : Int) := by omega
      have hi0 : (0 : Int) ≤ (i : Int) := by omega
      have hbl := (hBA.trans hb).bl
      have hrw : RowR eO wr (fun b => b < lo) p.opts a3 := hR3.fr hbl.size (fun b hb _ => hbl.block b hb)
      obtain ⟨g, oo, hga⟩ := hrw.some hlt
      rw [hga] at hrw o2
      obtain ⟨cs, -, hS, hE, hcc⟩ := hrw.item hlt
      have s1 := Hid.mk (take_flatR pcO hlt)
      have s2 := Hid.mk (take_sumR nO hlt)
      have s4 := sum_takeR nO p.opts (i + 1)
      rw [s2.out, ← hsO.out] at s4
      have hym : p.opts[i] ∈ p.opts := List.getElem_mem hlt
      have hyn : p.opts[i].2.length ≤ 10000000 := hzH.out.o2 _ hym
      generalize p.opts[i] = y at *
      clear hym
      obtain ⟨a1, c1, rfl, hRi⟩ := hE
      have e0 : wr.cell? ⟨g, oo + i * 2, none⟩ = some (.string ⟨y.1.toArray⟩) := hcc 0 (by decide)
      have e1 : wr.cell? ⟨g, oo + i * 2 + 1, none⟩ = some (.slice a1 y.2.length c1) := hcc 1 (by decide)
      obtain ⟨w0, rfl⟩ : ∃ w0, w0 = wr := ⟨_, rfl⟩
      have hF : Hid (∀ w, BkR lo wb w0 w → w.cell? ⟨W.heap.size, 2, none⟩ = some (.slice (some ⟨g, oo, none⟩) p.opts.length c3) ∧ w.cell? ⟨g, oo + i * 2, none⟩ = some (.string ⟨y.1.toArray⟩) ∧ w.cell? ⟨g, oo + i * 2 + 1, none⟩ = some (.slice a1 y.2.length c1)) := ⟨fun w hw => ⟨by rw [← hga]; exact bx_keep hwl (by decide) (hb.trans hw) 2, (bk_cell hw hS _).trans e0, (bk_cell hw hS _).trans e1⟩⟩
      generalize hzz : (p.opts.take i).flatMap pcO = zz at *
      generalize hnn : ((p.opts.take i).map nO).sum = nn at *
      clear hzz hnn
      unfold nO at s4
      replace hga := Hid.mk hga
      clear hcc hrw hbl
      have hc10 := hr.text y.1 (by omega)
      go_wp2_with (go_at_call 55; fail)
      refine hc10.mono ?_
      rintro e v10 ⟨rfl, k10, q10⟩
      have p10 := q10
      clear hc10 q10
      clear o2 e0 e1 hr
      obtain ⟨o2, e0, e1⟩ := hF.out v10 p10
      have hc11 := k10.num (y.2.length : Int) (by omega)
      go_wp2_with (go_at_call 53; fail)
      refine hc11.mono ?_
      rintro e v11 ⟨rfl, k11, q11⟩
      have p11 := p10.trans q11
      clear hc11 q11
      clear o2 e0 e1 k10 p10
      obtain ⟨o2, e0, e1⟩ := hF.out v11 p11
      obtain ⟨x3, hx3⟩ : ∃ x3, x3 = x1 ++ zz ++ [⟨3, 0, y.1⟩] ++ [⟨1, (y.2.length : Int), []⟩] := ⟨_, rfl⟩
      replace k11 : RA lo wb X P0 x3 ((cnt + 3) + nn + 2) ok v11 := k11.cast (by rw [hx3]) (by omega) Iff.rfl
      replace hx3 := Hid.mk hx3
      go_wp2_with fail
      go_loopw [5] (fun kv wr => ∃ k : Nat, k ≤ y.2.length ∧ kv = .int .i64 (k : Int) ∧ RA lo wb X P0 (x3 ++ (y.2.take k).flatMap (fun s => [(⟨3, 0, s⟩ : Pc)])) ((cnt + 3) + nn + 2 + 1 * k) ok wr ∧ BkR lo wb w0 wr) (fun kv _ => y.2.length - (intOf kv).toNat)
      case atStart => exact ⟨0, Nat.zero_le _, rfl, k11.cast (by simp) (by omega) Iff.rfl, p11⟩
      case round =>
        clear o2 e0 e1 k11 p11
        obtain ⟨k, hk, rfl, hr, hb2⟩ := hrel
        obtain ⟨o2, e0, e1⟩ := hF.out wr hb2
        by_cases hlk : k < y.2.length
        · have hlk' : (k : Int) < (y.2.length : Int) := by omega
          have hk0 : (0 : Int) ≤ (k : Int) := by omega
          have hrw : RowR eS wr (fun b => b < lo) y.2 a1 := hRi.fr hb2.bl.size (fun b hb _ => hb2.bl.block b hb)
          obtain ⟨g2, o2', hga2⟩ := hrw.some hlk
          rw [hga2] at hrw e1
          replace hga2 := Hid.mk hga2
          obtain ⟨cs2, -, hS2, hE2, hcc2⟩ := hrw.item hlk
          have z1 := Hid.mk (take_flatR (fun s => [(⟨3, 0, s⟩ : Pc)]) hlk)
          generalize y.2[k] = s at *
          obtain rfl := hE2
          have f0 : wr.cell? ⟨g2, o2' + k, none⟩ = some (.string ⟨s.toArray⟩) := by have h := hcc2 0 (by decide); simpa [eS] using h
          clear hcc2 hrw
          generalize (y.2.take k).flatMap (fun s => [(⟨3, 0, s⟩ : Pc)]) = yy at *
          have hc12 := hr.text s (by omega)
          go_wp2_with (go_at_call 55; fail)
          refine hc12.mono ?_
          rintro e v12 ⟨rfl, k12, q12⟩
          have p12 := hb2.trans q12
          clear hc12 q12
          clear o2 e0 e1 f0 hr
          have hfi := Hid.mk (k12.cast (x' := x3 ++ (y.2.take (k + 1)).flatMap (fun s => [(⟨3, 0, s⟩ : Pc)])) (cnt' := (cnt + 3) + nn + 2 + 1 * (k + 1)) (ok' := ok) (by rw [z1.out]; simp only [List.append_assoc]) (by omega) Iff.rfl)
          have hfj := p12
          clear k12 p12
          go_wp2
          go_roundw
          case rel => exact ⟨k + 1, by omega, by go_num, hfi.out, hfj⟩
          case measure => simp [intOf]; omega
        · have hlk' : ¬ (k : Int) < (y.2.length : Int) := by omega
          obtain rfl : k = y.2.length := by omega
          rw [List.take_length] at hr
          have hfin := Hid.mk (hr.cast (x' := x1 ++ (p.opts.take (i + 1)).flatMap pcO) (cnt' := (cnt + 3) + ((p.opts.take (i + 1)).map nO).sum) (ok' := ok) (by rw [s1.out, hx3.out, pcO]; simp only [List.append_assoc]) (by rw [s2.out]; unfold nO; omega) Iff.rfl)
          have hfb := hb.trans hb2
          clear hr hb2 hb
          go_wp2
          go_roundw
          case rel => exact ⟨i + 1, by omega, by go_num, hfin.out, hfb⟩
          case measure => simp [intOf]; omega
    · have hlt' : ¬ (i : Int) < (p.opts.length : Int) := by omega
      obtain rfl : i = p.opts.length := by omega
      rw [List.take_length, ← hsO.out] at hr
      have o3 : wr.cell? ⟨W.heap.size, 3, none⟩ = some (.slice a4 p.tabs.length c4) := bx_keep hwl (by decide) hb 3
      have hc3 := hr.num (p.tabs.length : Int) (by omega)
      go_wp2_with (go_at_call 53; fail)
      refine hc3.mono ?_
      rintro e v3 ⟨rfl, k3, q3⟩
      have p3 := hb.trans q3
      clear hc3 q3
      clear o2 o3 hr hb
      have o3 : v3.cell? ⟨W.heap.size, 3, none⟩ = some (.slice a4 p.tabs.length c4) := bx_keep hwl (by decide) p3 3
      obtain ⟨x2, hx2⟩ : ∃ x2, x2 = x1 ++ p.opts.flatMap pcO ++ [⟨1, (p.tabs.length : Int), []⟩] := ⟨_, rfl⟩
      replace k3 : RA lo wb X P0 x2 (cnt + 4 + sO) ok v3 := k3.cast (by rw [hx2]) (by omega) Iff.rfl
      replace hx2 := Hid.mk hx2
      go_wp2_with fail
      go_loopw [6] (fun iv wr => ∃ i : Nat, i ≤ p.tabs.length ∧ iv = .int .i64 (i : Int) ∧ RA lo wb X P0 (x2 ++ (p.tabs.take i).flatMap pcT) ((cnt + 4 + sO) + ((p.tabs.take i).map nT).sum) ok wr ∧ BkR lo wb (W.alloc (.cells #[.string ⟨p.name.toArray⟩, .int .i64 p.year, .slice a3 p.opts.length c3, .slice a4 p.tabs.length c4, .slice a5 p.grps.length c5, .slice a6 p.lns.length c6, .slice a7 p.cks.length c7] 29)) wr) (fun iv _ => p.tabs.length - (intOf iv).toNat)
      case atStart => exact ⟨0, Nat.zero_le _, rfl, k3.cast (by simp) (by omega) Iff.rfl, p3⟩
      case round =>
        clear o3 k3 p3
        obtain ⟨i, hi, rfl, hr, hb⟩ := hrel
        have o3 : wr.cell? ⟨W.heap.size, 3, none⟩ = some (.slice a4 p.tabs.length c4) := bx_keep hwl (by decide) hb 3
        by_cases hlt : i < p.tabs.length
        · have hlt' : (i : Int) < (p.tabs.length : Int) := by omega
          have hi0 : (0 : Int) ≤ (i : Int) := by omega
          have hbl := (hBA.trans hb).bl
          have hrw : RowR eT wr (fun b => b < lo) p.tabs a4 := hR4.fr hbl.size (fun b hb _ => hbl.block b hb)
          obtain ⟨g, oo, hga⟩ := hrw.some hlt
          rw [hga] at hrw o3
          obtain ⟨cs, -, hS, hE, hcc⟩ := hrw.item hlt
          have s1 := Hid.mk (take_flatR pcT hlt)
          have s2 := Hid.mk (take_sumR nT hlt)
          have s4 := sum_takeR nT p.tabs (i + 1)
          rw [s2.out, ← hsT.out] at s4
          have hym : p.tabs[i] ∈ p.tabs := List.getElem_mem hlt
          have hyn : p.tabs[i].2.length ≤ 10000000 := hzH.out.t2 _ hym
          generalize p.tabs[i] = y at *
          clear hym
          obtain ⟨a1, c1, rfl, hRi⟩ := hE
          have e0 : wr.cell? ⟨g, oo + i * 2, none⟩ = some (.string ⟨y.1.toArray⟩) := hcc 0 (by decide)
          have e1 : wr.cell? ⟨g, oo + i * 2 + 1, none⟩ = some (.slice a1 y.2.length c1) := hcc 1 (by decide)
          obtain ⟨w0, rfl⟩ : ∃ w0, w0 = wr := ⟨_, rfl⟩
          have hF : Hid (∀ w, BkR lo wb w0 w → w.cell? ⟨W.heap.size, 3, none⟩ = some (.slice (some ⟨g, oo, none⟩) p.tabs.length c4) ∧ w.cell? ⟨g, oo + i * 2, none⟩ = some (.string ⟨y.1.toArray⟩) ∧ w.cell? ⟨g, oo + i * 2 + 1, none⟩ = some (.slice a1 y.2.length c1)) := ⟨fun w hw => ⟨by rw [← hga]; exact bx_keep hwl (by decide) (hb.trans hw) 3, (bk_cell hw hS _).trans e0, (bk_cell hw hS _).trans e1⟩⟩
          generalize hzz : (p.tabs.take i).flatMap pcT = zz at *
          generalize hnn : ((p.tabs.take i).map nT).sum = nn at *
          clear hzz hnn
          unfold nT at s4
          replace hga := Hid.mk hga
          clear hcc hrw hbl
          have hc10 := hr.text y.1 (by omega)
          go_wp2_with (go_at_call 55; fail)
          refine hc10.mono ?_
          rintro e v10 ⟨rfl, k10, q10⟩
          have p10 := q10
          clear hc10 q10
          clear o3 e0 e1 hr
          obtain ⟨o3, e0, e1⟩ := hF.out v10 p10
          have hc11 := k10.num (y.2.length : Int) (by omega)
          go_wp2_with (go_at_call 53; fail)
          refine hc11.mono ?_
          rintro e v11 ⟨rfl, k11, q11⟩
          have p11 := p10.trans q11
          clear hc11 q11
          clear o3 e0 e1 k10 p10
          obtain ⟨o3, e0, e1⟩ := hF.out v11 p11
          obtain ⟨x3, hx3⟩ : ∃ x3, x3 = x2 ++ zz ++ [⟨3, 0, y.1⟩] ++ [⟨1, (y.2.length : Int), []⟩] := ⟨_, rfl⟩
          replace k11 : RA lo wb X P0 x3 ((cnt + 4 + sO) + nn + 2) ok v11 := k11.cast (by rw [hx3]) (by omega) Iff.rfl
          replace hx3 := Hid.mk hx3
          go_wp2_with fail
          go_loopw [7] (fun kv wr => ∃ k : Nat, k ≤ y.2.length ∧ kv = .int .i64 (k : Int) ∧ RA lo wb X P0 (x3 ++ (y.2.take k).flatMap (fun b => [(⟨2, b.1, []⟩ : Pc)] ++ [⟨2, b.2, []⟩])) ((cnt + 4 + sO) + nn + 2 + 2 * k) ok wr ∧ BkR lo wb w0 wr) (fun kv _ => y.2.length - (intOf kv).toNat)
          case atStart => exact ⟨0, Nat.zero_le _, rfl, k11.cast (by simp) (by omega) Iff.rfl, p11⟩
          case round =>
            clear o3 e0 e1 k11 p11
            obtain ⟨k, hk, rfl, hr, hb2⟩ := hrel
            obtain ⟨o3, e0, e1⟩ := hF.out wr hb2
            by_cases hlk : k < y.2.length
            · have hlk' : (k : Int) < (y.2.length : Int) := by omega
              have hk0 : (0 : Int) ≤ (k : Int) := by omega
              have hrw : RowR eBd wr (fun b => b < lo) y.2 a1 := hRi.fr hb2.bl.size (fun b hb _ => hb2.bl.block b hb)
              obtain ⟨g2, o2', hga2⟩ := hrw.some hlk
              rw [hga2] at hrw e1
              replace hga2 := Hid.mk hga2
              obtain ⟨cs2, -, hS2, hE2, hcc2⟩ := hrw.item hlk
              have z1 := Hid.mk (take_flatR (fun b => [(⟨2, b.1, []⟩ : Pc)] ++ [⟨2, b.2, []⟩]) hlk)
              generalize y.2[k] = s at *
              obtain ⟨rfl, -⟩ := hE2
              have f0 : wr.cell? ⟨g2, o2' + k * 2, none⟩ = some (.int .i64 s.1) := hcc2 0 (by decide)
              have f1 : wr.cell? ⟨g2, o2' + k * 2 + 1, none⟩ = some (.int .i64 s.2) := hcc2 1 (by decide)
              clear hcc2 hrw
              generalize (y.2.take k).flatMap (fun b => [(⟨2, b.1, []⟩ : Pc)] ++ [⟨2, b.2, []⟩]) = yy at *
              have hc12 := hr.int s.1 (by omega)
              go_wp2_with (go_at_call 57; fail)
              refine hc12.mono ?_
              rintro e v12 ⟨rfl, k12, q12⟩
              have p12 := q12
              clear hc12 q12
              have f1' := (bk_cell p12 hS2 _).trans f1
              have p12' := hb2.trans p12
              clear o3 e0 e1 f0 f1 hr
              obtain ⟨o3, e0, e1⟩ := hF.out v12 p12'
              rw [hga2.out] at e1
              have hc13 := k12.int s.2 (by omega)
              go_wp2_with (go_at_call 57; fail)
              refine hc13.mono ?_
              rintro e v13 ⟨rfl, k13, q13⟩
              have p13 := p12'.trans q13
              clear hc13 q13
              clear o3 e0 e1 f1' k12 p12 p12'
              have hfi := Hid.mk (k13.cast (x' := x3 ++ (y.2.take (k + 1)).flatMap (fun b => [(⟨2, b.1, []⟩ : Pc)] ++ [⟨2, b.2, []⟩])) (cnt' := (cnt + 4 + sO) + nn + 2 + 2 * (k + 1)) (ok' := ok) (by rw [z1.out]; simp only [List.append_assoc]) (by omega) Iff.rfl)
              have hfj := p13
              clear k13 p13
              go_wp2
              go_roundw
              case rel => exact ⟨k + 1, by omega, by go_num, hfi.out, hfj⟩
              case measure => simp [intOf]; omega
            · have hlk' : ¬ (k : Int) < (y.2.length : Int) := by omega
              obtain rfl : k = y.2.length := by omega
              rw [List.take_length] at hr
              have hfin := Hid.mk (hr.cast (x' := x2 ++ (p.tabs.take (i + 1)).flatMap pcT) (cnt' := (cnt + 4 + sO) + ((p.tabs.take (i + 1)).map nT).sum) (ok' := ok) (by rw [s1.out, hx3.out, pcT]; simp only [List.append_assoc]) (by rw [s2.out]; unfold nT; omega) Iff.rfl)
              have hfb := hb.trans hb2
              clear hr hb2 hb
              go_wp2
              go_roundw
              case rel => exact ⟨i + 1, by omega, by go_num, hfin.out, hfb⟩
              case measure => simp [intOf]; omega
        · have hlt' : ¬ (i : Int) < (p.tabs.length : Int) := by omega
          obtain rfl : i = p.tabs.length := by omega
          rw [List.take_length, ← hsT.out] at hr
          have o4 : wr.cell? ⟨W.heap.size, 4, none⟩ = some (.slice a5 p.grps.length c5) := bx_keep hwl (by decide) hb 4
          have hc4 := hr.num (p.grps.length : Int) (by omega)
          go_wp2_with (go_at_call 53; fail)
          refine hc4.mono ?_
          rintro e v4 ⟨rfl, k4, q4⟩
          have p4 := hb.trans q4
          clear hc4 q4
          clear o3 o4 hr hb
          have o4 : v4.cell? ⟨W.heap.size, 4, none⟩ = some (.slice a5 p.grps.length c5) := bx_keep hwl (by decide) p4 4
          obtain ⟨x5, hx5⟩ : ∃ x5, x5 = x2 ++ p.tabs.flatMap pcT ++ [⟨1, (p.grps.length : Int), []⟩] := ⟨_, rfl⟩
          replace k4 : RA lo wb X P0 x5 (cnt + 5 + sO + sT) ok v4 := k4.cast (by rw [hx5]) (by omega) Iff.rfl
          replace hx5 := Hid.mk hx5
          go_wp2_with fail
          go_loopw [8] (fun iv wr => ∃ i : Nat, i ≤ p.grps.length ∧ iv = .int .i64 (i : Int) ∧ RA lo wb X P0 (x5 ++ (p.grps.take i).flatMap pcG) ((cnt + 5 + sO + sT) + ((p.grps.take i).map (fun _ => 2)).sum) ok wr ∧ BkR lo wb (W.alloc (.cells #[.string ⟨p.name.toArray⟩, .int .i64 p.year, .slice a3 p.opts.length c3, .slice a4 p.tabs.length c4, .slice a5 p.grps.length c5, .slice a6 p.lns.length c6, .slice a7 p.cks.length c7] 29)) wr) (fun iv _ => p.grps.length - (intOf iv).toNat)
          case atStart => exact ⟨0, Nat.zero_le _, rfl, k4.cast (by simp) (by omega) Iff.rfl, p4⟩
          case round =>
            clear o4 k4 p4
            obtain ⟨i, hi, rfl, hr, hb⟩ := hrel
            have o4 : wr.cell? ⟨W.heap.size, 4, none⟩ = some (.slice a5 p.grps.length c5) := bx_keep hwl (by decide) hb 4
            by_cases hlt : i < p.grps.length
            · have hlt' : (i : Int) < (p.grps.length : Int) := by omega
              have hi0 : (0 : Int) ≤ (i : Int) := by omega
              have hbl := (hBA.trans hb).bl
              have hrw : RowR eG wr (fun b => b < lo) p.grps a5 := hR5.fr hbl.size (fun b hb _ => hbl.block b hb)
              obtain ⟨g, oo, hga⟩ := hrw.some hlt
              rw [hga] at hrw o4
              obtain ⟨cs, -, hS, hE, hcc⟩ := hrw.item hlt
              have s1 := Hid.mk (take_flatR pcG hlt)
              have s2 := Hid.mk (take_sumR (fun _ => 2) hlt)
              have s4 := sum_takeR (fun _ => 2) p.grps (i + 1)
              rw [s2.out, ← hsG.out] at s4
              have hym : p.grps[i] ∈ p.grps := List.getElem_mem hlt
              generalize p.grps[i] = y at *
              clear hym
              obtain ⟨rfl, -⟩ := hE
              have e0 : wr.cell? ⟨g, oo + i * 2, none⟩ = some (.string ⟨y.1.toArray⟩) := hcc 0 (by decide)
              have e1 : wr.cell? ⟨g, oo + i * 2 + 1, none⟩ = some (.int .i64 y.2) := hcc 1 (by decide)
              generalize hzz : (p.grps.take i).flatMap pcG = zz at *
              generalize hnn : ((p.grps.take i).map (fun _ => 2)).sum = nn at *
              clear hzz hnn hcc hrw hbl
              replace hga := Hid.mk hga
              have hc10 := hr.text y.1 (by omega)
              go_wp2_with (go_at_call 55; fail)
              refine hc10.mono ?_
              rintro e v10 ⟨rfl, k10, q10⟩
              have p10 := q10
              clear hc10 q10
              have e1' := (bk_cell p10 hS _).trans e1
              have p10' := hb.trans p10
              clear o4 e0 e1 hr hb
              have o4 : v10.cell? ⟨W.heap.size, 4, none⟩ = some (.slice a5 p.grps.length c5) := bx_keep hwl (by decide) p10' 4
              rw [hga.out] at o4
              have hc11 := k10.int y.2 (by omega)
              go_wp2_with (go_at_call 57; fail)
              refine hc11.mono ?_
              rintro e v11 ⟨rfl, k11, q11⟩
              have p11 := p10'.trans q11
              clear hc11 q11
              have hfin := Hid.mk (k11.cast (x' := x5 ++ (p.grps.take (i + 1)).flatMap pcG) (cnt' := (cnt + 5 + sO + sT) + ((p.grps.take (i + 1)).map (fun _ => 2)).sum) (ok' := ok) (by rw [s1.out, pcG]; simp only [List.append_assoc]) (by rw [s2.out]; omega) Iff.rfl)
              have hfb := p11
              clear o4 e1' k10 k11 p10 p10' p11
              go_wp2
              go_roundw
              case rel => exact ⟨i + 1, by omega, by go_num, hfin.out, hfb⟩
              case measure => simp [intOf]; omega
            · have hlt' : ¬ (i : Int) < (p.grps.length : Int) := by omega
              obtain rfl : i = p.grps.length := by omega
              rw [List.take_length, ← hsG.out] at hr
              have hfin : RaP lo wb X P0 (x ++ pcH p) (cnt + nH p) ok W (.returned (.tuple #[])) wr := ⟨rfl, hr.cast (by rw [hx5.out, hx2.out, hx1.out, pcH]; simp only [List.append_assoc]) (by rw [hnH.out]; omega) Iff.rfl, hBA.trans hb⟩
              clear hr hb
              go_wp2
              exact bodyPost_end (v := .tuple #[]) (by simp [results, Try.results52, go_sem]) rfl hfin

end Go.Proofs.Ytjgkjdalnjlefaa.V


namespace Go.Proofs.Ytjgkjdalnjlefaa.V
open Go.RowKit

/-- The bytes of a piece. -/
def bp (x : Pc) : List UInt8 := if x.kind = 1 then encN x.n.toNat else if x.kind = 2 then encI x.n else if x.kind = 3 then encS x.s else if x.kind = 4 then [UInt8.ofNat x.n.toNat] else []
/-- A piece as there are. -/
def OkPc (x : Pc) : Prop := (x.kind = 1 ∧ 0 ≤ x.n ∧ x.n ≤ 9223372036854775807) ∨ (x.kind = 2 ∧ Rg x.n) ∨ (x.kind = 3 ∧ x.s.length ≤ 10000000) ∨ (x.kind = 4 ∧ 0 ≤ x.n ∧ x.n < 256)
theorem pcs_cons (x : Pc) (P : List Pc) : pcs (x :: P) = .int .i64 x.kind :: .int .i64 x.n :: .string ⟨x.s.toArray⟩ :: pcs P := rfl
theorem pcs_len : ∀ P : List Pc, (pcs P).length = P.length * 3
  | [] => rfl
  | x :: P => by
    rw [pcs_cons]
    simp only [List.length_cons, pcs_len P]
    omega
theorem pcs_get : ∀ (P : List Pc) (i : Nat) (h : i < P.length), (pcs P)[i * 3]? = some (.int .i64 P[i].kind) ∧ (pcs P)[i * 3 + 1]? = some (.int .i64 P[i].n) ∧ (pcs P)[i * 3 + 2]? = some (.string ⟨P[i].s.toArray⟩)
  | x :: P, 0, _ => ⟨rfl, rfl, rfl⟩
  | x :: P, i + 1, h => by
    have ih := pcs_get P i (by simpa using h)
    rw [pcs_cons, show (i + 1) * 3 = i * 3 + 3 by omega]
    simpa using ih
theorem byts_own {W : World} {base : Nat} {acc : List UInt8} {p : Option Addr} {cap : Nat} (ho : W.ownsRow base 5 1 (.slice p acc.length cap) acc.length (Go.Lib.byteCells acc)) : Byts W p (acc.map UInt8.toNat) := by
  refine ⟨fun n hn => by obtain ⟨x, _, rfl⟩ := List.mem_map.mp hn; exact x.toNat_lt, ?_⟩
  have ho' := ho
  rcases ho' with ⟨hl, ⟨e, h0⟩ | ⟨g, c2, cur, e, hge, hc, _⟩⟩
  · left
    rw [List.map_eq_nil_iff]
    exact List.length_eq_zero_iff.mp h0
  · right
    injection e with e
    subst e
    refine ⟨g, 0, rfl, heap_ltR hc, fun i hi => ?_⟩
    rw [List.length_map] at hi
    rw [Nat.zero_add, ho.cellAt i (by omega)]
    unfold Go.Lib.byteCells
    rw [List.getElem?_map, List.getElem?_eq_getElem hi, List.getElem_map]
    rfl
/-- The cells of a row of one's own, for an append of it. -/
theorem own_news {W : World} {base g cap : Nat} {l : List UInt8} (ho : W.ownsRow base 5 1 (.slice (some ⟨g, 0, none⟩) l.length cap) l.length (Go.Lib.byteCells l)) : ∀ j u, (Go.Lib.byteCells l)[j]? = some u → W.cell? ((⟨g, 0, none⟩ : Addr).add j) = some u := fun j u h => by
  have hj : j < l.length := by
    have := (List.getElem?_eq_some_iff.1 h).1
    simpa [Go.Lib.byteCells] using this
  have := ho.cellAt j (by omega)
  rw [h] at this
  have e : (⟨g, 0, none⟩ : Addr).add j = ⟨g, j, none⟩ := by
    unfold Addr.add
    split <;> simp_all
  rw [e]
  exact this
theorem byte_one (l : List UInt8) : ∀ u ∈ Go.Lib.byteCells l, u.oneCell' = true := by
  intro u hu
  simp only [Go.Lib.byteCells, List.mem_map] at hu
  obtain ⟨n, -, rfl⟩ := hu
  rfl
theorem byte_len (l : List UInt8) : (Go.Lib.byteCells l).length = l.length * 1 := by simp [Go.Lib.byteCells]
theorem gr_bel {W W' : World} (h : Below W.heap.size W W') : W.grownBy W' none := ⟨h.os, h.tape, h.output, h.size, fun k hk _ => h.block k hk⟩
theorem own_bel {W W' : World} {base n k : Nat} {T : TypeId} {v : Value} {xs : List Value} (ho : W.ownsRow base T k v n xs) (h : Below W.heap.size W W') : W'.ownsRow base T k v n xs := ho.kept (gr_bel h) (by cases v.ownBlock <;> simp)
/-- The row of pieces while its bytes are written. -/
structure PAt (w0 : World) (wb : Nat) (P : List Pc) (w : World) : Prop where
  ex : P = [] ∧ w.cell? ⟨wb, 0, none⟩ = some (.slice none 0 0) ∨ ∃ g o cap, w.cell? ⟨wb, 0, none⟩ = some (.slice (some ⟨g, o, none⟩) P.length cap) ∧ g < w0.heap.size ∧ ∀ i (h : i < P.length), w.cell? ⟨g, o + i * 3, none⟩ = some (.int .i64 P[i].kind) ∧ w.cell? ⟨g, o + i * 3 + 1, none⟩ = some (.int .i64 P[i].n) ∧ w.cell? ⟨g, o + i * 3 + 2, none⟩ = some (.string ⟨P[i].s.toArray⟩)
  wb : wb < w0.heap.size
theorem RS.pat {lo wb : Nat} {W : World} {P : List Pc} {b : Bool} (h : RS lo wb W P b) : PAt W wb P W := by
  refine ⟨?_, h.lt⟩
  obtain ⟨p, cap, h0, ho⟩ := h.own
  by_cases hn : P = []
  · subst hn
    obtain ⟨_, ⟨e, -⟩ | ⟨g, c, cur, e, hg, r1, r2, r3⟩⟩ := ho
    · exact .inl ⟨rfl, by rw [h0, e]⟩
    · refine .inr ⟨g, 0, c, by rw [h0, e], heap_ltR r1, fun i hi => absurd hi (Nat.not_lt_zero _)⟩
  · have hpos : 0 < P.length := List.length_pos_iff.2 hn
    obtain ⟨g, c, e, -⟩ := own_lit2V ho hpos
    rw [e] at h0 ho
    refine .inr ⟨g, 0, c, h0, (ho.lt g rfl).2, fun i hi => ?_⟩
    obtain ⟨q0, q1, q2⟩ := pcs_get P i hi
    rw [Nat.zero_add]
    exact ⟨(ho.cellAt _ (by omega)).trans q0, (ho.cellAt _ (by omega)).trans q1, (ho.cellAt _ (by omega)).trans q2⟩
theorem PAt.later {w0 w w' : World} {wb : Nat} {P : List Pc} (h : PAt w0 wb P w) (hb : Below w0.heap.size w w') : PAt w0 wb P w' := by
  refine ⟨?_, h.wb⟩
  rcases h.ex with ⟨h1, h2⟩ | ⟨g, o, cap, h1, h2, h3⟩
  · exact .inl ⟨h1, (bel_cell hb h.wb 0).trans h2⟩
  · exact .inr ⟨g, o, cap, (bel_cell hb h.wb 0).trans h1, h2, fun i hi => ⟨(bel_cell hb h2 _).trans (h3 i hi).1, (bel_cell hb h2 _).trans (h3 i hi).2.1, (bel_cell hb h2 _).trans (h3 i hi).2.2⟩⟩
theorem bytes4 (acc : List UInt8) (n : Nat) (hn : n < 4294967296) : Go.Lib.byteCells acc ++ [.int .u8 ((n : Int) % 256), .int .u8 ((n : Int) / 256 % 256), .int .u8 ((n : Int) / 65536 % 256), .int .u8 ((n : Int) / 16777216)] = Go.Lib.byteCells (acc ++ sum4 n) := by
  rw [Go.Lib.byteCells_append]
  congr 1
  unfold sum4 Go.Lib.byteCells
  simp only [List.map_cons, List.map_nil, UInt8.toNat_ofNat']
  congr 1
  · congr 1; omega
  congr 1
  · congr 1; omega
  congr 1
  · congr 1; omega
  congr 1
  · congr 1; omega

end Go.Proofs.Ytjgkjdalnjlefaa.V


namespace Go.Proofs.Ytjgkjdalnjlefaa.V
open Go.RowKit

def pcP (p : Pk) : List Pc := pcH p ++ [⟨1, (p.lns.length : Int), []⟩] ++ p.lns.flatMap pcLn ++ [⟨1, (p.cks.length : Int), []⟩] ++ p.cks.flatMap pcCk
def nP (p : Pk) : Nat := nH p + 2 + (p.lns.map nLn).sum + (p.cks.map nCk).sum
structure SzW (p : Pk) : Prop where
  h : SzH p
  l1 : p.lns.length ≤ 10000000
  l2 : ∀ l ∈ p.lns, l.cls.length ≤ 10000000 ∧ ∀ y ∈ l.cls, pn y.guard.args ≤ 1000000 ∧ pn y.body.args ≤ 1000000
  k1 : p.cks.length ≤ 10000000
  k2 : ∀ y ∈ p.cks, pn y.when_.args ≤ 1000000
  n : nP p ≤ 1000000000
  pc : ∀ x ∈ pcP p, OkPc x
def bpP (p : Pk) : List UInt8 := [76, 86, 89, 49] ++ (pcP p).flatMap bp
/-- What the document's Put answers. -/
def RfP (p : Pk) (W : World) (e : Ending) (W' : World) : Prop := Below W.heap.size W W' ∧ ((¬ (okP p ∧ (bpP p).length + 4 ≤ 131072) ∧ e = .returned (.tuple #[.slice none 0 0, .int .i64 72])) ∨ ((okP p ∧ (bpP p).length + 4 ≤ 131072) ∧ ∃ pa cap, e = .returned (.tuple #[.slice pa (bpP p ++ sum4 (fnvB (bpP p))).length cap, .int .i64 0]) ∧ W'.ownsRow W.heap.size 5 1 (.slice pa (bpP p ++ sum4 (fnvB (bpP p))).length cap) (bpP p ++ sum4 (fnvB (bpP p))).length (Go.Lib.byteCells (bpP p ++ sum4 (fnvB (bpP p))))))
/-- What the bytes of a row of pieces are, and what is answered. -/
def TlP (P : List Pc) (W : World) (e : Ending) (W' : World) : Prop := Below W.heap.size W W' ∧ ((¬ ([76, 86, 89, 49] ++ P.flatMap bp).length + 4 ≤ 131072 ∧ e = .returned (.tuple #[.slice none 0 0, .int .i64 72])) ∨ (([76, 86, 89, 49] ++ P.flatMap bp).length + 4 ≤ 131072 ∧ ∃ F pa cap, F = ([76, 86, 89, 49] ++ P.flatMap bp) ++ sum4 (fnvB ([76, 86, 89, 49] ++ P.flatMap bp)) ∧ e = .returned (.tuple #[.slice pa F.length cap, .int .i64 0]) ∧ W'.ownsRow W.heap.size 5 1 (.slice pa F.length cap) F.length (Go.Lib.byteCells F)))
theorem bel_allocV (W : World) (o : Obj) : Below W.heap.size W (W.alloc o) := (Below.refl W.heap.size W).alloc (Nat.le_refl _) o
theorem bel_cellsV {n : Nat} {W W' : World} (h : Below n W W') {b : Nat} (hb : b < n) {o : Obj} (hc : W.heap[b]? = some o) : W'.heap[b]? = some o := (h.block b hb).trans hc
theorem flat_le {α β : Type} (f : α → List β) (l : List α) (i : Nat) : ((l.take i).flatMap f).length ≤ (l.flatMap f).length := by
  conv => rhs; rw [← List.take_append_drop i l, List.flatMap_append, List.length_append]
  omega

set_option maxRecDepth 8000 in
set_option maxHeartbeats 8000000 in
theorem rput_any (p : Pk) (a3 a4 a5 a6 a7 : Option Addr) (c3 c4 c5 c6 c7 : Nat) (W : World) (hz : SzW p) (hR3 : RowR eO W (fun b => b < W.heap.size) p.opts a3) (hR4 : RowR eT W (fun b => b < W.heap.size) p.tabs a4) (hR5 : RowR eG W (fun b => b < W.heap.size) p.grps a5) (hR6 : RowR eL W (fun b => b < W.heap.size) p.lns a6) (hR7 : RowR eK W (fun b => b < W.heap.size) p.cks a7) : Calls Try.prog 13 #[.agg #[.string ⟨p.name.toArray⟩, .int .i64 p.year, .slice a3 p.opts.length c3, .slice a4 p.tabs.length c4, .slice a5 p.grps.length c5, .slice a6 p.lns.length c6, .slice a7 p.cks.length c7]] W (RfP p W) := by
  have hs1 : (W.alloc (.cells #[.string ⟨p.name.toArray⟩, .int .i64 p.year, .slice a3 p.opts.length c3, .slice a4 p.tabs.length c4, .slice a5 p.grps.length c5, .slice a6 p.lns.length c6, .slice a7 p.cks.length c7] 29)).heap.size = W.heap.size + 1 := by simp
  have hbx0 := bx_new (W.alloc (.cells #[.string ⟨p.name.toArray⟩, .int .i64 p.year, .slice a3 p.opts.length c3, .slice a4 p.tabs.length c4, .slice a5 p.grps.length c5, .slice a6 p.lns.length c6, .slice a7 p.cks.length c7] 29)) #[.slice none 0 0, .bool false] 112
  rw [hs1] at hbx0
  obtain ⟨X, hX⟩ : ∃ X, X = ((W.alloc (.cells #[.string ⟨p.name.toArray⟩, .int .i64 p.year, .slice a3 p.opts.length c3, .slice a4 p.tabs.length c4, .slice a5 p.grps.length c5, .slice a6 p.lns.length c6, .slice a7 p.cks.length c7] 29)).alloc (.cells #[.slice none 0 0, .bool false] 112)) := ⟨_, rfl⟩
  have hXe : ((W.alloc (.cells #[.string ⟨p.name.toArray⟩, .int .i64 p.year, .slice a3 p.opts.length c3, .slice a4 p.tabs.length c4, .slice a5 p.grps.length c5, .slice a6 p.lns.length c6, .slice a7 p.cks.length c7] 29)).alloc (.cells #[.slice none 0 0, .bool false] 112)) = X := hX.symm
  have hB0 : BkR W.heap.size (W.heap.size + 1) W X := by
    rw [hX]
    exact (BkR.alloc W (Nat.le_refl _) _).trans (BkR.alloc _ (by simp) _)
  have hRS : RS W.heap.size (W.heap.size + 1) X [] false := by
    rw [hX]
    exact ⟨⟨none, 0, hbx0.2.1 0 (by simp), World.ownsRow_nil _ _ _ _⟩, hbx0.2.1 1 (by simp), hbx0.2.2, by simp, by omega⟩
  have hA : RA W.heap.size (W.heap.size + 1) X [] [] 0 True X := ⟨⟨[], false, hRS, ⟨fun _ => trivial, fun _ => rfl⟩, fun _ => rfl, Nat.le_refl _⟩, BkR.refl _ _ _⟩
  have hrw0 : X.heap[W.heap.size]? = some (.cells #[.string ⟨p.name.toArray⟩, .int .i64 p.year, .slice a3 p.opts.length c3, .slice a4 p.tabs.length c4, .slice a5 p.grps.length c5, .slice a6 p.lns.length c6, .slice a7 p.cks.length c7] 29 (0, 0)) := by
    rw [hX]
    exact bel_cellsV (bel_allocV _ _) (by simp) (heap_alloc_new W _)
  have hbx : Hid (∀ w, BkR W.heap.size (W.heap.size + 1) X w → ∀ (j : Nat) (v : Value), (#[.string ⟨p.name.toArray⟩, .int .i64 p.year, .slice a3 p.opts.length c3, .slice a4 p.tabs.length c4, .slice a5 p.grps.length c5, .slice a6 p.lns.length c6, .slice a7 p.cks.length c7] : Array Value)[j]? = some v → w.cell? ⟨W.heap.size, j, none⟩ = some v) := ⟨fun w hw j v hv => by
    have h1 := (hw.kt W.heap.size _ _ _ (by omega) hrw0 (by decide)).trans hrw0
    rw [cell_of_row _ _ j _ _ _ h1]
    exact hv⟩
  have zc0 : X.cell? ⟨W.heap.size, 0, none⟩ = some (.string ⟨p.name.toArray⟩) := hbx.out _ (BkR.refl _ _ _) 0 _ rfl
  have zc1 : X.cell? ⟨W.heap.size, 1, none⟩ = some (.int .i64 p.year) := hbx.out _ (BkR.refl _ _ _) 1 _ rfl
  have zc2 : X.cell? ⟨W.heap.size, 2, none⟩ = some (.slice a3 p.opts.length c3) := hbx.out _ (BkR.refl _ _ _) 2 _ rfl
  have zc3 : X.cell? ⟨W.heap.size, 3, none⟩ = some (.slice a4 p.tabs.length c4) := hbx.out _ (BkR.refl _ _ _) 3 _ rfl
  have zc4 : X.cell? ⟨W.heap.size, 4, none⟩ = some (.slice a5 p.grps.length c5) := hbx.out _ (BkR.refl _ _ _) 4 _ rfl
  have zc5 : X.cell? ⟨W.heap.size, 5, none⟩ = some (.slice a6 p.lns.length c6) := hbx.out _ (BkR.refl _ _ _) 5 _ rfl
  have zc6 : X.cell? ⟨W.heap.size, 6, none⟩ = some (.slice a7 p.cks.length c7) := hbx.out _ (BkR.refl _ _ _) 6 _ rfl
  have hzH := Hid.mk hz
  have hzl := hz.l1
  have hzk := hz.k1
  obtain ⟨sL, hsL⟩ : ∃ s, s = (p.lns.map nLn).sum := ⟨_, rfl⟩
  obtain ⟨sK, hsK⟩ : ∃ s, s = (p.cks.map nCk).sum := ⟨_, rfl⟩
  obtain ⟨nh, hnh⟩ : ∃ s, s = nH p := ⟨_, rfl⟩
  have hnP : nh + 2 + sL + sK ≤ 1000000000 := by have := hz.n; unfold nP at this; omega
  have fr := fun {α : Type} {D : Elt α} {l : List α} {a : Option Addr} (h : RowR D W (fun b => b < W.heap.size) l a) => h.fr hB0.bl.size (fun b hb _ => hB0.bl.block b hb)
  have hc0 := rheads_any W.heap.size (W.heap.size + 1) p a3 a4 a5 a6 a7 c3 c4 c5 c6 c7 X hA hz.h (by simp; omega) (fr hR3) (fr hR4) (fr hR5)
  rw [← hnh] at hc0
  replace hsL := Hid.mk hsL
  replace hsK := Hid.mk hsK
  replace hnh := Hid.mk hnh
  clear fr hR3 hR4 hR5 hX hbx0 hs1 hRS hA hz hrw0
  obtain ⟨Q, hQ⟩ : ∃ Q, RfP p W = Q := ⟨_, rfl⟩
  rw [hQ]
  replace hQ := Hid.mk hQ
  go_enter Try.func13, Try.ntmps13
  go_wp2_with (go_at_call 52; fail)
  clear hXe
  refine hc0.mono ?_
  rintro e v0 ⟨rfl, k0, p0⟩
  clear hc0 zc0 zc1 zc2 zc3 zc4 zc5 zc6
  have o5 : v0.cell? ⟨W.heap.size, 5, none⟩ = some (.slice a6 p.lns.length c6) := hbx.out _ p0 5 _ rfl
  have hc1 := k0.num (p.lns.length : Int) (by simp; omega)
  go_wp2_with (go_at_call 53; fail)
  refine hc1.mono ?_
  rintro e v1 ⟨rfl, k1, q1⟩
  have p1 := p0.trans q1
  clear hc1 q1
  clear o5 k0 p0
  have o5 : v1.cell? ⟨W.heap.size, 5, none⟩ = some (.slice a6 p.lns.length c6) := hbx.out _ p1 5 _ rfl
  obtain ⟨x1, hx1⟩ : ∃ x1, x1 = pcH p ++ [⟨1, (p.lns.length : Int), []⟩] := ⟨_, rfl⟩
  replace k1 : RA W.heap.size (W.heap.size + 1) X [] x1 (nh + 1) True v1 := k1.cast (by rw [hx1]; simp) (by omega) Iff.rfl
  replace hx1 := Hid.mk hx1
  go_wp2_with fail
  go_loopw [5] (fun iv wr => ∃ i : Nat, i ≤ p.lns.length ∧ iv = .int .i64 (i : Int) ∧ RA W.heap.size (W.heap.size + 1) X [] (x1 ++ (p.lns.take i).flatMap pcLn) ((nh + 1) + ((p.lns.take i).map nLn).sum) (True ∧ ∀ y ∈ p.lns.take i, okL y) wr ∧ BkR W.heap.size (W.heap.size + 1) X wr) (fun iv _ => p.lns.length - (intOf iv).toNat)
  case atStart => exact ⟨0, Nat.zero_le _, rfl, k1.cast (by simp) (by omega) ⟨fun h => ⟨h, fun y hy => by simp at hy⟩, fun h => h.1⟩, p1⟩
  case round =>
    clear o5 k1 p1
    obtain ⟨i, hi, rfl, hr, hb⟩ := hrel
    have o5 : wr.cell? ⟨W.heap.size, 5, none⟩ = some (.slice a6 p.lns.length c6) := hbx.out _ hb 5 _ rfl
    by_cases hlt : i < p.lns.length
    · have hlt' : (i : Int) < (p.lns.length : Int) := by omega
      have hi0 : (0 : Int) ≤ (i : Int) := by omega
      have hbl := (hB0.trans hb).bl
      have hrw : RowR eL wr (fun b => b < W.heap.size) p.lns a6 := hR6.fr hbl.size (fun b hb _ => hbl.block b hb)
      obtain ⟨g, oo, hga⟩ := hrw.some hlt
      rw [hga] at hrw o5
      obtain ⟨cs, -, hS, hE, hcc⟩ := hrw.item hlt
      have s1 := Hid.mk (take_flatR pcLn hlt)
      have s2 := Hid.mk (take_sumR nLn hlt)
      have s3 := Hid.mk (take_allR okL hlt)
      have s4 := sum_takeR nLn p.lns (i + 1)
      rw [s2.out, ← hsL.out] at s4
      have hym : p.lns[i] ∈ p.lns := List.getElem_mem hlt
      have hyn := hzH.out.l2 _ hym
      generalize p.lns[i] = y at *
      clear hym
      obtain ⟨a1, c1, rfl, -, hRi⟩ := hE
      have e0 : wr.cell? ⟨g, oo + i * 7, none⟩ = some (.string ⟨y.name.toArray⟩) := hcc 0 (by decide)
      have e1 : wr.cell? ⟨g, oo + i * 7 + 1, none⟩ = some (.bool y.input) := hcc 1 (by decide)
      have e2 : wr.cell? ⟨g, oo + i * 7 + 2, none⟩ = some (.bool y.must) := hcc 2 (by decide)
      have e3 : wr.cell? ⟨g, oo + i * 7 + 3, none⟩ = some (.int .i64 y.type) := hcc 3 (by decide)
      have e4 : wr.cell? ⟨g, oo + i * 7 + 4, none⟩ = some (.int .i64 y.opts) := hcc 4 (by decide)
      have e5 : wr.cell? ⟨g, oo + i * 7 + 5, none⟩ = some (.int .i64 y.group) := hcc 5 (by decide)
      have e6 : wr.cell? ⟨g, oo + i * 7 + 6, none⟩ = some (.slice a1 y.cls.length c1) := hcc 6 (by decide)
      generalize hzz : (p.lns.take i).flatMap pcLn = zz at *
      generalize hnn : ((p.lns.take i).map nLn).sum = nn at *
      clear hzz hnn hcc hrw hbl hga
      have hc10 := rline_any W.heap.size (W.heap.size + 1) y a1 c1 wr hr hyn.2 hyn.1 (by simp; omega) hRi
      go_wp2_with (go_at_call 54; fail)
      refine hc10.mono ?_
      rintro e v10 ⟨rfl, k10, q10⟩
      have hfb := hb.trans q10
      have hfin := Hid.mk (k10.cast (x' := x1 ++ (p.lns.take (i + 1)).flatMap pcLn) (cnt' := (nh + 1) + ((p.lns.take (i + 1)).map nLn).sum) (ok' := True ∧ ∀ y ∈ p.lns.take (i + 1), okL y) (by rw [s1.out]; simp only [List.append_assoc]) (by rw [s2.out]; omega) (by rw [s3.out]; simp only [and_assoc]))
      clear hc10 o5 hr hb k10 q10 e0 e1 e2 e3 e4 e5 e6
      go_wp2
      go_roundw
      case rel => exact ⟨i + 1, by omega, by go_num, hfin.out, hfb⟩
      case measure => simp [intOf]; omega
    · have hlt' : ¬ (i : Int) < (p.lns.length : Int) := by omega
      obtain rfl : i = p.lns.length := by omega
      rw [List.take_length, ← hsL.out] at hr
      have o6 : wr.cell? ⟨W.heap.size, 6, none⟩ = some (.slice a7 p.cks.length c7) := hbx.out _ hb 6 _ rfl
      have hc2 := hr.num (p.cks.length : Int) (by simp; omega)
      go_wp2_with (go_at_call 53; fail)
      refine hc2.mono ?_
      rintro e v2 ⟨rfl, k2, q2⟩
      have p2 := hb.trans q2
      clear hc2 q2
      clear o5 o6 hr hb
      have o6 : v2.cell? ⟨W.heap.size, 6, none⟩ = some (.slice a7 p.cks.length c7) := hbx.out _ p2 6 _ rfl
      obtain ⟨x2, hx2⟩ : ∃ x2, x2 = x1 ++ p.lns.flatMap pcLn ++ [⟨1, (p.cks.length : Int), []⟩] := ⟨_, rfl⟩
      replace k2 : RA W.heap.size (W.heap.size + 1) X [] x2 (nh + 2 + sL) (∀ y ∈ p.lns, okL y) v2 := k2.cast (by rw [hx2]) (by omega) (by simp)
      replace hx2 := Hid.mk hx2
      go_wp2_with fail
      go_loopw [6] (fun iv wr => ∃ i : Nat, i ≤ p.cks.length ∧ iv = .int .i64 (i : Int) ∧ RA W.heap.size (W.heap.size + 1) X [] (x2 ++ (p.cks.take i).flatMap pcCk) ((nh + 2 + sL) + ((p.cks.take i).map nCk).sum) ((∀ y ∈ p.lns, okL y) ∧ ∀ y ∈ p.cks.take i, okK y) wr ∧ BkR W.heap.size (W.heap.size + 1) X wr) (fun iv _ => p.cks.length - (intOf iv).toNat)
      case atStart => exact ⟨0, Nat.zero_le _, rfl, k2.cast (by simp) (by omega) ⟨fun h => ⟨h, fun y hy => by simp at hy⟩, fun h => h.1⟩, p2⟩
      case round =>
        clear o6 k2 p2
        obtain ⟨i, hi, rfl, hr, hb⟩ := hrel
        have o6 : wr.cell? ⟨W.heap.size, 6, none⟩ = some (.slice a7 p.cks.length c7) := hbx.out _ hb 6 _ rfl
        by_cases hlt : i < p.cks.length
        · have hlt' : (i : Int) < (p.cks.length : Int) := by omega
          have hi0 : (0 : Int) ≤ (i : Int) := by omega
          have hbl := (hB0.trans hb).bl
          have hrw : RowR eK wr (fun b => b < W.heap.size) p.cks a7 := hR7.fr hbl.size (fun b hb _ => hbl.block b hb)
          obtain ⟨g, oo, hga⟩ := hrw.some hlt
          rw [hga] at hrw o6
          obtain ⟨cs, -, hS, hE, hcc⟩ := hrw.item hlt
          have s1 := Hid.mk (take_flatR pcCk hlt)
          have s2 := Hid.mk (take_sumR nCk hlt)
          have s3 := Hid.mk (take_allR okK hlt)
          have s4 := sum_takeR nCk p.cks (i + 1)
          rw [s2.out, ← hsK.out] at s4
          have hym : p.cks[i] ∈ p.cks := List.getElem_mem hlt
          have hyn := hzH.out.k2 _ hym
          generalize p.cks[i] = y at *
          clear hym
          obtain ⟨a1, c1, rfl, -, -, hFi⟩ := hE
          have e0 : wr.cell? ⟨g, oo + i * 9, none⟩ = some (.string ⟨y.name.toArray⟩) := hcc 0 (by decide)
          have e1 : wr.cell? ⟨g, oo + i * 9 + 1, none⟩ = some (.bool y.hard) := hcc 1 (by decide)
          have e2 : wr.cell? ⟨g, oo + i * 9 + 2, none⟩ = some (.int .i64 y.group) := hcc 2 (by decide)
          have e3 : wr.cell? ⟨g, oo + i * 9 + 3, none⟩ = some (.int .i64 y.when_.op) := hcc 3 (by decide)
          have e4 : wr.cell? ⟨g, oo + i * 9 + 4, none⟩ = some (.int .i64 y.when_.num) := hcc 4 (by decide)
          have e5 : wr.cell? ⟨g, oo + i * 9 + 5, none⟩ = some (.int .i64 y.when_.den) := hcc 5 (by decide)
          have e6 : wr.cell? ⟨g, oo + i * 9 + 6, none⟩ = some (.int .i64 y.when_.mode) := hcc 6 (by decide)
          have e7 : wr.cell? ⟨g, oo + i * 9 + 7, none⟩ = some (.slice a1 y.when_.args.len c1) := hcc 7 (by decide)
          have e8 : wr.cell? ⟨g, oo + i * 9 + 8, none⟩ = some (.string ⟨y.text.toArray⟩) := hcc 8 (by decide)
          generalize hzz : (p.cks.take i).flatMap pcCk = zz at *
          generalize hnn : ((p.cks.take i).map nCk).sum = nn at *
          clear hzz hnn hcc hrw hbl hga
          unfold nCk at s4
          have hwr := hr.lt
          have hlr := hr.le
          have hr2 := hr.alloc (.cells #[.string ⟨y.name.toArray⟩, .bool y.hard, .int .i64 y.group, .int .i64 y.when_.op, .int .i64 y.when_.num, .int .i64 y.when_.den, .int .i64 y.when_.mode, .slice a1 y.when_.args.len c1, .string ⟨y.text.toArray⟩] 85)
          have hbA : BkR W.heap.size (W.heap.size + 1) wr (wr.alloc (.cells #[.string ⟨y.name.toArray⟩, .bool y.hard, .int .i64 y.group, .int .i64 y.when_.op, .int .i64 y.when_.num, .int .i64 y.when_.den, .int .i64 y.when_.mode, .slice a1 y.when_.args.len c1, .string ⟨y.text.toArray⟩] 85)) := BkR.alloc wr hlr _
          have hF1 := FoAt.fr hbA.bl.size (fun b hb _ => hbA.bl.block b hb) _ _ hFi
          clear hr hFi
          have d0 := hr2.text y.name (by simp; omega)
          go_wp2_with (go_at_call 55; fail)
          refine d0.mono ?_
          rintro e u0 ⟨rfl, j0, n0⟩
          have m0 := n0
          clear d0 n0 o6
          have o0 : u0.cell? ⟨wr.heap.size, 0, none⟩ = some (.string ⟨y.name.toArray⟩) := bx_keep hwr (by decide) m0 0
          have o1 : u0.cell? ⟨wr.heap.size, 1, none⟩ = some (.bool y.hard) := bx_keep hwr (by decide) m0 1
          have o2 : u0.cell? ⟨wr.heap.size, 2, none⟩ = some (.int .i64 y.group) := bx_keep hwr (by decide) m0 2
          have o3 : u0.cell? ⟨wr.heap.size, 3, none⟩ = some (.int .i64 y.when_.op) := bx_keep hwr (by decide) m0 3
          have o4 : u0.cell? ⟨wr.heap.size, 4, none⟩ = some (.int .i64 y.when_.num) := bx_keep hwr (by decide) m0 4
          have o5 : u0.cell? ⟨wr.heap.size, 5, none⟩ = some (.int .i64 y.when_.den) := bx_keep hwr (by decide) m0 5
          have o6 : u0.cell? ⟨wr.heap.size, 6, none⟩ = some (.int .i64 y.when_.mode) := bx_keep hwr (by decide) m0 6
          have o7 : u0.cell? ⟨wr.heap.size, 7, none⟩ = some (.slice a1 y.when_.args.len c1) := bx_keep hwr (by decide) m0 7
          have o8 : u0.cell? ⟨wr.heap.size, 8, none⟩ = some (.string ⟨y.text.toArray⟩) := bx_keep hwr (by decide) m0 8
          have d1 := j0.flag y.hard (by simp; omega)
          go_wp2_with (go_at_call 56; fail)
          refine d1.mono ?_
          rintro e u1 ⟨rfl, j1, n1⟩
          have m1 := m0.trans n1
          clear d1 n1 o0 o1 o2 o3 o4 o5 o6 o7 o8 m0
          have o0 : u1.cell? ⟨wr.heap.size, 0, none⟩ = some (.string ⟨y.name.toArray⟩) := bx_keep hwr (by decide) m1 0
          have o1 : u1.cell? ⟨wr.heap.size, 1, none⟩ = some (.bool y.hard) := bx_keep hwr (by decide) m1 1
          have o2 : u1.cell? ⟨wr.heap.size, 2, none⟩ = some (.int .i64 y.group) := bx_keep hwr (by decide) m1 2
          have o3 : u1.cell? ⟨wr.heap.size, 3, none⟩ = some (.int .i64 y.when_.op) := bx_keep hwr (by decide) m1 3
          have o4 : u1.cell? ⟨wr.heap.size, 4, none⟩ = some (.int .i64 y.when_.num) := bx_keep hwr (by decide) m1 4
          have o5 : u1.cell? ⟨wr.heap.size, 5, none⟩ = some (.int .i64 y.when_.den) := bx_keep hwr (by decide) m1 5
          have o6 : u1.cell? ⟨wr.heap.size, 6, none⟩ = some (.int .i64 y.when_.mode) := bx_keep hwr (by decide) m1 6
          have o7 : u1.cell? ⟨wr.heap.size, 7, none⟩ = some (.slice a1 y.when_.args.len c1) := bx_keep hwr (by decide) m1 7
          have o8 : u1.cell? ⟨wr.heap.size, 8, none⟩ = some (.string ⟨y.text.toArray⟩) := bx_keep hwr (by decide) m1 8
          have d2 := j1.int y.group (by simp; omega)
          go_wp2_with (go_at_call 57; fail)
          refine d2.mono ?_
          rintro e u2 ⟨rfl, j2, n2⟩
          have m2 := m1.trans n2
          clear d2 n2 o0 o1 o2 o3 o4 o5 o6 o7 o8 m1
          have o0 : u2.cell? ⟨wr.heap.size, 0, none⟩ = some (.string ⟨y.name.toArray⟩) := bx_keep hwr (by decide) m2 0
          have o1 : u2.cell? ⟨wr.heap.size, 1, none⟩ = some (.bool y.hard) := bx_keep hwr (by decide) m2 1
          have o2 : u2.cell? ⟨wr.heap.size, 2, none⟩ = some (.int .i64 y.group) := bx_keep hwr (by decide) m2 2
          have o3 : u2.cell? ⟨wr.heap.size, 3, none⟩ = some (.int .i64 y.when_.op) := bx_keep hwr (by decide) m2 3
          have o4 : u2.cell? ⟨wr.heap.size, 4, none⟩ = some (.int .i64 y.when_.num) := bx_keep hwr (by decide) m2 4
          have o5 : u2.cell? ⟨wr.heap.size, 5, none⟩ = some (.int .i64 y.when_.den) := bx_keep hwr (by decide) m2 5
          have o6 : u2.cell? ⟨wr.heap.size, 6, none⟩ = some (.int .i64 y.when_.mode) := bx_keep hwr (by decide) m2 6
          have o7 : u2.cell? ⟨wr.heap.size, 7, none⟩ = some (.slice a1 y.when_.args.len c1) := bx_keep hwr (by decide) m2 7
          have o8 : u2.cell? ⟨wr.heap.size, 8, none⟩ = some (.string ⟨y.text.toArray⟩) := bx_keep hwr (by decide) m2 8
          have d3 := j2.expr y.when_ a1 c1 hyn (by simp; omega) (FoAt.fr m2.bl.size (fun b hb _ => m2.bl.block b hb) _ _ hF1)
          go_wp2_with (go_at_call 58; fail)
          refine d3.mono ?_
          rintro e u3 ⟨rfl, j3, n3⟩
          have m3 := m2.trans n3
          clear d3 n3 o0 o1 o2 o3 o4 o5 o6 o7 o8 m2
          have o0 : u3.cell? ⟨wr.heap.size, 0, none⟩ = some (.string ⟨y.name.toArray⟩) := bx_keep hwr (by decide) m3 0
          have o1 : u3.cell? ⟨wr.heap.size, 1, none⟩ = some (.bool y.hard) := bx_keep hwr (by decide) m3 1
          have o2 : u3.cell? ⟨wr.heap.size, 2, none⟩ = some (.int .i64 y.group) := bx_keep hwr (by decide) m3 2
          have o3 : u3.cell? ⟨wr.heap.size, 3, none⟩ = some (.int .i64 y.when_.op) := bx_keep hwr (by decide) m3 3
          have o4 : u3.cell? ⟨wr.heap.size, 4, none⟩ = some (.int .i64 y.when_.num) := bx_keep hwr (by decide) m3 4
          have o5 : u3.cell? ⟨wr.heap.size, 5, none⟩ = some (.int .i64 y.when_.den) := bx_keep hwr (by decide) m3 5
          have o6 : u3.cell? ⟨wr.heap.size, 6, none⟩ = some (.int .i64 y.when_.mode) := bx_keep hwr (by decide) m3 6
          have o7 : u3.cell? ⟨wr.heap.size, 7, none⟩ = some (.slice a1 y.when_.args.len c1) := bx_keep hwr (by decide) m3 7
          have o8 : u3.cell? ⟨wr.heap.size, 8, none⟩ = some (.string ⟨y.text.toArray⟩) := bx_keep hwr (by decide) m3 8
          have d4 := j3.text y.text (by simp; omega)
          go_wp2_with (go_at_call 55; fail)
          refine d4.mono ?_
          rintro e u4 ⟨rfl, j4, n4⟩
          have m4 := m3.trans n4
          clear d4 n4 o0 o1 o2 o3 o4 o5 o6 o7 o8 m3
          have o0 : u4.cell? ⟨wr.heap.size, 0, none⟩ = some (.string ⟨y.name.toArray⟩) := bx_keep hwr (by decide) m4 0
          have o1 : u4.cell? ⟨wr.heap.size, 1, none⟩ = some (.bool y.hard) := bx_keep hwr (by decide) m4 1
          have o2 : u4.cell? ⟨wr.heap.size, 2, none⟩ = some (.int .i64 y.group) := bx_keep hwr (by decide) m4 2
          have o3 : u4.cell? ⟨wr.heap.size, 3, none⟩ = some (.int .i64 y.when_.op) := bx_keep hwr (by decide) m4 3
          have o4 : u4.cell? ⟨wr.heap.size, 4, none⟩ = some (.int .i64 y.when_.num) := bx_keep hwr (by decide) m4 4
          have o5 : u4.cell? ⟨wr.heap.size, 5, none⟩ = some (.int .i64 y.when_.den) := bx_keep hwr (by decide) m4 5
          have o6 : u4.cell? ⟨wr.heap.size, 6, none⟩ = some (.int .i64 y.when_.mode) := bx_keep hwr (by decide) m4 6
          have o7 : u4.cell? ⟨wr.heap.size, 7, none⟩ = some (.slice a1 y.when_.args.len c1) := bx_keep hwr (by decide) m4 7
          have o8 : u4.cell? ⟨wr.heap.size, 8, none⟩ = some (.string ⟨y.text.toArray⟩) := bx_keep hwr (by decide) m4 8
          have hfin := Hid.mk (j4.cast (x' := x2 ++ (p.cks.take (i + 1)).flatMap pcCk) (cnt' := (nh + 2 + sL) + ((p.cks.take (i + 1)).map nCk).sum) (ok' := (∀ y ∈ p.lns, okL y) ∧ ∀ y ∈ p.cks.take (i + 1), okK y) (by rw [s1.out, pcCk]; simp only [List.append_assoc]; rfl) (by rw [s2.out]; unfold nCk; omega) (by rw [s3.out]; unfold okK; simp only [and_assoc]))
          have hfb := hb.trans (hbA.trans m4)
          clear hb m4 j4 e0 e1 e2 e3 e4 e5 e6 e7 e8 o0 o1 o2 o3 o4 o5 o6 o7 o8
          go_wp2
          go_roundw
          case rel => exact ⟨i + 1, by omega, by go_num, hfin.out, hfb⟩
          case measure => simp [intOf]; omega
        · have hlt' : ¬ (i : Int) < (p.cks.length : Int) := by omega
          obtain rfl : i = p.cks.length := by omega
          rw [List.take_length, ← hsK.out] at hr
          obtain ⟨P, b, hRS, hbok, hPx, hPl⟩ := hr.ex
          have hBW := hB0.trans hb
          have c1 := hRS.c1
          have hwl := hRS.lt
          clear hr hb hR6 hR7
          cases b with
          | true =>
            have hfin : RfP p W (.returned (.tuple #[.slice none 0 0, .int .i64 72])) wr := ⟨hBW.bl, .inl ⟨fun h => (by have := hbok.2 h.1; cases this), rfl⟩⟩
            rw [hQ.out] at hfin
            clear hRS hbok hPx hBW
            go_wp2
            exact hfin
          | false =>
            have hP : Hid (P = pcP p) := ⟨by rw [hPx rfl, hx2.out, hx1.out, pcP, List.nil_append]⟩
            have hOk : ∀ x ∈ P, OkPc x := by rw [hP.out]; exact hzH.out.pc
            have hPlen : P.length ≤ 1000000000 := hRS.le
            have hfinH : Hid (∀ e w, TlP P wr e w → RfP p W e w) := ⟨fun e w h => by
              unfold TlP at h
              rw [hP.out] at h
              refine ⟨hBW.bl.trans (h.1.mono hBW.bl.size), ?_⟩
              have hok : okP p := hbok.1 rfl
              rcases h.2 with ⟨h1, h2⟩ | ⟨h1, F, pa, cap, rfl, h2, h3⟩
              · exact .inl ⟨fun h => h1 h.2, h2⟩
              · exact .inr ⟨⟨hok, h1⟩, pa, cap, h2, own_less h3 hBW.bl.size⟩⟩
            obtain ⟨w0, rfl⟩ : ∃ w0, w0 = wr := ⟨_, rfl⟩
            have hPA := hRS.pat
            replace hOk := Hid.mk hOk
            clear hbok hPx hPl hRS hP hzH hbx hBW hsL hsK hnh hx1 hx2
            obtain ⟨i0, hi, hz0, hz1, hz2⟩ := info_parts infoU8
            have hlit : (w0.alloc (.cells #[.int .u8 76, .int .u8 86, .int .u8 89, .int .u8 49] 5)).ownsRow w0.heap.size 5 1 (.slice (some ⟨w0.heap.size, 0, none⟩) 4 4) 4 (Go.Lib.byteCells [76, 86, 89, 49]) := World.ownsRow_lit (base := w0.heap.size) (e := 5) (size := 1) w0 #[.int .u8 76, .int .u8 86, .int .u8 89, .int .u8 49] 4 (Nat.le_refl _) (by unfold maxLen; omega) (by simp)
            have hBl : Below w0.heap.size w0 (w0.alloc (.cells #[.int .u8 76, .int .u8 86, .int .u8 89, .int .u8 49] 5)) := (Below.refl _ _).alloc (Nat.le_refl _) _
            have hPA1 := hPA.later hBl
            go_wp2_with fail
            go_loopw [8, 9] (fun bv iv wr => ∃ (i : Nat) (acc : List UInt8), i ≤ P.length ∧ iv = .int .i64 (i : Int) ∧ wr.ownsRow w0.heap.size 5 1 bv acc.length (Go.Lib.byteCells acc) ∧ Below w0.heap.size w0 wr ∧ Hid (acc = [76, 86, 89, 49] ++ (P.take i).flatMap bp) ∧ acc.length ≤ 20000000) (fun _ iv _ => P.length - (intOf iv).toNat)
            case atStart => exact ⟨0, [76, 86, 89, 49], Nat.zero_le _, rfl, hlit, hBl, ⟨by simp⟩, by simp⟩
            case round =>
              clear hlit hBl hPA1 c1 o6
              obtain ⟨i, acc, hile, rfl, ho, hB, hacc, hal⟩ := hrel
              have hbs := hB.size
              obtain ⟨pa, ca, rfl⟩ := own_slice ho
              have hPr := hPA.later hB
              by_cases hlt : i < P.length
              · have hlt' : (i : Int) < (P.length : Int) := by omega
                have hi0 : (0 : Int) ≤ (i : Int) := by omega
                obtain ⟨g, oo, cap, q0, hgl, hcells⟩ : ∃ g oo cap, wr.cell? ⟨W.heap.size + 1, 0, none⟩ = some (.slice (some ⟨g, oo, none⟩) P.length cap) ∧ g < w0.heap.size ∧ _ := by
                  rcases hPr.ex with ⟨h1, -⟩ | h1
                  · rw [h1] at hlt; simp at hlt
                  · exact h1
                obtain ⟨e0, e1, e2⟩ := hcells i hlt
                have s1 := Hid.mk (take_flatR bp hlt)
                have hx := hOk.out _ (List.getElem_mem hlt)
                generalize P[i] = x at *
                clear hcells hPr
                by_cases hsm : acc.length ≤ 131072
                · have hsm' : (acc.length : Int) ≤ 131072 := by omega
                  obtain ⟨kd, n, s⟩ := x
                  have hBx : Below w0.heap.size w0 (wr.alloc (.cells #[.int .i64 kd, .int .i64 n, .string ⟨s.toArray⟩] 121)) := hB.alloc hbs _
                  have hoX := ho.alloc (.cells #[.int .i64 kd, .int .i64 n, .string ⟨s.toArray⟩] 121)
                  have hXs : wr.heap.size < (wr.alloc (.cells #[.int .i64 kd, .int .i64 n, .string ⟨s.toArray⟩] 121)).heap.size := by simp
                  have hXc : Hid (∀ w, Below (wr.alloc (.cells #[.int .i64 kd, .int .i64 n, .string ⟨s.toArray⟩] 121)).heap.size (wr.alloc (.cells #[.int .i64 kd, .int .i64 n, .string ⟨s.toArray⟩] 121)) w → w.cell? ⟨wr.heap.size, 0, none⟩ = some (.int .i64 kd) ∧ w.cell? ⟨wr.heap.size, 1, none⟩ = some (.int .i64 n) ∧ w.cell? ⟨wr.heap.size, 2, none⟩ = some (.string ⟨s.toArray⟩)) := ⟨fun w hw => by
                    have hb := bx_new wr #[.int .i64 kd, .int .i64 n, .string ⟨s.toArray⟩] 121
                    exact ⟨(bel_cell hw hXs 0).trans (hb.2.1 0 (by simp)), (bel_cell hw hXs 1).trans (hb.2.1 1 (by simp)), (bel_cell hw hXs 2).trans (hb.2.1 2 (by simp))⟩⟩
                  generalize hXe : (wr.alloc (.cells #[.int .i64 kd, .int .i64 n, .string ⟨s.toArray⟩] 121)) = Y at hBx hoX hXs hXc
                  rcases hx with ⟨hk, hn0, hn1⟩ | ⟨hk, hn⟩ | ⟨hk, hsl⟩ | ⟨hk, hn0, hn1⟩
                  · simp only [] at hk hn0 hn1
                    subst hk
                    have hcv : n % 18446744073709551616 = n := by omega
                    have hs7 := seven_any n.toNat (by omega) Y
                    have hb7 := encN_ten n.toNat (by omega)
                    rw [show ((n.toNat : Nat) : Int) = n by omega] at hs7
                    obtain ⟨f0, f1, f2⟩ := hXc.out Y (Below.refl _ _)
                    go_wp2_with (go_at_call 59; fail)
                    refine hs7.mono ?_
                    rintro e w1 ⟨g7, c7, rfl, ho7, hB7⟩
                    clear f0 f1 f2
                    obtain ⟨f0, f1, f2⟩ := hXc.out w1 hB7
                    have hoB := own_bel hoX hB7
                    have hBB := hBx.trans (hB7.mono (Nat.le_trans hbs (Nat.le_of_lt hXs)))
                    have hYs := Nat.le_trans hbs (Nat.le_trans (Nat.le_of_lt hXs) hB7.size)
                    have hYw := hB7.size
                    have hnw := own_news ho7
                    clear hs7 hB7 hXe e0 e1 e2 q0
                    obtain ⟨bs, hbs7⟩ : ∃ bs, bs = encN n.toNat := ⟨_, rfl⟩
                    rw [← hbs7] at hnw hb7 ho7 ⊢
                    replace hbs7 := Hid.mk hbs7
                    have hbl := byte_len bs
                    have hbo := byte_one bs
                    replace hbl := Hid.mk hbl
                    replace hbo := Hid.mk hbo
                    replace hnw := Hid.mk hnw
                    clear ho7
                    go_wp2_with (at_builtin; refine wpList_append_own _ rfl _ _ 22 rfl w0.heap.size 5 i0 (.int .u8 0) 1 1 Try.underlying22 hi hz0 hz1 hz2 rfl (by decide) _ _ _ rfl hoB ⟨g7, 0, none⟩ bs.length c7 (Go.Lib.byteCells bs) rfl hbl.out hnw.out hbo.out (by unfold maxLen; omega) (by omega) hYs ?_; intro v4 w4 hown4 hgrow4 _; rw [← Go.Lib.byteCells_append] at hown4; obtain ⟨p4, cap4, rfl⟩ := own_slice hown4; refine dbgM ?_)
                    unfold Marker
                    have hB4 := below_own hBB hoB hgrow4 hYs
                    have hblk : (Value.slice pa acc.length ca).ownBlock ≠ some wr.heap.size := fun e => by have := (ho.lt _ e).2; omega
                    skip
                    clear f0 f1 f2 hgrow4
                    go_wp2
                    go_roundw
                    case rel => exact ⟨i + 1, acc ++ bs, by omega, by go_num, by rw [List.length_append]; exact hown4, hB4, ⟨by rw [s1.out, hacc.out, hbs7.out]; simp [bp]⟩, by rw [List.length_append]; omega⟩
                    case measure => simp [intOf]; omega
                  · simp only [] at hk hn
                    subst hk
                    have hsg := signed_any n hn Y
                    have hs7 := seven_any (zig n) (zig_rg hn) Y
                    have hb7 := encN_ten (zig n) (zig_rg hn)
                    obtain ⟨f0, f1, f2⟩ := hXc.out Y (Below.refl _ _)
                    go_wp2_with (go_at_call 60; fail)
                    refine hsg.mono ?_
                    rintro e w9 ⟨rfl, rfl⟩
                    clear hsg
                    go_wp2_with (go_at_call 59; fail)
                    refine hs7.mono ?_
                    rintro e w1 ⟨g7, c7, rfl, ho7, hB7⟩
                    clear f0 f1 f2
                    obtain ⟨f0, f1, f2⟩ := hXc.out w1 hB7
                    have hoB := own_bel hoX hB7
                    have hBB := hBx.trans (hB7.mono (Nat.le_trans hbs (Nat.le_of_lt hXs)))
                    have hYs := Nat.le_trans hbs (Nat.le_trans (Nat.le_of_lt hXs) hB7.size)
                    have hYw := hB7.size
                    have hnw := own_news ho7
                    clear hs7 hB7 hXe e0 e1 e2 q0
                    obtain ⟨bs, hbs7⟩ : ∃ bs, bs = encN (zig n) := ⟨_, rfl⟩
                    rw [← hbs7] at hnw hb7 ho7 ⊢
                    replace hbs7 := Hid.mk hbs7
                    have hbl := byte_len bs
                    have hbo := byte_one bs
                    replace hbl := Hid.mk hbl
                    replace hbo := Hid.mk hbo
                    replace hnw := Hid.mk hnw
                    clear ho7
                    go_wp2_with (at_builtin; refine wpList_append_own _ rfl _ _ 22 rfl w0.heap.size 5 i0 (.int .u8 0) 1 1 Try.underlying22 hi hz0 hz1 hz2 rfl (by decide) _ _ _ rfl hoB ⟨g7, 0, none⟩ bs.length c7 (Go.Lib.byteCells bs) rfl hbl.out hnw.out hbo.out (by unfold maxLen; omega) (by omega) hYs ?_; intro v4 w4 hown4 hgrow4 _; rw [← Go.Lib.byteCells_append] at hown4; obtain ⟨p4, cap4, rfl⟩ := own_slice hown4; refine dbgM ?_)
                    unfold Marker
                    have hB4 := below_own hBB hoB hgrow4 hYs
                    have hblk : (Value.slice pa acc.length ca).ownBlock ≠ some wr.heap.size := fun e => by have := (ho.lt _ e).2; omega
                    skip
                    clear f0 f1 f2 hgrow4
                    go_wp2
                    go_roundw
                    case rel => exact ⟨i + 1, acc ++ bs, by omega, by go_num, by rw [List.length_append]; exact hown4, hB4, ⟨by rw [s1.out, hacc.out, hbs7.out]; simp [bp, encI]⟩, by rw [List.length_append]; omega⟩
                    case measure => simp [intOf]; omega
                  · simp only [] at hk hsl
                    subst hk
                    have hcv : (s.length : Int) % 18446744073709551616 = (s.length : Int) := by omega
                    have hs7 := seven_any s.length (by omega) Y
                    have hb7 := encN_ten s.length (by omega)
                    obtain ⟨f0, f1, f2⟩ := hXc.out Y (Below.refl _ _)
                    go_wp2_with (go_at_call 59; fail)
                    refine hs7.mono ?_
                    rintro e w1 ⟨g7, c7, rfl, ho7, hB7⟩
                    clear f0 f1 f2
                    obtain ⟨f0, f1, f2⟩ := hXc.out w1 hB7
                    have hoB := own_bel hoX hB7
                    have hBB := hBx.trans (hB7.mono (Nat.le_trans hbs (Nat.le_of_lt hXs)))
                    have hYs := Nat.le_trans hbs (Nat.le_trans (Nat.le_of_lt hXs) hB7.size)
                    have hYw := hB7.size
                    have hnw := own_news ho7
                    clear hs7 hB7 hXe e0 e1 e2 q0
                    obtain ⟨bs, hbs7⟩ : ∃ bs, bs = encN s.length := ⟨_, rfl⟩
                    rw [← hbs7] at hnw hb7 ho7 ⊢
                    replace hbs7 := Hid.mk hbs7
                    have hbl := byte_len bs
                    have hbo := byte_one bs
                    replace hbl := Hid.mk hbl
                    replace hbo := Hid.mk hbo
                    replace hnw := Hid.mk hnw
                    clear ho7
                    go_wp2_with (at_builtin; refine wpList_append_own _ rfl _ _ 22 rfl w0.heap.size 5 i0 (.int .u8 0) 1 1 Try.underlying22 hi hz0 hz1 hz2 rfl (by decide) _ _ _ rfl hoB ⟨g7, 0, none⟩ bs.length c7 (Go.Lib.byteCells bs) rfl hbl.out hnw.out hbo.out (by unfold maxLen; omega) (by omega) hYs ?_; intro v4 w4 hown4 hgrow4 _; rw [← Go.Lib.byteCells_append] at hown4; obtain ⟨p4, cap4, rfl⟩ := own_slice hown4; refine dbgM ?_)
                    unfold Marker
                    have hB4 := below_own hBB hoB hgrow4 hYs
                    have hblk : (Value.slice pa acc.length ca).ownBlock ≠ some wr.heap.size := fun e => by have := (ho.lt _ e).2; omega
                    have f2' := (gr_cell hgrow4 (Nat.lt_of_lt_of_le hXs hYw) (fun e => hblk e.symm) 2).trans f2
                    have hsz : (ByteArray.mk s.toArray).size = s.length := rfl
                    have hY4 := Nat.le_trans hYs hgrow4.size
                    clear f0 f1 f2 hgrow4
                    go_wp2_with (at_builtin; refine dbgM ?_)
                    unfold Marker
                    refine Go.Lib.wpList_append_own_string _ rfl _ _ 22 9 rfl w0.heap.size 5 i0 Try.underlying22 Try.underlying9 hi hz0 hz1 hz2 _ _ _ rfl hown4 _ rfl (by rw [hsz]; unfold maxLen; omega) (by rw [hsz]; omega) hY4 ?_
                    intro v5 w5 hown5 hgrow5 _
                    rw [hsz, strCells_of, ← Go.Lib.byteCells_append] at hown5
                    obtain ⟨p5, cap5, rfl⟩ := own_slice hown5
                    have hB5 := below_own hB4 hown4 hgrow5 hY4
                    go_wp2
                    go_roundw
                    case rel => exact ⟨i + 1, acc ++ bs ++ s, by omega, by go_num, by rw [List.length_append, List.length_append]; exact hown5, hB5, ⟨by rw [s1.out, hacc.out, hbs7.out]; simp [bp, encS]⟩, by rw [List.length_append, List.length_append]; omega⟩
                    case measure => simp [intOf]; omega
                  · simp only [] at hk hn0 hn1
                    subst hk
                    have hcv : n % 256 = n := by omega
                    have hsn := byte_snoc acc n hn0 hn1
                    have hoL := hoX.alloc (.cells #[.int .u8 n] 5)
                    have hBL := hBx.alloc (Nat.le_trans hbs (Nat.le_of_lt hXs)) (.cells #[.int .u8 n] 5)
                    obtain ⟨f0, f1, f2⟩ := hXc.out Y (Below.refl _ _)
                    go_wp2_with (at_builtin; refine wpList_append_own _ rfl _ _ 22 rfl w0.heap.size 5 i0 (.int .u8 0) 1 1 Try.underlying22 hi hz0 hz1 hz2 rfl (by decide) _ _ _ rfl hoL ⟨Y.heap.size, 0, none⟩ 1 1 [.int .u8 n] rfl rfl (cell_one_new Y _ _) (by simp [Value.oneCell']) (by unfold maxLen; omega) (by omega) (by simp; omega) ?_; intro v4 w4 hown4 hgrow4 _; rw [hsn] at hown4; obtain ⟨p4, cap4, rfl⟩ := own_slice hown4)
                    have hB4 := below_own hBL hoL hgrow4 (by simp; omega)
                    clear hXe f0 f1 f2 e0 e1 e2 q0
                    go_wp2
                    go_roundw
                    case rel => exact ⟨i + 1, acc ++ [UInt8.ofNat n.toNat], by omega, by go_num, by rw [List.length_append]; exact hown4, hB4, ⟨by rw [s1.out, hacc.out]; simp [bp]⟩, by rw [List.length_append, List.length_singleton]; omega⟩
                    case measure => simp [intOf]; omega
                · have hsm' : ¬ (acc.length : Int) ≤ 131072 := by omega
                  clear e0 e1 e2 hx s1
                  have hsum := rsum_any pa ca (acc.map UInt8.toNat) (by rw [List.length_map]; omega) wr (byts_own ho)
                  rw [List.length_map] at hsum
                  have hnl := fnv_lt (acc.map UInt8.toNat)
                  have hnE : Hid (fnvB acc = fnv (acc.map UInt8.toNat)) := ⟨rfl⟩
                  generalize fnv (acc.map UInt8.toNat) = nn at *
                  have hoL := ho.alloc (.cells #[.int .u8 ((nn : Int) % 256), .int .u8 ((nn : Int) / 256 % 256), .int .u8 ((nn : Int) / 65536 % 256), .int .u8 ((nn : Int) / 16777216)] 5)
                  have hBL := hB.alloc hbs (.cells #[.int .u8 ((nn : Int) % 256), .int .u8 ((nn : Int) / 256 % 256), .int .u8 ((nn : Int) / 65536 % 256), .int .u8 ((nn : Int) / 16777216)] 5)
                  have hb4 := bytes4 acc nn hnl
                  have n0 : (nn : Int) % 256 % 256 = (nn : Int) % 256 := by omega
                  have n1 : (nn : Int) / 256 % 256 % 256 = (nn : Int) / 256 % 256 := by omega
                  have n2 : (nn : Int) / 65536 % 256 % 256 = (nn : Int) / 65536 % 256 := by omega
                  have n3 : (nn : Int) / 16777216 % 256 = (nn : Int) / 16777216 := by omega
                  go_wp2_with (go_at_call 25; fail)
                  refine hsum.mono ?_
                  rintro e w1 ⟨rfl, rfl⟩
                  clear hsum
                  go_wp2_with (at_builtin; refine wpList_append_own _ rfl _ _ 22 rfl w0.heap.size 5 i0 (.int .u8 0) 1 1 Try.underlying22 hi hz0 hz1 hz2 rfl (by decide) _ _ _ rfl hoL ⟨w1.heap.size, 0, none⟩ 4 4 [.int .u8 ((nn : Int) % 256), .int .u8 ((nn : Int) / 256 % 256), .int .u8 ((nn : Int) / 65536 % 256), .int .u8 ((nn : Int) / 16777216)] rfl rfl (lit_at w1 _ _) (by simp [Value.oneCell']) (by unfold maxLen; omega) (by omega) (by simp; omega) ?_; intro v4 w4 hown4 hgrow4 _; rw [hb4] at hown4; obtain ⟨p4, cap4, rfl⟩ := own_slice hown4; refine dbgM ?_)
                  unfold Marker
                  have hB4 := below_own hBL hoL hgrow4 (by simp; omega)
                  clear hgrow4 hoL hBL hb4
                  have hbig : (131072 : Int) < (acc.length : Int) + 4 := by omega
                  have hfin := hfinH.out (.returned (.tuple #[.slice none 0 0, .int .i64 72])) w4 ⟨hB4, .inl ⟨by have h := flat_le bp P i; have h2 := congrArg List.length hacc.out; rw [List.length_append] at h2 ⊢; omega, rfl⟩⟩
                  rw [hQ.out] at hfin
                  clear hown4 hB4 ho hB
                  go_wp2
                  exact hfin
              · have hlt' : ¬ (i : Int) < (P.length : Int) := by omega
                obtain rfl : i = P.length := by omega
                rw [List.take_length] at hacc
                obtain ⟨pq, cq, q0⟩ : ∃ pq cq, wr.cell? ⟨W.heap.size + 1, 0, none⟩ = some (.slice pq P.length cq) := by
                  rcases hPr.ex with ⟨h1, h2⟩ | ⟨g, oo, cap, h1, -⟩
                  · exact ⟨none, 0, by rw [h2, h1]; rfl⟩
                  · exact ⟨_, _, h1⟩
                clear hPr
                have hsum := rsum_any pa ca (acc.map UInt8.toNat) (by rw [List.length_map]; omega) wr (byts_own ho)
                rw [List.length_map] at hsum
                have hnl := fnv_lt (acc.map UInt8.toNat)
                have hnE : Hid (fnvB acc = fnv (acc.map UInt8.toNat)) := ⟨rfl⟩
                generalize fnv (acc.map UInt8.toNat) = nn at *
                have hoL := ho.alloc (.cells #[.int .u8 ((nn : Int) % 256), .int .u8 ((nn : Int) / 256 % 256), .int .u8 ((nn : Int) / 65536 % 256), .int .u8 ((nn : Int) / 16777216)] 5)
                have hBL := hB.alloc hbs (.cells #[.int .u8 ((nn : Int) % 256), .int .u8 ((nn : Int) / 256 % 256), .int .u8 ((nn : Int) / 65536 % 256), .int .u8 ((nn : Int) / 16777216)] 5)
                have hb4 := bytes4 acc nn hnl
                have n0 : (nn : Int) % 256 % 256 = (nn : Int) % 256 := by omega
                have n1 : (nn : Int) / 256 % 256 % 256 = (nn : Int) / 256 % 256 := by omega
                have n2 : (nn : Int) / 65536 % 256 % 256 = (nn : Int) / 65536 % 256 := by omega
                have n3 : (nn : Int) / 16777216 % 256 = (nn : Int) / 16777216 := by omega
                go_wp2_with (go_at_call 25; fail)
                refine hsum.mono ?_
                rintro e w1 ⟨rfl, rfl⟩
                clear hsum
                go_wp2_with (at_builtin; refine wpList_append_own _ rfl _ _ 22 rfl w0.heap.size 5 i0 (.int .u8 0) 1 1 Try.underlying22 hi hz0 hz1 hz2 rfl (by decide) _ _ _ rfl hoL ⟨w1.heap.size, 0, none⟩ 4 4 [.int .u8 ((nn : Int) % 256), .int .u8 ((nn : Int) / 256 % 256), .int .u8 ((nn : Int) / 65536 % 256), .int .u8 ((nn : Int) / 16777216)] rfl rfl (lit_at w1 _ _) (by simp [Value.oneCell']) (by unfold maxLen; omega) (by omega) (by simp; omega) ?_; intro v4 w4 hown4 hgrow4 _; rw [hb4] at hown4; obtain ⟨p4, cap4, rfl⟩ := own_slice hown4; refine dbgM ?_)
                unfold Marker
                have hB4 := below_own hBL hoL hgrow4 (by simp; omega)
                clear hgrow4 hoL hBL hb4
                by_cases hbig : 131072 < acc.length + 4
                · have hbig' : (131072 : Int) < (acc.length : Int) + 4 := by omega
                  have hfin := hfinH.out (.returned (.tuple #[.slice none 0 0, .int .i64 72])) w4 ⟨hB4, .inl ⟨by rw [← hacc.out]; omega, rfl⟩⟩
                  rw [hQ.out] at hfin
                  clear hown4 hB4 ho hB
                  go_wp2
                  exact hfin
                · have hbig' : ¬ (131072 : Int) < (acc.length : Int) + 4 := by omega
                  have hfin := hfinH.out (.returned (.tuple #[.slice p4 (acc.length + 4) cap4, .int .i64 0])) w4 ⟨hB4, .inr ⟨by rw [← hacc.out]; omega, acc ++ sum4 nn, p4, cap4, by rw [← hacc.out, hnE.out], by rw [List.length_append]; rfl, by rw [List.length_append]; exact hown4⟩⟩
                  rw [hQ.out] at hfin
                  clear hown4 hB4 ho hB
                  go_wp2
                  exact hfin

end Go.Proofs.Ytjgkjdalnjlefaa.V

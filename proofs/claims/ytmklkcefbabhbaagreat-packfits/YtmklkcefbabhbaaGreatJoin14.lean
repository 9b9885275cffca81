import Derived.Test.YtmklkcefbabhbaaGreatJoin13
import Derived.Laws.OwnMore
namespace Go.Proofs.YtmklkcefbabhbaaGreat
open Go.RowKit

theorem WS.byts {wb : Nat} {W : World} {acc : List UInt8} {p : Option Addr} {cap : Nat} (ho : W.ownsRow (wb + 1) 5 1 (.slice p acc.length cap) acc.length (Go.Lib.byteCells acc)) : Byts W p (acc.map UInt8.toNat) := by
  refine ⟨fun n hn => by obtain ⟨x, _, rfl⟩ := List.mem_map.mp hn; exact x.toNat_lt, ?_⟩
  have ho' := ho
  rcases ho' with ⟨hl, ⟨e, h0⟩ | ⟨g, c2, cur, e, hge, hc, _⟩⟩
  · left
    rw [List.map_eq_nil_iff]
    exact List.length_eq_zero_iff.mp h0
  · right
    injection e with e
    subst e
    refine ⟨g, 0, rfl, heap_lt hc, fun i hi => ?_⟩
    rw [List.length_map] at hi
    rw [Nat.zero_add, ho.cellAt i (by omega)]
    unfold Go.Lib.byteCells
    rw [List.getElem?_map, List.getElem?_eq_getElem hi, List.getElem_map]
    rfl

theorem sum4_step (n i : Nat) (hn : n < 4294967296) (hi : i < 4) : (sum4 n).take (i + 1) = (sum4 n).take i ++ [UInt8.ofNat (n / 256 ^ i % 256)] := by
  have h3 : n / 16777216 % 256 = n / 16777216 := by omega
  rcases (by omega : i = 0 ∨ i = 1 ∨ i = 2 ∨ i = 3) with rfl | rfl | rfl | rfl
  · simp [sum4]
  · simp [sum4]
  · simp [sum4]
  · simp [sum4, h3]
theorem div_step (n i : Nat) : n / 256 ^ i / 256 = n / 256 ^ (i + 1) := by rw [Nat.div_div_eq_div_mul, Nat.pow_succ]
set_option maxRecDepth 8000 in
set_option maxHeartbeats 1000000 in
theorem wsum_any (lo wb : Nat) (W : World) {acc : List UInt8} {b : Bool} (h : WS lo wb W acc b) : Calls Tryz.prog 46 #[.pointer (some ⟨wb, 0, none⟩)] W (Wp lo wb acc b (sum4 (fnvB acc)) True W) := by
  obtain ⟨p0, cap0, c0, ho⟩ := h.own
  have hle := h.le
  have hk0 := sum_any p0 cap0 (acc.map UInt8.toNat) (by rw [List.length_map]; omega) W (WS.byts ho)
  rw [List.length_map] at hk0
  have hn := fnv_lt (acc.map UInt8.toNat)
  unfold fnvB
  generalize fnv (acc.map UInt8.toNat) = n at *
  have h' := h
  clear h ho
  go_enter Tryz.func46, Tryz.ntmps46
  go_wp2_with (go_at_call 12; go_loud (refine hk0.mono ?_; clear hk0; rintro e w1 ⟨rfl, rfl⟩))
  go_loopw [2, 8] (fun nv iv W2 => ∃ (i : Nat) (acc2 : List UInt8) (b2 : Bool), nv = .int .u32 ((n / 256 ^ i : Nat) : Int) ∧ iv = .int .i64 (i : Int) ∧ i ≤ 4 ∧ WS lo wb W2 acc2 b2 ∧ Bk lo wb w1 W2 ∧ Wr acc b acc2 b2 ((sum4 n).take i) True) (fun _ iv _ => 4 - (intOf iv).toNat)
  case atStart => exact ⟨0, acc, b, by simp, rfl, by omega, h', Bk.refl _ _ _, by rw [List.take_zero]; exact ⟨fun h => ⟨h, by simp, trivial⟩, fun h _ _ => h⟩⟩
  case round =>
    clear h' c0
    obtain ⟨i, acc2, b2, rfl, rfl, hi, hW2, hB2, hr2⟩ := hrel
    by_cases hlt : i < 4
    · have hlt' : (i : Int) < 4 := by omega
      have hst := Hid.mk (sum4_step n i hn hlt)
      have hdv := Hid.mk (div_step n i)
      have hml : n / 256 ^ i < 4294967296 := Nat.lt_of_le_of_lt (Nat.div_le_self _ _) hn
      generalize n / 256 ^ i = m at *
      have hk := wbyte_any lo wb (m % 256) (Nat.mod_lt _ (by decide)) _ hW2
      rw [show ((m % 256 : Nat) : Int) = (m : Int) % 256 by omega] at hk
      clear hW2
      go_wp2_with (go_at_call 77; go_loud (refine hk.mono ?_; clear hk; rintro e w3 ⟨rfl, acc3, b3, hW3, hB3, hr3⟩))
      go_roundw
      case rel => exact ⟨i + 1, acc3, b3, by rw [← hdv.out]; go_num, by go_num, by omega, hW3, hB2.trans hB3, by rw [hst.out]; exact hr2.tr hr3⟩
      case measure => simp [intOf]; omega
    · obtain rfl : i = 4 := by omega
      have hfin : Wp lo wb acc b (sum4 n) True w1 (.returned (.tuple #[])) wr := ⟨rfl, acc2, b2, hW2, hB2, hr2⟩
      clear hW2 hB2 hr2
      go_wp2
      exact bodyPost_end (v := .tuple #[]) (by simp [results, Tryz.results46, go_sem]) rfl hfin

end Go.Proofs.YtmklkcefbabhbaaGreat


namespace Go.Proofs.YtmklkcefbabhbaaGreat
open Go.RowKit

theorem Wr.ok {a0 a1 x : List UInt8} {b0 b1 : Bool} {p q : Prop} (h : Wr a0 b0 a1 b1 x p) (f : q ↔ p) : Wr a0 b0 a1 b1 x q := ⟨fun h0 => ⟨(h.1 h0).1, (h.1 h0).2.1, f.2 (h.1 h0).2.2⟩, fun h0 hl hq => h.2 h0 hl (f.1 hq)⟩
def toL : Fo → List Ex
  | .nil => []
  | .cons a b c d x r => ⟨a, b, c, d, x⟩ :: toL r
theorem toL_len : ∀ f, (toL f).length = f.len
  | .nil => rfl
  | .cons a b c d x r => by show (toL r).length + 1 = r.len + 1; rw [toL_len r]
theorem encF_toL : ∀ f, encF f = (toL f).flatMap encE
  | .nil => rfl
  | .cons a b c d x r => by
    show _ = (_ :: toL r).flatMap encE
    rw [List.flatMap_cons, ← encF_toL r]
    rfl
theorem deepF_toL : ∀ (f : Fo) (x : Ex), x ∈ toL f → deepE x ≤ deepF f
  | .cons a b c d y r, x, h => by
    show deepE x ≤ max (1 + deepF y) (deepF r)
    rcases List.mem_cons.1 h with rfl | h
    · show 1 + deepF y ≤ _; omega
    · have := deepF_toL r x h; omega
theorem ofL_toL : ∀ f : Fo, ofL (toL f) = f
  | .nil => rfl
  | .cons a b c d x r => by show Fo.cons a b c d x (ofL (toL r)) = _; rw [ofL_toL r]
theorem deep_all {n : Nat} (f : Fo) (h : ∀ y ∈ toL f, deepE y ≤ n) : deepF f ≤ n := by
  have := deepF_ofL (toL f) h
  rwa [ofL_toL] at this
theorem Elems.cons' {α : Type} {D : Elt α} {W : World} {S : Nat → Prop} {x : α} {xs : List α} {cx cs : List Value} (hx : D.E W S x cx) (h : Elems D W S xs cs) : Elems D W S (x :: xs) (cx ++ cs) := by
  have hl := D.len hx
  refine ⟨by rw [List.length_append, h.1, hl, List.length_cons, Nat.add_mul, Nat.one_mul, Nat.add_comm], fun i hi => ?_⟩
  cases i with
  | zero =>
    rw [Nat.zero_mul, List.drop_zero, ← hl, List.take_left]
    exact hx
  | succ i =>
    have h2 := h.2 i (by simpa using hi)
    have e : List.drop ((i + 1) * D.k) (cx ++ cs) = List.drop (i * D.k) cs := by
      rw [Nat.succ_mul, Nat.add_comm, ← hl, ← List.drop_drop, List.drop_left]
    rw [e]
    exact h2
theorem elems_of_fo {W : World} {S : Nat → Prop} {g : Nat} : ∀ (f : Fo) (o : Nat), FoAt W S f (some ⟨g, o, none⟩) → ∃ cs, (∀ j, j < cs.length → W.cell? ⟨g, o + j, none⟩ = cs[j]?) ∧ Elems eE W S (toL f) cs
  | .nil, _, _ => ⟨[], fun j hj => by simp at hj, Elems.nil _ _ _⟩
  | .cons op num den mode args rest, o, ⟨g2, o2, a2, cap2, ha, hS, hg, ⟨k0, k1, k2, k3, k4⟩, hr, hA, hR⟩ => by
    injection ha with ha
    injection ha with h1 h2
    subst h1 h2
    obtain ⟨cs, hc, hE⟩ := elems_of_fo rest (o + 5) hR
    refine ⟨[.int .i64 op, .int .i64 num, .int .i64 den, .int .i64 mode, .slice a2 args.len cap2] ++ cs, fun j hj => ?_, Elems.cons' (D := eE) (x := ⟨op, num, den, mode, args⟩) ⟨a2, cap2, rfl, hr, hA⟩ hE⟩
    match j, hj with
    | 0, _ => exact k0
    | 1, _ => exact k1
    | 2, _ => exact k2
    | 3, _ => exact k3
    | 4, _ => exact k4
    | j + 5, hj =>
      have := hc j (by simp at hj; omega)
      rw [show o + (j + 5) = o + 5 + j by omega, this]
      rfl
theorem row_of_fo {W : World} {S : Nat → Prop} {f : Fo} {a : Option Addr} (h : FoAt W S f a) : RowR eE W S (toL f) a := by
  cases f with
  | nil => exact .inl rfl
  | cons op num den mode args rest =>
    have h0 := h
    obtain ⟨g, o, a2, cap2, rfl, hS, hg, -⟩ := h0
    obtain ⟨cs, hc, hE⟩ := elems_of_fo _ o h
    exact .inr ⟨g, o, cs, rfl, hS, hg, hc, hE⟩
def SzF : Fo → Prop
  | .nil => True
  | .cons _ _ _ _ args rest => args.len ≤ 9223372036854775807 ∧ SzF args ∧ SzF rest
def SzE (x : Ex) : Prop := x.args.len ≤ 9223372036854775807 ∧ SzF x.args
theorem toL_sz : ∀ f : Fo, SzF f → ∀ x ∈ toL f, SzE x
  | .nil, _, x, hx => by cases hx
  | .cons a b c d y r, h, x, hx => by
    rcases List.mem_cons.1 hx with rfl | hx
    · exact ⟨h.1, h.2.1⟩
    · exact toL_sz r h.2.2 x hx
/-- What is asked of the writer's expr, so deep. -/
def WExpr (F : Nat) (d : Nat) (wv : List Value) (dv : List Value) (lo wb : Nat) (W : World) : Prop := ∀ (x : Ex) (a : Option Addr) (cap : Nat) (acc : List UInt8) (b : Bool), WS lo wb W acc b → SzE x → (Rg x.op ∧ Rg x.num ∧ Rg x.den ∧ Rg x.mode) → FoAt W (fun b => b < lo) x.args a → Calls Tryz.prog F (wv ++ (.agg #[.int .i64 x.op, .int .i64 x.num, .int .i64 x.den, .int .i64 x.mode, .slice a x.args.len cap]) :: dv).toArray W (Wp lo wb acc b (encE x) (deepE x + d ≤ 65) W)
set_option maxRecDepth 8000 in
set_option maxHeartbeats 1000000 in
theorem wexpr1_any (d : Nat) (hd : d ≤ 64) (b1 b2 lo wb : Nat) (W : World) (ih : ∀ W1, WExpr 76 (d + 1) [.pointer (some ⟨wb, 0, none⟩)] [.int .i64 ((d + 1 : Nat) : Int)] lo wb W1) (hc1 : W.cell? ⟨b1, 0, none⟩ = some (.pointer (some ⟨wb, 0, none⟩))) (hc2 : W.cell? ⟨b2, 0, none⟩ = some (.int .i64 (d : Int))) : WExpr 93 (d + 1) [] [.pointer (some ⟨b1, 0, none⟩), .pointer (some ⟨b2, 0, none⟩)] lo wb W := fun x a cap acc b h hz hr hF => by
  have hlt := h.lt
  have hg := World.grownBy_alloc W (.cells #[.int .i64 x.op, .int .i64 x.num, .int .i64 x.den, .int .i64 x.mode, .slice a x.args.len cap] 59) none
  have d1 := (gr_cell hg (World.block_lt_of_cell? _ _ hc1) (by simp) 0).trans hc1
  have d2 := (gr_cell hg (World.block_lt_of_cell? _ _ hc2) (by simp) 0).trans hc2
  have hB0 : Bk lo wb W _ := Bk.alloc W (Nat.le_trans h.lo (Nat.le_of_lt h.lt)) (.cells #[.int .i64 x.op, .int .i64 x.num, .int .i64 x.den, .int .i64 x.mode, .slice a x.args.len cap] 59)
  have hk := ih (W.alloc (.cells #[.int .i64 x.op, .int .i64 x.num, .int .i64 x.den, .int .i64 x.mode, .slice a x.args.len cap] 59)) x a cap acc b (h.alloc _) hz hr (FoAt.fr hB0.bl.size (fun b hb _ => hB0.bl.block b hb) _ _ hF)
  rw [show ((d + 1 : Nat) : Int) = (d : Int) + 1 by omega] at hk
  have hk : Calls Tryz.prog 76 #[.pointer (some ⟨wb, 0, none⟩), .agg #[.int .i64 x.op, .int .i64 x.num, .int .i64 x.den, .int .i64 x.mode, .slice a x.args.len cap], .int .i64 ((d : Int) + 1)] _ _ := hk
  have hd64 : (d : Int) ≤ 64 := by omega
  clear h hF ih hc1 hc2
  show Calls Tryz.prog 93 #[.agg #[.int .i64 x.op, .int .i64 x.num, .int .i64 x.den, .int .i64 x.mode, .slice a x.args.len cap], .pointer (some ⟨b1, 0, none⟩), .pointer (some ⟨b2, 0, none⟩)] W _
  go_enter Tryz.func93, Tryz.ntmps93
  go_wp2_with (go_at_call 76; go_loud (refine hk.mono ?_; clear hk; rintro e w1 ⟨rfl, acc1, b1', hW1, hB1, hr1⟩))
  have hfin : Wp lo wb acc b (encE x) (deepE x + (d + 1) ≤ 65) W (.returned (.tuple #[])) w1 := ⟨rfl, acc1, b1', hW1, hB0.trans hB1, hr1⟩
  exact bodyPost_end (v := .tuple #[]) (by simp [results, Tryz.results93, go_sem]) rfl hfin

end Go.Proofs.YtmklkcefbabhbaaGreat


namespace Go.Proofs.YtmklkcefbabhbaaGreat
open Go.RowKit

set_option maxRecDepth 8000 in
set_option maxHeartbeats 2000000 in
theorem putExprs (lo wb : Nat) (d p1 p2 : Nat) (l : List (Ex)) (a : Option Addr) (cap : Nat) (hl : l.length ≤ 9223372036854775807 ∧ ∀ x ∈ l, SzE x) (W : World) {acc : List UInt8} {b : Bool} (h : WS lo wb W acc b) (hR : RowR eE W (fun b => b < lo) l a) (hit : ∀ W1, Bk lo wb W W1 → WExpr 93 (d + 1) [] [.pointer (some ⟨p1, 0, none⟩), .pointer (some ⟨p2, 0, none⟩)] lo wb W1) : Calls Tryz.prog 92 #[.pointer (some ⟨wb, 0, none⟩), .slice a l.length cap, .func (Fn.func 93) #[] #[.pointer (some ⟨p1, 0, none⟩), .pointer (some ⟨p2, 0, none⟩)]] W (Wp lo wb acc b (encL encE l) (∀ x ∈ l, (fun x => deepE x + (d + 1) ≤ 65) x) W) := by
  have hll : l.length ≤ 9223372036854775807 := hl.1
  have hk1 := wnumber_any lo wb l.length (by omega) W h
  have hsl : (l.length : Int) % 18446744073709551616 = (l.length : Int) := by omega
  clear h
  go_enter Tryz.func92, Tryz.ntmps92
  go_wp2_with (go_at_call 69; go_loud (refine hk1.mono ?_; clear hk1; rintro e w1 ⟨rfl, acc1, b1, hW1, hB1, hr1⟩))
  go_loopw [15] (fun iv W2 => ∃ (i : Nat) (acc2 : List UInt8) (b2 : Bool), iv = .int .i64 (i : Int) ∧ i ≤ l.length ∧ WS lo wb W2 acc2 b2 ∧ Bk lo wb W W2 ∧ Wr acc b acc2 b2 (encN l.length ++ (l.take i).flatMap encE) (∀ x ∈ l.take i, (fun x => deepE x + (d + 1) ≤ 65) x)) (fun iv _ => l.length - (intOf iv).toNat)
  case atStart => exact ⟨0, acc1, b1, rfl, Nat.zero_le _, hW1, hB1, by rw [List.take_zero, List.flatMap_nil, List.append_nil]; exact hr1.ok ⟨fun _ => trivial, fun _ x hx => by simp at hx⟩⟩
  case round =>
    clear hW1 hB1 hr1 acc1 b1
    obtain ⟨i, acc2, b2, rfl, hi, hW2, hB2, hr2⟩ := hrel
    by_cases hlt : i < l.length
    · have hlt' : (i : Int) < (l.length : Int) := by omega
      have hi0 : (0 : Int) ≤ (i : Int) := by omega
      have hR2 := hR.fr hB2.bl.size (fun b hb _ => hB2.bl.block b hb)
      obtain ⟨⟨g, o, z⟩, rfl⟩ : ∃ p, a = some p := by
        rcases hR with h | ⟨g, o, _, e, _⟩
        · rw [h] at hlt; simp at hlt
        · exact ⟨_, e⟩
      obtain rfl : z = none := by
        rcases hR with h | ⟨g, o, _, e, _⟩
        · rw [h] at hlt; simp at hlt
        · injection e with e; injection e
      obtain ⟨cs, hcl, hg, hE, hc⟩ := hR2.item hlt
      have hil := hl.2 _ (List.getElem_mem hlt)
      have hokm : (∀ x ∈ l.take (i + 1), (fun x => deepE x + (d + 1) ≤ 65) x) ↔ (∀ x ∈ l.take i, (fun x => deepE x + (d + 1) ≤ 65) x) ∧ (fun x => deepE x + (d + 1) ≤ 65) (l[i]) := by
        rw [List.take_succ_eq_append_getElem hlt]
        refine ⟨fun h => ⟨fun x hx => h x (List.mem_append_left _ hx), h _ (List.mem_append_right _ (List.mem_singleton.2 rfl))⟩, fun h x hx => ?_⟩
        rcases List.mem_append.1 hx with hx | hx
        · exact h.1 x hx
        · rw [List.mem_singleton.1 hx]; exact h.2
      have hE : ∃ a cap, cs = [.int .i64 (l[i]).op, .int .i64 (l[i]).num, .int .i64 (l[i]).den, .int .i64 (l[i]).mode, .slice a (l[i]).args.len cap] ∧ (Rg (l[i]).op ∧ Rg (l[i]).num ∧ Rg (l[i]).den ∧ Rg (l[i]).mode) ∧ FoAt wr (fun b => b < lo) (l[i]).args a := hE
      obtain ⟨a2, cap2, rfl, hrg, hFx⟩ := hE
      have k0 : wr.cell? ⟨g, o + i * 5, none⟩ = some (.int .i64 (l[i]).op) := hc 0 (by decide)
      have k1 : wr.cell? ⟨g, o + i * 5 + 1, none⟩ = some (.int .i64 (l[i]).num) := hc 1 (by decide)
      have k2 : wr.cell? ⟨g, o + i * 5 + 2, none⟩ = some (.int .i64 (l[i]).den) := hc 2 (by decide)
      have k3 : wr.cell? ⟨g, o + i * 5 + 3, none⟩ = some (.int .i64 (l[i]).mode) := hc 3 (by decide)
      have k4 : wr.cell? ⟨g, o + i * 5 + 4, none⟩ = some (.slice a2 (l[i]).args.len cap2) := hc 4 (by decide)
      have hst : (l.take (i + 1)).flatMap encE = (l.take i).flatMap encE ++ encE (l[i]) := by rw [List.take_succ_eq_append_getElem hlt, List.flatMap_append, List.flatMap_singleton]
      have hst := Hid.mk hst
      have hokm := Hid.mk hokm
      have c1 := hW2.c1
      have hwl := hW2.lt
      have hnew := bx_new wr #[.int .i64 (l[i]).op, .int .i64 (l[i]).num, .int .i64 (l[i]).den, .int .i64 (l[i]).mode, .slice a2 (l[i]).args.len cap2] 59
      have hBn : Bk lo wb wr _ := Bk.alloc wr (Nat.le_trans hW2.lo (Nat.le_of_lt hwl)) (.cells #[.int .i64 (l[i]).op, .int .i64 (l[i]).num, .int .i64 (l[i]).den, .int .i64 (l[i]).mode, .slice a2 (l[i]).args.len cap2] 59)
      have hk := hit (wr.alloc (.cells #[.int .i64 (l[i]).op, .int .i64 (l[i]).num, .int .i64 (l[i]).den, .int .i64 (l[i]).mode, .slice a2 (l[i]).args.len cap2] 59)) (hB2.trans hBn) (l[i]) a2 cap2 acc2 b2 (hW2.alloc _) hil hrg (FoAt.fr hBn.bl.size (fun b hb _ => hBn.bl.block b hb) _ _ hFx)
      have hk : Calls Tryz.prog 93 #[.agg #[.int .i64 (l[i]).op, .int .i64 (l[i]).num, .int .i64 (l[i]).den, .int .i64 (l[i]).mode, .slice a2 (l[i]).args.len cap2], .pointer (some ⟨p1, 0, none⟩), .pointer (some ⟨p2, 0, none⟩)] _ _ := hk
      clear hc hR hR2 hcl hil
      cases b2 with
      | true =>
        have hfin : ∀ W3, WS lo wb W3 acc2 true → Bk lo wb W W3 → Wp lo wb acc b (encL encE l) (∀ x ∈ l, (fun x => deepE x + (d + 1) ≤ 65) x) W (.returned (.tuple #[])) W3 := fun W3 h3 h4 => ⟨rfl, acc2, true, h3, h4, fun h => by (cases h), fun h0 hl hq => by
          exact hr2.2 h0 (Nat.le_trans (Nat.add_le_add_left (take_le encE l i) _) hl) (fun x hx => hq x (List.mem_of_mem_take hx))⟩
        have hfin := hfin _ (hW2.alloc (.cells #[.int .i64 (l[i]).op, .int .i64 (l[i]).num, .int .i64 (l[i]).den, .int .i64 (l[i]).mode, .slice a2 (l[i]).args.len cap2] 59)) (hB2.trans hBn)
        clear hk hr2 hW2 hB2 hBn
        generalize l[i] = x at *
        go_wp2
        exact bodyPost_ret (v := .tuple #[]) (by simp [results, Tryz.results92, go_sem]) rfl hfin
      | false =>
        generalize l[i] = x at *
        go_wp2_with (go_at_call 93; go_loud (refine hk.mono ?_; clear hk; rintro e w3 ⟨rfl, acc3, b3, hW3, hB3, hr3⟩))
        go_roundw
        case rel => exact ⟨i + 1, acc3, b3, by go_num, by omega, hW3, (hB2.trans hBn).trans hB3, by rw [hst.out, ← List.append_assoc]; exact (hr2.trans hr3).ok hokm.out⟩
        case measure => simp [intOf]; omega
    · obtain rfl : i = l.length := by omega
      have hfin : Wp lo wb acc b (encL encE l) (∀ x ∈ l, (fun x => deepE x + (d + 1) ≤ 65) x) W (.returned (.tuple #[])) wr := ⟨rfl, acc2, b2, hW2, hB2, by rw [List.take_length] at hr2; exact hr2⟩
      clear hW2 hB2 hr2 hR
      go_wp2
      exact bodyPost_end (v := .tuple #[]) (by simp [results, Tryz.results92, go_sem]) rfl hfin

end Go.Proofs.YtmklkcefbabhbaaGreat

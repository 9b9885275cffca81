import Derived.Test.YtmklkcefbabhbaaGreatJoin11
namespace Go.Proofs.YtmklkcefbabhbaaGreat
open Go.RowKit

theorem or_facts : bits .or .u8 0 1 = 1 ∧ bits .or .u8 0 2 = 2 ∧ bits .or .u8 0 4 = 4 ∧ bits .or .u8 0 8 = 8 ∧ bits .or .u8 1 2 = 3 ∧ bits .or .u8 1 4 = 5 ∧ bits .or .u8 1 8 = 9 ∧ bits .or .u8 2 4 = 6 ∧ bits .or .u8 2 8 = 10 ∧ bits .or .u8 3 4 = 7 ∧ bits .or .u8 3 8 = 11 ∧ bits .or .u8 4 8 = 12 ∧ bits .or .u8 5 8 = 13 ∧ bits .or .u8 6 8 = 14 ∧ bits .or .u8 7 8 = 15 := by decide
set_option maxRecDepth 8000 in
set_option maxHeartbeats 4000000 in
theorem wfields_any (op num den mode : Int) (a : Option Addr) (n cap : Nat) (W : World) : Calls Tryz.prog 91 #[.agg #[.int .i64 op, .int .i64 num, .int .i64 den, .int .i64 mode, .slice a n cap]] W (fun e W' => e = .returned (.int .u8 (hasB num den mode n : Int)) ∧ W.grownBy W' none) := by
  have hg := World.grownBy_alloc W (.cells #[.int .i64 op, .int .i64 num, .int .i64 den, .int .i64 mode, .slice a n cap] 59) none
  obtain ⟨q1, q2, q3, q4, q5, q6, q7, q8, q9, q10, q11, q12, q13, q14, q15⟩ := or_facts
  by_cases h0 : num = 0
  · by_cases h1 : den = 0
    · by_cases h2 : mode = 0
      · by_cases h3 : n = 0
        · have hb : ((hasB num den mode n : Nat) : Int) = 0 := by unfold hasB; simp [h0, h1, h2, h3]
          rw [hb]
          clear hb
          subst h0
          subst h1
          subst h2
          subst h3
          go_enter Tryz.func91, Tryz.ntmps91
          go_wp2
          go_ret
          exact ⟨rfl, hg⟩
        · have hb : ((hasB num den mode n : Nat) : Int) = 8 := by unfold hasB; simp [h0, h1, h2, h3]
          rw [hb]
          clear hb
          subst h0
          subst h1
          subst h2
          have h3' : (0 : Int) < (n : Int) := by omega
          go_enter Tryz.func91, Tryz.ntmps91
          go_wp2
          go_ret
          exact ⟨rfl, hg⟩
      · by_cases h3 : n = 0
        · have hb : ((hasB num den mode n : Nat) : Int) = 4 := by unfold hasB; simp [h0, h1, h2, h3]
          rw [hb]
          clear hb
          subst h0
          subst h1
          subst h3
          go_enter Tryz.func91, Tryz.ntmps91
          go_wp2
          go_ret
          exact ⟨rfl, hg⟩
        · have hb : ((hasB num den mode n : Nat) : Int) = 12 := by unfold hasB; simp [h0, h1, h2, h3]
          rw [hb]
          clear hb
          subst h0
          subst h1
          have h3' : (0 : Int) < (n : Int) := by omega
          go_enter Tryz.func91, Tryz.ntmps91
          go_wp2
          go_ret
          exact ⟨rfl, hg⟩
    · by_cases h2 : mode = 0
      · by_cases h3 : n = 0
        · have hb : ((hasB num den mode n : Nat) : Int) = 2 := by unfold hasB; simp [h0, h1, h2, h3]
          rw [hb]
          clear hb
          subst h0
          subst h2
          subst h3
          go_enter Tryz.func91, Tryz.ntmps91
          go_wp2
          go_ret
          exact ⟨rfl, hg⟩
        · have hb : ((hasB num den mode n : Nat) : Int) = 10 := by unfold hasB; simp [h0, h1, h2, h3]
          rw [hb]
          clear hb
          subst h0
          subst h2
          have h3' : (0 : Int) < (n : Int) := by omega
          go_enter Tryz.func91, Tryz.ntmps91
          go_wp2
          go_ret
          exact ⟨rfl, hg⟩
      · by_cases h3 : n = 0
        · have hb : ((hasB num den mode n : Nat) : Int) = 6 := by unfold hasB; simp [h0, h1, h2, h3]
          rw [hb]
          clear hb
          subst h0
          subst h3
          go_enter Tryz.func91, Tryz.ntmps91
          go_wp2
          go_ret
          exact ⟨rfl, hg⟩
        · have hb : ((hasB num den mode n : Nat) : Int) = 14 := by unfold hasB; simp [h0, h1, h2, h3]
          rw [hb]
          clear hb
          subst h0
          have h3' : (0 : Int) < (n : Int) := by omega
          go_enter Tryz.func91, Tryz.ntmps91
          go_wp2
          go_ret
          exact ⟨rfl, hg⟩
  · by_cases h1 : den = 0
    · by_cases h2 : mode = 0
      · by_cases h3 : n = 0
        · have hb : ((hasB num den mode n : Nat) : Int) = 1 := by unfold hasB; simp [h0, h1, h2, h3]
          rw [hb]
          clear hb
          subst h1
          subst h2
          subst h3
          go_enter Tryz.func91, Tryz.ntmps91
          go_wp2
          go_ret
          exact ⟨rfl, hg⟩
        · have hb : ((hasB num den mode n : Nat) : Int) = 9 := by unfold hasB; simp [h0, h1, h2, h3]
          rw [hb]
          clear hb
          subst h1
          subst h2
          have h3' : (0 : Int) < (n : Int) := by omega
          go_enter Tryz.func91, Tryz.ntmps91
          go_wp2
          go_ret
          exact ⟨rfl, hg⟩
      · by_cases h3 : n = 0
        · have hb : ((hasB num den mode n : Nat) : Int) = 5 := by unfold hasB; simp [h0, h1, h2, h3]
          rw [hb]
          clear hb
          subst h1
          subst h3
          go_enter Tryz.func91, Tryz.ntmps91
          go_wp2
          go_ret
          exact ⟨rfl, hg⟩
        · have hb : ((hasB num den mode n : Nat) : Int) = 13 := by unfold hasB; simp [h0, h1, h2, h3]
          rw [hb]
          clear hb
          subst h1
          have h3' : (0 : Int) < (n : Int) := by omega
          go_enter Tryz.func91, Tryz.ntmps91
          go_wp2
          go_ret
          exact ⟨rfl, hg⟩
    · by_cases h2 : mode = 0
      · by_cases h3 : n = 0
        · have hb : ((hasB num den mode n : Nat) : Int) = 3 := by unfold hasB; simp [h0, h1, h2, h3]
          rw [hb]
          clear hb
          subst h2
          subst h3
          go_enter Tryz.func91, Tryz.ntmps91
          go_wp2
          go_ret
          exact ⟨rfl, hg⟩
        · have hb : ((hasB num den mode n : Nat) : Int) = 11 := by unfold hasB; simp [h0, h1, h2, h3]
          rw [hb]
          clear hb
          subst h2
          have h3' : (0 : Int) < (n : Int) := by omega
          go_enter Tryz.func91, Tryz.ntmps91
          go_wp2
          go_ret
          exact ⟨rfl, hg⟩
      · by_cases h3 : n = 0
        · have hb : ((hasB num den mode n : Nat) : Int) = 7 := by unfold hasB; simp [h0, h1, h2, h3]
          rw [hb]
          clear hb
          subst h3
          go_enter Tryz.func91, Tryz.ntmps91
          go_wp2
          go_ret
          exact ⟨rfl, hg⟩
        · have hb : ((hasB num den mode n : Nat) : Int) = 15 := by unfold hasB; simp [h0, h1, h2, h3]
          rw [hb]
          clear hb
          have h3' : (0 : Int) < (n : Int) := by omega
          go_enter Tryz.func91, Tryz.ntmps91
          go_wp2
          go_ret
          exact ⟨rfl, hg⟩

end Go.Proofs.YtmklkcefbabhbaaGreat


namespace Go.Proofs.YtmklkcefbabhbaaGreat
open Go.RowKit

/-- A struct's own block, new: the writer lets it stay. -/
theorem Bk.new {lo wb : Nat} {W W1 : World} {a : Array Value} {t : TypeId} (h : Bk lo wb (W.alloc (.cells a t)) W1) (hw : wb < W.heap.size) (ht : t ≠ 5) : Bx W1 W.heap.size a.toList := by
  have e := h.kt W.heap.size a t (0, 0) (by omega) (by show (W.heap.push (.cells a t))[W.heap.size]? = _; exact Array.getElem?_push_size) ht
  have hb := bx_new W a t
  exact ⟨Nat.lt_of_lt_of_le hb.1 h.bl.size, fun j hj => (World.cell?_of_block e).trans (hb.2.1 j hj), fun j => (World.frozen?_of_block e).trans (hb.2.2 j)⟩

set_option maxRecDepth 8000 in
set_option maxHeartbeats 1000000 in
theorem wband_any (lo wb : Nat) (x y : Int) (hx : Rg x) (hy : Rg y) (W : World) {acc : List UInt8} {b : Bool} (h : WS lo wb W acc b) : Calls Tryz.prog 72 #[.pointer (some ⟨wb, 0, none⟩), .agg #[.int .i64 x, .int .i64 y]] W (Wp lo wb acc b (encBd (x, y)) True W) := by
  have hlt := h.lt
  have hB0 : Bk lo wb W _ := Bk.alloc W (Nat.le_trans h.lo (Nat.le_of_lt h.lt)) (.cells #[.int .i64 x, .int .i64 y] 118)
  have hk1 := winteger_any lo wb x hx (W.alloc (.cells #[.int .i64 x, .int .i64 y] 118)) (h.alloc _)
  clear h
  go_enter Tryz.func72, Tryz.ntmps72
  go_wp2_with (first | (go_at_call 35; go_loud (refine hk1.mono ?_; clear hk1; rintro e w1 ⟨rfl, acc1, b1, hW1, hB1, hr1⟩; have hn := (hB1.new hlt (by decide)).2.1 1 (by simp); have hk2 := winteger_any lo wb y hy w1 hW1)) | (go_at_call 35; go_loud (refine hk2.mono ?_; clear hk2; rintro e w2 ⟨rfl, acc2, b2, hW2, hB2, hr2⟩)))
  have hfin : Wp lo wb acc b (encBd (x, y)) True W (.returned (.tuple #[])) w2 := ⟨rfl, acc2, b2, hW2, (hB0.trans hB1).trans hB2, hr1.tr hr2⟩
  exact bodyPost_end (v := .tuple #[]) (by simp [results, Tryz.results72, go_sem]) rfl hfin

set_option maxRecDepth 8000 in
set_option maxHeartbeats 1000000 in
theorem wgroup_any (lo wb : Nat) (x : List UInt8) (y : Int) (hx : x.length ≤ 9223372036854775807) (hy : Rg y) (W : World) {acc : List UInt8} {b : Bool} (h : WS lo wb W acc b) : Calls Tryz.prog 41 #[.pointer (some ⟨wb, 0, none⟩), .agg #[.string ⟨x.toArray⟩, .int .i64 y]] W (Wp lo wb acc b (encG (x, y)) True W) := by
  have hlt := h.lt
  have hB0 : Bk lo wb W _ := Bk.alloc W (Nat.le_trans h.lo (Nat.le_of_lt h.lt)) (.cells #[.string ⟨x.toArray⟩, .int .i64 y] 81)
  have hk1 := wtext_any lo wb x hx (W.alloc (.cells #[.string ⟨x.toArray⟩, .int .i64 y] 81)) (h.alloc _)
  clear h
  go_enter Tryz.func41, Tryz.ntmps41
  go_wp2_with (first | (go_at_call 34; go_loud (refine hk1.mono ?_; clear hk1; rintro e w1 ⟨rfl, acc1, b1, hW1, hB1, hr1⟩; have hn := (hB1.new hlt (by decide)).2.1 1 (by simp); have hk2 := winteger_any lo wb y hy w1 hW1)) | (go_at_call 35; go_loud (refine hk2.mono ?_; clear hk2; rintro e w2 ⟨rfl, acc2, b2, hW2, hB2, hr2⟩)))
  have hfin : Wp lo wb acc b (encG (x, y)) True W (.returned (.tuple #[])) w2 := ⟨rfl, acc2, b2, hW2, (hB0.trans hB1).trans hB2, hr1.tr hr2⟩
  exact bodyPost_end (v := .tuple #[]) (by simp [results, Tryz.results41, go_sem]) rfl hfin

end Go.Proofs.YtmklkcefbabhbaaGreat


namespace Go.Proofs.YtmklkcefbabhbaaGreat
open Go.RowKit

theorem RowR.item {α : Type} {D : Elt α} {W : World} {S : Nat → Prop} {xs : List α} {g o : Nat} (h : RowR D W S xs (some ⟨g, o, none⟩)) {i : Nat} (hi : i < xs.length) : ∃ cs : List Value, cs.length = D.k ∧ S g ∧ D.E W S xs[i] cs ∧ ∀ j, j < D.k → W.cell? ⟨g, o + i * D.k + j, none⟩ = cs[j]? := by
  rcases h with h | ⟨g', o', cs, he, hS, _, hc, hE⟩
  · rw [h] at hi; simp at hi
  · injection he with he
    injection he with h1 h2
    subst h1 h2
    have hl := hE.1
    have hE := hE.2 i hi
    have hlen := D.len hE
    refine ⟨_, hlen, hS, hE, fun j hj => ?_⟩
    have hm : i * D.k + D.k ≤ xs.length * D.k := by rw [← Nat.succ_mul]; exact Nat.mul_le_mul_right _ hi
    rw [Nat.add_assoc, hc (i * D.k + j) (by rw [hl]; omega), List.getElem?_take, if_pos hj, List.getElem?_drop]

theorem take_le {α : Type} (f : α → List UInt8) (l : List α) (i : Nat) : (encN l.length ++ (l.take i).flatMap f).length ≤ (encL f l).length := by
  have h : l.flatMap f = (l.take i).flatMap f ++ (l.drop i).flatMap f := by rw [← List.flatMap_append, List.take_append_drop]
  unfold encL
  rw [h]
  simp only [List.length_append]
  omega
set_option maxRecDepth 8000 in
set_option maxHeartbeats 1000000 in
theorem putBands (lo wb : Nat) (l : List (Int × Int)) (a : Option Addr) (cap : Nat) (hl : l.length ≤ 9223372036854775807) (W : World) {acc : List UInt8} {b : Bool} (h : WS lo wb W acc b) (hR : RowR eBd W (fun b => b < lo) l a) : Calls Tryz.prog 71 #[.pointer (some ⟨wb, 0, none⟩), .slice a l.length cap, .func (Fn.func 72) #[.pointer (some ⟨wb, 0, none⟩)] #[]] W (Wp lo wb acc b (encL encBd l) True W) := by
  have hk1 := wnumber_any lo wb l.length (by omega) W h
  have hsl : (l.length : Int) % 18446744073709551616 = (l.length : Int) := by omega
  clear h
  go_enter Tryz.func71, Tryz.ntmps71
  go_wp2_with (go_at_call 69; go_loud (refine hk1.mono ?_; clear hk1; rintro e w1 ⟨rfl, acc1, b1, hW1, hB1, hr1⟩))
  go_loopw [15] (fun iv W2 => ∃ (i : Nat) (acc2 : List UInt8) (b2 : Bool), iv = .int .i64 (i : Int) ∧ i ≤ l.length ∧ WS lo wb W2 acc2 b2 ∧ Bk lo wb W W2 ∧ Wr acc b acc2 b2 (encN l.length ++ (l.take i).flatMap encBd) True) (fun iv _ => l.length - (intOf iv).toNat)
  case atStart => exact ⟨0, acc1, b1, rfl, Nat.zero_le _, hW1, hB1, by rw [List.take_zero, List.flatMap_nil, List.append_nil]; exact hr1⟩
  case round =>
    clear hW1 hB1 hr1 acc1 b1
    obtain ⟨i, acc2, b2, rfl, hi, hW2, hB2, hr2⟩ := hrel
    by_cases hlt : i < l.length
    · have hlt' : (i : Int) < (l.length : Int) := by omega
      have hi0 : (0 : Int) ≤ (i : Int) := by omega
      have hR2 := hR.fr hB2.bl.size (fun b hb _ => hB2.bl.block b hb)
      obtain ⟨⟨g, o, z⟩, rfl⟩ : ∃ p, a = some p := by
        rcases hR with h | ⟨g, o, _, e, _⟩
        · rw [h] at hlt; simp at hlt
        · exact ⟨_, e⟩
      obtain rfl : z = none := by
        rcases hR with h | ⟨g, o, _, e, _⟩
        · rw [h] at hlt; simp at hlt
        · injection e with e; injection e
      obtain ⟨cs, hcl, hg, hE, hc⟩ := hR2.item hlt
      have hE : cs = [.int .i64 (l[i]).1, .int .i64 (l[i]).2] ∧ Rg (l[i]).1 ∧ Rg (l[i]).2 := hE
      obtain ⟨rfl, hr1, hr2'⟩ := hE
      have k0 : wr.cell? ⟨g, o + i * 2, none⟩ = some (.int .i64 (l[i]).1) := hc 0 (by decide)
      have k1 : wr.cell? ⟨g, o + i * 2 + 1, none⟩ = some (.int .i64 (l[i]).2) := hc 1 (by decide)
      have hst : (l.take (i + 1)).flatMap encBd = (l.take i).flatMap encBd ++ encBd ((l[i]).1, (l[i]).2) := by rw [List.take_succ_eq_append_getElem hlt, List.flatMap_append, List.flatMap_singleton]
      have hst := Hid.mk hst
      have c1 := hW2.c1
      have hwl := hW2.lt
      have hnew := bx_new wr #[.int .i64 (l[i]).1, .int .i64 (l[i]).2] 118
      have hBn : Bk lo wb wr _ := Bk.alloc wr (Nat.le_trans hW2.lo (Nat.le_of_lt hwl)) (.cells #[.int .i64 (l[i]).1, .int .i64 (l[i]).2] 118)
      have hk := wband_any lo wb (l[i]).1 (l[i]).2 hr1 hr2' (wr.alloc (.cells #[.int .i64 (l[i]).1, .int .i64 (l[i]).2] 118)) (hW2.alloc _)
      clear hc hR hR2 hcl hE
      cases b2 with
      | true =>
        have hfin : ∀ W3, WS lo wb W3 acc2 true → Bk lo wb W W3 → Wp lo wb acc b (encL encBd l) True W (.returned (.tuple #[])) W3 := fun W3 h3 h4 => ⟨rfl, acc2, true, h3, h4, fun h => by (cases h), fun h0 hl _ => by
          exact hr2.2 h0 (Nat.le_trans (Nat.add_le_add_left (take_le encBd l i) _) hl) trivial⟩
        have hfin := hfin _ (hW2.alloc _) (hB2.trans hBn)
        clear hk hr1 hr2' hr2 hW2 hB2 hBn
        generalize (l[i]).1 = x at *
        generalize (l[i]).2 = y at *
        go_wp2
        exact bodyPost_ret (v := .tuple #[]) (by simp [results, Tryz.results71, go_sem]) rfl hfin
      | false =>
        generalize (l[i]).1 = x at *
        generalize (l[i]).2 = y at *
        go_wp2_with (go_at_call 72; go_loud (refine hk.mono ?_; clear hk; rintro e w3 ⟨rfl, acc3, b3, hW3, hB3, hr3⟩))
        go_roundw
        case rel => exact ⟨i + 1, acc3, b3, by go_num, by omega, hW3, (hB2.trans hBn).trans hB3, by rw [hst.out, ← List.append_assoc]; exact hr2.tr hr3⟩
        case measure => simp [intOf]; omega
    · obtain rfl : i = l.length := by omega
      have hfin : Wp lo wb acc b (encL encBd l) True W (.returned (.tuple #[])) wr := ⟨rfl, acc2, b2, hW2, hB2, by rw [List.take_length] at hr2; exact hr2⟩
      clear hW2 hB2 hr2 hR
      go_wp2
      exact bodyPost_end (v := .tuple #[]) (by simp [results, Tryz.results71, go_sem]) rfl hfin

end Go.Proofs.YtmklkcefbabhbaaGreat

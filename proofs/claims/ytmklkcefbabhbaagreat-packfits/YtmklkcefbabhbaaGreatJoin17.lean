import Derived.Test.YtmklkcefbabhbaaGreatJoin16
namespace Go.Proofs.YtmklkcefbabhbaaGreat
open Go.RowKit

set_option maxRecDepth 8000 in
set_option maxHeartbeats 2000000 in
theorem putClauses (lo wb : Nat) (l : List (Cl)) (a : Option Addr) (cap : Nat) (hl : l.length ≤ 9223372036854775807 ∧ ∀ x ∈ l, SzC x) (W : World) {acc : List UInt8} {b : Bool} (h : WS lo wb W acc b) (hR : RowR eC W (fun b => b < lo) l a) : Calls Tryz.prog 74 #[.pointer (some ⟨wb, 0, none⟩), .slice a l.length cap, .func (Fn.func 75) #[.pointer (some ⟨wb, 0, none⟩)] #[]] W (Wp lo wb acc b (encL encC l) (∀ x ∈ l, okC x) W) := by
  have hll : l.length ≤ 9223372036854775807 := hl.1
  have hk1 := wnumber_any lo wb l.length (by omega) W h
  have hsl : (l.length : Int) % 18446744073709551616 = (l.length : Int) := by omega
  clear h
  go_enter Tryz.func74, Tryz.ntmps74
  go_wp2_with (go_at_call 69; go_loud (refine hk1.mono ?_; clear hk1; rintro e w1 ⟨rfl, acc1, b1, hW1, hB1, hr1⟩))
  go_loopw [15] (fun iv W2 => ∃ (i : Nat) (acc2 : List UInt8) (b2 : Bool), iv = .int .i64 (i : Int) ∧ i ≤ l.length ∧ WS lo wb W2 acc2 b2 ∧ Bk lo wb W W2 ∧ Wr acc b acc2 b2 (encN l.length ++ (l.take i).flatMap encC) (∀ x ∈ l.take i, okC x)) (fun iv _ => l.length - (intOf iv).toNat)
  case atStart => exact ⟨0, acc1, b1, rfl, Nat.zero_le _, hW1, hB1, by rw [List.take_zero, List.flatMap_nil, List.append_nil]; exact hr1.ok ⟨fun _ => trivial, fun _ x hx => by simp at hx⟩⟩
  case round =>
    clear hW1 hB1 hr1 acc1 b1
    obtain ⟨i, acc2, b2, rfl, hi, hW2, hB2, hr2⟩ := hrel
    by_cases hlt : i < l.length
    · have hlt' : (i : Int) < (l.length : Int) := by omega
      have hi0 : (0 : Int) ≤ (i : Int) := by omega
      have hR2 := hR.fr hB2.bl.size (fun b hb _ => hB2.bl.block b hb)
      obtain ⟨⟨g, o, z⟩, rfl⟩ : ∃ p, a = some p := by
        rcases hR with h | ⟨g, o, _, e, _⟩
        · rw [h] at hlt; simp at hlt
        · exact ⟨_, e⟩
      obtain rfl : z = none := by
        rcases hR with h | ⟨g, o, _, e, _⟩
        · rw [h] at hlt; simp at hlt
        · injection e with e; injection e
      obtain ⟨cs, hcl, hg, hE, hc⟩ := hR2.item hlt
      have hil := hl.2 _ (List.getElem_mem hlt)
      have hokm : (∀ x ∈ l.take (i + 1), okC x) ↔ (∀ x ∈ l.take i, okC x) ∧ okC (l[i]) := by
        rw [List.take_succ_eq_append_getElem hlt]
        refine ⟨fun h => ⟨fun x hx => h x (List.mem_append_left _ hx), h _ (List.mem_append_right _ (List.mem_singleton.2 rfl))⟩, fun h x hx => ?_⟩
        rcases List.mem_append.1 hx with hx | hx
        · exact h.1 x hx
        · rw [List.mem_singleton.1 hx]; exact h.2
      obtain ⟨a1, cp1, a2, cp2, rfl, hp, hq, hF1, hF2⟩ := hE
      have k0 : wr.cell? ⟨g, o + i * 12, none⟩ = some (.int .i64 (l[i]).pri) := hc 0 (by decide)
      have k1 : wr.cell? ⟨g, o + i * 12 + 1, none⟩ = some (.bool (l[i]).guarded) := hc 1 (by decide)
      have k2 : wr.cell? ⟨g, o + i * 12 + 2, none⟩ = some (.int .i64 (l[i]).guard.op) := hc 2 (by decide)
      have k3 : wr.cell? ⟨g, o + i * 12 + 3, none⟩ = some (.int .i64 (l[i]).guard.num) := hc 3 (by decide)
      have k4 : wr.cell? ⟨g, o + i * 12 + 4, none⟩ = some (.int .i64 (l[i]).guard.den) := hc 4 (by decide)
      have k5 : wr.cell? ⟨g, o + i * 12 + 5, none⟩ = some (.int .i64 (l[i]).guard.mode) := hc 5 (by decide)
      have k6 : wr.cell? ⟨g, o + i * 12 + 6, none⟩ = some (.slice a1 (l[i]).guard.args.len cp1) := hc 6 (by decide)
      have k7 : wr.cell? ⟨g, o + i * 12 + 7, none⟩ = some (.int .i64 (l[i]).body.op) := hc 7 (by decide)
      have k8 : wr.cell? ⟨g, o + i * 12 + 8, none⟩ = some (.int .i64 (l[i]).body.num) := hc 8 (by decide)
      have k9 : wr.cell? ⟨g, o + i * 12 + 9, none⟩ = some (.int .i64 (l[i]).body.den) := hc 9 (by decide)
      have k10 : wr.cell? ⟨g, o + i * 12 + 10, none⟩ = some (.int .i64 (l[i]).body.mode) := hc 10 (by decide)
      have k11 : wr.cell? ⟨g, o + i * 12 + 11, none⟩ = some (.slice a2 (l[i]).body.args.len cp2) := hc 11 (by decide)
      have hst : (l.take (i + 1)).flatMap encC = (l.take i).flatMap encC ++ encC (l[i]) := by rw [List.take_succ_eq_append_getElem hlt, List.flatMap_append, List.flatMap_singleton]
      have hst := Hid.mk hst
      have hokm := Hid.mk hokm
      have c1 := hW2.c1
      have hwl := hW2.lt
      have hnew := bx_new wr #[.int .i64 (l[i]).pri, .bool (l[i]).guarded, .int .i64 (l[i]).guard.op, .int .i64 (l[i]).guard.num, .int .i64 (l[i]).guard.den, .int .i64 (l[i]).guard.mode, .slice a1 (l[i]).guard.args.len cp1, .int .i64 (l[i]).body.op, .int .i64 (l[i]).body.num, .int .i64 (l[i]).body.den, .int .i64 (l[i]).body.mode, .slice a2 (l[i]).body.args.len cp2] 61
      have hBn : Bk lo wb wr _ := Bk.alloc wr (Nat.le_trans hW2.lo (Nat.le_of_lt hwl)) (.cells #[.int .i64 (l[i]).pri, .bool (l[i]).guarded, .int .i64 (l[i]).guard.op, .int .i64 (l[i]).guard.num, .int .i64 (l[i]).guard.den, .int .i64 (l[i]).guard.mode, .slice a1 (l[i]).guard.args.len cp1, .int .i64 (l[i]).body.op, .int .i64 (l[i]).body.num, .int .i64 (l[i]).body.den, .int .i64 (l[i]).body.mode, .slice a2 (l[i]).body.args.len cp2] 61)
      have hk := wclause_any lo wb (l[i]) a1 a2 cp1 cp2 hil (wr.alloc (.cells #[.int .i64 (l[i]).pri, .bool (l[i]).guarded, .int .i64 (l[i]).guard.op, .int .i64 (l[i]).guard.num, .int .i64 (l[i]).guard.den, .int .i64 (l[i]).guard.mode, .slice a1 (l[i]).guard.args.len cp1, .int .i64 (l[i]).body.op, .int .i64 (l[i]).body.num, .int .i64 (l[i]).body.den, .int .i64 (l[i]).body.mode, .slice a2 (l[i]).body.args.len cp2] 61)) (hW2.alloc _) hp hq (FoAt.fr hBn.bl.size (fun b hb _ => hBn.bl.block b hb) _ _ hF1) (FoAt.fr hBn.bl.size (fun b hb _ => hBn.bl.block b hb) _ _ hF2)
      clear hc hR hR2 hcl hil
      cases b2 with
      | true =>
        have hfin : ∀ W3, WS lo wb W3 acc2 true → Bk lo wb W W3 → Wp lo wb acc b (encL encC l) (∀ x ∈ l, okC x) W (.returned (.tuple #[])) W3 := fun W3 h3 h4 => ⟨rfl, acc2, true, h3, h4, fun h => by (cases h), fun h0 hl hq => by
          exact hr2.2 h0 (Nat.le_trans (Nat.add_le_add_left (take_le encC l i) _) hl) (fun x hx => hq x (List.mem_of_mem_take hx))⟩
        have hfin := hfin _ (hW2.alloc (.cells #[.int .i64 (l[i]).pri, .bool (l[i]).guarded, .int .i64 (l[i]).guard.op, .int .i64 (l[i]).guard.num, .int .i64 (l[i]).guard.den, .int .i64 (l[i]).guard.mode, .slice a1 (l[i]).guard.args.len cp1, .int .i64 (l[i]).body.op, .int .i64 (l[i]).body.num, .int .i64 (l[i]).body.den, .int .i64 (l[i]).body.mode, .slice a2 (l[i]).body.args.len cp2] 61)) (hB2.trans hBn)
        clear hk hr2 hW2 hB2 hBn
        generalize l[i] = x at *
        go_wp2
        exact bodyPost_ret (v := .tuple #[]) (by simp [results, Tryz.results74, go_sem]) rfl hfin
      | false =>
        generalize l[i] = x at *
        go_wp2_with (go_at_call 75; go_loud (refine hk.mono ?_; clear hk; rintro e w3 ⟨rfl, acc3, b3, hW3, hB3, hr3⟩))
        go_roundw
        case rel => exact ⟨i + 1, acc3, b3, by go_num, by omega, hW3, (hB2.trans hBn).trans hB3, by rw [hst.out, ← List.append_assoc]; exact (hr2.trans hr3).ok hokm.out⟩
        case measure => simp [intOf]; omega
    · obtain rfl : i = l.length := by omega
      have hfin : Wp lo wb acc b (encL encC l) (∀ x ∈ l, okC x) W (.returned (.tuple #[])) wr := ⟨rfl, acc2, b2, hW2, hB2, by rw [List.take_length] at hr2; exact hr2⟩
      clear hW2 hB2 hr2 hR
      go_wp2
      exact bodyPost_end (v := .tuple #[]) (by simp [results, Tryz.results74, go_sem]) rfl hfin

set_option maxRecDepth 8000 in
set_option maxHeartbeats 4000000 in
theorem wline_any (lo wb : Nat) (x : Ln) (a1 : Option Addr) (cp1 : Nat) (hz : x.name.length ≤ 9223372036854775807 ∧ SzL x) (W : World) {acc : List UInt8} {b : Bool} (h : WS lo wb W acc b) (hq : Rg x.type ∧ Rg x.opts ∧ Rg x.group) (hR : RowR eC W (fun b => b < lo) x.cls a1) : Calls Tryz.prog 43 #[.pointer (some ⟨wb, 0, none⟩), .agg #[.string ⟨x.name.toArray⟩, .bool x.input, .bool x.must, .int .i64 x.type, .int .i64 x.opts, .int .i64 x.group, .slice a1 x.cls.length cp1]] W (Wp lo wb acc b (encLn x) (okL x) W) := by
  unfold encLn
  have hlt := h.lt
  have hB0 : Bk lo wb W (W.alloc (.cells #[.string ⟨x.name.toArray⟩, .bool x.input, .bool x.must, .int .i64 x.type, .int .i64 x.opts, .int .i64 x.group, .slice a1 x.cls.length cp1] 55)) := Bk.alloc W (Nat.le_trans h.lo (Nat.le_of_lt h.lt)) (.cells #[.string ⟨x.name.toArray⟩, .bool x.input, .bool x.must, .int .i64 x.type, .int .i64 x.opts, .int .i64 x.group, .slice a1 x.cls.length cp1] 55)
  have hk1 := wtext_any lo wb x.name hz.1 (W.alloc (.cells #[.string ⟨x.name.toArray⟩, .bool x.input, .bool x.must, .int .i64 x.type, .int .i64 x.opts, .int .i64 x.group, .slice a1 x.cls.length cp1] 55)) (h.alloc _)
  clear h
  obtain ⟨Q, hQ⟩ : ∃ Q, Wp lo wb acc b (encS x.name ++ encB x.input ++ encB x.must ++ encI x.type ++ encI x.opts ++ encI x.group ++ encL encC x.cls) (okL x) W = Q := ⟨_, rfl⟩
  rw [hQ]
  have hQ := Hid.mk hQ
  go_enter Tryz.func43, Tryz.ntmps43
  go_wp2_with (first | (go_at_call 34; go_loud (refine hk1.mono ?_; clear hk1; rintro e w1 ⟨rfl, acc1, b1, hW1, hB1, hr1⟩; have hC1 := hB1; have hN1 := hC1.new hlt (by decide); have q1_0 : w1.cell? ⟨W.heap.size, 0, none⟩ = some (.string ⟨x.name.toArray⟩) := hN1.2.1 0 (by simp); have q1_1 : w1.cell? ⟨W.heap.size, 1, none⟩ = some (.bool x.input) := hN1.2.1 1 (by simp); have q1_2 : w1.cell? ⟨W.heap.size, 2, none⟩ = some (.bool x.must) := hN1.2.1 2 (by simp); have q1_3 : w1.cell? ⟨W.heap.size, 3, none⟩ = some (.int .i64 x.type) := hN1.2.1 3 (by simp); have q1_4 : w1.cell? ⟨W.heap.size, 4, none⟩ = some (.int .i64 x.opts) := hN1.2.1 4 (by simp); have q1_5 : w1.cell? ⟨W.heap.size, 5, none⟩ = some (.int .i64 x.group) := hN1.2.1 5 (by simp); have q1_6 : w1.cell? ⟨W.heap.size, 6, none⟩ = some (.slice a1 x.cls.length cp1) := hN1.2.1 6 (by simp); have hZ1 := hB0.trans hC1; have hk2 := wflag_any lo wb x.input w1 hW1; clear hN1 hZ1)) | (go_at_call 73; go_loud (refine hk2.mono ?_; clear hk2; rintro e w2 ⟨rfl, acc2, b2, hW2, hB2, hr2⟩; have hC2 := hC1.trans hB2; have hN2 := hC2.new hlt (by decide); have q2_0 : w2.cell? ⟨W.heap.size, 0, none⟩ = some (.string ⟨x.name.toArray⟩) := hN2.2.1 0 (by simp); have q2_1 : w2.cell? ⟨W.heap.size, 1, none⟩ = some (.bool x.input) := hN2.2.1 1 (by simp); have q2_2 : w2.cell? ⟨W.heap.size, 2, none⟩ = some (.bool x.must) := hN2.2.1 2 (by simp); have q2_3 : w2.cell? ⟨W.heap.size, 3, none⟩ = some (.int .i64 x.type) := hN2.2.1 3 (by simp); have q2_4 : w2.cell? ⟨W.heap.size, 4, none⟩ = some (.int .i64 x.opts) := hN2.2.1 4 (by simp); have q2_5 : w2.cell? ⟨W.heap.size, 5, none⟩ = some (.int .i64 x.group) := hN2.2.1 5 (by simp); have q2_6 : w2.cell? ⟨W.heap.size, 6, none⟩ = some (.slice a1 x.cls.length cp1) := hN2.2.1 6 (by simp); have hZ2 := hB0.trans hC2; have hk3 := wflag_any lo wb x.must w2 hW2; clear hN2 hZ2 q1_0 q1_1 q1_2 q1_3 q1_4 q1_5 q1_6)) | (go_at_call 73; go_loud (refine hk3.mono ?_; clear hk3; rintro e w3 ⟨rfl, acc3, b3, hW3, hB3, hr3⟩; have hC3 := hC2.trans hB3; have hN3 := hC3.new hlt (by decide); have q3_0 : w3.cell? ⟨W.heap.size, 0, none⟩ = some (.string ⟨x.name.toArray⟩) := hN3.2.1 0 (by simp); have q3_1 : w3.cell? ⟨W.heap.size, 1, none⟩ = some (.bool x.input) := hN3.2.1 1 (by simp); have q3_2 : w3.cell? ⟨W.heap.size, 2, none⟩ = some (.bool x.must) := hN3.2.1 2 (by simp); have q3_3 : w3.cell? ⟨W.heap.size, 3, none⟩ = some (.int .i64 x.type) := hN3.2.1 3 (by simp); have q3_4 : w3.cell? ⟨W.heap.size, 4, none⟩ = some (.int .i64 x.opts) := hN3.2.1 4 (by simp); have q3_5 : w3.cell? ⟨W.heap.size, 5, none⟩ = some (.int .i64 x.group) := hN3.2.1 5 (by simp); have q3_6 : w3.cell? ⟨W.heap.size, 6, none⟩ = some (.slice a1 x.cls.length cp1) := hN3.2.1 6 (by simp); have hZ3 := hB0.trans hC3; have hk4 := winteger_any lo wb x.type hq.1 w3 hW3; clear hN3 hZ3 q2_0 q2_1 q2_2 q2_3 q2_4 q2_5 q2_6)) | (go_at_call 35; go_loud (refine hk4.mono ?_; clear hk4; rintro e w4 ⟨rfl, acc4, b4, hW4, hB4, hr4⟩; have hC4 := hC3.trans hB4; have hN4 := hC4.new hlt (by decide); have q4_0 : w4.cell? ⟨W.heap.size, 0, none⟩ = some (.string ⟨x.name.toArray⟩) := hN4.2.1 0 (by simp); have q4_1 : w4.cell? ⟨W.heap.size, 1, none⟩ = some (.bool x.input) := hN4.2.1 1 (by simp); have q4_2 : w4.cell? ⟨W.heap.size, 2, none⟩ = some (.bool x.must) := hN4.2.1 2 (by simp); have q4_3 : w4.cell? ⟨W.heap.size, 3, none⟩ = some (.int .i64 x.type) := hN4.2.1 3 (by simp); have q4_4 : w4.cell? ⟨W.heap.size, 4, none⟩ = some (.int .i64 x.opts) := hN4.2.1 4 (by simp); have q4_5 : w4.cell? ⟨W.heap.size, 5, none⟩ = some (.int .i64 x.group) := hN4.2.1 5 (by simp); have q4_6 : w4.cell? ⟨W.heap.size, 6, none⟩ = some (.slice a1 x.cls.length cp1) := hN4.2.1 6 (by simp); have hZ4 := hB0.trans hC4; have hk5 := winteger_any lo wb x.opts hq.2.1 w4 hW4; clear hN4 hZ4 q3_0 q3_1 q3_2 q3_3 q3_4 q3_5 q3_6)) | (go_at_call 35; go_loud (refine hk5.mono ?_; clear hk5; rintro e w5 ⟨rfl, acc5, b5, hW5, hB5, hr5⟩; have hC5 := hC4.trans hB5; have hN5 := hC5.new hlt (by decide); have q5_0 : w5.cell? ⟨W.heap.size, 0, none⟩ = some (.string ⟨x.name.toArray⟩) := hN5.2.1 0 (by simp); have q5_1 : w5.cell? ⟨W.heap.size, 1, none⟩ = some (.bool x.input) := hN5.2.1 1 (by simp); have q5_2 : w5.cell? ⟨W.heap.size, 2, none⟩ = some (.bool x.must) := hN5.2.1 2 (by simp); have q5_3 : w5.cell? ⟨W.heap.size, 3, none⟩ = some (.int .i64 x.type) := hN5.2.1 3 (by simp); have q5_4 : w5.cell? ⟨W.heap.size, 4, none⟩ = some (.int .i64 x.opts) := hN5.2.1 4 (by simp); have q5_5 : w5.cell? ⟨W.heap.size, 5, none⟩ = some (.int .i64 x.group) := hN5.2.1 5 (by simp); have q5_6 : w5.cell? ⟨W.heap.size, 6, none⟩ = some (.slice a1 x.cls.length cp1) := hN5.2.1 6 (by simp); have hZ5 := hB0.trans hC5; have hk6 := winteger_any lo wb x.group hq.2.2 w5 hW5; clear hN5 hZ5 q4_0 q4_1 q4_2 q4_3 q4_4 q4_5 q4_6)) | (go_at_call 35; go_loud (refine hk6.mono ?_; clear hk6; rintro e w6 ⟨rfl, acc6, b6, hW6, hB6, hr6⟩; have hC6 := hC5.trans hB6; have hN6 := hC6.new hlt (by decide); have q6_0 : w6.cell? ⟨W.heap.size, 0, none⟩ = some (.string ⟨x.name.toArray⟩) := hN6.2.1 0 (by simp); have q6_1 : w6.cell? ⟨W.heap.size, 1, none⟩ = some (.bool x.input) := hN6.2.1 1 (by simp); have q6_2 : w6.cell? ⟨W.heap.size, 2, none⟩ = some (.bool x.must) := hN6.2.1 2 (by simp); have q6_3 : w6.cell? ⟨W.heap.size, 3, none⟩ = some (.int .i64 x.type) := hN6.2.1 3 (by simp); have q6_4 : w6.cell? ⟨W.heap.size, 4, none⟩ = some (.int .i64 x.opts) := hN6.2.1 4 (by simp); have q6_5 : w6.cell? ⟨W.heap.size, 5, none⟩ = some (.int .i64 x.group) := hN6.2.1 5 (by simp); have q6_6 : w6.cell? ⟨W.heap.size, 6, none⟩ = some (.slice a1 x.cls.length cp1) := hN6.2.1 6 (by simp); have hZ6 := hB0.trans hC6; have hk7 := putClauses lo wb x.cls a1 cp1 hz.2 w6 hW6 (hR.fr hZ6.bl.size (fun b hb _ => hZ6.bl.block b hb)); clear hN6 hZ6 q5_0 q5_1 q5_2 q5_3 q5_4 q5_5 q5_6)) | (go_at_call 74; go_loud (refine hk7.mono ?_; clear hk7; rintro e w7 ⟨rfl, acc7, b7, hW7, hB7, hr7⟩; have hC7 := hC6.trans hB7)))
  have hfin : Wp lo wb acc b (encS x.name ++ encB x.input ++ encB x.must ++ encI x.type ++ encI x.opts ++ encI x.group ++ encL encC x.cls) (okL x) W (.returned (.tuple #[])) w7 := ⟨rfl, acc7, b7, hW7, hB0.trans hC7, (((((((hr1.tr hr2).tr hr3).tr hr4).tr hr5).tr hr6).trans hr7)).ok ⟨fun h => ⟨trivial, h⟩, fun h => h.2⟩⟩
  rw [hQ.out] at hfin
  exact bodyPost_end (v := .tuple #[]) (by simp [results, Tryz.results43, go_sem]) rfl hfin

end Go.Proofs.YtmklkcefbabhbaaGreat


namespace Go.Proofs.YtmklkcefbabhbaaGreat
open Go.RowKit

set_option maxRecDepth 8000 in
set_option maxHeartbeats 2000000 in
theorem putLines (lo wb : Nat) (l : List (Ln)) (a : Option Addr) (cap : Nat) (hl : l.length ≤ 9223372036854775807 ∧ ∀ x ∈ l, (fun x => x.name.length ≤ 9223372036854775807 ∧ SzL x) x) (W : World) {acc : List UInt8} {b : Bool} (h : WS lo wb W acc b) (hR : RowR eL W (fun b => b < lo) l a) : Calls Tryz.prog 42 #[.pointer (some ⟨wb, 0, none⟩), .slice a l.length cap, .func (Fn.func 43) #[.pointer (some ⟨wb, 0, none⟩)] #[]] W (Wp lo wb acc b (encL encLn l) (∀ x ∈ l, okL x) W) := by
  have hll : l.length ≤ 9223372036854775807 := hl.1
  have hk1 := wnumber_any lo wb l.length (by omega) W h
  have hsl : (l.length : Int) % 18446744073709551616 = (l.length : Int) := by omega
  clear h
  go_enter Tryz.func42, Tryz.ntmps42
  go_wp2_with (go_at_call 69; go_loud (refine hk1.mono ?_; clear hk1; rintro e w1 ⟨rfl, acc1, b1, hW1, hB1, hr1⟩))
  go_loopw [15] (fun iv W2 => ∃ (i : Nat) (acc2 : List UInt8) (b2 : Bool), iv = .int .i64 (i : Int) ∧ i ≤ l.length ∧ WS lo wb W2 acc2 b2 ∧ Bk lo wb W W2 ∧ Wr acc b acc2 b2 (encN l.length ++ (l.take i).flatMap encLn) (∀ x ∈ l.take i, okL x)) (fun iv _ => l.length - (intOf iv).toNat)
  case atStart => exact ⟨0, acc1, b1, rfl, Nat.zero_le _, hW1, hB1, by rw [List.take_zero, List.flatMap_nil, List.append_nil]; exact hr1.ok ⟨fun _ => trivial, fun _ x hx => by simp at hx⟩⟩
  case round =>
    clear hW1 hB1 hr1 acc1 b1
    obtain ⟨i, acc2, b2, rfl, hi, hW2, hB2, hr2⟩ := hrel
    by_cases hlt : i < l.length
    · have hlt' : (i : Int) < (l.length : Int) := by omega
      have hi0 : (0 : Int) ≤ (i : Int) := by omega
      have hR2 := hR.fr hB2.bl.size (fun b hb _ => hB2.bl.block b hb)
      obtain ⟨⟨g, o, z⟩, rfl⟩ : ∃ p, a = some p := by
        rcases hR with h | ⟨g, o, _, e, _⟩
        · rw [h] at hlt; simp at hlt
        · exact ⟨_, e⟩
      obtain rfl : z = none := by
        rcases hR with h | ⟨g, o, _, e, _⟩
        · rw [h] at hlt; simp at hlt
        · injection e with e; injection e
      obtain ⟨cs, hcl, hg, hE, hc⟩ := hR2.item hlt
      have hil := hl.2 _ (List.getElem_mem hlt)
      have hokm : (∀ x ∈ l.take (i + 1), okL x) ↔ (∀ x ∈ l.take i, okL x) ∧ okL (l[i]) := by
        rw [List.take_succ_eq_append_getElem hlt]
        refine ⟨fun h => ⟨fun x hx => h x (List.mem_append_left _ hx), h _ (List.mem_append_right _ (List.mem_singleton.2 rfl))⟩, fun h x hx => ?_⟩
        rcases List.mem_append.1 hx with hx | hx
        · exact h.1 x hx
        · rw [List.mem_singleton.1 hx]; exact h.2
      obtain ⟨a1, cp1, rfl, hq, hRx⟩ := hE
      have k0 : wr.cell? ⟨g, o + i * 7, none⟩ = some (.string ⟨(l[i]).name.toArray⟩) := hc 0 (by decide)
      have k1 : wr.cell? ⟨g, o + i * 7 + 1, none⟩ = some (.bool (l[i]).input) := hc 1 (by decide)
      have k2 : wr.cell? ⟨g, o + i * 7 + 2, none⟩ = some (.bool (l[i]).must) := hc 2 (by decide)
      have k3 : wr.cell? ⟨g, o + i * 7 + 3, none⟩ = some (.int .i64 (l[i]).type) := hc 3 (by decide)
      have k4 : wr.cell? ⟨g, o + i * 7 + 4, none⟩ = some (.int .i64 (l[i]).opts) := hc 4 (by decide)
      have k5 : wr.cell? ⟨g, o + i * 7 + 5, none⟩ = some (.int .i64 (l[i]).group) := hc 5 (by decide)
      have k6 : wr.cell? ⟨g, o + i * 7 + 6, none⟩ = some (.slice a1 (l[i]).cls.length cp1) := hc 6 (by decide)
      have hst : (l.take (i + 1)).flatMap encLn = (l.take i).flatMap encLn ++ encLn (l[i]) := by rw [List.take_succ_eq_append_getElem hlt, List.flatMap_append, List.flatMap_singleton]
      have hst := Hid.mk hst
      have hokm := Hid.mk hokm
      have c1 := hW2.c1
      have hwl := hW2.lt
      have hnew := bx_new wr #[.string ⟨(l[i]).name.toArray⟩, .bool (l[i]).input, .bool (l[i]).must, .int .i64 (l[i]).type, .int .i64 (l[i]).opts, .int .i64 (l[i]).group, .slice a1 (l[i]).cls.length cp1] 55
      have hBn : Bk lo wb wr _ := Bk.alloc wr (Nat.le_trans hW2.lo (Nat.le_of_lt hwl)) (.cells #[.string ⟨(l[i]).name.toArray⟩, .bool (l[i]).input, .bool (l[i]).must, .int .i64 (l[i]).type, .int .i64 (l[i]).opts, .int .i64 (l[i]).group, .slice a1 (l[i]).cls.length cp1] 55)
      have hk := wline_any lo wb (l[i]) a1 cp1 hil (wr.alloc (.cells #[.string ⟨(l[i]).name.toArray⟩, .bool (l[i]).input, .bool (l[i]).must, .int .i64 (l[i]).type, .int .i64 (l[i]).opts, .int .i64 (l[i]).group, .slice a1 (l[i]).cls.length cp1] 55)) (hW2.alloc _) hq (hRx.fr hBn.bl.size (fun b hb _ => hBn.bl.block b hb))
      clear hc hR hR2 hcl hil
      cases b2 with
      | true =>
        have hfin : ∀ W3, WS lo wb W3 acc2 true → Bk lo wb W W3 → Wp lo wb acc b (encL encLn l) (∀ x ∈ l, okL x) W (.returned (.tuple #[])) W3 := fun W3 h3 h4 => ⟨rfl, acc2, true, h3, h4, fun h => by (cases h), fun h0 hl hq => by
          exact hr2.2 h0 (Nat.le_trans (Nat.add_le_add_left (take_le encLn l i) _) hl) (fun x hx => hq x (List.mem_of_mem_take hx))⟩
        have hfin := hfin _ (hW2.alloc (.cells #[.string ⟨(l[i]).name.toArray⟩, .bool (l[i]).input, .bool (l[i]).must, .int .i64 (l[i]).type, .int .i64 (l[i]).opts, .int .i64 (l[i]).group, .slice a1 (l[i]).cls.length cp1] 55)) (hB2.trans hBn)
        clear hk hr2 hW2 hB2 hBn
        generalize l[i] = x at *
        go_wp2
        exact bodyPost_ret (v := .tuple #[]) (by simp [results, Tryz.results42, go_sem]) rfl hfin
      | false =>
        generalize l[i] = x at *
        go_wp2_with (go_at_call 43; go_loud (refine hk.mono ?_; clear hk; rintro e w3 ⟨rfl, acc3, b3, hW3, hB3, hr3⟩))
        go_roundw
        case rel => exact ⟨i + 1, acc3, b3, by go_num, by omega, hW3, (hB2.trans hBn).trans hB3, by rw [hst.out, ← List.append_assoc]; exact (hr2.trans hr3).ok hokm.out⟩
        case measure => simp [intOf]; omega
    · obtain rfl : i = l.length := by omega
      have hfin : Wp lo wb acc b (encL encLn l) (∀ x ∈ l, okL x) W (.returned (.tuple #[])) wr := ⟨rfl, acc2, b2, hW2, hB2, by rw [List.take_length] at hr2; exact hr2⟩
      clear hW2 hB2 hr2 hR
      go_wp2
      exact bodyPost_end (v := .tuple #[]) (by simp [results, Tryz.results42, go_sem]) rfl hfin

set_option maxRecDepth 8000 in
set_option maxHeartbeats 2000000 in
theorem putChecks (lo wb : Nat) (l : List (Ck)) (a : Option Addr) (cap : Nat) (hl : l.length ≤ 9223372036854775807 ∧ ∀ x ∈ l, (fun x => x.name.length ≤ 9223372036854775807 ∧ x.text.length ≤ 9223372036854775807 ∧ SzE x.when_) x) (W : World) {acc : List UInt8} {b : Bool} (h : WS lo wb W acc b) (hR : RowR eK W (fun b => b < lo) l a) : Calls Tryz.prog 44 #[.pointer (some ⟨wb, 0, none⟩), .slice a l.length cap, .func (Fn.func 45) #[.pointer (some ⟨wb, 0, none⟩)] #[]] W (Wp lo wb acc b (encL encK l) (∀ x ∈ l, okK x) W) := by
  have hll : l.length ≤ 9223372036854775807 := hl.1
  have hk1 := wnumber_any lo wb l.length (by omega) W h
  have hsl : (l.length : Int) % 18446744073709551616 = (l.length : Int) := by omega
  clear h
  go_enter Tryz.func44, Tryz.ntmps44
  go_wp2_with (go_at_call 69; go_loud (refine hk1.mono ?_; clear hk1; rintro e w1 ⟨rfl, acc1, b1, hW1, hB1, hr1⟩))
  go_loopw [15] (fun iv W2 => ∃ (i : Nat) (acc2 : List UInt8) (b2 : Bool), iv = .int .i64 (i : Int) ∧ i ≤ l.length ∧ WS lo wb W2 acc2 b2 ∧ Bk lo wb W W2 ∧ Wr acc b acc2 b2 (encN l.length ++ (l.take i).flatMap encK) (∀ x ∈ l.take i, okK x)) (fun iv _ => l.length - (intOf iv).toNat)
  case atStart => exact ⟨0, acc1, b1, rfl, Nat.zero_le _, hW1, hB1, by rw [List.take_zero, List.flatMap_nil, List.append_nil]; exact hr1.ok ⟨fun _ => trivial, fun _ x hx => by simp at hx⟩⟩
  case round =>
    clear hW1 hB1 hr1 acc1 b1
    obtain ⟨i, acc2, b2, rfl, hi, hW2, hB2, hr2⟩ := hrel
    by_cases hlt : i < l.length
    · have hlt' : (i : Int) < (l.length : Int) := by omega
      have hi0 : (0 : Int) ≤ (i : Int) := by omega
      have hR2 := hR.fr hB2.bl.size (fun b hb _ => hB2.bl.block b hb)
      obtain ⟨⟨g, o, z⟩, rfl⟩ : ∃ p, a = some p := by
        rcases hR with h | ⟨g, o, _, e, _⟩
        · rw [h] at hlt; simp at hlt
        · exact ⟨_, e⟩
      obtain rfl : z = none := by
        rcases hR with h | ⟨g, o, _, e, _⟩
        · rw [h] at hlt; simp at hlt
        · injection e with e; injection e
      obtain ⟨cs, hcl, hg, hE, hc⟩ := hR2.item hlt
      have hil := hl.2 _ (List.getElem_mem hlt)
      have hokm : (∀ x ∈ l.take (i + 1), okK x) ↔ (∀ x ∈ l.take i, okK x) ∧ okK (l[i]) := by
        rw [List.take_succ_eq_append_getElem hlt]
        refine ⟨fun h => ⟨fun x hx => h x (List.mem_append_left _ hx), h _ (List.mem_append_right _ (List.mem_singleton.2 rfl))⟩, fun h x hx => ?_⟩
        rcases List.mem_append.1 hx with hx | hx
        · exact h.1 x hx
        · rw [List.mem_singleton.1 hx]; exact h.2
      obtain ⟨a1, cp1, rfl, hp, hq, hF1⟩ := hE
      have k0 : wr.cell? ⟨g, o + i * 9, none⟩ = some (.string ⟨(l[i]).name.toArray⟩) := hc 0 (by decide)
      have k1 : wr.cell? ⟨g, o + i * 9 + 1, none⟩ = some (.bool (l[i]).hard) := hc 1 (by decide)
      have k2 : wr.cell? ⟨g, o + i * 9 + 2, none⟩ = some (.int .i64 (l[i]).group) := hc 2 (by decide)
      have k3 : wr.cell? ⟨g, o + i * 9 + 3, none⟩ = some (.int .i64 (l[i]).when_.op) := hc 3 (by decide)
      have k4 : wr.cell? ⟨g, o + i * 9 + 4, none⟩ = some (.int .i64 (l[i]).when_.num) := hc 4 (by decide)
      have k5 : wr.cell? ⟨g, o + i * 9 + 5, none⟩ = some (.int .i64 (l[i]).when_.den) := hc 5 (by decide)
      have k6 : wr.cell? ⟨g, o + i * 9 + 6, none⟩ = some (.int .i64 (l[i]).when_.mode) := hc 6 (by decide)
      have k7 : wr.cell? ⟨g, o + i * 9 + 7, none⟩ = some (.slice a1 (l[i]).when_.args.len cp1) := hc 7 (by decide)
      have k8 : wr.cell? ⟨g, o + i * 9 + 8, none⟩ = some (.string ⟨(l[i]).text.toArray⟩) := hc 8 (by decide)
      have hst : (l.take (i + 1)).flatMap encK = (l.take i).flatMap encK ++ encK (l[i]) := by rw [List.take_succ_eq_append_getElem hlt, List.flatMap_append, List.flatMap_singleton]
      have hst := Hid.mk hst
      have hokm := Hid.mk hokm
      have c1 := hW2.c1
      have hwl := hW2.lt
      have hnew := bx_new wr #[.string ⟨(l[i]).name.toArray⟩, .bool (l[i]).hard, .int .i64 (l[i]).group, .int .i64 (l[i]).when_.op, .int .i64 (l[i]).when_.num, .int .i64 (l[i]).when_.den, .int .i64 (l[i]).when_.mode, .slice a1 (l[i]).when_.args.len cp1, .string ⟨(l[i]).text.toArray⟩] 63
      have hBn : Bk lo wb wr _ := Bk.alloc wr (Nat.le_trans hW2.lo (Nat.le_of_lt hwl)) (.cells #[.string ⟨(l[i]).name.toArray⟩, .bool (l[i]).hard, .int .i64 (l[i]).group, .int .i64 (l[i]).when_.op, .int .i64 (l[i]).when_.num, .int .i64 (l[i]).when_.den, .int .i64 (l[i]).when_.mode, .slice a1 (l[i]).when_.args.len cp1, .string ⟨(l[i]).text.toArray⟩] 63)
      have hk := wcheck_any lo wb (l[i]) a1 cp1 hil (wr.alloc (.cells #[.string ⟨(l[i]).name.toArray⟩, .bool (l[i]).hard, .int .i64 (l[i]).group, .int .i64 (l[i]).when_.op, .int .i64 (l[i]).when_.num, .int .i64 (l[i]).when_.den, .int .i64 (l[i]).when_.mode, .slice a1 (l[i]).when_.args.len cp1, .string ⟨(l[i]).text.toArray⟩] 63)) (hW2.alloc _) hp hq (FoAt.fr hBn.bl.size (fun b hb _ => hBn.bl.block b hb) _ _ hF1)
      clear hc hR hR2 hcl hil
      cases b2 with
      | true =>
        have hfin : ∀ W3, WS lo wb W3 acc2 true → Bk lo wb W W3 → Wp lo wb acc b (encL encK l) (∀ x ∈ l, okK x) W (.returned (.tuple #[])) W3 := fun W3 h3 h4 => ⟨rfl, acc2, true, h3, h4, fun h => by (cases h), fun h0 hl hq => by
          exact hr2.2 h0 (Nat.le_trans (Nat.add_le_add_left (take_le encK l i) _) hl) (fun x hx => hq x (List.mem_of_mem_take hx))⟩
        have hfin := hfin _ (hW2.alloc (.cells #[.string ⟨(l[i]).name.toArray⟩, .bool (l[i]).hard, .int .i64 (l[i]).group, .int .i64 (l[i]).when_.op, .int .i64 (l[i]).when_.num, .int .i64 (l[i]).when_.den, .int .i64 (l[i]).when_.mode, .slice a1 (l[i]).when_.args.len cp1, .string ⟨(l[i]).text.toArray⟩] 63)) (hB2.trans hBn)
        clear hk hr2 hW2 hB2 hBn
        generalize l[i] = x at *
        go_wp2
        exact bodyPost_ret (v := .tuple #[]) (by simp [results, Tryz.results44, go_sem]) rfl hfin
      | false =>
        generalize l[i] = x at *
        go_wp2_with (go_at_call 45; go_loud (refine hk.mono ?_; clear hk; rintro e w3 ⟨rfl, acc3, b3, hW3, hB3, hr3⟩))
        go_roundw
        case rel => exact ⟨i + 1, acc3, b3, by go_num, by omega, hW3, (hB2.trans hBn).trans hB3, by rw [hst.out, ← List.append_assoc]; exact (hr2.trans hr3).ok hokm.out⟩
        case measure => simp [intOf]; omega
    · obtain rfl : i = l.length := by omega
      have hfin : Wp lo wb acc b (encL encK l) (∀ x ∈ l, okK x) W (.returned (.tuple #[])) wr := ⟨rfl, acc2, b2, hW2, hB2, by rw [List.take_length] at hr2; exact hr2⟩
      clear hW2 hB2 hr2 hR
      go_wp2
      exact bodyPost_end (v := .tuple #[]) (by simp [results, Tryz.results44, go_sem]) rfl hfin

end Go.Proofs.YtmklkcefbabhbaaGreat

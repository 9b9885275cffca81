import Derived.Test.YtjgkjdalnjlefaaPkQg
import Derived.Test.YtjgkjdalnjlefaaPkQh
namespace Go.Proofs.Ytjgkjdalnjlefaa
open Go.RowKit

set_option maxRecDepth 8000 in
set_option maxHeartbeats 2000000 in
theorem putLines (lo wb : Nat) (l : List (Ln)) (a : Option Addr) (cap : Nat) (hl : l.length ≤ 9223372036854775807 ∧ ∀ x ∈ l, (fun x => x.name.length ≤ 9223372036854775807 ∧ SzL x) x) (W : World) {acc : List UInt8} {b : Bool} (h : WS lo wb W acc b) (hR : RowR eL W (fun b => b < lo) l a) : Calls Try.prog 98 #[.pointer (some ⟨wb, 0, none⟩), .slice a l.length cap, .func (Fn.func 99) #[.pointer (some ⟨wb, 0, none⟩)] #[]] W (Wp lo wb acc b (encL encLn l) (∀ x ∈ l, okL x) W) := by
  have hll : l.length ≤ 9223372036854775807 := hl.1
  have hk1 := wnumber_any lo wb l.length (by omega) W h
  have hsl : (l.length : Int) % 18446744073709551616 = (l.length : Int) := by omega
  clear h
  go_enter Try.func98, Try.ntmps98
  go_wp2_with (go_at_call 117; go_loud (refine hk1.mono ?_; clear hk1; rintro e w1 ⟨rfl, acc1, b1, hW1, hB1, hr1⟩))
  go_loopw [15] (fun iv W2 => ∃ (i : Nat) (acc2 : List UInt8) (b2 : Bool), iv = .int .i64 (i : Int) ∧ i ≤ l.length ∧ WS lo wb W2 acc2 b2 ∧ Bk lo wb W W2 ∧ Wr acc b acc2 b2 (encN l.length ++ (l.take i).flatMap encLn) (∀ x ∈ l.take i, okL x)) (fun iv _ => l.length - (intOf iv).toNat)
  case atStart => exact ⟨0, acc1, b1, rfl, Nat.zero_le _, hW1, hB1, by rw [List.take_zero, List.flatMap_nil, List.append_nil]; exact hr1.ok ⟨fun _ => trivial, fun _ x hx => by simp at hx⟩⟩
  case round =>
    clear hW1 hB1 hr1 acc1 b1
    obtain ⟨i, acc2, b2, rfl, hi, hW2, hB2, hr2⟩ := hrel
    by_cases hlt : i < l.length
    · have hlt' : (i : Int) < (l.length : Int) := by omega
      have hi0 : (0 : Int) ≤ (i : Int) := by omega
      have hR2 := hR.fr hB2.bl.size (fun b hb _ => hB2.bl.block b hb)
      obtain ⟨⟨g, o, z⟩, rfl⟩ : ∃ p, a = some p := by
        rcases hR with h | ⟨g, o, _, e, _⟩
        · rw [h] at hlt; simp at hlt
        · exact ⟨_, e⟩
      obtain rfl : z = none := by
        rcases hR with h | ⟨g, o, _, e, _⟩
        · rw [h] at hlt; simp at hlt
        · injection e with e; injection e
      obtain ⟨cs, hcl, hg, hE, hc⟩ := hR2.item hlt
      have hil := hl.2 _ (List.getElem_mem hlt)
      have hokm : (∀ x ∈ l.take (i + 1), okL x) ↔ (∀ x ∈ l.take i, okL x) ∧ okL (l[i]) := by
        rw [List.take_succ_eq_append_getElem hlt]
        refine ⟨fun h => ⟨fun x hx => h x (List.mem_append_left _ hx), h _ (List.mem_append_right _ (List.mem_singleton.2 rfl))⟩, fun h x hx => ?_⟩
        rcases List.mem_append.1 hx with hx | hx
        · exact h.1 x hx
        · rw [List.mem_singleton.1 hx]; exact h.2
      obtain ⟨a1, cp1, rfl, hq, hRx⟩ := hE
      have k0 : wr.cell? ⟨g, o + i * 7, none⟩ = some (.string ⟨(l[i]).name.toArray⟩) := hc 0 (by decide)
      have k1 : wr.cell? ⟨g, o + i * 7 + 1, none⟩ = some (.bool (l[i]).input) := hc 1 (by decide)
      have k2 : wr.cell? ⟨g, o + i * 7 + 2, none⟩ = some (.bool (l[i]).must) := hc 2 (by decide)
      have k3 : wr.cell? ⟨g, o + i * 7 + 3, none⟩ = some (.int .i64 (l[i]).type) := hc 3 (by decide)
      have k4 : wr.cell? ⟨g, o + i * 7 + 4, none⟩ = some (.int .i64 (l[i]).opts) := hc 4 (by decide)
      have k5 : wr.cell? ⟨g, o + i * 7 + 5, none⟩ = some (.int .i64 (l[i]).group) := hc 5 (by decide)
      have k6 : wr.cell? ⟨g, o + i * 7 + 6, none⟩ = some (.slice a1 (l[i]).cls.length cp1) := hc 6 (by decide)
      have hst : (l.take (i + 1)).flatMap encLn = (l.take i).flatMap encLn ++ encLn (l[i]) := by rw [List.take_succ_eq_append_getElem hlt, List.flatMap_append, List.flatMap_singleton]
      have hst := Hid.mk hst
      have hokm := Hid.mk hokm
      have c1 := hW2.c1
      have hwl := hW2.lt
      have hnew := bx_new wr #[.string ⟨(l[i]).name.toArray⟩, .bool (l[i]).input, .bool (l[i]).must, .int .i64 (l[i]).type, .int .i64 (l[i]).opts, .int .i64 (l[i]).group, .slice a1 (l[i]).cls.length cp1] 80
      have hBn : Bk lo wb wr _ := Bk.alloc wr (Nat.le_trans hW2.lo (Nat.le_of_lt hwl)) (.cells #[.string ⟨(l[i]).name.toArray⟩, .bool (l[i]).input, .bool (l[i]).must, .int .i64 (l[i]).type, .int .i64 (l[i]).opts, .int .i64 (l[i]).group, .slice a1 (l[i]).cls.length cp1] 80)
      have hk := wline_any lo wb (l[i]) a1 cp1 hil (wr.alloc (.cells #[.string ⟨(l[i]).name.toArray⟩, .bool (l[i]).input, .bool (l[i]).must, .int .i64 (l[i]).type, .int .i64 (l[i]).opts, .int .i64 (l[i]).group, .slice a1 (l[i]).cls.length cp1] 80)) (hW2.alloc _) hq (hRx.fr hBn.bl.size (fun b hb _ => hBn.bl.block b hb))
      clear hc hR hR2 hcl hil
      cases b2 with
      | true =>
        have hfin : ∀ W3, WS lo wb W3 acc2 true → Bk lo wb W W3 → Wp lo wb acc b (encL encLn l) (∀ x ∈ l, okL x) W (.returned (.tuple #[])) W3 := fun W3 h3 h4 => ⟨rfl, acc2, true, h3, h4, fun h => by (cases h), fun h0 hl hq => by
          exact hr2.2 h0 (Nat.le_trans (Nat.add_le_add_left (take_le encLn l i) _) hl) (fun x hx => hq x (List.mem_of_mem_take hx))⟩
        have hfin := hfin _ (hW2.alloc (.cells #[.string ⟨(l[i]).name.toArray⟩, .bool (l[i]).input, .bool (l[i]).must, .int .i64 (l[i]).type, .int .i64 (l[i]).opts, .int .i64 (l[i]).group, .slice a1 (l[i]).cls.length cp1] 80)) (hB2.trans hBn)
        clear hk hr2 hW2 hB2 hBn
        generalize l[i] = x at *
        go_wp2
        exact bodyPost_ret (v := .tuple #[]) (by simp [results, Try.results98, go_sem]) rfl hfin
      | false =>
        generalize l[i] = x at *
        go_wp2_with (go_at_call 99; go_loud (refine hk.mono ?_; clear hk; rintro e w3 ⟨rfl, acc3, b3, hW3, hB3, hr3⟩))
        go_roundw
        case rel => exact ⟨i + 1, acc3, b3, by go_num, by omega, hW3, (hB2.trans hBn).trans hB3, by rw [hst.out, ← List.append_assoc]; exact (hr2.trans hr3).ok hokm.out⟩
        case measure => simp [intOf]; omega
    · obtain rfl : i = l.length := by omega
      have hfin : Wp lo wb acc b (encL encLn l) (∀ x ∈ l, okL x) W (.returned (.tuple #[])) wr := ⟨rfl, acc2, b2, hW2, hB2, by rw [List.take_length] at hr2; exact hr2⟩
      clear hW2 hB2 hr2 hR
      go_wp2
      exact bodyPost_end (v := .tuple #[]) (by simp [results, Try.results98, go_sem]) rfl hfin

set_option maxRecDepth 8000 in
set_option maxHeartbeats 2000000 in
theorem putChecks (lo wb : Nat) (l : List (Ck)) (a : Option Addr) (cap : Nat) (hl : l.length ≤ 9223372036854775807 ∧ ∀ x ∈ l, (fun x => x.name.length ≤ 9223372036854775807 ∧ x.text.length ≤ 9223372036854775807 ∧ SzE x.when_) x) (W : World) {acc : List UInt8} {b : Bool} (h : WS lo wb W acc b) (hR : RowR eK W (fun b => b < lo) l a) : Calls Try.prog 100 #[.pointer (some ⟨wb, 0, none⟩), .slice a l.length cap, .func (Fn.func 101) #[.pointer (some ⟨wb, 0, none⟩)] #[]] W (Wp lo wb acc b (encL encK l) (∀ x ∈ l, okK x) W) := by
  have hll : l.length ≤ 9223372036854775807 := hl.1
  have hk1 := wnumber_any lo wb l.length (by omega) W h
  have hsl : (l.length : Int) % 18446744073709551616 = (l.length : Int) := by omega
  clear h
  go_enter Try.func100, Try.ntmps100
  go_wp2_with (go_at_call 117; go_loud (refine hk1.mono ?_; clear hk1; rintro e w1 ⟨rfl, acc1, b1, hW1, hB1, hr1⟩))
  go_loopw [15] (fun iv W2 => ∃ (i : Nat) (acc2 : List UInt8) (b2 : Bool), iv = .int .i64 (i : Int) ∧ i ≤ l.length ∧ WS lo wb W2 acc2 b2 ∧ Bk lo wb W W2 ∧ Wr acc b acc2 b2 (encN l.length ++ (l.take i).flatMap encK) (∀ x ∈ l.take i, okK x)) (fun iv _ => l.length - (intOf iv).toNat)
  case atStart => exact ⟨0, acc1, b1, rfl, Nat.zero_le _, hW1, hB1, by rw [List.take_zero, List.flatMap_nil, List.append_nil]; exact hr1.ok ⟨fun _ => trivial, fun _ x hx => by simp at hx⟩⟩
  case round =>
    clear hW1 hB1 hr1 acc1 b1
    obtain ⟨i, acc2, b2, rfl, hi, hW2, hB2, hr2⟩ := hrel
    by_cases hlt : i < l.length
    · have hlt' : (i : Int) < (l.length : Int) := by omega
      have hi0 : (0 : Int) ≤ (i : Int) := by omega
      have hR2 := hR.fr hB2.bl.size (fun b hb _ => hB2.bl.block b hb)
      obtain ⟨⟨g, o, z⟩, rfl⟩ : ∃ p, a = some p := by
        rcases hR with h | ⟨g, o, _, e, _⟩
        · rw [h] at hlt; simp at hlt
        · exact ⟨_, e⟩
      obtain rfl : z = none := by
        rcases hR with h | ⟨g, o, _, e, _⟩
        · rw [h] at hlt; simp at hlt
        · injection e with e; injection e
      obtain ⟨cs, hcl, hg, hE, hc⟩ := hR2.item hlt
      have hil := hl.2 _ (List.getElem_mem hlt)
      have hokm : (∀ x ∈ l.take (i + 1), okK x) ↔ (∀ x ∈ l.take i, okK x) ∧ okK (l[i]) := by
        rw [List.take_succ_eq_append_getElem hlt]
        refine ⟨fun h => ⟨fun x hx => h x (List.mem_append_left _ hx), h _ (List.mem_append_right _ (List.mem_singleton.2 rfl))⟩, fun h x hx => ?_⟩
        rcases List.mem_append.1 hx with hx | hx
        · exact h.1 x hx
        · rw [List.mem_singleton.1 hx]; exact h.2
      obtain ⟨a1, cp1, rfl, hp, hq, hF1⟩ := hE
      have k0 : wr.cell? ⟨g, o + i * 9, none⟩ = some (.string ⟨(l[i]).name.toArray⟩) := hc 0 (by decide)
      have k1 : wr.cell? ⟨g, o + i * 9 + 1, none⟩ = some (.bool (l[i]).hard) := hc 1 (by decide)
      have k2 : wr.cell? ⟨g, o + i * 9 + 2, none⟩ = some (.int .i64 (l[i]).group) := hc 2 (by decide)
      have k3 : wr.cell? ⟨g, o + i * 9 + 3, none⟩ = some (.int .i64 (l[i]).when_.op) := hc 3 (by decide)
      have k4 : wr.cell? ⟨g, o + i * 9 + 4, none⟩ = some (.int .i64 (l[i]).when_.num) := hc 4 (by decide)
      have k5 : wr.cell? ⟨g, o + i * 9 + 5, none⟩ = some (.int .i64 (l[i]).when_.den) := hc 5 (by decide)
      have k6 : wr.cell? ⟨g, o + i * 9 + 6, none⟩ = some (.int .i64 (l[i]).when_.mode) := hc 6 (by decide)
      have k7 : wr.cell? ⟨g, o + i * 9 + 7, none⟩ = some (.slice a1 (l[i]).when_.args.len cp1) := hc 7 (by decide)
      have k8 : wr.cell? ⟨g, o + i * 9 + 8, none⟩ = some (.string ⟨(l[i]).text.toArray⟩) := hc 8 (by decide)
      have hst : (l.take (i + 1)).flatMap encK = (l.take i).flatMap encK ++ encK (l[i]) := by rw [List.take_succ_eq_append_getElem hlt, List.flatMap_append, List.flatMap_singleton]
      have hst := Hid.mk hst
      have hokm := Hid.mk hokm
      have c1 := hW2.c1
      have hwl := hW2.lt
      have hnew := bx_new wr #[.string ⟨(l[i]).name.toArray⟩, .bool (l[i]).hard, .int .i64 (l[i]).group, .int .i64 (l[i]).when_.op, .int .i64 (l[i]).when_.num, .int .i64 (l[i]).when_.den, .int .i64 (l[i]).when_.mode, .slice a1 (l[i]).when_.args.len cp1, .string ⟨(l[i]).text.toArray⟩] 85
      have hBn : Bk lo wb wr _ := Bk.alloc wr (Nat.le_trans hW2.lo (Nat.le_of_lt hwl)) (.cells #[.string ⟨(l[i]).name.toArray⟩, .bool (l[i]).hard, .int .i64 (l[i]).group, .int .i64 (l[i]).when_.op, .int .i64 (l[i]).when_.num, .int .i64 (l[i]).when_.den, .int .i64 (l[i]).when_.mode, .slice a1 (l[i]).when_.args.len cp1, .string ⟨(l[i]).text.toArray⟩] 85)
      have hk := wcheck_any lo wb (l[i]) a1 cp1 hil (wr.alloc (.cells #[.string ⟨(l[i]).name.toArray⟩, .bool (l[i]).hard, .int .i64 (l[i]).group, .int .i64 (l[i]).when_.op, .int .i64 (l[i]).when_.num, .int .i64 (l[i]).when_.den, .int .i64 (l[i]).when_.mode, .slice a1 (l[i]).when_.args.len cp1, .string ⟨(l[i]).text.toArray⟩] 85)) (hW2.alloc _) hp hq (FoAt.fr hBn.bl.size (fun b hb _ => hBn.bl.block b hb) _ _ hF1)
      clear hc hR hR2 hcl hil
      cases b2 with
      | true =>
        have hfin : ∀ W3, WS lo wb W3 acc2 true → Bk lo wb W W3 → Wp lo wb acc b (encL encK l) (∀ x ∈ l, okK x) W (.returned (.tuple #[])) W3 := fun W3 h3 h4 => ⟨rfl, acc2, true, h3, h4, fun h => by (cases h), fun h0 hl hq => by
          exact hr2.2 h0 (Nat.le_trans (Nat.add_le_add_left (take_le encK l i) _) hl) (fun x hx => hq x (List.mem_of_mem_take hx))⟩
        have hfin := hfin _ (hW2.alloc (.cells #[.string ⟨(l[i]).name.toArray⟩, .bool (l[i]).hard, .int .i64 (l[i]).group, .int .i64 (l[i]).when_.op, .int .i64 (l[i]).when_.num, .int .i64 (l[i]).when_.den, .int .i64 (l[i]).when_.mode, .slice a1 (l[i]).when_.args.len cp1, .string ⟨(l[i]).text.toArray⟩] 85)) (hB2.trans hBn)
        clear hk hr2 hW2 hB2 hBn
        generalize l[i] = x at *
        go_wp2
        exact bodyPost_ret (v := .tuple #[]) (by simp [results, Try.results100, go_sem]) rfl hfin
      | false =>
        generalize l[i] = x at *
        go_wp2_with (go_at_call 101; go_loud (refine hk.mono ?_; clear hk; rintro e w3 ⟨rfl, acc3, b3, hW3, hB3, hr3⟩))
        go_roundw
        case rel => exact ⟨i + 1, acc3, b3, by go_num, by omega, hW3, (hB2.trans hBn).trans hB3, by rw [hst.out, ← List.append_assoc]; exact (hr2.trans hr3).ok hokm.out⟩
        case measure => simp [intOf]; omega
    · obtain rfl : i = l.length := by omega
      have hfin : Wp lo wb acc b (encL encK l) (∀ x ∈ l, okK x) W (.returned (.tuple #[])) wr := ⟨rfl, acc2, b2, hW2, hB2, by rw [List.take_length] at hr2; exact hr2⟩
      clear hW2 hB2 hr2 hR
      go_wp2
      exact bodyPost_end (v := .tuple #[]) (by simp [results, Try.results100, go_sem]) rfl hfin

end Go.Proofs.Ytjgkjdalnjlefaa

import Derived.Test.YtjgkjdalnjlefaaPkQc
namespace Go.Proofs.Ytjgkjdalnjlefaa
open Go.RowKit

set_option maxRecDepth 8000 in
set_option maxHeartbeats 2000000 in
theorem putExprs (lo wb : Nat) (d p1 p2 : Nat) (l : List (Ex)) (a : Option Addr) (cap : Nat) (hl : l.length ≤ 9223372036854775807 ∧ ∀ x ∈ l, SzE x) (W : World) {acc : List UInt8} {b : Bool} (h : WS lo wb W acc b) (hR : RowR eE W (fun b => b < lo) l a) (hit : ∀ W1, Bk lo wb W W1 → WExpr 131 (d + 1) [] [.pointer (some ⟨p1, 0, none⟩), .pointer (some ⟨p2, 0, none⟩)] lo wb W1) : Calls Try.prog 130 #[.pointer (some ⟨wb, 0, none⟩), .slice a l.length cap, .func (Fn.func 131) #[] #[.pointer (some ⟨p1, 0, none⟩), .pointer (some ⟨p2, 0, none⟩)]] W (Wp lo wb acc b (encL encE l) (∀ x ∈ l, (fun x => deepE x + (d + 1) ≤ 65) x) W) := by
  have hll : l.length ≤ 9223372036854775807 := hl.1
  have hk1 := wnumber_any lo wb l.length (by omega) W h
  have hsl : (l.length : Int) % 18446744073709551616 = (l.length : Int) := by omega
  clear h
  go_enter Try.func130, Try.ntmps130
  go_wp2_with (go_at_call 117; go_loud (refine hk1.mono ?_; clear hk1; rintro e w1 ⟨rfl, acc1, b1, hW1, hB1, hr1⟩))
  go_loopw [15] (fun iv W2 => ∃ (i : Nat) (acc2 : List UInt8) (b2 : Bool), iv = .int .i64 (i : Int) ∧ i ≤ l.length ∧ WS lo wb W2 acc2 b2 ∧ Bk lo wb W W2 ∧ Wr acc b acc2 b2 (encN l.length ++ (l.take i).flatMap encE) (∀ x ∈ l.take i, (fun x => deepE x + (d + 1) ≤ 65) x)) (fun iv _ => l.length - (intOf iv).toNat)
  case atStart => exact ⟨0, acc1, b1, rfl, Nat.zero_le _, hW1, hB1, by rw [List.take_zero, List.flatMap_nil, List.append_nil]; exact hr1.ok ⟨fun _ => trivial, fun _ x hx => by simp at hx⟩⟩
  case round =>
    clear hW1 hB1 hr1 acc1 b1
    obtain ⟨i, acc2, b2, rfl, hi, hW2, hB2, hr2⟩ := hrel
    by_cases hlt : i < l.length
    · have hlt' : (i : Int) < (l.length : Int) := by omega
      have hi0 : (0 : Int) ≤ (i : Int) := by omega
      have hR2 := hR.fr hB2.bl.size (fun b hb _ => hB2.bl.block b hb)
      obtain ⟨⟨g, o, z⟩, rfl⟩ : ∃ p, a = some p := by
        rcases hR with h | ⟨g, o, _, e, _⟩
        · rw [h] at hlt; simp at hlt
        · exact ⟨_, e⟩
      obtain rfl : z = none := by
        rcases hR with h | ⟨g, o, _, e, _⟩
        · rw [h] at hlt; simp at hlt
        · injection e with e; injection e
      obtain ⟨cs, hcl, hg, hE, hc⟩ := hR2.item hlt
      have hil := hl.2 _ (List.getElem_mem hlt)
      have hokm : (∀ x ∈ l.take (i + 1), (fun x => deepE x + (d + 1) ≤ 65) x) ↔ (∀ x ∈ l.take i, (fun x => deepE x + (d + 1) ≤ 65) x) ∧ (fun x => deepE x + (d + 1) ≤ 65) (l[i]) := by
        rw [List.take_succ_eq_append_getElem hlt]
        refine ⟨fun h => ⟨fun x hx => h x (List.mem_append_left _ hx), h _ (List.mem_append_right _ (List.mem_singleton.2 rfl))⟩, fun h x hx => ?_⟩
        rcases List.mem_append.1 hx with hx | hx
        · exact h.1 x hx
        · rw [List.mem_singleton.1 hx]; exact h.2
      have hE : ∃ a cap, cs = [.int .i64 (l[i]).op, .int .i64 (l[i]).num, .int .i64 (l[i]).den, .int .i64 (l[i]).mode, .slice a (l[i]).args.len cap] ∧ (Rg (l[i]).op ∧ Rg (l[i]).num ∧ Rg (l[i]).den ∧ Rg (l[i]).mode) ∧ FoAt wr (fun b => b < lo) (l[i]).args a := hE
      obtain ⟨a2, cap2, rfl, hrg, hFx⟩ := hE
      have k0 : wr.cell? ⟨g, o + i * 5, none⟩ = some (.int .i64 (l[i]).op) := hc 0 (by decide)
      have k1 : wr.cell? ⟨g, o + i * 5 + 1, none⟩ = some (.int .i64 (l[i]).num) := hc 1 (by decide)
      have k2 : wr.cell? ⟨g, o + i * 5 + 2, none⟩ = some (.int .i64 (l[i]).den) := hc 2 (by decide)
      have k3 : wr.cell? ⟨g, o + i * 5 + 3, none⟩ = some (.int .i64 (l[i]).mode) := hc 3 (by decide)
      have k4 : wr.cell? ⟨g, o + i * 5 + 4, none⟩ = some (.slice a2 (l[i]).args.len cap2) := hc 4 (by decide)
      have hst : (l.take (i + 1)).flatMap encE = (l.take i).flatMap encE ++ encE (l[i]) := by rw [List.take_succ_eq_append_getElem hlt, List.flatMap_append, List.flatMap_singleton]
      have hst := Hid.mk hst
      have hokm := Hid.mk hokm
      have c1 := hW2.c1
      have hwl := hW2.lt
      have hnew := bx_new wr #[.int .i64 (l[i]).op, .int .i64 (l[i]).num, .int .i64 (l[i]).den, .int .i64 (l[i]).mode, .slice a2 (l[i]).args.len cap2] 83
      have hBn : Bk lo wb wr _ := Bk.alloc wr (Nat.le_trans hW2.lo (Nat.le_of_lt hwl)) (.cells #[.int .i64 (l[i]).op, .int .i64 (l[i]).num, .int .i64 (l[i]).den, .int .i64 (l[i]).mode, .slice a2 (l[i]).args.len cap2] 83)
      have hk := hit (wr.alloc (.cells #[.int .i64 (l[i]).op, .int .i64 (l[i]).num, .int .i64 (l[i]).den, .int .i64 (l[i]).mode, .slice a2 (l[i]).args.len cap2] 83)) (hB2.trans hBn) (l[i]) a2 cap2 acc2 b2 (hW2.alloc _) hil hrg (FoAt.fr hBn.bl.size (fun b hb _ => hBn.bl.block b hb) _ _ hFx)
      have hk : Calls Try.prog 131 #[.agg #[.int .i64 (l[i]).op, .int .i64 (l[i]).num, .int .i64 (l[i]).den, .int .i64 (l[i]).mode, .slice a2 (l[i]).args.len cap2], .pointer (some ⟨p1, 0, none⟩), .pointer (some ⟨p2, 0, none⟩)] _ _ := hk
      clear hc hR hR2 hcl hil
      cases b2 with
      | true =>
        have hfin : ∀ W3, WS lo wb W3 acc2 true → Bk lo wb W W3 → Wp lo wb acc b (encL encE l) (∀ x ∈ l, (fun x => deepE x + (d + 1) ≤ 65) x) W (.returned (.tuple #[])) W3 := fun W3 h3 h4 => ⟨rfl, acc2, true, h3, h4, fun h => by (cases h), fun h0 hl hq => by
          exact hr2.2 h0 (Nat.le_trans (Nat.add_le_add_left (take_le encE l i) _) hl) (fun x hx => hq x (List.mem_of_mem_take hx))⟩
        have hfin := hfin _ (hW2.alloc (.cells #[.int .i64 (l[i]).op, .int .i64 (l[i]).num, .int .i64 (l[i]).den, .int .i64 (l[i]).mode, .slice a2 (l[i]).args.len cap2] 83)) (hB2.trans hBn)
        clear hk hr2 hW2 hB2 hBn
        generalize l[i] = x at *
        go_wp2
        exact bodyPost_ret (v := .tuple #[]) (by simp [results, Try.results130, go_sem]) rfl hfin
      | false =>
        generalize l[i] = x at *
        go_wp2_with (go_at_call 131; go_loud (refine hk.mono ?_; clear hk; rintro e w3 ⟨rfl, acc3, b3, hW3, hB3, hr3⟩))
        go_roundw
        case rel => exact ⟨i + 1, acc3, b3, by go_num, by omega, hW3, (hB2.trans hBn).trans hB3, by rw [hst.out, ← List.append_assoc]; exact (hr2.trans hr3).ok hokm.out⟩
        case measure => simp [intOf]; omega
    · obtain rfl : i = l.length := by omega
      have hfin : Wp lo wb acc b (encL encE l) (∀ x ∈ l, (fun x => deepE x + (d + 1) ≤ 65) x) W (.returned (.tuple #[])) wr := ⟨rfl, acc2, b2, hW2, hB2, by rw [List.take_length] at hr2; exact hr2⟩
      clear hW2 hB2 hr2 hR
      go_wp2
      exact bodyPost_end (v := .tuple #[]) (by simp [results, Try.results130, go_sem]) rfl hfin

end Go.Proofs.Ytjgkjdalnjlefaa

import Derived.Test.YtjgkjdalnjlefaaPkQ6
namespace Go.Proofs.Ytjgkjdalnjlefaa
open Go.RowKit

theorem RowR.item {α : Type} {D : Elt α} {W : World} {S : Nat → Prop} {xs : List α} {g o : Nat} (h : RowR D W S xs (some ⟨g, o, none⟩)) {i : Nat} (hi : i < xs.length) : ∃ cs : List Value, cs.length = D.k ∧ S g ∧ D.E W S xs[i] cs ∧ ∀ j, j < D.k → W.cell? ⟨g, o + i * D.k + j, none⟩ = cs[j]? := by
  rcases h with h | ⟨g', o', cs, he, hS, _, hc, hE⟩
  · rw [h] at hi; simp at hi
  · injection he with he
    injection he with h1 h2
    subst h1 h2
    have hl := hE.1
    have hE := hE.2 i hi
    have hlen := D.len hE
    refine ⟨_, hlen, hS, hE, fun j hj => ?_⟩
    have hm : i * D.k + D.k ≤ xs.length * D.k := by rw [← Nat.succ_mul]; exact Nat.mul_le_mul_right _ hi
    rw [Nat.add_assoc, hc (i * D.k + j) (by rw [hl]; omega), List.getElem?_take, if_pos hj, List.getElem?_drop]

theorem take_le {α : Type} (f : α → List UInt8) (l : List α) (i : Nat) : (encN l.length ++ (l.take i).flatMap f).length ≤ (encL f l).length := by
  have h : l.flatMap f = (l.take i).flatMap f ++ (l.drop i).flatMap f := by rw [← List.flatMap_append, List.take_append_drop]
  unfold encL
  rw [h]
  simp only [List.length_append]
  omega
set_option maxRecDepth 8000 in
set_option maxHeartbeats 1000000 in
theorem putBands (lo wb : Nat) (l : List (Int × Int)) (a : Option Addr) (cap : Nat) (hl : l.length ≤ 9223372036854775807) (W : World) {acc : List UInt8} {b : Bool} (h : WS lo wb W acc b) (hR : RowR eBd W (fun b => b < lo) l a) : Calls Try.prog 119 #[.pointer (some ⟨wb, 0, none⟩), .slice a l.length cap, .func (Fn.func 120) #[.pointer (some ⟨wb, 0, none⟩)] #[]] W (Wp lo wb acc b (encL encBd l) True W) := by
  have hk1 := wnumber_any lo wb l.length (by omega) W h
  have hsl : (l.length : Int) % 18446744073709551616 = (l.length : Int) := by omega
  clear h
  go_enter Try.func119, Try.ntmps119
  go_wp2_with (go_at_call 117; go_loud (refine hk1.mono ?_; clear hk1; rintro e w1 ⟨rfl, acc1, b1, hW1, hB1, hr1⟩))
  go_loopw [15] (fun iv W2 => ∃ (i : Nat) (acc2 : List UInt8) (b2 : Bool), iv = .int .i64 (i : Int) ∧ i ≤ l.length ∧ WS lo wb W2 acc2 b2 ∧ Bk lo wb W W2 ∧ Wr acc b acc2 b2 (encN l.length ++ (l.take i).flatMap encBd) True) (fun iv _ => l.length - (intOf iv).toNat)
  case atStart => exact ⟨0, acc1, b1, rfl, Nat.zero_le _, hW1, hB1, by rw [List.take_zero, List.flatMap_nil, List.append_nil]; exact hr1⟩
  case round =>
    clear hW1 hB1 hr1 acc1 b1
    obtain ⟨i, acc2, b2, rfl, hi, hW2, hB2, hr2⟩ := hrel
    by_cases hlt : i < l.length
    · have hlt' : (i : Int) < (l.length : Int) := by omega
      have hi0 : (0 : Int) ≤ (i : Int) := by omega
      have hR2 := hR.fr hB2.bl.size (fun b hb _ => hB2.bl.block b hb)
      obtain ⟨⟨g, o, z⟩, rfl⟩ : ∃ p, a = some p := by
        rcases hR with h | ⟨g, o, _, e, _⟩
        · rw [h] at hlt; simp at hlt
        · exact ⟨_, e⟩
      obtain rfl : z = none := by
        rcases hR with h | ⟨g, o, _, e, _⟩
        · rw [h] at hlt; simp at hlt
        · injection e with e; injection e
      obtain ⟨cs, hcl, hg, hE, hc⟩ := hR2.item hlt
      have hE : cs = [.int .i64 (l[i]).1, .int .i64 (l[i]).2] ∧ Rg (l[i]).1 ∧ Rg (l[i]).2 := hE
      obtain ⟨rfl, hr1, hr2'⟩ := hE
      have k0 : wr.cell? ⟨g, o + i * 2, none⟩ = some (.int .i64 (l[i]).1) := hc 0 (by decide)
      have k1 : wr.cell? ⟨g, o + i * 2 + 1, none⟩ = some (.int .i64 (l[i]).2) := hc 1 (by decide)
      have hst : (l.take (i + 1)).flatMap encBd = (l.take i).flatMap encBd ++ encBd ((l[i]).1, (l[i]).2) := by rw [List.take_succ_eq_append_getElem hlt, List.flatMap_append, List.flatMap_singleton]
      have hst := Hid.mk hst
      have c1 := hW2.c1
      have hwl := hW2.lt
      have hnew := bx_new wr #[.int .i64 (l[i]).1, .int .i64 (l[i]).2] 77
      have hBn : Bk lo wb wr _ := Bk.alloc wr (Nat.le_trans hW2.lo (Nat.le_of_lt hwl)) (.cells #[.int .i64 (l[i]).1, .int .i64 (l[i]).2] 77)
      have hk := wband_any lo wb (l[i]).1 (l[i]).2 hr1 hr2' (wr.alloc (.cells #[.int .i64 (l[i]).1, .int .i64 (l[i]).2] 77)) (hW2.alloc _)
      clear hc hR hR2 hcl hE
      cases b2 with
      | true =>
        have hfin : ∀ W3, WS lo wb W3 acc2 true → Bk lo wb W W3 → Wp lo wb acc b (encL encBd l) True W (.returned (.tuple #[])) W3 := fun W3 h3 h4 => ⟨rfl, acc2, true, h3, h4, fun h => by (cases h), fun h0 hl _ => by
          exact hr2.2 h0 (Nat.le_trans (Nat.add_le_add_left (take_le encBd l i) _) hl) trivial⟩
        have hfin := hfin _ (hW2.alloc _) (hB2.trans hBn)
        clear hk hr1 hr2' hr2 hW2 hB2 hBn
        generalize (l[i]).1 = x at *
        generalize (l[i]).2 = y at *
        go_wp2
        exact bodyPost_ret (v := .tuple #[]) (by simp [results, Try.results119, go_sem]) rfl hfin
      | false =>
        generalize (l[i]).1 = x at *
        generalize (l[i]).2 = y at *
        go_wp2_with (go_at_call 120; go_loud (refine hk.mono ?_; clear hk; rintro e w3 ⟨rfl, acc3, b3, hW3, hB3, hr3⟩))
        go_roundw
        case rel => exact ⟨i + 1, acc3, b3, by go_num, by omega, hW3, (hB2.trans hBn).trans hB3, by rw [hst.out, ← List.append_assoc]; exact hr2.tr hr3⟩
        case measure => simp [intOf]; omega
    · obtain rfl : i = l.length := by omega
      have hfin : Wp lo wb acc b (encL encBd l) True W (.returned (.tuple #[])) wr := ⟨rfl, acc2, b2, hW2, hB2, by rw [List.take_length] at hr2; exact hr2⟩
      clear hW2 hB2 hr2 hR
      go_wp2
      exact bodyPost_end (v := .tuple #[]) (by simp [results, Try.results119, go_sem]) rfl hfin

end Go.Proofs.Ytjgkjdalnjlefaa

import Derived.Test.YtjgkjdalnjlefaaPkQ7
namespace Go.Proofs.Ytjgkjdalnjlefaa
open Go.RowKit

theorem len_le {α : Type} (f : α → List UInt8) (hf : ∀ x, 0 < (f x).length) : ∀ l : List α, l.length ≤ (l.flatMap f).length
  | [] => Nat.le_refl _
  | x :: l => by
    have h := len_le f hf l
    have h2 := hf x
    rw [List.flatMap_cons, List.length_append, List.length_cons]
    omega
theorem item_le {α : Type} (f : α → List UInt8) (l : List α) {i : Nat} (hi : i < l.length) : (f (l[i])).length ≤ (encL f l).length := by
  have h : l.flatMap f = (l.take i).flatMap f ++ (f (l[i]) ++ (l.drop (i + 1)).flatMap f) := by
    rw [← List.flatMap_cons, ← List.flatMap_append, ← List.drop_eq_getElem_cons hi, List.take_append_drop]
  unfold encL
  rw [h]
  simp only [List.length_append]
  omega
set_option maxRecDepth 8000 in
set_option maxHeartbeats 1000000 in
theorem putTexts (lo wb : Nat) (l : List (List UInt8)) (a : Option Addr) (cap : Nat) (hl : l.length ≤ 9223372036854775807 ∧ ∀ s ∈ l, s.length ≤ 9223372036854775807) (W : World) {acc : List UInt8} {b : Bool} (h : WS lo wb W acc b) (hR : RowR eS W (fun b => b < lo) l a) : Calls Try.prog 118 #[.pointer (some ⟨wb, 0, none⟩), .slice a l.length cap, .func (Fn.func 90) #[.pointer (some ⟨wb, 0, none⟩)] #[]] W (Wp lo wb acc b (encL encS l) True W) := by
  have hll : l.length ≤ 9223372036854775807 := hl.1
  have hk1 := wnumber_any lo wb l.length (by omega) W h
  have hsl : (l.length : Int) % 18446744073709551616 = (l.length : Int) := by omega
  clear h
  go_enter Try.func118, Try.ntmps118
  go_wp2_with (go_at_call 117; go_loud (refine hk1.mono ?_; clear hk1; rintro e w1 ⟨rfl, acc1, b1, hW1, hB1, hr1⟩))
  go_loopw [15] (fun iv W2 => ∃ (i : Nat) (acc2 : List UInt8) (b2 : Bool), iv = .int .i64 (i : Int) ∧ i ≤ l.length ∧ WS lo wb W2 acc2 b2 ∧ Bk lo wb W W2 ∧ Wr acc b acc2 b2 (encN l.length ++ (l.take i).flatMap encS) True) (fun iv _ => l.length - (intOf iv).toNat)
  case atStart => exact ⟨0, acc1, b1, rfl, Nat.zero_le _, hW1, hB1, by rw [List.take_zero, List.flatMap_nil, List.append_nil]; exact hr1⟩
  case round =>
    clear hW1 hB1 hr1 acc1 b1
    obtain ⟨i, acc2, b2, rfl, hi, hW2, hB2, hr2⟩ := hrel
    by_cases hlt : i < l.length
    · have hlt' : (i : Int) < (l.length : Int) := by omega
      have hi0 : (0 : Int) ≤ (i : Int) := by omega
      have hR2 := hR.fr hB2.bl.size (fun b hb _ => hB2.bl.block b hb)
      obtain ⟨⟨g, o, z⟩, rfl⟩ : ∃ p, a = some p := by
        rcases hR with h | ⟨g, o, _, e, _⟩
        · rw [h] at hlt; simp at hlt
        · exact ⟨_, e⟩
      obtain rfl : z = none := by
        rcases hR with h | ⟨g, o, _, e, _⟩
        · rw [h] at hlt; simp at hlt
        · injection e with e; injection e
      obtain ⟨cs, hcl, hg, hE, hc⟩ := hR2.item hlt
      have hE : cs = [.string ⟨(l[i]).toArray⟩] := hE
      subst hE
      have hil : (l[i]).length ≤ 9223372036854775807 := hl.2 _ (List.getElem_mem hlt)
      have k0 : wr.cell? ⟨g, o + i, none⟩ = some (.string ⟨(l[i]).toArray⟩) := by
        have h := hc 0 (by decide)
        rw [show o + i * eS.k + 0 = o + i from by show o + i * 1 + 0 = o + i; omega] at h
        exact h
      have hst : (l.take (i + 1)).flatMap encS = (l.take i).flatMap encS ++ encS (l[i]) := by rw [List.take_succ_eq_append_getElem hlt, List.flatMap_append, List.flatMap_singleton]
      have hst := Hid.mk hst
      have c1 := hW2.c1
      have hwl := hW2.lt
      have hk := wtext_any lo wb (l[i]) hil wr hW2
      clear hc hR hR2 hcl
      cases b2 with
      | true =>
        have hfin : ∀ W3, WS lo wb W3 acc2 true → Bk lo wb W W3 → Wp lo wb acc b (encL encS l) True W (.returned (.tuple #[])) W3 := fun W3 h3 h4 => ⟨rfl, acc2, true, h3, h4, fun h => by (cases h), fun h0 hl _ => by
          exact hr2.2 h0 (Nat.le_trans (Nat.add_le_add_left (take_le encS l i) _) hl) trivial⟩
        have hfin := hfin _ hW2 hB2
        clear hk hr2 hW2 hB2
        generalize l[i] = x at *
        go_wp2
        exact bodyPost_ret (v := .tuple #[]) (by simp [results, Try.results118, go_sem]) rfl hfin
      | false =>
        generalize l[i] = x at *
        go_wp2_with (go_at_call 90; go_loud (refine hk.mono ?_; clear hk; rintro e w3 ⟨rfl, acc3, b3, hW3, hB3, hr3⟩))
        go_roundw
        case rel => exact ⟨i + 1, acc3, b3, by go_num, by omega, hW3, hB2.trans hB3, by rw [hst.out, ← List.append_assoc]; exact hr2.tr hr3⟩
        case measure => simp [intOf]; omega
    · obtain rfl : i = l.length := by omega
      have hfin : Wp lo wb acc b (encL encS l) True W (.returned (.tuple #[])) wr := ⟨rfl, acc2, b2, hW2, hB2, by rw [List.take_length] at hr2; exact hr2⟩
      clear hW2 hB2 hr2 hR
      go_wp2
      exact bodyPost_end (v := .tuple #[]) (by simp [results, Try.results118, go_sem]) rfl hfin

end Go.Proofs.Ytjgkjdalnjlefaa

import Derived.Test.YteiplejamciddaaYC2
namespace Go.Proofs.Yteiplejamciddaa
open Go.RowKit

def IxP (l : List (List UInt8)) (v : List UInt8) (W : World) (e : Ending) (W' : World) : Prop := (∃ n : Int, e = .returned (.int .i64 n) ∧ decide (0 ≤ n) = l.contains v) ∧ W = W'
set_option maxRecDepth 20000 in
set_option maxHeartbeats 1000000 in
theorem slIndex_any (l : List (List UInt8)) (a : Option Addr) (c : Nat) (v : List UInt8) (W : World) (hR : RowR eS W AnyB l a) (hl : l.length ≤ 9223372036854775807) : Calls Try.prog 75 #[.slice a l.length c, .string ⟨v.toArray⟩] W (IxP l v W) := by
  have hl' : (l.length : Int) ≤ 9223372036854775807 := by omega
  go_enter Try.func75, Try.ntmps75
  go_wp2
  go_loopw [8] (fun iv wr => ∃ i : Nat, iv = .int .i64 (i : Int) ∧ i ≤ l.length ∧ wr = W ∧ Hid (∀ j (h : j < l.length), j < i → v ≠ l[j])) (fun iv _ => l.length - (intOf iv).toNat)
  case atStart => exact ⟨0, rfl, Nat.zero_le _, rfl, ⟨fun j _ h => absurd h (Nat.not_lt_zero _)⟩⟩
  case round =>
    obtain ⟨i, rfl, hi, rfl, hall⟩ := hrel
    by_cases hlt : i < l.length
    · have hlt' : (i : Int) < (l.length : Int) := by omega
      have hi0 : (0 : Int) ≤ (i : Int) := by omega
      obtain ⟨ge, oe, rfl⟩ := hR.some hlt
      obtain ⟨cs, -, -, rfl, hcs⟩ := hR.item hlt
      have k0 : wr.cell? ⟨ge, oe + i, none⟩ = some (.string ⟨(l[i]).toArray⟩) := by
        have := hcs 0 (by decide)
        rw [show oe + i * eS.k + 0 = oe + i by show oe + i * 1 + 0 = oe + i; omega] at this
        exact this
      by_cases hv : v = l[i]
      · have hd : IxP l v wr (.returned (.int .i64 (i : Int))) wr := ⟨⟨i, rfl, by rw [decide_eq_true hi0, List.contains_iff_mem.2 (by rw [hv]; exact List.getElem_mem hlt)]⟩, rfl⟩
        rw [← hv] at k0
        clear hall hcs hv
        go_wp2
        go_ret
        exact hd
      · have hst : Hid (∀ j (h : j < l.length), j < i + 1 → v ≠ l[j]) := ⟨fun j h hj => by
          by_cases hji : j < i
          · exact hall.out j h hji
          · obtain rfl : j = i := by omega
            exact hv⟩
        have hne : (v == l[i]) = false := beq_eq_false_iff_ne.2 hv
        generalize l[i] = y at k0 hne
        clear hall hcs hv
        go_wp2
        exact ⟨⟨i + 1, rfl, hlt, (by first | rfl | trivial), hst⟩, by simp only [intOf]; omega⟩
    · have hlt' : ¬ (i : Int) < (l.length : Int) := by omega
      have hd : IxP l v wr (.returned (.int .i64 (-1))) wr := ⟨⟨-1, rfl, by
        symm
        rw [decide_eq_false (by decide)]
        cases hq : l.contains v with
        | false => rfl
        | true =>
          obtain ⟨j, hj, e⟩ := List.mem_iff_getElem.1 (List.contains_iff_mem.1 hq)
          exact absurd e.symm (hall.out j hj (by omega))⟩, rfl⟩
      clear hall
      go_wp2
      go_ret
      exact hd
set_option maxRecDepth 20000 in
theorem slContains_any (l : List (List UInt8)) (a : Option Addr) (c : Nat) (v : List UInt8) (W : World) (hR : RowR eS W AnyB l a) (hl : l.length ≤ 9223372036854775807) : Calls Try.prog 70 #[.slice a l.length c, .string ⟨v.toArray⟩] W fun e W' => e = .returned (.bool (l.contains v)) ∧ W = W' := by
  have h := slIndex_any l a c v W hR hl
  obtain ⟨b, hb⟩ : ∃ b, l.contains v = b := ⟨_, rfl⟩
  rw [hb]
  go_enter Try.func70, Try.ntmps70
  go_wp2_with (go_at_call 75; refine h.mono ?_; rintro e w1 ⟨⟨n, rfl, hn⟩, rfl⟩; have hnH := Hid.mk hn; clear hn)
  have hn := hnH.out
  rw [hb] at hn
  clear hb hnH
  subst hn
  exact bodyPost_ret (v := .bool (decide (0 ≤ n))) (by simp [results, Try.results70, go_sem]) rfl ⟨rfl, rfl⟩
set_option maxRecDepth 20000 in
theorem newName_any (s : List UInt8) (l : List (List UInt8)) (a : Option Addr) (c : Nat) (W : World) (hR : RowR eS W AnyB l a) (hl : l.length ≤ 9223372036854775807) : Calls Try.prog 42 #[.string ⟨s.toArray⟩, .slice a l.length c] W (Lk (.int .i64 (nwN s l : Int)) W) := by
  have hn := isName_any s W
  have hc := fun w (h : Below W.heap.size W w) => slContains_any l a c s w (row_bel hR h (Nat.le_refl _)) hl
  cases h1 : nmB s with
  | false =>
    rw [h1] at hn
    have hf : ∀ w, Below W.heap.size W w → Lk (.int .i64 (nwN s l : Int)) W (.returned (.int .i64 61)) w := fun w hw => ⟨by unfold nwN; rw [h1]; rfl, hw⟩
    go_enter Try.func42, Try.ntmps42
    go_wp2_with (go_at_call 38; refine hn.mono ?_; rintro e w1 ⟨rfl, hb1⟩)
    go_ret
    exact hf _ hb1
  | true =>
    rw [h1] at hn
    cases h2 : l.contains s with
    | true =>
      rw [h2] at hc
      have hf : ∀ w, Below W.heap.size W w → Lk (.int .i64 (nwN s l : Int)) W (.returned (.int .i64 62)) w := fun w hw => ⟨by unfold nwN; rw [h1, h2]; rfl, hw⟩
      have hcH := Hid.mk hc
      clear hc
      go_enter Try.func42, Try.ntmps42
      go_wp2_with (first | (go_at_call 38; refine hn.mono ?_; rintro e w1 ⟨rfl, hb1⟩) | (go_at_call 70; refine (hcH.out _ hb1).mono ?_; rintro e w2 ⟨rfl, rfl⟩))
      go_ret
      exact hf _ hb1
    | false =>
      rw [h2] at hc
      have hf : ∀ w, Below W.heap.size W w → Lk (.int .i64 (nwN s l : Int)) W (.returned (.int .i64 0)) w := fun w hw => ⟨by unfold nwN; rw [h1, h2]; rfl, hw⟩
      have hcH := Hid.mk hc
      clear hc
      go_enter Try.func42, Try.ntmps42
      go_wp2_with (first | (go_at_call 38; refine hn.mono ?_; rintro e w1 ⟨rfl, hb1⟩) | (go_at_call 70; refine (hcH.out _ hb1).mono ?_; rintro e w2 ⟨rfl, rfl⟩))
      go_ret
      exact hf _ hb1
end Go.Proofs.Yteiplejamciddaa

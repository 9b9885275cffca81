import Derived.Test.YtakcdgeanbpllaaGreatDoorDmO
namespace Go.Proofs.YtakcdgeanbpllaaGreatDoor.DJ
open Go.RowKit

theorem append_chg (d : Dk) (nm data : List Nat) : append d nm data = chg d nm (data.length + 1) (if full d.fs nm data.length then 194 else 0) (fun u => lay d.fs nm (data.take u)) := by
  unfold append chg
  by_cases h1 : (first d nm).1 ≠ 0
  · rw [if_pos h1, if_pos h1]
  · rw [if_neg h1, if_neg h1]
    by_cases h2 : full d.fs nm data.length
    · rw [if_pos h2, if_pos (show _ ∨ _ from h2)]; rfl
    · rw [if_neg h2, if_neg (show ¬ (_ ∨ _) from h2)]
      simp only [ne_eq, not_true_eq_false, if_false]
      unfold pays paidU paidD
      cases hu : (first d nm).2.units with
      | none =>
        simp only
        rw [if_neg (by omega), List.take_of_length_le (by omega)]
      | some u =>
        simp only
        by_cases h3 : data.length + 1 ≤ u
        · have hm : min (data.length + 1) u = data.length + 1 := by omega
          simp [h3, hm, List.take_of_length_le]
        · have hm : min (data.length + 1) u = u := by omega
          rw [if_neg h3]
          simp [hm, show u < data.length + 1 by omega, falls]

set_option maxRecDepth 4000 in
set_option maxHeartbeats 1000000 in
theorem append_any {lo db : Nat} {S : Nat → Prop} {d : Dk} {nm : List Nat} (hl : nm.length ≤ 4294967296) (hb : ∀ x ∈ nm, x < 256) {data : List Nat} (hlen : data.length ≤ 140737488355328) (ad : Option Addr) (cap : Nat) (hcap : ad = none → cap = 0) (hcl : data.length ≤ cap) (w : World) (hlo : lo ≤ w.heap.size) (hN : Byts w ad data) (hap : ∀ p, ad = some p → ¬ S p.block) (h : DiskAt w lo S db d) :
    Calls Tryz.prog 55 #[.pointer (some ⟨db, 0, none⟩), .string (strB nm), .slice ad data.length cap] w fun e w' => e = .returned (.int .i64 ((append d nm data).1 : Nat)) ∧ ∃ S', DiskAt w' lo S' db (append d nm data).2 ∧ Dv S w S' w' := by
  have hmf : ∀ (fn : Fn) (first cap : Array Value) (w : World), (Instr.makeFunc fn first cap).run Tryz.prog w = .ok (.func fn first cap) w := fun _ _ _ _ => rfl
  have hSl : ∀ k, S k → k < w.heap.size := fun k hk => by
    obtain ⟨mb, D, fb, vv, h⟩ := h
    exact h.hi k hk
  obtain ⟨W3, hW3⟩ : ∃ W3, ((w.alloc (.cells #[.pointer (some ⟨db, 0, none⟩)] 27)).alloc (.cells #[.string (strB nm)] 9)).alloc (.cells #[.slice ad data.length cap] 23) = W3 := ⟨_, rfl⟩
  have hw1 : Below w.heap.size w W3 := by
    rw [← hW3]
    exact (((Below.refl _ _).alloc (Nat.le_refl _) _).alloc (by simp) _).alloc (by simp; omega) _
  have b0 : W3.heap[w.heap.size]? = some (.cells #[.pointer (some ⟨db, 0, none⟩)] 27 (0, 0)) := by
    rw [← hW3]
    exact (Below.heap_alloc _ _ _ (by simp; omega)).trans ((Below.heap_alloc _ _ _ (by simp)).trans (heap_new w _))
  have b1 : W3.heap[w.heap.size + 1]? = some (.cells #[.string (strB nm)] 9 (0, 0)) := by
    rw [← hW3]
    have := heap_new (w.alloc (.cells #[.pointer (some ⟨db, 0, none⟩)] 27)) (.cells #[.string (strB nm)] 9)
    rw [World.size_alloc] at this
    exact (Below.heap_alloc _ _ _ (by simp)).trans this
  have b2 : W3.heap[w.heap.size + 1 + 1]? = some (.cells #[.slice ad data.length cap] 23 (0, 0)) := by
    rw [← hW3]
    have := heap_new ((w.alloc (.cells #[.pointer (some ⟨db, 0, none⟩)] 27)).alloc (.cells #[.string (strB nm)] 9)) (.cells #[.slice ad data.length cap] 23)
    rw [World.size_alloc, World.size_alloc] at this
    exact this
  have hlt : w.heap.size + 1 + 1 < W3.heap.size := (Array.getElem?_eq_some_iff.1 b2).1
  have box : ∀ X, GrS S W3 X → X.cell? ⟨w.heap.size, 0, none⟩ = some (.pointer (some ⟨db, 0, none⟩)) ∧ X.cell? ⟨w.heap.size + 1, 0, none⟩ = some (.string (strB nm)) ∧ X.cell? ⟨w.heap.size + 1 + 1, 0, none⟩ = some (.slice ad data.length cap) := fun X hX =>
    ⟨cell_of_row _ _ 0 _ _ _ ((hX.block _ (by omega) (fun e => by have := hSl _ e; omega)).trans b0), cell_of_row _ _ 0 _ _ _ ((hX.block _ (by omega) (fun e => by have := hSl _ e; omega)).trans b1), cell_of_row _ _ 0 _ _ _ ((hX.block _ (by omega) (fun e => by have := hSl _ e; omega)).trans b2)⟩
  have hD3 := h.later hw1
  have hB1 : (if full d.fs nm data.length then 194 else 0 : Nat) ≠ 190 := by
    by_cases h9 : full d.fs nm data.length
    · rw [if_pos h9]; decide
    · rw [if_neg h9]; decide
  have hc1 : data.length + 1 ≤ 9223372036854775807 := by omega
  have hch := change_any hb (cost := data.length + 1) (B := if full d.fs nm data.length then 194 else 0) hB1 hc1 (F := fun u => lay d.fs nm (data.take u)) 115 118 en115 en118 #[.pointer (some ⟨w.heap.size, 0, none⟩), .pointer (some ⟨w.heap.size + 1, 0, none⟩), .pointer (some ⟨w.heap.size + 1 + 1, 0, none⟩)] #[.pointer (some ⟨w.heap.size, 0, none⟩), .pointer (some ⟨w.heap.size + 1, 0, none⟩), .pointer (some ⟨w.heap.size + 1 + 1, 0, none⟩)] W3 hD3
    (fun X hX hD => by
      have := append1_any (n := data.length) (by omega) hl hb X _ _ _ ad cap (box X hX).1 (box X hX).2.1 (box X hX).2.2 hD
      rw [struck_fs] at this
      exact this)
    (fun hB hnm X u hu hX hD => by
      have hfs : (paidD (struck d) (data.length + 1)).fs = d.fs := by rw [paidD_fs, struck_fs]
      have hnf : ¬ full d.fs nm data.length := fun e => by rw [if_pos e] at hB; cases hB
      have := append2_any (d := paidD (struck d) (data.length + 1)) (nm := nm) hnm (data := data) (by rw [hfs]; exact hnf) u X (Nat.le_trans hlo (Nat.le_trans hw1.size hX.size)) _ _ _ ad cap hcap hcl (hX.byts (hN.later hw1) hap) hap (box X hX).1 (box X hX).2.1 (box X hX).2.2 (fun k hk => by have := hSl k hk; omega) hD
      rw [hfs] at this
      exact this)
  have hci : ((data.length + 1 : Nat) : Int) = 1 + (data.length : Int) := by omega
  rw [hci, ← append_chg] at hch
  obtain ⟨r, hr⟩ : ∃ r, append d nm data = r := ⟨_, rfl⟩
  rw [hr] at hch ⊢
  have B3 : Hid (Below w.heap.size w W3) := ⟨hw1⟩
  obtain ⟨k0, k1, k2⟩ := box W3 (.refl _ _)
  clear h hD3 box b0 b1 b2 hlt hw1 hr hSl hci hB1 hc1 hap hN hb hl hcl hcap hlo
  have hlen' : (data.length : Int) ≤ 140737488355328 := by omega
  have hlen0 : (0 : Int) ≤ (data.length : Int) := by omega
  generalize strB nm = s at *
  generalize data.length = n at *
  go_enter Tryz.func55, Tryz.ntmps55
  go_wp2_with (go_at_call 117; refine hch.mono ?_; rintro e w9 ⟨rfl, S', h9, hv9⟩)
  go_ret
  exact ⟨rfl, S', h9, Dv.trans (.below B3.out) hv9⟩
end Go.Proofs.YtakcdgeanbpllaaGreatDoor.DJ

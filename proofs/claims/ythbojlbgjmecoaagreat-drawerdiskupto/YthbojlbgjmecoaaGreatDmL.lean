import Derived.Test.YthbojlbgjmecoaaGreatDmK
/- Remove. -/
namespace Go.Proofs.YthbojlbgjmecoaaGreat.DJ
open Go.RowKit

set_option maxRecDepth 4000 in
set_option maxHeartbeats 1000000 in
theorem remove1_any {lo db : Nat} {S : Nat → Prop} {d : Dk} {f : Fl} (hf : f ∈ d.fs) (w : World) (x0 x1 : Nat) (p : Value) (h0 : w.cell? ⟨x0, 0, none⟩ = some (.pointer (some ⟨db, 0, none⟩))) (h1 : w.cell? ⟨x1, 0, none⟩ = some (.string (strB f.nm))) (h : DiskAt w lo S db d) :
    Calls Tryz.prog 76 #[p, .pointer (some ⟨x0, 0, none⟩), .pointer (some ⟨x1, 0, none⟩)] w fun e w' => e = .returned (.tuple #[]) ∧ ∃ S', DiskAt w' lo S' db { d with fs := del d.fs f.nm } ∧ Dv S w S' w' := by
  obtain ⟨mb, D, fb, vv, h⟩ := h
  have B0 : Below w.heap.size w w.drew := (Below.refl _ _).drew
  have hL := h.grS (T := fun _ => False) (.of_below B0) (fun _ _ h => h)
  obtain ⟨c0, -⟩ := h.cells
  obtain ⟨w2, hrun, hown, hturn⟩ := hL.map.drop bkey bmapT (bkeyOf (hL.nmLen hf)) 0
  have hg : GrS (fun k => k = mb) w.drew w2 := .of_grown hturn.grown rfl
  obtain ⟨hL2, hv2⟩ := hL.drop (d' := { d with fs := del d.fs f.nm }) hf hg hown rfl rfl rfl rfl rfl
  have hD : Hid (DiskAt w2 lo S db { d with fs := del d.fs f.nm }) := ⟨mb, _, fb, vv, hL2⟩
  have hV : Hid (Dv S w S w2) := ⟨Dv.trans (.below B0) hv2⟩
  clear hL2 hv2 hg hown hturn hL h B0
  generalize strB f.nm = s at *
  go_enter Tryz.func76, Tryz.ntmps76
  go_wp2
  go_region
  all_goals
    go_wp2
    go_end0
    exact ⟨rfl, S, hD.out, hV.out⟩

set_option maxRecDepth 4000 in
set_option maxHeartbeats 1000000 in
theorem remove_any {lo db : Nat} {S : Nat → Prop} {d : Dk} {nm : List Nat} (hl : nm.length ≤ 4294967296) (hb : ∀ x ∈ nm, x < 256) (w : World) (h : DiskAt w lo S db d) :
    Calls Tryz.prog 21 #[.pointer (some ⟨db, 0, none⟩), .string (strB nm)] w fun e w' => e = .returned (.int .i64 ((remove d nm).1 : Nat)) ∧ ∃ S', DiskAt w' lo S' db (remove d nm).2 ∧ Dv S w S' w' := by
  have hmf : ∀ (fn : Fn) (first cap : Array Value) (w : World), (Instr.makeFunc fn first cap).run Tryz.prog w = .ok (.func fn first cap) w := fun _ _ _ _ => rfl
  obtain ⟨W1, hW1⟩ : ∃ W1, (w.alloc (.cells #[.pointer (some ⟨db, 0, none⟩)] 27)).alloc (.cells #[.string (strB nm)] 9) = W1 := ⟨_, rfl⟩
  have hw1 : Below w.heap.size w W1 := by rw [← hW1]; exact ((Below.refl _ _).alloc (Nat.le_refl _) _).alloc (by simp) _
  have b0 : W1.heap[w.heap.size]? = some (.cells #[.pointer (some ⟨db, 0, none⟩)] 27 (0, 0)) := by
    rw [← hW1]; exact (Below.heap_alloc _ _ _ (by simp)).trans (heap_new w _)
  have b1 : W1.heap[w.heap.size + 1]? = some (.cells #[.string (strB nm)] 9 (0, 0)) := by
    rw [← hW1]
    have := heap_new (w.alloc (.cells #[.pointer (some ⟨db, 0, none⟩)] 27)) (.cells #[.string (strB nm)] 9)
    rw [World.size_alloc] at this
    exact this
  have hSl : ∀ k, S k → k < w.heap.size := fun k hk => by
    obtain ⟨mb, D, fb, vv, h⟩ := h
    exact h.hi k hk
  have ha := alter_any hl hb (fun fs => del fs nm) 76 en125 #[.pointer (some ⟨w.heap.size, 0, none⟩), .pointer (some ⟨w.heap.size + 1, 0, none⟩)] W1 (h.later hw1) (fun X d1 f hX hfs hf hn => by
    intro mb D fb vv hL
    have hf1 : f ∈ d1.fs := hfs ▸ hf
    have hc : X.cell? ⟨w.heap.size, 0, none⟩ = some (.pointer (some ⟨db, 0, none⟩)) := cell_of_row _ _ 0 _ _ _ ((hX.block _ (Array.getElem?_eq_some_iff.1 b0).1 (fun e => by have := hSl _ e; omega)).trans b0)
    have hc1 : X.cell? ⟨w.heap.size + 1, 0, none⟩ = some (.string (strB nm)) := cell_of_row _ _ 0 _ _ _ ((hX.block _ (Array.getElem?_eq_some_iff.1 b1).1 (fun e => by have := hSl _ e; omega)).trans b1)
    rw [← hn] at hc1
    have := remove1_any hf1 X _ _ (.pointer (some ⟨fb f.nm, 0, none⟩)) hc hc1 ⟨mb, D, fb, vv, hL⟩
    rw [hfs] at this
    rw [← hn]
    exact this)
  obtain ⟨r, hr⟩ : ∃ r, remove d nm = r := ⟨_, rfl⟩
  unfold remove at hr ⊢
  rw [hr] at ha ⊢
  have k0 : W1.cell? ⟨w.heap.size, 0, none⟩ = some (.pointer (some ⟨db, 0, none⟩)) := cell_of_row _ _ 0 _ _ _ b0
  have k1 : W1.cell? ⟨w.heap.size + 1, 0, none⟩ = some (.string (strB nm)) := cell_of_row _ _ 0 _ _ _ b1
  have B1 : Hid (Below w.heap.size w W1) := ⟨hw1⟩
  clear h hr hw1 b0 b1
  generalize strB nm = s at *
  go_enter Tryz.func21, Tryz.ntmps21
  go_wp2_with (go_at_call 71; refine ha.mono ?_; rintro e w9 ⟨rfl, S', h9, hv9⟩)
  go_ret
  exact ⟨rfl, S', h9, Dv.trans (.below B1.out) hv9⟩
end Go.Proofs.YthbojlbgjmecoaaGreat.DJ

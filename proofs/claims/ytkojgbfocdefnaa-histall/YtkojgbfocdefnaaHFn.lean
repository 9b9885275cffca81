import Derived.Test.YtkojgbfocdefnaaHMem
namespace Go.Proofs.Ytkojgbfocdefnaa
open Go.RowKit

theorem getD_at {Ls : List Es} {p : Nat} (h : p < Ls.length) : Ls.getD p [] = Ls[p] := by simp [List.getD, h]

theorem orEmpty_some (mb : Nat) (w : World) : Calls Try.prog 41 #[.pointer (some ⟨mb, 0, none⟩)] w fun e w' => e = .returned (.pointer (some ⟨mb, 0, none⟩)) ∧ w' = w := by
  go_enter Try.func41, Try.ntmps41
  go_wp2
  go_ret
  exact ⟨rfl, rfl⟩
theorem orEmpty_none (w : World) : Calls Try.prog 41 #[.pointer none] w fun e w' => e = .returned (.pointer (some ⟨w.heap.size, 0, none⟩)) ∧ MapE w' w.heap.size [] ∧ Below w.heap.size w w' := by
  go_enter Try.func41, Try.ntmps41
  go_wp2_with (go_at_call 43; refine (empty_any _).mono ?_; rintro e w1 ⟨rfl, hM1, hb1⟩)
  go_ret
  exact ⟨rfl, ⟨_, hM1, rfl⟩, hb1⟩

theorem addP (b o k : Nat) : (⟨b, o, none⟩ : Addr).add k = ⟨b, o + k, none⟩ := by
  simp only [Addr.add]
  split
  · simp_all
  · rfl
def ptrs (vs : Nat → Nat) (n : Nat) : List Value := (List.range n).map fun i => .pointer (some ⟨vs i, 0, none⟩)
theorem ptrs_len (vs : Nat → Nat) (n : Nat) : (ptrs vs n).length = n := by simp [ptrs]
theorem ptrs_at (vs : Nat → Nat) (n j : Nat) (h : j < n) : (ptrs vs n)[j]? = some (.pointer (some ⟨vs j, 0, none⟩)) := by simp [ptrs, h]
theorem infoM : (Try.prog.info? 46).map (fun i => (i.zero, i.size, i.bytes)) = some (some (.pointer none), 1, 8) := by kernel_rfl

set_option maxRecDepth 4000 in
set_option maxHeartbeats 1000000 in
/-- slices.Clone of a row of maps. -/
theorem sclone_any (g off n cap : Nat) (vs : Nat → Nat) (hn0 : 0 < n) (hn : n ≤ 33) (w : World) (hg : g < w.heap.size) (hc : ∀ i, i < n → w.cell? ⟨g, off + i, none⟩ = some (.pointer (some ⟨vs i, 0, none⟩))) :
    Calls Try.prog 22 #[.slice (some ⟨g, off, none⟩) n cap] w fun e w' => ∃ g' cap', e = .returned (.slice (some ⟨g', 0, none⟩) n cap') ∧ w'.ownsRow w.heap.size 46 1 (.slice (some ⟨g', 0, none⟩) n cap') n (ptrs vs n) ∧ Below w.heap.size w w' := by
  obtain ⟨i0, hi, hz0, hz1, hz2⟩ := info_parts infoM
  have hr0 : (w.alloc (.cells #[] 46)).ownsRow w.heap.size 46 1 (.slice (some ⟨w.heap.size, 0, none⟩) 0 0) 0 [] := by
    have := World.ownsRow_made (base := w.heap.size) (e := 46) (size := 1) w #[] 0 (Nat.le_refl _) (by unfold maxLen; omega) rfl
    exact this
  have hb0 := (Below.refl w.heap.size w).alloc (Nat.le_refl _) (.cells #[] 46)
  have hc' : ∀ j u, (ptrs vs n)[j]? = some u → (w.alloc (.cells #[] 46)).cell? ((⟨g, off, none⟩ : Addr).add j) = some u := fun j u hj => by
    have hjl : j < n := by have := (List.getElem?_eq_some_iff.1 hj).1; rwa [ptrs_len] at this
    rw [ptrs_at vs n j hjl] at hj
    have := (hb0.cell (p := ⟨g, off + j, none⟩) hg).trans (hc j hjl)
    rw [addP, this, hj]
  go_enter Try.func22, Try.ntmps22
  have hnil : ∀ W : World, (binOp BinOp.eql 61 (.slice (some ⟨g, off, none⟩) n cap) (.slice none 0 0)).run Try.prog W = .ok (.bool false) W := fun _ => rfl
  have tok1 : True := trivial
  go_wp2_with (at_builtin; go_loud (refine wpList_append_own (P := Try.prog) _ rfl _ _ 61 rfl w.heap.size 46 i0 _ 1 8 Try.underlying61 hi hz0 hz1 hz2 rfl (by decide) _ 0 [] rfl hr0 ⟨g, off, none⟩ n cap (ptrs vs n) rfl (by rw [ptrs_len]; omega) hc' (fun u hu => by { simp [ptrs] at hu; obtain ⟨_, _, rfl⟩ := hu; rfl }) (by unfold maxLen; omega) (by omega) (by simp) ?_); have _u := tok1; clear tok1; intro v1 w1 hown1 hgrow1 _h)
  simp only [Nat.zero_add, List.nil_append] at hown1
  obtain ⟨g1, cap1, rfl⟩ := own_some hown1 hn0
  go_wp2
  go_ret
  exact ⟨g1, cap1, rfl, hown1, hb0.grown hgrow1 (by simp) (fun j hj => (hr0.lt j hj).1)⟩

/-- What is read off a row of one's own. -/
theorem own_ptr {w : World} {base g cap n : Nat} {vs : Nat → Nat} (h : w.ownsRow base 46 1 (.slice (some ⟨g, 0, none⟩) n cap) n (ptrs vs n)) : ∀ i, i < n → w.cell? ⟨g, 0 + i, none⟩ = some (.pointer (some ⟨vs i, 0, none⟩)) := fun i hi => by
  rw [Nat.zero_add]
  exact (h.cellAt i (by omega)).trans (ptrs_at vs n i hi)
theorem own_cap {w : World} {base g cap n m : Nat} {e : TypeId} {size : Nat} {xs : List Value} (h : w.ownsRow base e size (.slice (some ⟨g, 0, none⟩) m cap) n xs) : m ≤ cap := by
  obtain ⟨_, ⟨h1, _⟩ | ⟨g', cap', cur, e1, _, _, h3, _⟩⟩ := h
  · cases h1
  · injection e1 with _ e2 e3
    subst e2 e3
    first | exact h3 | omega

set_option maxRecDepth 4000 in
set_option maxHeartbeats 1000000 in
theorem now_any (hb : Nat) (Ls : List Es) (p : Nat) (w : World) (h : HistAt w hb Ls p) : Calls Try.prog 25 #[.pointer (some ⟨hb, 0, none⟩)] w fun e w' => ∃ mb, e = .returned (.pointer (some ⟨mb, 0, none⟩)) ∧ MapE w' mb (Ls.getD p []) ∧ (Ls.getD p []).length ≤ 200 ∧ Below w.heap.size w w' := by
  obtain ⟨hp, hl, g, cap, vs, hH, hcap, hne, hM⟩ := h
  have c0 : w.cell? ⟨hb, 0, none⟩ = some (.slice (some ⟨g, 0, none⟩) Ls.length cap) := cell_of_row _ _ 0 _ _ _ hH
  have c1 : w.cell? ⟨hb, 1, none⟩ = some (.int .i64 (p : Int)) := cell_of_row _ _ 1 _ _ _ hH
  have cp := (hM.2 p hp).1
  rw [Nat.zero_add] at cp
  have hp0 : (0 : Int) ≤ (p : Int) := by omega
  have hp1 : (p : Int) < (Ls.length : Int) := by omega
  have hQ : Hid (MapE w (vs p) Ls[p] ∧ Ls[p].length ≤ 200) := (hM.2 p hp).2
  clear hM hH
  go_enter Try.func25, Try.ntmps25
  go_wp2
  go_quiet (fail)
  go_wp2
  go_ret
  have hb' := below_drewN (Below.refl w.heap.size w) nq
  refine ⟨vs p, rfl, ?_, ?_, hb'⟩
  · rw [getD_at hp]; exact hQ.out.1.later hb'
  · rw [getD_at hp]; exact hQ.out.2

set_option maxRecDepth 4000 in
set_option maxHeartbeats 1000000 in
theorem depth_any (hb : Nat) (Ls : List Es) (p : Nat) (r : Nat) (hr : p + 1 + r = Ls.length) (w : World) (h : HistAt w hb Ls p) : Calls Try.prog 32 #[.pointer (some ⟨hb, 0, none⟩)] w fun e w' => e = .returned (.tuple #[.int .i64 (p : Int), .int .i64 (r : Int)]) ∧ Below w.heap.size w w' := by
  obtain ⟨hp, hl, g, cap, vs, hH, hcap, hne, hM⟩ := h
  have c0 : w.cell? ⟨hb, 0, none⟩ = some (.slice (some ⟨g, 0, none⟩) Ls.length cap) := cell_of_row _ _ 0 _ _ _ hH
  have c1 : w.cell? ⟨hb, 1, none⟩ = some (.int .i64 (p : Int)) := cell_of_row _ _ 1 _ _ _ hH
  have w1 : IntKind.i64.wrap ((Ls.length : Int) - 1) = (Ls.length : Int) - 1 := by rw [IntKind.wrap_i64]; omega
  have w2 : IntKind.i64.wrap ((Ls.length : Int) - 1 - (p : Int)) = (r : Int) := by rw [IntKind.wrap_i64]; omega
  clear hM hH
  go_enter Try.func32, Try.ntmps32
  go_wp2
  go_quiet (fail)
  go_wp2
  go_ret2
  exact ⟨by first | rfl | simp [w1, w2], below_drewN (Below.refl w.heap.size w) nq⟩

end Go.Proofs.Ytkojgbfocdefnaa

import Derived.Test.YtdlbfoiiaedicaaDoorWR9
import Derived.Test.YtdlbfoiiaedicaaDoorWSame
import Derived.Test.YtdlbfoiiaedicaaDoorWLaid4
namespace Go.Proofs.YtdlbfoiiaedicaaDoor.Q
open Go.RowKit Go.Shelf

set_option maxRecDepth 4000 in
set_option maxHeartbeats 1000000 in
theorem rscan_any (s : ByteArray) (w : World) (hS : RSgn w) : Calls Tryd.prog 9 #[.string s] w (ScanP s w) := by
  have hu := upto_any s w hS
  have hpost : Hid (∀ e w', (Below w.heap.size w w' ∧ ((∃ pre x, foundL s.data.toList = pre ++ [x] ∧ x.2.2 ≠ 0 ∧ e = .returned (.tuple #[.slice none 0 0, .int .i64 (x.2.1 : Int), .int .i64 (x.2.2 : Int)])) ∨ ((∀ x ∈ foundL s.data.toList, x.2.2 = 0) ∧ ∃ v, e = .returned (.tuple #[v, .int .i64 0, .int .i64 0]) ∧ w'.ownsRow w.heap.size 35 5 v (foundL s.data.toList).length (tokLs (foundL s.data.toList))))) → ScanP s w e w') := fun e w' h => h
  go_enter Tryd.func9, Tryd.ntmps9
  go_wp2_with (first | (go_at_call 5; refine hu.mono ?_; rintro e w1 ⟨hb1, ⟨pre, x, v, hL, hx, hpre, rfl, ho⟩ | ⟨hall, v, rfl, ho⟩⟩))
  · have hne : ((x.2.2 : Int) != 0) = true := by simp; omega
    have hL' : Hid (foundL s.data.toList = pre ++ [x]) := hL
    clear hL hpre
    go_wp2_with fail
    refine bodyPost_ret (v := .tuple #[.slice none 0 0, .int .i64 (x.2.1 : Int), .int .i64 (x.2.2 : Int)]) (by simp [results, Tryd.results9, go_sem]) rfl ?_
    exact hpost.out _ _ ⟨hb1, .inl ⟨pre, x, hL'.out, hx, rfl⟩⟩
  · obtain ⟨lp, lm, lc, rfl⟩ := own_slice ho
    go_wp2_with fail
    refine bodyPost_ret (v := .tuple #[.slice lp lm lc, .int .i64 0, .int .i64 0]) (by simp [results, Tryd.results9, go_sem]) rfl ?_
    exact hpost.out _ _ ⟨hb1, .inr ⟨hall, _, rfl, ho⟩⟩

set_option maxRecDepth 4000 in
set_option maxHeartbeats 1000000 in
theorem scans_walkQ (s : ByteArray) (w : World) (hT : Tabs w) : Calls Tryd.prog 4 #[.string s] w fun e w' => e = .returned (.bool true) ∧ Below w.heap.size w w' := by
  obtain ⟨hC, hE, hM, hS, hR⟩ := hT
  have h1 := scan_any s w hC hE hM hS
  have hlen := foundL_len s.data.toList
  by_cases hlong : (65536 : Int) < s.size
  · clear h1
    go_enter Tryd.func4, Tryd.ntmps4
    go_wp2_with fail
    go_ret
    exact ⟨rfl, Below.refl _ _⟩
  · have h2 := fun W hW => rscan_any s W hW
    obtain ⟨L, hL⟩ : ∃ L, foundL s.data.toList = L := ⟨_, rfl⟩
    unfold ScanP at h1 h2
    rw [hL] at h1 h2 hlen
    clear hL
    go_enter Tryd.func4, Tryd.ntmps4
    go_wp2_with (first | (go_at_call 8; refine h1.mono ?_; rintro e w1 ⟨hb1, hA⟩; have hR1 := hR.later hb1; rcases hA with ⟨pre, x, hLx, hx, rfl⟩ | ⟨hall, v, rfl, ho⟩))
    · have hLx' : Hid (L = pre ++ [x]) := hLx
      clear hLx h1
      go_wp2_with (first | (go_at_call 9; refine (h2 _ hR1).mono ?_; rintro e w2 ⟨hb2, hA⟩; have hB2 := below_step hb1 hb2; rcases hA with ⟨pre2, x2, hLy, hx2, rfl⟩ | ⟨hall, v, rfl, ho⟩))
      · obtain ⟨-, hxx⟩ := List.append_inj' (hLx'.out.symm.trans hLy) rfl
        obtain rfl : x = x2 := by simpa using hxx
        have hsm := same_toks (.slice none 0 0) (.slice none 0 0) [] (by simp) w2 ⟨_, _, rfl, .inl rfl⟩ ⟨_, _, rfl, .inl rfl⟩
        clear hLx' hLy h2
        go_wp2_with (first | (go_at_call 10; refine (num_any _ _).mono ?_; rintro e w9 ⟨rfl, hw9⟩; subst w9) | (go_at_call 7; refine hsm.mono ?_; rintro e w3 ⟨rfl, hb3⟩))
        go_ret
        exact ⟨rfl, below_step hB2 hb3⟩
      · exact absurd (hall x (by rw [hLx'.out]; simp)) hx
    · obtain ⟨lp, lm, lc, rfl⟩ := own_slice ho
      clear h1
      go_wp2_with (first | (go_at_call 9; refine (h2 _ hR1).mono ?_; rintro e w2 ⟨hb2, hA⟩; have hB2 := below_step hb1 hb2; rcases hA with ⟨pre2, x2, hLy, hx2, rfl⟩ | ⟨hall, v, rfl, ho2⟩))
      · exact absurd (hall x2 (by rw [hLy]; simp)) hx2
      · obtain ⟨mp, mm, mc, rfl⟩ := own_slice ho2
        have hsm := same_toks _ _ L (by omega) w2 ((tokrow_of_own ho).later hb2) (tokrow_of_own ho2)
        clear h2
        go_wp2_with (first | (go_at_call 10; refine (num_any _ _).mono ?_; rintro e w9 ⟨rfl, hw9⟩; subst w9) | (go_at_call 7; refine hsm.mono ?_; rintro e w3 ⟨rfl, hb3⟩))
        go_ret
        exact ⟨rfl, below_step hB2 hb3⟩

end Go.Proofs.YtdlbfoiiaedicaaDoor.Q
namespace Go.Proofs.YtdlbfoiiaedicaaDoor
open Go.RowKit
theorem wscans_walk (s : ByteArray) (w : World) (hT : Tabs w) : Calls Tryd.prog 4 #[.string s] w fun e w' => e = .returned (.bool true) ∧ Below w.heap.size w w' := Q.scans_walkQ s w hT
end Go.Proofs.YtdlbfoiiaedicaaDoor

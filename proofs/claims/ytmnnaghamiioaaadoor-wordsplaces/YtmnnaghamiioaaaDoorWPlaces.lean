import Derived.Test.YtmnnaghamiioaaaDoorWPlc
import Derived.Test.YtmnnaghamiioaaaDoorWJoins
import Derived.BigQuiet
import Derived.Deep.QuietTactic
namespace Go.Proofs.YtmnnaghamiioaaaDoor.Q
open Go.RowKit Go.Shelf

theorem neTok (a b n d : Int) (t : ByteArray) (w : World) : (binOp .neq 29 (.agg #[.int .i64 a, .int .i64 b, .string t, .int .i64 n, .int .i64 d]) (.agg #[.int .i64 a, .int .i64 b, .string t, .int .i64 n, .int .i64 d])).run Tryd.prog w = .ok (.bool false) w := by
  rw [run_neq_struct, eqTok]
  rfl

theorem boxN {X : World} {k : Nat} {c : Obj} (h : X.heap[k]? = some c) (n : Nat) : (X.drewN n).heap[k]? = some c := ((below_drewN (Below.refl X.heap.size X) n).block k (Array.getElem?_eq_some_iff.1 h).1).trans h

set_option maxRecDepth 8000 in
set_option maxHeartbeats 4000000 in
theorem places_walkQ (s : ByteArray) (w : World) (hT : Tabs w) : Calls Tryd.prog 3 #[.string s] w fun e w' => e = .returned (.bool true) ∧ Below w.heap.size w w' := by
  obtain ⟨hC, hE, hM, hS⟩ := hT
  have hk := known_any w hC hE hM hS
  by_cases hlong : (4000 : Int) < (s.size : Int)
  · go_enter Tryd.func3, Tryd.ntmps3
    go_wp2_with (first | (go_at_call 5; refine hk.mono ?_; rintro e w1 ⟨rfl, hb1⟩))
    go_ret
    exact ⟨rfl, hb1⟩
  · have hs4 : s.size ≤ 4000 := by omega
    have hscan := fun (t : ByteArray) W (hb : Below w.heap.size w W) => scan_two t W (hC.later hb) (hE.later hb) (hM.later hb) (hS.later hb)
    have hplc := found_plc s.data.toList (by rw [size_list]; exact hs4)
    have hlen := foundL_len s.data.toList
    have hs1 := hscan s
    obtain ⟨l, hl⟩ : ∃ l, s.data.toList = l := ⟨_, rfl⟩
    have hls : l.length = s.size := by rw [← hl]; exact size_list s
    have hslc : ∀ a b : Nat, (s.extract a b).data.toList = slc l a b := fun a b => by rw [slice_list, hl]
    rw [hl] at hs1 hplc hlen
    obtain ⟨L, hL⟩ : ∃ L, foundL l = L := ⟨_, rfl⟩
    rw [hL] at hs1 hplc hlen
    clear hL hC hE hM hS
    go_enter Tryd.func3, Tryd.ntmps3
    go_wp2_with (first | (go_at_call 5; refine hk.mono ?_; rintro e w1 ⟨rfl, hb1⟩; have h1 := hs1 w1 hb1) | (go_at_call 6; refine h1.mono ?_; rintro e w2 ⟨hb2, hA⟩; have hB2 := below_step hb1 hb2; clear h1 hk hs1; rcases hA with ⟨q1, n1, hn1, -, rfl⟩ | ⟨hall1, p1, c1, rfl, ho1⟩))
    · have hne1 : ((n1 : Int) != 0) = true := by simp; omega
      go_wp2_with (first | (go_at_call 7; refine (num_any _ _).mono ?_; rintro e w9 ⟨rfl, hw9⟩; subst w9))
      go_ret
      exact ⟨rfl, hB2⟩
    · have hP := hplc hall1
      have hrow := tokrow_of_own ho1
      clear hplc hall1 ho1
      go_wp2_with (first | (go_at_call 7; refine (num_any _ _).mono ?_; rintro e w9 ⟨rfl, hw9⟩; subst w9))
      go_loopw [6] (fun iv W => ∃ i : Nat, i ≤ L.length ∧ iv = .int .i64 (i : Int) ∧ Below w2.heap.size w2 W) (fun iv _ => L.length - (intOf iv).toNat)
      case atStart => exact ⟨0, by omega, rfl, Below.refl _ _⟩
      case round =>
        obtain ⟨i, hi, rfl, hBi⟩ := hrel
        by_cases hlt : i < L.length
        · have hlt' : (i : Int) < (L.length : Int) := by omega
          have hi0 : (0 : Int) ≤ (i : Int) := by omega
          have hB := below_step hB2 hBi
          obtain ⟨a0, ca, e, hrow'⟩ := hrow.later hBi
          injection e with e1 e2 e3
          subst e1 e3
          rcases hrow' with h0 | ⟨g, o, rfl, hg, hcs⟩
          · rw [h0] at hlt; simp at hlt
          clear hrow
          obtain ⟨t0, t1, t2, t3, t4⟩ := hcs i hlt
          have hAl := hP.le i hlt
          have hpc := hP.pc i hlt
          cases i with
          | zero =>
            have hk8 := hP.fst hlt
            obtain ⟨hi1, hpa, hpf⟩ := hpc hk8
            obtain ⟨u0, u1, u2, u3, u4⟩ := hcs 1 hi1
            have hbx := fun (o' : Obj) => (Below.refl wr.heap.size wr).alloc (Nat.le_refl _) o'
            have hzl := hP.le 1 hi1
            have u1 : wr.cell? ⟨g, o + 1 * 5 + 1, none⟩ = some (.int .i64 ((L[1]).2.1 : Int)) := u1
            have hpa : (L[0]).2.1 < (L[1]).2.1 := hpa
            have hpf : foundL (slc l (L[0]).2.1 (L[1]).2.1) = [((L[0]).1, 0, 0), ((8, [], 0, 0), (L[1]).2.1 - (L[0]).2.1, 0)] := hpf
            generalize (L[0]) = x at *
            generalize (L[1]) = z at *
            have t0' : wr.cell? ⟨g, o, none⟩ = some (.int .i64 (x.1.1 : Int)) := by simpa using t0
            have t1' : wr.cell? ⟨g, o + 1, none⟩ = some (.int .i64 (x.2.1 : Int)) := by simpa using t1
            have t2' : wr.cell? ⟨g, o + 2, none⟩ = some (.string ⟨x.1.2.1.toArray⟩) := by simpa using t2
            have t3' : wr.cell? ⟨g, o + 3, none⟩ = some (.int .i64 (x.1.2.2.1 : Int)) := by simpa using t3
            have t4' : wr.cell? ⟨g, o + 4, none⟩ = some (.int .i64 (x.1.2.2.2 : Int)) := by simpa using t4
            have u1' : (wr.alloc (.cells #[.int .i64 (x.1.1 : Int), .int .i64 (x.2.1 : Int), .string ⟨x.1.2.1.toArray⟩, .int .i64 (x.1.2.2.1 : Int), .int .i64 (x.1.2.2.2 : Int)] 29)).cell? ⟨g, o + 1 * 5 + 1, none⟩ = some (.int .i64 (z.2.1 : Int)) := ((hbx _).cell (p := ⟨g, o + 1 * 5 + 1, none⟩) hg).trans u1
            have u2' : (wr.alloc (.cells #[.int .i64 (x.1.1 : Int), .int .i64 (x.2.1 : Int), .string ⟨x.1.2.1.toArray⟩, .int .i64 (x.1.2.2.1 : Int), .int .i64 (x.1.2.2.2 : Int)] 29)).cell? ⟨g, o + 5 + 1, none⟩ = some (.int .i64 (z.2.1 : Int)) := ((hbx _).cell (p := ⟨g, o + 5 + 1, none⟩) hg).trans (by simpa using u1)
            obtain ⟨P, hPx⟩ : ∃ P, s.extract x.2.1 z.2.1 = P := ⟨_, rfl⟩
            have hPl : P.data.toList = slc l x.2.1 z.2.1 := by rw [← hPx]; exact hslc _ _
            have hext : ∀ W, (Instr.slice 9 (.string s) (some (.int .i64 (x.2.1 : Int))) (some (.int .i64 (z.2.1 : Int))) none).run Tryd.prog W = .ok (.string P) W := fun W => by
              rw [run_slice_string W 9 s .i64 .i64 (x.2.1 : Int) (z.2.1 : Int) Tryd.underlying9 (by omega) (by omega) (by omega), ← hPx]
              rfl
            have hsc := hscan P
            rw [hPl, hpf] at hsc
            have n0 : ¬ (x.2.1 : Int) < 0 := by omega
            have n1 : ¬ s.size < x.2.1 := by omega
            have n4 : ¬ z.2.1 ≤ x.2.1 := by omega
            have d0 : decide ((x.2.1 : Int) < 0) = false := decide_eq_false n0
            have d1 : decide (s.size < x.2.1) = false := decide_eq_false n1
            have d4 : decide (z.2.1 ≤ x.2.1) = false := decide_eq_false n4
            have c7 : ((1 : Int) == (L.length : Int)) = false := by simp; omega
            have c5 : (0 : Int) < (L.length : Int) := by omega
            have c8 : (1 : Int) < (L.length : Int) := by omega
            have c9 : ((x.1.1 : Int) == 8) = false := by simp; omega
            have hBa := hBi.alloc hBi.size (.cells #[.int .i64 (x.1.1 : Int), .int .i64 (x.2.1 : Int), .string ⟨x.1.2.1.toArray⟩, .int .i64 (x.1.2.2.1 : Int), .int .i64 (x.1.2.2.2 : Int)] 29)
            have hbox := World.alloc_heap_new wr (.cells #[.int .i64 (x.1.1 : Int), .int .i64 (x.2.1 : Int), .string ⟨x.1.2.1.toArray⟩, .int .i64 (x.1.2.2.1 : Int), .int .i64 (x.1.2.2.2 : Int)] 29)
            clear hpc hscan hP hcs t0 t1 t2 t3 t4 u0 u1 u2 u3 u4 hPl hpf hPx hslc
            go_wp2_with fail
            go_quiet (fail)
            rename Nat => m1
            go_wp2_with fail
            go_quiet (fail)
            rename Nat => m2
            go_wp2_with fail
            go_quiet (fail)
            rename Nat => m3
            go_wp2_with (go_at_call 6; fail)
            have hBq := below_drewN hBa (m1 + m2 + m3)
            have hbx3 := boxN hbox (m1 + m2 + m3)
            have hscq := hsc _ (below_step hB2 hBq)
            clear hsc hBa hbox u1' u2' t0' t1' t2' t3' t4'
            generalize (wr.alloc (.cells #[.int .i64 (x.1.1 : Int), .int .i64 (x.2.1 : Int), .string ⟨x.1.2.1.toArray⟩, .int .i64 (x.1.2.2.1 : Int), .int .i64 (x.1.2.2.2 : Int)] 29)).drewN (m1 + m2 + m3) = Wq at *
            have hblt := (Array.getElem?_eq_some_iff.1 hbx3).1
            refine hscq.mono ?_
            rintro e w5 ⟨hb5, hA⟩
            have hB5 := hBq.trans (hb5.mono hBq.size)
            have hbx5 := (hb5.block _ hblt).trans hbx3
            clear hscq
            rcases hA with ⟨q5, n5, hn5, ⟨pre5, x5, hx5, hx6⟩, rfl⟩ | ⟨-, p5, c5, rfl, ho5⟩
            · have : x5 ∈ [(x.1, 0, 0), (((8, [], 0, 0), z.2.1 - x.2.1, 0) : Itm)] := by rw [hx5]; simp
              simp only [List.mem_cons, List.not_mem_nil, or_false] at this
              rcases this with rfl | rfl <;> exact absurd rfl hx6
            · have hb1c : w5.cell? ⟨wr.heap.size, 1, none⟩ = some (.int .i64 (x.2.1 : Int)) := cell_of_row _ _ 1 _ _ _ hbx5
              have hb1f := Go.frozen_of_row _ _ 1 _ _ hbx5
              have hrow5 := tokrow_of_own (own_set ho5 wr.heap.size 1 (.int .i64 0) hblt)
              have hbx6 : (w5.setCell ⟨wr.heap.size, 1, none⟩ (.int .i64 0)).heap[wr.heap.size]? = some (.cells #[.int .i64 (x.1.1 : Int), .int .i64 0, .string ⟨x.1.2.1.toArray⟩, .int .i64 (x.1.2.2.1 : Int), .int .i64 (x.1.2.2.2 : Int)] 29 (0, 0)) := by
                have := Go.heap_setCell_same w5 wr.heap.size 1 _ _ (.int .i64 0) hbx5
                simpa using this
              have k0 := cell_of_row _ _ 0 _ _ _ hbx6
              have k1 := cell_of_row _ _ 1 _ _ _ hbx6
              have k2 := cell_of_row _ _ 2 _ _ _ hbx6
              have k3 := cell_of_row _ _ 3 _ _ _ hbx6
              have k4 := cell_of_row _ _ 4 _ _ _ hbx6
              have hB6 := hB5.setCell (p := ⟨wr.heap.size, 1, none⟩) hBi.size (.int .i64 0)
              obtain ⟨a6, c6', e6, h6⟩ := hrow5
              injection e6 with e61 e62 e63
              subst e61 e63
              rcases h6 with h6 | ⟨g6, o6, rfl, hg6, hc6⟩
              · cases h6
              obtain ⟨m0, m1, m2, m3, m4⟩ := hc6 0 (by simp)
              obtain ⟨r0, -, -, -, -⟩ := hc6 1 (by simp)
              have r0' : (w5.setCell ⟨wr.heap.size, 1, none⟩ (.int .i64 0)).cell? ⟨g6, o6 + 1 * 5, none⟩ = some (.int .i64 8) := r0
              have m0' : (w5.setCell ⟨wr.heap.size, 1, none⟩ (.int .i64 0)).cell? ⟨g6, o6, none⟩ = some (.int .i64 (x.1.1 : Int)) := by simpa using m0
              have m1' : (w5.setCell ⟨wr.heap.size, 1, none⟩ (.int .i64 0)).cell? ⟨g6, o6 + 1, none⟩ = some (.int .i64 0) := by simpa using m1
              have m2' : (w5.setCell ⟨wr.heap.size, 1, none⟩ (.int .i64 0)).cell? ⟨g6, o6 + 2, none⟩ = some (.string ⟨x.1.2.1.toArray⟩) := by simpa using m2
              have m3' : (w5.setCell ⟨wr.heap.size, 1, none⟩ (.int .i64 0)).cell? ⟨g6, o6 + 3, none⟩ = some (.int .i64 (x.1.2.2.1 : Int)) := by simpa using m3
              have m4' : (w5.setCell ⟨wr.heap.size, 1, none⟩ (.int .i64 0)).cell? ⟨g6, o6 + 4, none⟩ = some (.int .i64 (x.1.2.2.2 : Int)) := by simpa using m4
              have hne := neTok (x.1.1 : Int) 0 (x.1.2.2.1 : Int) (x.1.2.2.2 : Int) ⟨x.1.2.1.toArray⟩
              clear hc6 m0 m1 m2 m3 m4 r0 hbx5 hbx6 ho5
              go_wp2_with fail
              go_quiet ((go_at_call 7; exact Calls.quiet_of_same (num_any _ _)))
              have hBz := below_drewN hB6 nq
              go_wp2_with fail
              go_roundw
              case rel => exact ⟨1, by omega, by go_num, hBz⟩
              case measure => simp [intOf]; omega
          | succ k =>
            have hup := hP.up k hlt
            have htwo := hP.two k hlt
            obtain ⟨v0, v1, v2, v3, v4⟩ := hcs k (by omega)
            by_cases hk8 : (L[k + 1]).1.1 = 8
            · have hk9 := htwo hk8
              rw [hk8] at t0
              have hbx := fun (o' : Obj) => (Below.refl wr.heap.size wr).alloc (Nat.le_refl _) o'
              generalize (L[k + 1]) = x at *
              generalize (L[k]'(by omega)) = y at *
              obtain ⟨o1, ho1⟩ : ∃ o1, Obj.cells #[.int .i64 ((8 : Nat) : Int), .int .i64 (x.2.1 : Int), .string ⟨x.1.2.1.toArray⟩, .int .i64 (x.1.2.2.1 : Int), .int .i64 (x.1.2.2.2 : Int)] 29 = o1 := ⟨_, rfl⟩
              have v0' : (wr.alloc (.cells #[.int .i64 8, .int .i64 (x.2.1 : Int), .string ⟨x.1.2.1.toArray⟩, .int .i64 (x.1.2.2.1 : Int), .int .i64 (x.1.2.2.2 : Int)] 29)).cell? ⟨g, o + k * 5, none⟩ = some (.int .i64 (y.1.1 : Int)) := ((hbx _).cell (p := ⟨g, o + k * 5, none⟩) hg).trans v0
              have v1' : (wr.alloc (.cells #[.int .i64 8, .int .i64 (x.2.1 : Int), .string ⟨x.1.2.1.toArray⟩, .int .i64 (x.1.2.2.1 : Int), .int .i64 (x.1.2.2.2 : Int)] 29)).cell? ⟨g, o + k * 5 + 1, none⟩ = some (.int .i64 (y.2.1 : Int)) := ((hbx _).cell (p := ⟨g, o + k * 5 + 1, none⟩) hg).trans v1
              have hk9' : ((y.1.1 : Int) == 8) = false := by simp; omega
              have c1 : ¬ (s.size : Int) < (x.2.1 : Int) := by omega
              have c2 : ¬ (x.2.1 : Int) ≤ (y.2.1 : Int) := by omega
              have c3 : ¬ (x.2.1 : Int) < (y.2.1 : Int) := by omega
              have c4 : (0 : Int) < (k : Int) + 1 := by omega
              have n0 : ¬ (x.2.1 : Int) < 0 := by omega
              have n1 : ¬ s.size < x.2.1 := by omega
              have n2 : ¬ x.2.1 ≤ y.2.1 := by omega
              have n3 : ¬ x.2.1 < y.2.1 := by omega
              have d0 : decide ((x.2.1 : Int) < 0) = false := decide_eq_false n0
              have d1 : decide (s.size < x.2.1) = false := decide_eq_false n1
              have d2 : decide (x.2.1 ≤ y.2.1) = false := decide_eq_false n2
              have d3 : decide (x.2.1 < y.2.1) = false := decide_eq_false n3
              have c7 : ((k : Int) + 1 == 0) = false := by simp; omega
              have hBa := hBi.alloc hBi.size (.cells #[.int .i64 8, .int .i64 (x.2.1 : Int), .string ⟨x.1.2.1.toArray⟩, .int .i64 (x.1.2.2.1 : Int), .int .i64 (x.1.2.2.2 : Int)] 29)
              have c5 : (k : Int) < (L.length : Int) := by omega
              have c6 : (0 : Int) ≤ (k : Int) := by omega
              clear ho1 hpc hscan hP hcs htwo v0 v1 v2 v3 v4
              go_wp2_with fail
              go_quiet (fail)
              have hBq := below_drewN hBa nq
              go_wp2_with fail
              go_roundw
              case rel => exact ⟨k + 1 + 1, by omega, by go_num, hBq⟩
              case measure => simp [intOf]; omega
            · obtain ⟨hi1, hpa, hpf⟩ := hpc hk8
              obtain ⟨u0, u1, u2, u3, u4⟩ := hcs (k + 1 + 1) hi1
              have hbx := fun (o' : Obj) => (Below.refl wr.heap.size wr).alloc (Nat.le_refl _) o'
              have hzl := hP.le (k + 1 + 1) hi1
              generalize (L[k + 1]) = x at *
              generalize (L[k]'(by omega)) = y at *
              generalize (L[k + 1 + 1]) = z at *
              have v1' : (wr.alloc (.cells #[.int .i64 (x.1.1 : Int), .int .i64 (x.2.1 : Int), .string ⟨x.1.2.1.toArray⟩, .int .i64 (x.1.2.2.1 : Int), .int .i64 (x.1.2.2.2 : Int)] 29)).cell? ⟨g, o + k * 5 + 1, none⟩ = some (.int .i64 (y.2.1 : Int)) := ((hbx _).cell (p := ⟨g, o + k * 5 + 1, none⟩) hg).trans v1
              have u1' : (wr.alloc (.cells #[.int .i64 (x.1.1 : Int), .int .i64 (x.2.1 : Int), .string ⟨x.1.2.1.toArray⟩, .int .i64 (x.1.2.2.1 : Int), .int .i64 (x.1.2.2.2 : Int)] 29)).cell? ⟨g, o + (k + 1 + 1) * 5 + 1, none⟩ = some (.int .i64 (z.2.1 : Int)) := ((hbx _).cell (p := ⟨g, o + (k + 1 + 1) * 5 + 1, none⟩) hg).trans u1
              obtain ⟨P, hPx⟩ : ∃ P, s.extract x.2.1 z.2.1 = P := ⟨_, rfl⟩
              have hPl : P.data.toList = slc l x.2.1 z.2.1 := by rw [← hPx]; exact hslc _ _
              have hext : ∀ W, (Instr.slice 9 (.string s) (some (.int .i64 (x.2.1 : Int))) (some (.int .i64 (z.2.1 : Int))) none).run Tryd.prog W = .ok (.string P) W := fun W => by
                rw [run_slice_string W 9 s .i64 .i64 (x.2.1 : Int) (z.2.1 : Int) Tryd.underlying9 (by omega) (by omega) (by omega), ← hPx]
                rfl
              have hsc := hscan P
              rw [hPl, hpf] at hsc
              have c4 : (0 : Int) < (k : Int) + 1 := by omega
              have n0 : ¬ (x.2.1 : Int) < 0 := by omega
              have n1 : ¬ s.size < x.2.1 := by omega
              have n2 : ¬ x.2.1 ≤ y.2.1 := by omega
              have n3 : ¬ x.2.1 < y.2.1 := by omega
              have n4 : ¬ z.2.1 ≤ x.2.1 := by omega
              have d0 : decide ((x.2.1 : Int) < 0) = false := decide_eq_false n0
              have d1 : decide (s.size < x.2.1) = false := decide_eq_false n1
              have d2 : decide (x.2.1 ≤ y.2.1) = false := decide_eq_false n2
              have d3 : decide (x.2.1 < y.2.1) = false := decide_eq_false n3
              have d4 : decide (z.2.1 ≤ x.2.1) = false := decide_eq_false n4
              have c5 : (k : Int) < (L.length : Int) := by omega
              have c6 : (0 : Int) ≤ (k : Int) := by omega
              have c7 : ((k : Int) + 1 + 1 == (L.length : Int)) = false := by simp; omega
              have c8 : (k : Int) + 1 + 1 < (L.length : Int) := by omega
              have c9 : ((x.1.1 : Int) == 8) = false := by simp; omega
              have hBa := hBi.alloc hBi.size (.cells #[.int .i64 (x.1.1 : Int), .int .i64 (x.2.1 : Int), .string ⟨x.1.2.1.toArray⟩, .int .i64 (x.1.2.2.1 : Int), .int .i64 (x.1.2.2.2 : Int)] 29)
              have hbox := World.alloc_heap_new wr (.cells #[.int .i64 (x.1.1 : Int), .int .i64 (x.2.1 : Int), .string ⟨x.1.2.1.toArray⟩, .int .i64 (x.1.2.2.1 : Int), .int .i64 (x.1.2.2.2 : Int)] 29)
              clear hpc hscan hP hcs htwo v0 v1 v2 v3 v4 u0 u1 u2 u3 u4 hPl hpf hPx hslc
              go_wp2_with fail
              go_quiet (fail)
              rename Nat => m1
              go_wp2_with fail
              go_quiet (fail)
              rename Nat => m2
              go_wp2_with fail
              go_quiet (fail)
              rename Nat => m3
              go_wp2_with (go_at_call 6; fail)
              have hBq := below_drewN hBa (m1 + m2 + m3)
              have hbx3 := boxN hbox (m1 + m2 + m3)
              have hscq := hsc _ (below_step hB2 hBq)
              clear hsc hBa hbox v1' u1'
              generalize (wr.alloc (.cells #[.int .i64 (x.1.1 : Int), .int .i64 (x.2.1 : Int), .string ⟨x.1.2.1.toArray⟩, .int .i64 (x.1.2.2.1 : Int), .int .i64 (x.1.2.2.2 : Int)] 29)).drewN (m1 + m2 + m3) = Wq at *
              have hblt := (Array.getElem?_eq_some_iff.1 hbx3).1
              refine hscq.mono ?_
              rintro e w5 ⟨hb5, hA⟩
              have hB5 := hBq.trans (hb5.mono hBq.size)
              have hbx5 := (hb5.block _ hblt).trans hbx3
              clear hscq
              rcases hA with ⟨q5, n5, hn5, ⟨pre5, x5, hx5, hx6⟩, rfl⟩ | ⟨-, p5, c5, rfl, ho5⟩
              · have : x5 ∈ [(x.1, 0, 0), (((8, [], 0, 0), z.2.1 - x.2.1, 0) : Itm)] := by rw [hx5]; simp
                simp only [List.mem_cons, List.not_mem_nil, or_false] at this
                rcases this with rfl | rfl <;> exact absurd rfl hx6
              · have hb1c : w5.cell? ⟨wr.heap.size, 1, none⟩ = some (.int .i64 (x.2.1 : Int)) := cell_of_row _ _ 1 _ _ _ hbx5
                have hb1f := Go.frozen_of_row _ _ 1 _ _ hbx5
                have hrow5 := tokrow_of_own (own_set ho5 wr.heap.size 1 (.int .i64 0) hblt)
                have hbx6 : (w5.setCell ⟨wr.heap.size, 1, none⟩ (.int .i64 0)).heap[wr.heap.size]? = some (.cells #[.int .i64 (x.1.1 : Int), .int .i64 0, .string ⟨x.1.2.1.toArray⟩, .int .i64 (x.1.2.2.1 : Int), .int .i64 (x.1.2.2.2 : Int)] 29 (0, 0)) := by
                  have := Go.heap_setCell_same w5 wr.heap.size 1 _ _ (.int .i64 0) hbx5
                  simpa using this
                have k0 := cell_of_row _ _ 0 _ _ _ hbx6
                have k1 := cell_of_row _ _ 1 _ _ _ hbx6
                have k2 := cell_of_row _ _ 2 _ _ _ hbx6
                have k3 := cell_of_row _ _ 3 _ _ _ hbx6
                have k4 := cell_of_row _ _ 4 _ _ _ hbx6
                have hB6 := hB5.setCell (p := ⟨wr.heap.size, 1, none⟩) hBi.size (.int .i64 0)
                obtain ⟨a6, c6', e6, h6⟩ := hrow5
                injection e6 with e61 e62 e63
                subst e61 e63
                rcases h6 with h6 | ⟨g6, o6, rfl, hg6, hc6⟩
                · cases h6
                obtain ⟨m0, m1, m2, m3, m4⟩ := hc6 0 (by simp)
                obtain ⟨r0, -, -, -, -⟩ := hc6 1 (by simp)
                have r0' : (w5.setCell ⟨wr.heap.size, 1, none⟩ (.int .i64 0)).cell? ⟨g6, o6 + 1 * 5, none⟩ = some (.int .i64 8) := r0
                have m0' : (w5.setCell ⟨wr.heap.size, 1, none⟩ (.int .i64 0)).cell? ⟨g6, o6, none⟩ = some (.int .i64 (x.1.1 : Int)) := by simpa using m0
                have m1' : (w5.setCell ⟨wr.heap.size, 1, none⟩ (.int .i64 0)).cell? ⟨g6, o6 + 1, none⟩ = some (.int .i64 0) := by simpa using m1
                have m2' : (w5.setCell ⟨wr.heap.size, 1, none⟩ (.int .i64 0)).cell? ⟨g6, o6 + 2, none⟩ = some (.string ⟨x.1.2.1.toArray⟩) := by simpa using m2
                have m3' : (w5.setCell ⟨wr.heap.size, 1, none⟩ (.int .i64 0)).cell? ⟨g6, o6 + 3, none⟩ = some (.int .i64 (x.1.2.2.1 : Int)) := by simpa using m3
                have m4' : (w5.setCell ⟨wr.heap.size, 1, none⟩ (.int .i64 0)).cell? ⟨g6, o6 + 4, none⟩ = some (.int .i64 (x.1.2.2.2 : Int)) := by simpa using m4
                have hne := neTok (x.1.1 : Int) 0 (x.1.2.2.1 : Int) (x.1.2.2.2 : Int) ⟨x.1.2.1.toArray⟩
                clear hc6 m0 m1 m2 m3 m4 r0 hbx5 hbx6 ho5
                go_wp2_with fail
                go_quiet ((go_at_call 7; exact Calls.quiet_of_same (num_any _ _)))
                have hBz := below_drewN hB6 nq
                go_wp2_with fail
                go_roundw
                case rel => exact ⟨k + 1 + 1, by omega, by go_num, hBz⟩
                case measure => simp [intOf]; omega
        · have hlt' : ¬ (i : Int) < (L.length : Int) := by omega
          go_wp2_with fail
          go_ret
          exact ⟨rfl, below_step hB2 hBi⟩

end Go.Proofs.YtmnnaghamiioaaaDoor.Q
namespace Go.Proofs.YtmnnaghamiioaaaDoor
open Go.RowKit
theorem wplaces_walk (s : ByteArray) (w : World) (hT : Tabs w) : Calls Tryd.prog 3 #[.string s] w fun e w' => e = .returned (.bool true) ∧ Below w.heap.size w w' := Q.places_walkQ s w hT
end Go.Proofs.YtmnnaghamiioaaaDoor

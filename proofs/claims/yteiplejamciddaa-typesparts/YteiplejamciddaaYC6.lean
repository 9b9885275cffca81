import Derived.Test.YteiplejamciddaaYC0
import Derived.Test.YteiplejamciddaaYN1
import Derived.BigQuiet
namespace Go.Proofs.Yteiplejamciddaa
open Go.RowKit

theorem rs_step (l : List (Int × Int)) {i : Nat} (h : i < l.length) : rsF l (l.drop i) i = (bdB l i l[i] && rsF l (l.drop (i + 1)) (i + 1)) := by
  rw [List.drop_eq_getElem_cons h]
  rfl
set_option maxRecDepth 20000 in
set_option maxHeartbeats 2000000 in
theorem rising_any (l : List (Int × Int)) (a : Option Addr) (c : Nat) (W : World) (hR : RowR eBd W AnyB l a) (hl : l.length ≤ 1000000) : Calls Try.prog 45 #[.slice a l.length c] W (Lk (.bool (rsF l l 0)) W) := by
  obtain ⟨R, hRe⟩ : ∃ R, R = rsF l l 0 := ⟨_, rfl⟩
  rw [← hRe]
  have hst : Hid (rsF l (l.drop 0) 0 = R) := ⟨by rw [hRe]; rfl⟩
  clear hRe
  go_enter Try.func45, Try.ntmps45
  go_wp2
  go_loopw [7] (fun iv wr => ∃ i : Nat, iv = .int .i64 (i : Int) ∧ i ≤ l.length ∧ Below W.heap.size W wr ∧ Hid (rsF l (l.drop i) i = R)) (fun iv _ => l.length - (intOf iv).toNat)
  case atStart => exact ⟨0, rfl, Nat.zero_le _, Below.refl _ _, hst⟩
  case round =>
    obtain ⟨i, rfl, hi, hBr, hinv⟩ := hrel
    by_cases hlt : i < l.length
    · have hlt' : (i : Int) < (l.length : Int) := by omega
      have hi0 : (0 : Int) ≤ (i : Int) := by omega
      have hRr := row_bel hR hBr (Nat.le_refl _)
      obtain ⟨ge, oe, rfl⟩ := hRr.some hlt
      obtain ⟨cs, -, -, ⟨rfl, -⟩, hcs⟩ := hRr.item hlt
      have k0 : wr.cell? ⟨ge, oe + i * 2, none⟩ = some (.int .i64 (l[i]).1) := hcs 0 (by decide)
      have k1 : wr.cell? ⟨ge, oe + i * 2 + 1, none⟩ = some (.int .i64 (l[i]).2) := hcs 1 (by decide)
      have hinv2 := hinv.out
      rw [rs_step l hlt] at hinv2
      have hBa : ∀ y : Int × Int, Below W.heap.size W (wr.alloc (.cells #[.int .i64 y.1, .int .i64 y.2] 129)) := fun y => hBr.alloc hBr.size _
      have hbd : bdB l i l[i] = ((if i = 0 then decide ((l[i]).1 = 0) else decide ((l.getD (i - 1) (0, 0)).1 < (l[i]).1)) && decide ((l[i]).1 ≤ 9999999999999) && decide (0 ≤ (l[i]).2) && decide ((l[i]).2 ≤ 1000000)) := rfl
      by_cases h0 : i = 0
      · rw [if_pos h0] at hbd
        subst h0
        have m0 : wr.cell? ⟨ge, oe, none⟩ = some (.int .i64 (l[0]).1) := by simpa using k0
        have m1 : wr.cell? ⟨ge, oe + 1, none⟩ = some (.int .i64 (l[0]).2) := by simpa using k1
        clear k0 k1
        generalize l[0] = y at m0 m1 hinv2 hbd
        have hb := hbd
        clear hbd hcs hRr
        by_cases hz : y.1 = 0
        rotate_left
        · have hz' : (y.1 != 0) = true := by simp; exact hz
          have hf : R = false := by
            rw [← hinv2, hb, decide_eq_false hz]
            simp
          subst hf
          clear hinv2 hb hinv hz
          go_wp2
          go_quiet (fail)
          have hb4 : Below (wr.alloc (.cells #[.int .i64 y.1, .int .i64 y.2] 129)).heap.size (wr.alloc (.cells #[.int .i64 y.1, .int .i64 y.2] 129)) (World.drewN (wr.alloc (.cells #[.int .i64 y.1, .int .i64 y.2] 129)) nq) := bel_drewN _ _ _
          have hx4 := (bx_new wr #[.int .i64 y.1, .int .i64 y.2] 129).bel hb4 (bx_new wr #[.int .i64 y.1, .int .i64 y.2] 129).1
          have hBx := bthr (hBa y) hb4 (Nat.le_refl _)
          obtain ⟨X4, hX4⟩ : ∃ X4, X4 = World.drewN (wr.alloc (.cells #[.int .i64 y.1, .int .i64 y.2] 129)) nq := ⟨_, rfl⟩
          rw [← hX4] at hx4 hBx ⊢
          clear hX4 hb4
          have f1 := hx4.2.1 1 (by simp)
          go_wp2
          go_ret
          exact ⟨rfl, hBx⟩
        have hz' : (y.1 != 0) = false := by simp; exact hz
        have hM : y.1 ≤ 9999999999999 := by omega
        have hM' : ¬ (9999999999999 : Int) < y.1 := by omega
        have hzd : decide (y.1 = 0) = true := decide_eq_true hz
        have hzH := Hid.mk hzd
        clear hz hzd
        by_cases r1 : 0 ≤ y.2
        rotate_left
        · have r1' : y.2 < 0 := by omega
          have hf : R = false := by
            rw [← hinv2, hb, decide_eq_false r1]
            simp
          subst hf
          clear hinv2 hb hinv
          go_wp2
          go_quiet (fail)
          have hb4 : Below (wr.alloc (.cells #[.int .i64 y.1, .int .i64 y.2] 129)).heap.size (wr.alloc (.cells #[.int .i64 y.1, .int .i64 y.2] 129)) (World.drewN (wr.alloc (.cells #[.int .i64 y.1, .int .i64 y.2] 129)) nq) := bel_drewN _ _ _
          have hx4 := (bx_new wr #[.int .i64 y.1, .int .i64 y.2] 129).bel hb4 (bx_new wr #[.int .i64 y.1, .int .i64 y.2] 129).1
          have hBx := bthr (hBa y) hb4 (Nat.le_refl _)
          obtain ⟨X4, hX4⟩ : ∃ X4, X4 = World.drewN (wr.alloc (.cells #[.int .i64 y.1, .int .i64 y.2] 129)) nq := ⟨_, rfl⟩
          rw [← hX4] at hx4 hBx ⊢
          clear hX4 hb4
          have f1 := hx4.2.1 1 (by simp)
          go_wp2
          go_ret
          exact ⟨rfl, hBx⟩
        have r1' : ¬ y.2 < 0 := by omega
        by_cases r2 : y.2 ≤ 1000000
        rotate_left
        · have r2' : 1000000 < y.2 := by omega
          have hf : R = false := by
            rw [← hinv2, hb, decide_eq_false r2]
            simp
          subst hf
          clear hinv2 hb hinv
          go_wp2
          go_quiet (fail)
          have hb4 : Below (wr.alloc (.cells #[.int .i64 y.1, .int .i64 y.2] 129)).heap.size (wr.alloc (.cells #[.int .i64 y.1, .int .i64 y.2] 129)) (World.drewN (wr.alloc (.cells #[.int .i64 y.1, .int .i64 y.2] 129)) nq) := bel_drewN _ _ _
          have hx4 := (bx_new wr #[.int .i64 y.1, .int .i64 y.2] 129).bel hb4 (bx_new wr #[.int .i64 y.1, .int .i64 y.2] 129).1
          have hBx := bthr (hBa y) hb4 (Nat.le_refl _)
          obtain ⟨X4, hX4⟩ : ∃ X4, X4 = World.drewN (wr.alloc (.cells #[.int .i64 y.1, .int .i64 y.2] 129)) nq := ⟨_, rfl⟩
          rw [← hX4] at hx4 hBx ⊢
          clear hX4 hb4
          have f1 := hx4.2.1 1 (by simp)
          go_wp2
          go_ret
          exact ⟨rfl, hBx⟩
        have r2' : ¬ 1000000 < y.2 := by omega
        have hok : Hid (rsF l (l.drop (0 + 1)) (0 + 1) = R) := ⟨by
          rw [← hinv2, hb, hzH.out, decide_eq_true hM, decide_eq_true r1, decide_eq_true r2]
          rfl⟩
        clear hinv2 hb hinv
        go_wp2
        go_quiet (fail)
        have hb4 : Below (wr.alloc (.cells #[.int .i64 y.1, .int .i64 y.2] 129)).heap.size (wr.alloc (.cells #[.int .i64 y.1, .int .i64 y.2] 129)) (World.drewN (wr.alloc (.cells #[.int .i64 y.1, .int .i64 y.2] 129)) nq) := bel_drewN _ _ _
        have hx4 := (bx_new wr #[.int .i64 y.1, .int .i64 y.2] 129).bel hb4 (bx_new wr #[.int .i64 y.1, .int .i64 y.2] 129).1
        have hBx := bthr (hBa y) hb4 (Nat.le_refl _)
        obtain ⟨X4, hX4⟩ : ∃ X4, X4 = World.drewN (wr.alloc (.cells #[.int .i64 y.1, .int .i64 y.2] 129)) nq := ⟨_, rfl⟩
        rw [← hX4] at hx4 hBx ⊢
        clear hX4 hb4
        have f1 := hx4.2.1 1 (by simp)
        go_wp2
        exact ⟨⟨0 + 1, rfl, hlt, hBx, hok⟩, by simp only [intOf]; omega⟩
      · have h0' : ((i : Int) == 0) = false := by simp; omega
        have h0'' : ¬ (i : Int) = 0 := by omega
        have h0n : 0 < i := by omega
        obtain ⟨k, hk⟩ : ∃ k, i = k + 1 := ⟨i - 1, by omega⟩
        have hkl : k < l.length := by omega
        have hk1 : (i : Int) - 1 = (k : Int) := by omega
        have hk2 : (0 : Int) ≤ (k : Int) := by omega
        have hk3 : (k : Int) < (l.length : Int) := by omega
        obtain ⟨ds, -, -, ⟨rfl, -⟩, hds⟩ := hRr.item hkl
        have p0 : wr.cell? ⟨ge, oe + k * 2, none⟩ = some (.int .i64 (l[k]).1) := hds 0 (by decide)
        have hgd : l.getD (i - 1) (0, 0) = l[k] := by rw [show i - 1 = k by omega, List.getD_eq_getElem?_getD, List.getElem?_eq_getElem hkl]; rfl
        rw [if_neg h0, hgd] at hbd
        have hpl := World.block_lt_of_cell? _ _ p0
        generalize l[k] = z at p0 hbd
        generalize l[i] = y at k0 k1 hinv2 hbd
        have hb := hbd
        clear hbd hcs hds hRr h0 hgd hk
        by_cases hz : z.1 < y.1
        rotate_left
        · have hz' : y.1 ≤ z.1 := by omega
          have hf : R = false := by
            rw [← hinv2, hb, decide_eq_false hz]
            simp
          subst hf
          clear hinv2 hb hinv hz
          go_wp2
          go_quiet (fail)
          have hb4 : Below (wr.alloc (.cells #[.int .i64 y.1, .int .i64 y.2] 129)).heap.size (wr.alloc (.cells #[.int .i64 y.1, .int .i64 y.2] 129)) (World.drewN (wr.alloc (.cells #[.int .i64 y.1, .int .i64 y.2] 129)) nq) := bel_drewN _ _ _
          have hx4 := (bx_new wr #[.int .i64 y.1, .int .i64 y.2] 129).bel hb4 (bx_new wr #[.int .i64 y.1, .int .i64 y.2] 129).1
          have hBx := bthr (hBa y) hb4 (Nat.le_refl _)
          obtain ⟨X4, hX4⟩ : ∃ X4, X4 = World.drewN (wr.alloc (.cells #[.int .i64 y.1, .int .i64 y.2] 129)) nq := ⟨_, rfl⟩
          rw [← hX4] at hx4 hBx ⊢
          clear hX4 hb4
          have f1 := hx4.2.1 1 (by simp)
          go_wp2
          go_ret
          exact ⟨rfl, hBx⟩
        have hz' : decide (y.1 ≤ z.1) = false := decide_eq_false (by omega)
        by_cases hM : y.1 ≤ 9999999999999
        rotate_left
        · have hM' : (9999999999999 : Int) < y.1 := by omega
          have hf : R = false := by
            rw [← hinv2, hb, decide_eq_false hM]
            simp
          subst hf
          clear hinv2 hb hinv
          go_wp2
          go_quiet (fail)
          have hb4 : Below (wr.alloc (.cells #[.int .i64 y.1, .int .i64 y.2] 129)).heap.size (wr.alloc (.cells #[.int .i64 y.1, .int .i64 y.2] 129)) (World.drewN (wr.alloc (.cells #[.int .i64 y.1, .int .i64 y.2] 129)) nq) := bel_drewN _ _ _
          have hx4 := (bx_new wr #[.int .i64 y.1, .int .i64 y.2] 129).bel hb4 (bx_new wr #[.int .i64 y.1, .int .i64 y.2] 129).1
          have hBx := bthr (hBa y) hb4 (Nat.le_refl _)
          obtain ⟨X4, hX4⟩ : ∃ X4, X4 = World.drewN (wr.alloc (.cells #[.int .i64 y.1, .int .i64 y.2] 129)) nq := ⟨_, rfl⟩
          rw [← hX4] at hx4 hBx ⊢
          clear hX4 hb4
          have f1 := hx4.2.1 1 (by simp)
          go_wp2
          go_ret
          exact ⟨rfl, hBx⟩
        have hM' : ¬ (9999999999999 : Int) < y.1 := by omega
        have hzH := Hid.mk (decide_eq_true hz)
        clear hz
        by_cases r1 : 0 ≤ y.2
        rotate_left
        · have r1' : y.2 < 0 := by omega
          have hf : R = false := by
            rw [← hinv2, hb, decide_eq_false r1]
            simp
          subst hf
          clear hinv2 hb hinv
          go_wp2
          go_quiet (fail)
          have hb4 : Below (wr.alloc (.cells #[.int .i64 y.1, .int .i64 y.2] 129)).heap.size (wr.alloc (.cells #[.int .i64 y.1, .int .i64 y.2] 129)) (World.drewN (wr.alloc (.cells #[.int .i64 y.1, .int .i64 y.2] 129)) nq) := bel_drewN _ _ _
          have hx4 := (bx_new wr #[.int .i64 y.1, .int .i64 y.2] 129).bel hb4 (bx_new wr #[.int .i64 y.1, .int .i64 y.2] 129).1
          have hBx := bthr (hBa y) hb4 (Nat.le_refl _)
          obtain ⟨X4, hX4⟩ : ∃ X4, X4 = World.drewN (wr.alloc (.cells #[.int .i64 y.1, .int .i64 y.2] 129)) nq := ⟨_, rfl⟩
          rw [← hX4] at hx4 hBx ⊢
          clear hX4 hb4
          have f1 := hx4.2.1 1 (by simp)
          go_wp2
          go_ret
          exact ⟨rfl, hBx⟩
        have r1' : ¬ y.2 < 0 := by omega
        by_cases r2 : y.2 ≤ 1000000
        rotate_left
        · have r2' : 1000000 < y.2 := by omega
          have hf : R = false := by
            rw [← hinv2, hb, decide_eq_false r2]
            simp
          subst hf
          clear hinv2 hb hinv
          go_wp2
          go_quiet (fail)
          have hb4 : Below (wr.alloc (.cells #[.int .i64 y.1, .int .i64 y.2] 129)).heap.size (wr.alloc (.cells #[.int .i64 y.1, .int .i64 y.2] 129)) (World.drewN (wr.alloc (.cells #[.int .i64 y.1, .int .i64 y.2] 129)) nq) := bel_drewN _ _ _
          have hx4 := (bx_new wr #[.int .i64 y.1, .int .i64 y.2] 129).bel hb4 (bx_new wr #[.int .i64 y.1, .int .i64 y.2] 129).1
          have hBx := bthr (hBa y) hb4 (Nat.le_refl _)
          obtain ⟨X4, hX4⟩ : ∃ X4, X4 = World.drewN (wr.alloc (.cells #[.int .i64 y.1, .int .i64 y.2] 129)) nq := ⟨_, rfl⟩
          rw [← hX4] at hx4 hBx ⊢
          clear hX4 hb4
          have f1 := hx4.2.1 1 (by simp)
          go_wp2
          go_ret
          exact ⟨rfl, hBx⟩
        have r2' : ¬ 1000000 < y.2 := by omega
        have hok : Hid (rsF l (l.drop (i + 1)) (i + 1) = R) := ⟨by
          rw [← hinv2, hb, hzH.out, decide_eq_true hM, decide_eq_true r1, decide_eq_true r2]
          rfl⟩
        clear hinv2 hb hinv
        go_wp2
        go_quiet (fail)
        have hb4 : Below (wr.alloc (.cells #[.int .i64 y.1, .int .i64 y.2] 129)).heap.size (wr.alloc (.cells #[.int .i64 y.1, .int .i64 y.2] 129)) (World.drewN (wr.alloc (.cells #[.int .i64 y.1, .int .i64 y.2] 129)) nq) := bel_drewN _ _ _
        have hx4 := (bx_new wr #[.int .i64 y.1, .int .i64 y.2] 129).bel hb4 (bx_new wr #[.int .i64 y.1, .int .i64 y.2] 129).1
        have hBx := bthr (hBa y) hb4 (Nat.le_refl _)
        obtain ⟨X4, hX4⟩ : ∃ X4, X4 = World.drewN (wr.alloc (.cells #[.int .i64 y.1, .int .i64 y.2] 129)) nq := ⟨_, rfl⟩
        rw [← hX4] at hx4 hBx ⊢
        clear hX4 hb4
        have f1 := hx4.2.1 1 (by simp)
        go_wp2
        exact ⟨⟨i + 1, rfl, hlt, hBx, hok⟩, by simp only [intOf]; omega⟩
    · have hlt' : ¬ (i : Int) < (l.length : Int) := by omega
      have hf : R = true := by
        have := hinv.out
        rw [List.drop_eq_nil_of_le (by omega)] at this
        exact this.symm
      subst hf
      clear hinv
      go_wp2
      go_ret
      exact ⟨rfl, hBr⟩
end Go.Proofs.Yteiplejamciddaa

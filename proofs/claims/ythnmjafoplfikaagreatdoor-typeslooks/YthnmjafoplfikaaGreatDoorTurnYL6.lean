import Derived.Test.YthnmjafoplfikaaGreatDoorTurnYL5
import Derived.WalkMore
import Derived.Lib.MinMax
import Derived.Laws.StructEq
namespace Go.Proofs.YthnmjafoplfikaaGreatDoor
open Go.RowKit

theorem bel_drewN (n : Nat) (W : World) (k : Nat) : Below n W (World.drewN W k) := ⟨rfl, rfl, rfl, Nat.le_refl _, fun _ _ => rfl⟩
theorem eq_kind (a b c d : Int) (w : World) : (Op.equalIn 10000 163 (.agg #[.int .i64 a, .int .i64 b]) (.agg #[.int .i64 c, .int .i64 d])).run Tryz.prog w = .ok (decide (a = c ∧ b = d)) w := by
  have u3 := Tryz.underlying3
  have a3 := Tryz.isAgg3
  have z3 := Tryz.sizeOf3
  have hS : Tryz.prog.underlying 163 = some (.struct (Tryz.prog.fieldsOf 163)) := by kernel_rfl
  have hp : Tryz.prog.stoodInHeld 163 = false := by kernel_rfl
  rw [show (10000 : Nat) = 9999 + 1 from rfl, run_equalIn_agg w 9999 163 _ _ hS hp]
  simp only [Program.fieldsOf, Tryz.underlying163]
  go_simp
  by_cases h1 : a = c <;> by_cases h2 : b = d <;> simp [h1, h2]
theorem eq_guard : Tryz.prog.eqGuardType Tryz.prog.depth 163 = false := by kernel_rfl
theorem blame_step (n1 n2 : Int × Int) (ks : List Kd) {i : Nat} (h : i < ks.length) : blameF n1 n2 ks (ks.drop i) i = if inK (ks[i]).1 (needAt n1 n2 i).1 = true ∧ ks[i] = ks.getD (needAt n1 n2 i).2.toNat (0, 0) then blameF n1 n2 ks (ks.drop (i + 1)) (i + 1) else some i := by
  rw [List.drop_eq_getElem_cons h]
  rfl
theorem getD_at {α : Type} (l : List α) (d : α) {i : Nat} (h : i < l.length) : l.getD i d = l[i] := by
  rw [List.getD_eq_getElem?_getD, List.getElem?_eq_getElem h, Option.getD_some]
def blV : Option Nat → Int
  | some i => i
  | none => -1
set_option maxRecDepth 20000 in
set_option maxHeartbeats 4000000 in
theorem blamed_any (k1 k2 : Int) (l2 : Nat) (ks : List Kd) (ak : Option Addr) (ck : Nat) (W : World) (hl : ks.length ≤ 6) (hR : RowR eKd W AnyB ks ak) (hk : ∀ k ∈ ks, isK k.1 = true) (hl2 : l2 ≤ 1) : Calls Tryz.prog 130 #[.slice ak ks.length ck, .agg #[.int .i64 k1, .int .i64 0, .int .i64 k2, .int .i64 (l2 : Int)]] W (Lk (.int .i64 (blV (blameF (k1, 0) (k2, l2) ks ks 0))) W) := by
  obtain ⟨R, hR0⟩ : ∃ R, R = blameF (k1, 0) (k2, l2) ks ks 0 := ⟨_, rfl⟩
  rw [← hR0]
  obtain ⟨W1, hW1⟩ : ∃ W1, W1 = W.alloc (.cells #[.int .i64 k1, .int .i64 0, .int .i64 k2, .int .i64 (l2 : Int)] 172) := ⟨_, rfl⟩
  have hB0 : Below W.heap.size W W1 := by rw [hW1]; exact (Below.refl _ _).alloc (Nat.le_refl _) _
  have hs1 : W1.heap.size = W.heap.size + 1 := by rw [hW1]; simp
  have hn := bx_new W #[.int .i64 k1, .int .i64 0, .int .i64 k2, .int .i64 (l2 : Int)] 172
  rw [← hW1] at hn
  have hR1 := row_bel hR hB0 (Nat.le_refl _)
  have hst : Hid (blameF (k1, 0) (k2, l2) ks (ks.drop 0) 0 = R) := ⟨by rw [hR0]; rfl⟩
  have hQ : ∀ W', Below W1.heap.size W1 W' → Below W.heap.size W W' := fun W' h => bthr hB0 h (Nat.le_refl _)
  have hH : Hid (W1 = W.alloc (.cells #[.int .i64 k1, .int .i64 0, .int .i64 k2, .int .i64 (l2 : Int)] 172)) := ⟨hW1⟩
  clear hR hB0 hR0
  go_enter Tryz.func130, Tryz.ntmps130
  go_wp2
  go_step3
  go_wp2
  go_step3
  go_wp2
  rw [← hW1]
  clear hW1
  go_loopw [5, 11] (fun fv iv wr => ∃ i : Nat, fv = .int .i64 (-1) ∧ iv = .int .i64 (i : Int) ∧ i ≤ ks.length ∧ Below W1.heap.size W1 wr ∧ Hid (blameF (k1, 0) (k2, l2) ks (ks.drop i) i = R)) (fun _ iv _ => ks.length - (intOf iv).toNat)
  case atStart => exact ⟨0, rfl, rfl, Nat.zero_le _, Below.refl _ _, hst⟩
  case round =>
    obtain ⟨i, rfl, rfl, hi, hBr, hinv⟩ := hrel
    by_cases hlt : i < ks.length
    · have hlt' : (i : Int) < (ks.length : Int) := by omega
      have hi0 : (0 : Int) ≤ (i : Int) := by omega
      obtain ⟨gk, ok, hga⟩ := hR1.some hlt
      have hRr := row_bel hR1 hBr (Nat.le_refl _)
      have hli : (if i = 0 then 0 else l2) < ks.length := by split <;> omega
      have hinv := hinv.out
      rw [blame_step _ _ _ hlt] at hinv
      obtain ⟨lk, hlk⟩ : ∃ lk : Nat, lk = if i = 0 then 0 else l2 := ⟨_, rfl⟩
      obtain ⟨kn, hkn⟩ : ∃ kn : Int, kn = if i = 0 then k1 else k2 := ⟨_, rfl⟩
      rw [← hlk] at hli
      have hn1 : (needAt (k1, 0) (k2, (l2 : Int)) i).1 = kn := by rw [hkn]; unfold needAt; split <;> rfl
      have hn2 : ks.getD (needAt (k1, 0) (k2, (l2 : Int)) i).2.toNat (0, 0) = ks[lk] := by
        rw [← getD_at ks (0, 0) hli]
        congr 1
        rw [hlk]; unfold needAt; split <;> rfl
      have hok : inK (ks[i]).1 kn = true → ks[i] = ks[lk] → Hid (blameF (k1, 0) (k2, l2) ks (ks.drop (i + 1)) (i + 1) = R) := fun h1 h2 => ⟨by rw [if_pos ⟨by rw [hn1]; exact h1, by rw [hn2]; exact h2⟩] at hinv; exact hinv⟩
      have hno : ¬ (inK (ks[i]).1 kn = true ∧ ks[i] = ks[lk]) → R = some i := fun h => by
        rw [if_neg (by rw [hn1, hn2]; exact h)] at hinv
        exact hinv.symm
      clear hinv hn1 hn2
      rw [hga] at hRr
      obtain ⟨cs, -, -, rfl, hcs⟩ := hRr.item hlt
      have e0 : wr.cell? ⟨gk, ok + i * 2, none⟩ = some (.int .i64 (ks[i]).1) := hcs 0 (by decide)
      have e1 : wr.cell? ⟨gk, ok + i * 2 + 1, none⟩ = some (.int .i64 (ks[i]).2) := hcs 1 (by decide)
      have hin := fun X => kin_any (ks[i]).1 (ks[i]).2 kn (hk _ (List.getElem_mem hlt)) X
      have hmin : ∃ m : Nat, m ≤ 1 ∧ min (i : Int) 1 = (m : Int) ∧ wr.cell? ⟨W.heap.size, m * 2, none⟩ = some (.int .i64 kn) ∧ wr.cell? ⟨W.heap.size, m * 2 + 1, none⟩ = some (.int .i64 (lk : Int)) := by
        have c := fun j hj => (bel_cell hBr (show W.heap.size < W1.heap.size by omega) j).trans (hn.2.1 j hj)
        by_cases h0 : i = 0
        · rw [if_pos h0] at hlk hkn
          subst hlk hkn
          exact ⟨0, by omega, by omega, c 0 (by simp), c 1 (by simp)⟩
        · rw [if_neg h0] at hlk hkn
          subst hlk hkn
          exact ⟨1, by omega, by omega, c 2 (by simp), c 3 (by simp)⟩
      obtain ⟨m, hm1, hmin, d0, d1⟩ := hmin
      clear hlk hkn hcs
      have hm2 : (m : Int) < 2 := by omega
      have hm0 : (0 : Int) ≤ (m : Int) := by omega
      subst hga
      have hWs : W.heap.size < wr.heap.size := by have := hBr.size; omega
      obtain ⟨cs2, -, -, rfl, hcs2⟩ := hRr.item hli
      have f0 : wr.cell? ⟨gk, ok + lk * 2, none⟩ = some (.int .i64 (ks[lk]).1) := hcs2 0 (by decide)
      have f1 : wr.cell? ⟨gk, ok + lk * 2 + 1, none⟩ = some (.int .i64 (ks[lk]).2) := hcs2 1 (by decide)
      have hgk : gk < wr.heap.size := World.block_lt_of_cell? _ _ f0
      have hlk' : (lk : Int) < (ks.length : Int) := by omega
      have hlk0 : (0 : Int) ≤ (lk : Int) := by omega
      clear hRr hR1 hcs2 hst hn hk
      have hval : ks[i] = ks[lk] ↔ ((ks[i]).1 = (ks[lk]).1 ∧ (ks[i]).2 = (ks[lk]).2) := Prod.ext_iff
      generalize ks[i] = kk at e0 e1 hin hok hno hval
      generalize ks[lk] = kl at f0 f1 hok hno hval
      have d0' := (bel_cell ((Below.refl wr.heap.size wr).alloc (Nat.le_refl _) (.cells #[.int .i64 kk.1, .int .i64 kk.2] 163)) hWs (m * 2)).trans d0
      have d1' := (bel_cell ((Below.refl wr.heap.size wr).alloc (Nat.le_refl _) (.cells #[.int .i64 kk.1, .int .i64 kk.2] 163)) hWs (m * 2 + 1)).trans d1
      obtain ⟨W5, hW5⟩ : ∃ W5, W5 = (wr.alloc (.cells #[.int .i64 kk.1, .int .i64 kk.2] 163)).alloc (.cells #[.int .i64 kn, .int .i64 (lk : Int)] 171) := ⟨_, rfl⟩
      have hB5 : Below wr.heap.size wr W5 := by rw [hW5]; exact ((Below.refl _ _).alloc (Nat.le_refl _) _).alloc (by simp) _
      have hs5 : W5.heap.size = wr.heap.size + 1 + 1 := by rw [hW5]; simp
      have hbk := (bx_new wr #[.int .i64 kk.1, .int .i64 kk.2] 163).kept (World.grownBy_alloc _ (.cells #[.int .i64 kn, .int .i64 (lk : Int)] 171) none) (by simp)
      have hbn := bx_new (wr.alloc (.cells #[.int .i64 kk.1, .int .i64 kk.2] 163)) #[.int .i64 kn, .int .i64 (lk : Int)] 171
      rw [show (wr.alloc (.cells #[.int .i64 kk.1, .int .i64 kk.2] 163)).heap.size = wr.heap.size + 1 by simp] at hbn
      rw [← hW5] at hbk hbn
      have hC : ∀ w2, Below W5.heap.size W5 w2 → w2.cell? ⟨wr.heap.size, 0, none⟩ = some (.int .i64 kk.1) ∧ w2.cell? ⟨wr.heap.size, 1, none⟩ = some (.int .i64 kk.2) ∧ w2.cell? ⟨wr.heap.size + 1, 1, none⟩ = some (.int .i64 (lk : Int)) ∧ w2.cell? ⟨gk, ok + lk * 2, none⟩ = some (.int .i64 kl.1) ∧ w2.cell? ⟨gk, ok + lk * 2 + 1, none⟩ = some (.int .i64 kl.2) ∧ Below W1.heap.size W1 w2 := fun w2 h2 => by
        have h3 := bthr hB5 h2 (Nat.le_refl _)
        exact ⟨(bel_cell h2 (by omega) 0).trans (hbk.2.1 0 (by simp)), (bel_cell h2 (by omega) 1).trans (hbk.2.1 1 (by simp)), (bel_cell h2 (by omega) 1).trans (hbn.2.1 1 (by simp)), (bel_cell h3 hgk _).trans f0, (bel_cell h3 hgk _).trans f1, bthr hBr h3 (Nat.le_refl _)⟩
      have hQ := Hid.mk hQ
      subst hW5
      clear hB5 hs5 hbk hbn d0 d1
      have hokH := Hid.mk hok
      have hnoH := Hid.mk hno
      clear hok hno hinv
      cases hb : inK kk.1 kn with
      | false =>
        rw [hb] at hin
        have hRi := hnoH.out (fun h => by rw [hb] at h; cases h.1)
        have hf : ∀ w2, Below W1.heap.size W1 w2 → Lk (.int .i64 (blV R)) W (.returned (.int .i64 (i : Int))) w2 := fun w2 h => ⟨by rw [hRi]; rfl, hQ.out w2 h⟩
        have hfH := Hid.mk hf
        clear hokH hnoH hb hRi hval hf
        go_wp2_with (go_at_call 122; refine (hin _).mono ?_; clear hin; rintro e w2 ⟨rfl, hb2⟩; obtain ⟨q0, q1, q2, q3, q4, q5⟩ := hC w2 hb2)
        first | rw [Exit.noGoto_ret] | skip
        go_ret
        exact hfH.out w2 q5
      | true =>
        rw [hb] at hin
        go_wp2_with (go_at_call 122; refine (hin _).mono ?_; clear hin; rintro e w2 ⟨rfl, hb2⟩; obtain ⟨q0, q1, q2, q3, q4, q5⟩ := hC w2 hb2)
        have hqe := eq_kind kk.1 kk.2 kl.1 kl.2
        have hqg := eq_guard
        by_cases hv : kk = kl
        · have hst := hokH.out hb hv
          rw [decide_eq_true (hval.1 hv)] at hqe
          clear hv hokH hnoH hval hb
          go_quiet (fail)
          go_wp2
          go_roundw
          case rel => exact ⟨i + 1, rfl, by go_num, by omega, q5.trans (bel_drewN _ _ _), hst⟩
          case measure => simp [intOf]; omega
        · have hRi := hnoH.out (fun h => hv h.2)
          rw [decide_eq_false (fun h => hv (hval.2 h))] at hqe
          have hf : ∀ w2, Below W1.heap.size W1 w2 → Lk (.int .i64 (blV R)) W (.returned (.int .i64 (i : Int))) w2 := fun w2 h => ⟨by rw [hRi]; rfl, hQ.out w2 h⟩
          have hfH := Hid.mk hf
          clear hv hokH hnoH hval hb hRi hf
          go_quiet (fail)
          go_wp2
          first | rw [Exit.noGoto_ret] | skip
          go_ret
          exact hfH.out _ (q5.trans (bel_drewN _ _ _))
    · have hlt' : ¬ (i : Int) < (ks.length : Int) := by omega
      have hRi : R = none := by
        have := hinv.out
        rw [List.drop_eq_nil_of_le (by omega)] at this
        exact this.symm
      have hf : Lk (.int .i64 (blV R)) W (.returned (.int .i64 (-1))) wr := ⟨by rw [hRi]; rfl, hQ wr hBr⟩
      clear hinv hRi
      go_wp2
      first | rw [Exit.noGoto_ret] | skip
      go_ret
      exact hf
end Go.Proofs.YthnmjafoplfikaaGreatDoor

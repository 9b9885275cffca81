import Derived.Test.YtkojgbfocdefnaaRfPut
import Derived.Test.YtkojgbfocdefnaaRfEmp
import Derived.Test.YtkojgbfocdefnaaHBld
import Derived.Deep.RegionHeld3
namespace Go.Proofs.Ytkojgbfocdefnaa
open Go.RowKit

set_option maxRecDepth 4000 in
set_option maxHeartbeats 1000000 in
theorem put_rf (b id : Nat) (hid : id < 4294967296) (x y : Int) (L : Es) (hk : ∀ e ∈ L, e.1 < 4294967296) (hl : L.length ≤ 1000) (w : World) (h : RfAt w b L) : Calls Try.prog 46 #[.pointer (some ⟨b, 0, none⟩), .int .u32 (id : Int), .agg #[.int .i64 x, .int .i64 y]] w fun e w' => ∃ nb, e = .returned (.pointer (some ⟨nb, 0, none⟩)) ∧ RfAt w' nb (ins L id (x, y)) ∧ Below w.heap.size w w' := by
  have hb1 := (Below.refl w.heap.size w).alloc (Nat.le_refl _) (.cells #[.int .i64 x, .int .i64 y] 58)
  have hp := putAs_rf b id hid x y 0 L hk hl _ (h.later hb1)
  clear hk hid
  go_enter Try.func46, Try.ntmps46
  go_wp2_with (go_at_call 57; fail)
  refine hp.mono ?_
  rintro e w1 ⟨nb, rfl, hR, hB⟩
  clear hp
  go_wp2
  go_ret
  exact ⟨nb, rfl, hR, below_step hb1 hB⟩

theorem putE_keys {T : Es} (h : ∀ e ∈ T, e.1 < 4294967296) : ∀ (E : Es), (∀ e ∈ E, e.1 < 4294967296) → ∀ e ∈ putE E T, e.1 < 4294967296 := by
  induction T with
  | nil => intro E hE; exact hE
  | cons p T ih =>
    intro E hE
    refine ih (fun e he => h e (List.mem_cons_of_mem _ he)) (ins E p.1 p.2) fun e he => ?_
    rcases mem_ins.1 he with rfl | ⟨_, he⟩
    · exact h p (by simp)
    · exact hE e he

set_option maxRecDepth 4000 in
set_option maxHeartbeats 2000000 in
theorem of_rf (v : Value) (T : Es) (hTl : T.length ≤ 200) (w : World) (h : EntA w v T) : Calls Try.prog 16 #[v] w fun e w' => ∃ mb, e = .returned (.pointer (some ⟨mb, 0, none⟩)) ∧ RfAt w' mb (putE [] T) ∧ Below w.heap.size w w' := by
  obtain ⟨a, cap, rfl, q1, q2, q3, q4⟩ := h
  have hkeys : Hid (∀ j, ∀ e ∈ putE [] (T.take j), e.1 < 4294967296) := fun j => putE_keys (fun e he => q3 e (List.mem_of_mem_take he)) [] (by simp)
  go_enter Try.func16, Try.ntmps16
  go_wp2_with (go_at_call 45; refine (empty_rf _).mono ?_; rintro e w1 ⟨rfl, hM1, hb1⟩)
  go_loopw [3, 4] (fun m iv W => ∃ (j mb : Nat), j ≤ T.length ∧ m = .pointer (some ⟨mb, 0, none⟩) ∧ iv = .int .i64 (j : Int) ∧ RfAt W mb (putE [] (T.take j)) ∧ Below w.heap.size w W) (fun _ iv _ => T.length - (intOf iv).toNat)
  case atStart => exact ⟨0, _, by omega, rfl, rfl, by simpa [putE] using hM1, hb1⟩
  case round =>
    obtain ⟨j, mb, hj, rfl, rfl, hMj, hB⟩ := hrel
    by_cases hlt : j < T.length
    · have hlt' : (j : Int) < (T.length : Int) := by omega
      have hj0 : (0 : Int) ≤ (j : Int) := by omega
      rcases q4 with h0 | ⟨g, off, rfl, hg, hc⟩
      · rw [h0] at hlt; simp at hlt
      have hx32 := q3 _ (List.getElem_mem hlt)
      have hstep : putE [] (T.take (j + 1)) = ins (putE [] (T.take j)) T[j].1 T[j].2 := by rw [List.take_succ_eq_append_getElem hlt, putE_snoc]
      have hlen : (putE [] (T.take j)).length ≤ 1000 := by
        have := putE_len [] (T.take j)
        simp only [List.length_nil, List.length_take] at this
        omega
      have hks := hkeys.out j
      obtain ⟨c0, c1, c2⟩ := hc j hlt
      obtain ⟨id, hid⟩ : ∃ id, id = T[j].1 := ⟨_, rfl⟩
      obtain ⟨vv, hvv⟩ : ∃ vv, vv = T[j].2 := ⟨_, rfl⟩
      rw [← hid] at c0 hx32 hstep
      rw [← hvv] at c1 c2 hstep
      obtain ⟨vx, vy⟩ := vv
      simp only at c1 c2
      have hS2 : Hid (putE [] (T.take (j + 1)) = ins (putE [] (T.take j)) id (vx, vy)) := hstep
      have hS0 : Hid (∀ X, Below w.heap.size w X → X.cell? ⟨g, off + j * 3, none⟩ = some (.int .u32 (id : Int)) ∧ X.cell? ⟨g, off + j * 3 + 1, none⟩ = some (.int .i64 vx) ∧ X.cell? ⟨g, off + j * 3 + 1 + 1, none⟩ = some (.int .i64 vy)) := fun X hX => ⟨(hX.cell (p := ⟨g, _, none⟩) hg).trans c0, (hX.cell (p := ⟨g, _, none⟩) hg).trans c1, (hX.cell (p := ⟨g, _, none⟩) hg).trans c2⟩
      have hD := hB.drew
      have hMd := hMj.later ((Below.refl wr.heap.size wr).drew)
      have hput := put_rf mb id hx32 vx vy _ hks hlen _ hMd
      have hS1 := hS0.out _ hD
      clear hid hvv hstep hc q3 c0 c1 c2 hks hlen hx32 hkeys hMj hMd
      generalize putE [] (T.take j) = E at *
      go_wp2
      go_region_held3 (fun X => X.cell? ⟨g, off + j * 3, none⟩ = some (.int .u32 (id : Int)) ∧ X.cell? ⟨g, off + j * 3 + 1, none⟩ = some (.int .i64 vx) ∧ X.cell? ⟨g, off + j * 3 + 1 + 1, none⟩ = some (.int .i64 vy)) (with_reducible assumption)
        (first | (go_at_call 46; refine hput.mono ?_; rintro e w5 ⟨mb5, rfl, hM5, hb5⟩; have hB5 := below_step hD hb5; have hS5 := hS0.out _ hB5))
      go_wp2
      go_roundw
      case rel => exact ⟨j + 1, mb5, by omega, rfl, by go_num, by rw [hS2.out]; exact hM5, hB5⟩
      case measure => simp [intOf]; omega
    · have hlt' : ¬ (j : Int) < (T.length : Int) := by omega
      obtain rfl : j = T.length := by omega
      rw [List.take_length] at hMj
      clear hkeys
      go_wp2
      go_ret
      exact ⟨mb, rfl, hMj, hB⟩

end Go.Proofs.Ytkojgbfocdefnaa

import Derived.Test.YtkojgbfocdefnaaHEnt
import Derived.Lib.MinMax
namespace Go.Proofs.Ytkojgbfocdefnaa
open Go.RowKit

/-- What build makes of entries. -/
def putE (E : Es) (L : Es) : Es := L.foldl (fun E p => ins E p.1 p.2) E
theorem putE_snoc (E L : Es) (p : Nat × (Int × Int)) : putE E (L ++ [p]) = ins (putE E L) p.1 p.2 := by simp [putE]
def mkE (L : Es) : Es := putE [] (L.take 200)
theorem insE_len (E : Es) (id : Nat) (v : Int × Int) : (ins E id v).length ≤ E.length + 1 := by
  have := length_ins E id v
  omega
theorem putE_len (E : Es) : ∀ L : Es, (putE E L).length ≤ E.length + L.length := by
  intro L
  induction L generalizing E with
  | nil => simp [putE]
  | cons a L ih =>
    have h1 := ih (ins E a.1 a.2)
    have h2 := insE_len E a.1 a.2
    simp only [putE, List.foldl_cons, List.length_cons] at h1 ⊢
    omega
theorem mkE_len (L : Es) : (mkE L).length ≤ 200 := by
  have := putE_len [] (L.take 200)
  simp at this
  unfold mkE
  omega

/-- A list of entries that came in. -/
def EntA (W : World) (v : Value) (L : Es) : Prop := ∃ a cap, v = .slice a L.length cap ∧ L.length ≤ cap ∧ L.length ≤ 9223372036854775807 ∧ (∀ e ∈ L, e.1 < 4294967296) ∧ (L = [] ∨ ∃ g off, a = some ⟨g, off, none⟩ ∧ g < W.heap.size ∧ ∀ i (h : i < L.length), W.cell? ⟨g, off + i * 3, none⟩ = some (.int .u32 (L[i].1 : Int)) ∧ W.cell? ⟨g, off + i * 3 + 1, none⟩ = some (.int .i64 L[i].2.1) ∧ W.cell? ⟨g, off + i * 3 + 2, none⟩ = some (.int .i64 L[i].2.2))
theorem EntA.later {W W' : World} {v : Value} {L : Es} (h : EntA W v L) (hb : Below W.heap.size W W') : EntA W' v L := by
  obtain ⟨a, cap, rfl, h1, h2, h3, h | ⟨g, off, rfl, hg, hc⟩⟩ := h
  · exact ⟨a, cap, rfl, h1, h2, h3, .inl h⟩
  · have e : ∀ j, W'.cell? ⟨g, j, none⟩ = W.cell? ⟨g, j, none⟩ := fun j => hb.cell (p := ⟨g, j, none⟩) hg
    exact ⟨_, cap, rfl, h1, h2, h3, .inr ⟨g, off, rfl, Nat.lt_of_lt_of_le hg hb.size, fun i hi => ⟨(e _).trans (hc i hi).1, (e _).trans (hc i hi).2.1, (e _).trans (hc i hi).2.2⟩⟩⟩

set_option maxRecDepth 4000 in
set_option maxHeartbeats 1000000 in
theorem part_any (v : Value) (L : Es) (w : World) (h : EntA w v L) : Calls Try.prog 17 #[v] w fun e w' => ∃ u, e = .returned u ∧ EntA w' u (L.take 200) ∧ w' = w := by
  obtain ⟨a, cap, rfl, h1, h2, h3, h4⟩ := h
  obtain ⟨m, hm⟩ : ∃ m, Hid (m = min L.length 200) := ⟨_, rfl⟩
  have hmin : min (L.length : Int) 200 = (m : Int) := by have := hm.out; omega
  have hm0 : (0 : Int) ≤ (m : Int) := by omega
  have hm1 : (m : Int) ≤ (cap : Int) := by have := hm.out; omega
  have hm2 : ((m : Int)).toNat = m := by omega
  go_enter Try.func17, Try.ntmps17
  go_wp2
  go_ret
  have hlen : (L.take 200).length = m := by rw [List.length_take, hm.out]; omega
  have hm := hm.out
  refine ⟨_, rfl, ⟨a, cap, by rw [hlen]; rfl, by rw [hlen]; omega, by rw [hlen]; omega, fun e he => h3 e (List.mem_of_mem_take he), ?_⟩, rfl⟩
  rcases h4 with h4 | ⟨g, off, rfl, hg, hc⟩
  · exact .inl (by rw [h4]; rfl)
  · refine .inr ⟨g, off, rfl, hg, fun i hi => ?_⟩
    rw [hlen] at hi
    simp only [List.getElem_take]
    exact hc i (by omega)

set_option maxRecDepth 4000 in
set_option maxHeartbeats 2000000 in
theorem build_any (v : Value) (L : Es) (w : World) (h : EntA w v L) : Calls Try.prog 15 #[v] w fun e w' => ∃ mb, e = .returned (.pointer (some ⟨mb, 0, none⟩)) ∧ MapE w' mb (mkE L) ∧ Below w.heap.size w w' := by
  obtain ⟨T, hT⟩ : ∃ T, T = L.take 200 := ⟨_, rfl⟩
  have hmk : Hid (putE [] T = mkE L) := by rw [hT]; rfl
  have hTl : T.length ≤ 200 := by rw [hT, List.length_take]; omega
  have hpart := fun w h => part_any v L w h
  rw [← hT] at hpart
  clear hT
  go_enter Try.func15, Try.ntmps15
  go_wp2_with (first | (go_at_call 43; refine (empty_any _).mono ?_; rintro e w1 ⟨rfl, hM1, hb1⟩) | (go_at_call 17; refine (hpart _ (h.later hb1)).mono ?_; rintro e w2 ⟨u, rfl, hu, rfl⟩; obtain ⟨a, cap, rfl, q1, q2, q3, q4⟩ := hu))
  have hMe : MapE w2 w.heap.size [] := ⟨_, hM1, rfl⟩
  clear h hM1 hpart
  go_loopw [3, 4] (fun m iv W => ∃ (j mb : Nat), j ≤ T.length ∧ m = .pointer (some ⟨mb, 0, none⟩) ∧ iv = .int .i64 (j : Int) ∧ MapE W mb (putE [] (T.take j)) ∧ Below w2.heap.size w2 W ∧ Below w.heap.size w W) (fun _ iv _ => T.length - (intOf iv).toNat)
  case atStart => exact ⟨0, _, by omega, rfl, rfl, by simpa [putE] using hMe, Below.refl _ _, hb1⟩
  case round =>
    obtain ⟨j, mb, hj, rfl, rfl, hMj, hB2, hB⟩ := hrel
    by_cases hlt : j < T.length
    · have hlt' : (j : Int) < (T.length : Int) := by omega
      have hltd : decide ((j : Int) < (T.length : Int)) = true := decide_eq_true hlt'
      have hj0 : (0 : Int) ≤ (j : Int) := by omega
      rcases q4 with h0 | ⟨g, off, rfl, hg, hc⟩
      · rw [h0] at hlt; simp at hlt
      have hx32 := q3 _ (List.getElem_mem hlt)
      have hstep : putE [] (T.take (j + 1)) = ins (putE [] (T.take j)) T[j].1 T[j].2 := by rw [List.take_succ_eq_append_getElem hlt, putE_snoc]
      obtain ⟨c0, c1, c2⟩ := hc j hlt
      obtain ⟨id, hid⟩ : ∃ id, id = T[j].1 := ⟨_, rfl⟩
      obtain ⟨vv, hvv⟩ : ∃ vv, vv = T[j].2 := ⟨_, rfl⟩
      rw [← hid] at c0 hx32 hstep
      rw [← hvv] at c1 c2 hstep
      have hS2 : Hid (putE [] (T.take (j + 1)) = ins (putE [] (T.take j)) id vv) := hstep
      clear hid hvv hstep hc q3
      obtain ⟨t, hMt, het⟩ := hMj
      have hHet : Hid (t.ents 7 0 = putE [] (T.take j)) := het
      clear het
      have hS0 : ∀ X, Below w2.heap.size w2 X → X.cell? ⟨g, off + j * 3, none⟩ = some (.int .u32 (id : Int)) ∧ X.cell? ⟨g, off + j * 3 + 1, none⟩ = some (.int .i64 vv.1) ∧ X.cell? ⟨g, off + j * 3 + 1 + 1, none⟩ = some (.int .i64 vv.2) := fun X hX => ⟨(hX.cell (p := ⟨g, _, none⟩) hg).trans c0, (hX.cell (p := ⟨g, _, none⟩) hg).trans c1, (hX.cell (p := ⟨g, _, none⟩) hg).trans c2⟩
      have hD := hB2.drew
      have hS1 := hS0 _ hD
      have hput := mput_any mb id hx32 vv t _ (hMt.later ((Below.refl wr.heap.size wr).drew))
      clear c0 c1 c2 hMt
      go_wp2
      go_region_held3 (fun X => X.cell? ⟨g, off + j * 3, none⟩ = some (.int .u32 (id : Int)) ∧ X.cell? ⟨g, off + j * 3 + 1, none⟩ = some (.int .i64 vv.1) ∧ X.cell? ⟨g, off + j * 3 + 1 + 1, none⟩ = some (.int .i64 vv.2)) (with_reducible assumption)
        (first | (go_at_call 44; refine hput.mono ?_; rintro e w5 ⟨mb5, t5, rfl, hM5, he5, hb5⟩; have hB25 := below_step hD hb5; have hS5 := hS0 _ hB25))
      go_wp2
      go_roundw
      case rel => exact ⟨j + 1, mb5, by omega, rfl, by go_num, ⟨t5, hM5, by rw [he5, hHet.out, hS2.out]⟩, hB25, below_step hB.drew hb5⟩
      case measure => simp [intOf]; omega
    · have hlt' : ¬ (j : Int) < (T.length : Int) := by omega
      have hltd : decide ((j : Int) < (T.length : Int)) = false := decide_eq_false hlt'
      obtain rfl : j = T.length := by omega
      rw [List.take_length, hmk.out] at hMj
      go_wp2
      go_ret
      exact ⟨mb, rfl, hMj, hB⟩

end Go.Proofs.Ytkojgbfocdefnaa

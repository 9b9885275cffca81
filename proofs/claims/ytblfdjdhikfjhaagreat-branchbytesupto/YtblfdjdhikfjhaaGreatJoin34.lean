import Derived.Test.YtblfdjdhikfjhaaGreatTurnBDo2
import Derived.Test.YtblfdjdhikfjhaaGreatJoin29
import Derived.Test.YtblfdjdhikfjhaaGreatTurnBxDo2
namespace Go.Proofs.YtblfdjdhikfjhaaGreat
open Go.RowKit

theorem do_any (lo bb : Nat) (keep : ByteArray) (Bs : List Br) (cur : ByteArray) (o : OpR) (w : World) (hl : lo ≤ w.heap.size) (hO : OpIn w o) (h : BookAt w lo bb Bs cur) :
    Calls Tryz.prog 11 #[.pointer (some ⟨bb, 0, none⟩), opV o.kind o, .string keep] w fun e w' => e = .returned (.tuple #[]) ∧ DoP lo bb keep (Tch o.kind) Bs cur w w' := by
  by_cases h1 : o.kind = 1
  · rw [h1]; exact do_1 lo bb keep Bs cur o w hl hO h
  by_cases h2 : o.kind = 2
  · rw [h2]; exact do_2 lo bb keep Bs cur o w hl hO h
  by_cases h3 : o.kind = 3
  · rw [h3]
    by_cases hk : o.name = keep
    · exact do_3k lo bb keep Bs cur o hk w hl hO h
    · exact do_3 lo bb keep Bs cur o hk w hl hO h
  by_cases h9 : o.kind = 9
  · rw [h9]; exact do_9 lo bb keep Bs cur o w hl hO h
  by_cases h10 : o.kind = 10
  · rw [h10]; exact do_10 lo bb keep Bs cur o w hl hO h
  by_cases h11 : o.kind = 11
  · rw [h11]; exact do_11 lo bb keep Bs cur o w hl hO h
  by_cases h12 : o.kind = 12
  · rw [h12]; exact do_12 lo bb keep Bs cur o w hl hO h
  by_cases h17 : o.kind = 17
  · rw [h17]; exact do_17 lo bb keep Bs cur o w hl hO h
  exact do_other lo bb keep Bs cur o o.kind ⟨h1, h2, h3, h9, h10, h11, h12, h17⟩ w hl hO h

theorem BookAt.lower {w : World} {lo lo' bb : Nat} {Bs : List Br} {cur : ByteArray} (h : BookAt w lo bb Bs cur) (hl : lo' ≤ lo) : BookAt w lo' bb Bs cur := by
  obtain ⟨l1, l2, mb, D, l3, r⟩ := h
  exact ⟨Nat.le_trans hl l1, fun b hb => Nat.le_trans hl (l2 b hb), mb, D, Nat.le_trans hl l3, r⟩

/-- What grown answers. -/
def GrownP (w : World) (e : Ending) (w' : World) : Prop := ∃ bb Bs cur, e = .returned (.pointer (some ⟨bb, 0, none⟩)) ∧ BookAt w' w.heap.size bb Bs cur ∧ NE Bs ∧ Below w.heap.size w w'
set_option maxRecDepth 4000 in
set_option maxHeartbeats 2000000 in
theorem grown_any (va vl : Value) (L : Es) (Os : List OpR) (w : World) (ha : EntB w va L) (hl : OpsB w vl Os) : Calls Tryz.prog 4 #[va, vl] w (GrownP w) := by
  obtain ⟨a2, cap2, rfl, hOl, hO⟩ := hl
  obtain ⟨a1, cap1, e1⟩ := ha.1.len
  rw [e1]
  rw [e1] at ha
  go_enter Tryz.func4, Tryz.ntmps4
  go_wp2_with (first
    | (go_at_call 14; refine (empty_any _).mono ?_; rintro e w1 ⟨rfl, hM1, hb1⟩; have hm1 : MapE w1 _ [] := ⟨_, hM1, rfl⟩)
    | (go_at_call 13; refine (mapOf_any _ _ _ L _ hm1 (ha.later hb1)).mono ?_; rintro e w2 ⟨m2, rfl, hm2, hb2⟩)
    | (go_at_call 12; refine (book_any m2 _ _ hm2).mono ?_; rintro e w3 ⟨bb, b0, rfl, hB3, hn0, -, -, -, hb3⟩))
  have hB2 := below_step hb1 hb2
  have hBk := hB3.lower hB2.size
  have hBw := below_step hB2 hb3
  clear hM1 hm1 hm2 hB3 ha
  go_loopw [6] (fun i wr => ∃ (j : Nat) (Bs : List Br) (cur : ByteArray), j ≤ Os.length ∧ i = .int .i64 j ∧ BookAt wr w.heap.size bb Bs cur ∧ NE Bs ∧ Below w.heap.size w wr) (fun i _ => Os.length - (intOf i).toNat)
  case atStart => exact ⟨0, _, _, by omega, rfl, hBk, fun x hx => by rw [List.mem_singleton.1 hx, hn0]; decide, hBw⟩
  case round =>
    obtain ⟨j, Bs, cur, hj, rfl, hBr, hNE, hB⟩ := hrel
    by_cases hlt : j < Os.length
    · have hlt' : (j : Int) < Os.length := by omega
      have hltd : decide ((j : Int) < (Os.length : Int)) = true := decide_eq_true hlt'
      have hj0 : (0 : Int) ≤ (j : Int) := by omega
      rcases hO with h0 | ⟨g, off, rfl, hg, hc⟩
      · rw [h0] at hlt; simp at hlt
      obtain ⟨⟨c0, c1, c2, c3, c4⟩, hI⟩ := hc j hlt
      have hdo := do_any w.heap.size bb { data := #[] } Bs cur Os[j] wr hB.size (hI.later hB) hBr
      obtain ⟨a3, cap3, e3⟩ := hI.1.1.len
      rw [opV, e3] at hdo
      rw [e3] at c4
      generalize Os[j].kind = k at *
      generalize Os[j].b = ob at *
      generalize Os[j].n = on at *
      generalize Os[j].name = nm at *
      generalize Os[j].In.length = il at *
      replace c0 := (hB.cell (p := ⟨g, _, none⟩) hg).trans c0
      replace c1 := (hB.cell (p := ⟨g, _, none⟩) hg).trans c1
      replace c2 := (hB.cell (p := ⟨g, _, none⟩) hg).trans c2
      replace c3 := (hB.cell (p := ⟨g, _, none⟩) hg).trans c3
      replace c4 := (hB.cell (p := ⟨g, _, none⟩) hg).trans c4
      clear hc hI e3
      go_wp2_with (go_at_call 11; refine hdo.mono ?_; rintro e w5 ⟨rfl, Bs5, cur5, hB5, hM5, -, hN5⟩)
      go_roundw
      case rel => exact ⟨j + 1, Bs5, cur5, by omega, by go_num, hB5, hN5 hNE, hM5.below hB (Nat.le_refl _)⟩
      case measure => simp [intOf]; omega
    · have hlt' : ¬ (j : Int) < Os.length := by omega
      have hltd : decide ((j : Int) < (Os.length : Int)) = false := decide_eq_false hlt'
      go_wp2
      go_ret
      exact ⟨bb, Bs, cur, rfl, hBr, hNE, hB⟩

end Go.Proofs.YtblfdjdhikfjhaaGreat


namespace Go.Proofs.YtblfdjdhikfjhaaGreat.BZ
open Go.RowKit

def GrownX (k : Nat) (w : World) (e : Ending) (w' : World) : Prop := ∃ bb Bs cur, e = .returned (.pointer (some ⟨bb, 0, none⟩)) ∧ BookAt w' w.heap.size bb Bs cur ∧ Gd k Bs ∧ Below w.heap.size w w'
theorem gd_new {L : Es} (hR : EsR L) {b : Br} (h1 : b.nm = sMain) (h2 : b.Ls = [putE [] L]) (h4 : b.bs = putE [] L) : Gd L.length [b] := by
  have hl : (putE [] L).length ≤ L.length := by have := putE_len [] L; simpa using this
  have hr : EsR (putE [] L) := esR_putE esR_nil hR
  refine ⟨fun x hx => ?_, b, by simp, h1⟩
  rw [List.mem_singleton.1 hx]
  exact ⟨by rw [h1]; decide, by rw [h4]; exact ⟨hl, hr⟩, fun L' hL' => by rw [h2, List.mem_singleton] at hL'; rw [hL']; exact ⟨hl, hr⟩⟩

set_option maxRecDepth 4000 in
set_option maxHeartbeats 2000000 in
theorem grown_x (va vl : Value) (L : Es) (Os : List OpR) (hRa : EsR L) (hRo : ∀ o ∈ Os, EsR o.In) (w : World) (ha : EntB w va L) (hl : OpsB w vl Os) : Calls Tryz.prog 4 #[va, vl] w (GrownX (L.length + tot Os) w) := by
  obtain ⟨a2, cap2, rfl, hOl, hO⟩ := hl
  obtain ⟨a1, cap1, e1⟩ := ha.1.len
  rw [e1]
  rw [e1] at ha
  go_enter Tryz.func4, Tryz.ntmps4
  go_wp2_with (first
    | (go_at_call 14; refine (empty_any _).mono ?_; rintro e w1 ⟨rfl, hM1, hb1⟩; have hm1 : MapE w1 _ [] := ⟨_, hM1, rfl⟩)
    | (go_at_call 13; refine (mapOf_any _ _ _ L _ hm1 (ha.later hb1)).mono ?_; rintro e w2 ⟨m2, rfl, hm2, hb2⟩)
    | (go_at_call 12; refine (book_any m2 _ _ hm2).mono ?_; rintro e w3 ⟨bb, b0, rfl, hB3, hn0, hn1, -, hn2, hb3⟩))
  have hB2 := below_step hb1 hb2
  have hBk := hB3.lower hB2.size
  have hBw := below_step hB2 hb3
  have hG0 := gd_new hRa hn0 hn1 hn2
  clear hM1 hm1 hm2 hB3 ha hn0 hn1 hn2
  go_loopw [6] (fun i wr => ∃ (j : Nat) (Bs : List Br) (cur : ByteArray), j ≤ Os.length ∧ i = .int .i64 j ∧ BookAt wr w.heap.size bb Bs cur ∧ Gd (L.length + tot (Os.take j)) Bs ∧ Below w.heap.size w wr) (fun i _ => Os.length - (intOf i).toNat)
  case atStart => exact ⟨0, _, _, by omega, rfl, hBk, by simpa [tot] using hG0, hBw⟩
  case round =>
    obtain ⟨j, Bs, cur, hj, rfl, hBr, hGr, hB⟩ := hrel
    by_cases hlt : j < Os.length
    · have hlt' : (j : Int) < Os.length := by omega
      have hltd : decide ((j : Int) < (Os.length : Int)) = true := decide_eq_true hlt'
      have hj0 : (0 : Int) ≤ (j : Int) := by omega
      rcases hO with h0 | ⟨g, off, rfl, hg, hc⟩
      · rw [h0] at hlt; simp at hlt
      obtain ⟨⟨c0, c1, c2, c3, c4⟩, hI⟩ := hc j hlt
      have hdo := dq_any w.heap.size bb { data := #[] } Bs cur Os[j] wr hB.size (hI.later hB) (hRo _ (List.getElem_mem hlt)) hBr
      have htt := tot_take Os j hlt
      obtain ⟨a3, cap3, e3⟩ := hI.1.1.len
      rw [opV, e3] at hdo
      rw [e3] at c4
      have hGn : ∀ Bs', (∀ k, Gd k Bs → Gd (k + Os[j].In.length) Bs') → Gd (L.length + tot (Os.take (j + 1))) Bs' := fun Bs' h => by rw [htt, ← Nat.add_assoc]; exact h _ hGr
      generalize Os[j].kind = k at *
      generalize Os[j].b = ob at *
      generalize Os[j].n = on at *
      generalize Os[j].name = nm at *
      generalize Os[j].In.length = il at *
      replace c0 := (hB.cell (p := ⟨g, _, none⟩) hg).trans c0
      replace c1 := (hB.cell (p := ⟨g, _, none⟩) hg).trans c1
      replace c2 := (hB.cell (p := ⟨g, _, none⟩) hg).trans c2
      replace c3 := (hB.cell (p := ⟨g, _, none⟩) hg).trans c3
      replace c4 := (hB.cell (p := ⟨g, _, none⟩) hg).trans c4
      clear hc hI e3 htt
      go_wp2_with (go_at_call 11; refine hdo.mono ?_; rintro e w5 ⟨rfl, Bs5, cur5, hB5, hM5, hN5⟩)
      go_roundw
      case rel => exact ⟨j + 1, Bs5, cur5, by omega, by go_num, hB5, hGn _ hN5, hM5.below hB (Nat.le_refl _)⟩
      case measure => simp [intOf]; omega
    · have hlt' : ¬ (j : Int) < Os.length := by omega
      have hltd : decide ((j : Int) < (Os.length : Int)) = false := decide_eq_false hlt'
      have hGe : Gd (L.length + tot Os) Bs := by
        obtain rfl : j = Os.length := by omega
        rwa [List.take_length] at hGr
      go_wp2
      go_ret
      exact ⟨bb, Bs, cur, rfl, hBr, hGe, hB⟩

end Go.Proofs.YtblfdjdhikfjhaaGreat.BZ

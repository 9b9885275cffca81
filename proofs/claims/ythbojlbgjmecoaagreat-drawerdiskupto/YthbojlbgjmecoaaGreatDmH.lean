import Derived.Test.YthbojlbgjmecoaaGreatDmG
/- change: what every changing call has in common. -/
namespace Go.Proofs.YthbojlbgjmecoaaGreat.DJ
open Go.RowKit

def chg (d : Dk) (nm : List Nat) (cost B : Nat) (F : Nat → List Fl) : Nat × Dk :=
  if (first d nm).1 ≠ 0 then first d nm
  else if B ≠ 0 then (B, (first d nm).2)
  else if paidU (first d nm).2 cost < cost then (190, { falls (first d nm).2 with fs := F (paidU (first d nm).2 cost) })
  else (0, { paidD (first d nm).2 cost with fs := F cost })
theorem first_reach {d : Dk} {nm : List Nat} (h : (if ¬ named nm then 192 else if d.down then 190 else 0 : Nat) ≠ 0) : first d nm = ((if ¬ named nm then 192 else if d.down then 190 else 0 : Nat), d) := by
  unfold first
  by_cases hn : named nm
  · by_cases hd : d.down = true
    · simp [hn, hd]
    · exfalso; apply h; simp [hn, hd]
  · simp [hn]
theorem first_up {d : Dk} {nm : List Nat} (h : (if ¬ named nm then 192 else if d.down then 190 else 0 : Nat) = 0) : first d nm = (if 0 < d.calls ∧ d.after = 0 then 191 else 0, struck d) := by
  unfold first
  by_cases hn : named nm
  · rw [if_neg (fun h => h hn)] at h ⊢
    by_cases hd : d.down = true
    · rw [if_pos hd] at h; cases h
    · rw [if_neg hd]
      unfold struck
      by_cases hc : 0 < d.calls
      · by_cases ha : 0 < d.after
        · rw [if_pos hc, if_pos ha, if_neg (by omega), if_neg (by omega), if_pos ha]
        · rw [if_pos hc, if_neg ha, if_pos (by omega), if_neg (by omega), if_neg ha]
      · rw [if_neg hc, if_neg (by omega), if_pos (by omega)]
  · rw [if_pos hn] at h; cases h
theorem up_not {d : Dk} {nm : List Nat} (h : (if ¬ named nm then 192 else if d.down then 190 else 0 : Nat) = 0) : d.down = false := by
  split at h
  · cases h
  · cases hd : d.down with
    | false => rfl
    | true => rw [hd] at h; cases h

/-- The door: the function is left, its deferred one is called. -/
theorem door_no {R : Ending → World → Prop} {tmps : Array Value} {eb xb : Nat} {e : Int} {X : World} (ht : tmps[10]? = some (.pointer (some ⟨eb, 0, none⟩))) (h0 : X.cell? ⟨eb, 0, none⟩ = some (.int .i64 e)) (he : (e == 190) = false) (hR : R (.returned (.int .i64 e)) X) :
    bodyPostD Tryz.prog Tryz.f66 R Exit.ret { tmps := tmps, defers := [{ target := .fn (.func 86) #[.pointer (some ⟨eb, 0, none⟩), .pointer (some ⟨xb, 0, none⟩)], args := #[] }] } X := by
  refine leaves_cons (f := 86) (args := #[.pointer (some ⟨eb, 0, none⟩), .pointer (some ⟨xb, 0, none⟩)]) (by simp) (by simp [go_sem]) ?_
  refine (change1_no he eb xb .returning X h0).mono ?_
  rintro e' u' w'' ⟨rfl, rfl, rfl⟩
  refine ⟨.int .i64 e, ?_, hR⟩
  simp [results, Tryz.results66, go_sem, ht, h0]

theorem door_yes {R : Ending → World → Prop} {tmps : Array Value} {eb xb lo db : Nat} {S : Nat → Prop} {d : Dk} {X : World} (ht : tmps[10]? = some (.pointer (some ⟨eb, 0, none⟩))) (h0 : X.cell? ⟨eb, 0, none⟩ = some (.int .i64 190)) (h1 : X.cell? ⟨xb, 0, none⟩ = some (.pointer (some ⟨db, 0, none⟩))) (h : DiskAt X lo S db d) (hne : eb ≠ db)
    (hR : ∀ Y, DiskAt Y lo S db (falls d) → GrS (fun k => k = db) X Y → R (.returned (.int .i64 190)) Y) :
    bodyPostD Tryz.prog Tryz.f66 R Exit.ret { tmps := tmps, defers := [{ target := .fn (.func 86) #[.pointer (some ⟨eb, 0, none⟩), .pointer (some ⟨xb, 0, none⟩)], args := #[] }] } X := by
  refine leaves_cons (f := 86) (args := #[.pointer (some ⟨eb, 0, none⟩), .pointer (some ⟨xb, 0, none⟩)]) (by simp) (by simp [go_sem]) ?_
  refine (change1_yes eb xb .returning X h0 h1 h).mono ?_
  rintro e' u' Y ⟨rfl, rfl, hD, hg⟩
  have h2 := (hg.cell (o := 0) (World.block_lt_of_cell? _ _ h0) hne).trans h0
  refine ⟨.int .i64 190, ?_, hR Y hD hg⟩
  simp [results, Tryz.results66, go_sem, ht, h2]

theorem first_down {d : Dk} (hr : Rigs d) (hd : d.down = true) : falls d = d := by
  obtain ⟨h1, h2, h3⟩ := hr.dn hd
  obtain ⟨fs, dn, un, af, ca⟩ := d
  simp only at h1 h2 h3 hd
  subst h1 h2 h3 hd
  rfl
theorem chg_reach {d : Dk} {nm : List Nat} {cost B r : Nat} {F : Nat → List Fl} (hr : (if ¬ named nm then 192 else if d.down then 190 else 0 : Nat) = r) (h0 : r ≠ 0) : chg d nm cost B F = (r, d) := by
  have := first_reach (hr ▸ h0)
  unfold chg
  rw [this, hr, if_pos h0]
theorem chg_hit {d : Dk} {nm : List Nat} {cost B : Nat} {F : Nat → List Fl} (hr : (if ¬ named nm then 192 else if d.down then 190 else 0 : Nat) = 0) (h0 : 0 < d.calls ∧ d.after = 0) : chg d nm cost B F = (191, struck d) := by
  unfold chg
  rw [first_up hr, if_pos h0]
  rfl
theorem chg_bar {d : Dk} {nm : List Nat} {cost B : Nat} {F : Nat → List Fl} (hr : (if ¬ named nm then 192 else if d.down then 190 else 0 : Nat) = 0) (h0 : ¬ (0 < d.calls ∧ d.after = 0)) (hB : B ≠ 0) : chg d nm cost B F = (B, struck d) := by
  unfold chg
  rw [first_up hr, if_neg h0]
  simp [hB]
theorem chg_do {d : Dk} {nm : List Nat} {cost : Nat} {F : Nat → List Fl} (hr : (if ¬ named nm then 192 else if d.down then 190 else 0 : Nat) = 0) (h0 : ¬ (0 < d.calls ∧ d.after = 0)) : chg d nm cost 0 F = if paidU (struck d) cost < cost then (190, { falls (struck d) with fs := F (paidU (struck d) cost) }) else (0, { paidD (struck d) cost with fs := F cost }) := by
  unfold chg
  rw [first_up hr, if_neg h0]
  simp

set_option maxRecDepth 4000 in
set_option maxHeartbeats 1000000 in
theorem change_any {lo db : Nat} {S : Nat → Prop} {d : Dk} {nm : List Nat} (hb : ∀ x ∈ nm, x < 256) {cost B : Nat} (hB : B ≠ 190) (hcost : cost ≤ 9223372036854775807) {F : Nat → List Fl} (nb nd : FuncId) (hnb : ∀ (x : Array Value) (w : World), (callFunc nb x).run Tryz.prog w = .ok (.enter nb x) w) (hnd : ∀ (x : Array Value) (w : World), (callFunc nd x).run Tryz.prog w = .ok (.enter nd x) w) (cb cd : Array Value) (w : World) (h : DiskAt w lo S db d)
    (hbar : ∀ X, GrS S w X → DiskAt X lo S db (struck d) → Calls Tryz.prog nb cb X fun e X' => e = .returned (.int .i64 (B : Nat)) ∧ X' = X)
    (hdo : B = 0 → named nm → ∀ X u, u ≤ cost → GrS S w X → DiskAt X lo S db (paidD (struck d) cost) → Calls Tryz.prog nd (#[.int .i64 (u : Nat)] ++ cd) X fun e X' => e = .returned (.tuple #[]) ∧ ∃ S', DiskAt X' lo S' db { paidD (struck d) cost with fs := F u } ∧ Dv S X S' X') :
    Calls Tryz.prog 66 #[.pointer (some ⟨db, 0, none⟩), .string (strB nm), .int .i64 (cost : Int), .func (.func nb) #[] cb, .func (.func nd) #[] cd] w fun e w' => e = .returned (.int .i64 ((chg d nm cost B F).1 : Nat)) ∧ ∃ S', DiskAt w' lo S' db (chg d nm cost B F).2 ∧ Dv S w S' w' := by
  have hmf : ∀ (fn : Fn) (first cap : Array Value) (w : World), (Instr.makeFunc fn first cap).run Tryz.prog w = .ok (.func fn first cap) w := fun _ _ _ _ => rfl
  have hdb := h.lt
  have hSl : ∀ k, S k → k < w.heap.size ∧ lo ≤ k := fun k hk => by
    obtain ⟨mb, D, fb, vv, h⟩ := h
    exact ⟨h.hi k hk, h.low k hk⟩
  have hSd : S db := by
    obtain ⟨mb, D, fb, vv, h⟩ := h
    exact h.Sdb
  have hrg : Rigs d := by
    obtain ⟨mb, D, fb, vv, h⟩ := h
    exact h.rigs
  have hw1 : Below w.heap.size w ((w.alloc (.cells #[.pointer (some ⟨db, 0, none⟩)] 27)).alloc (.cells #[.int .i64 0] 69)) := ((Below.refl _ _).alloc (Nat.le_refl _) _).alloc (by simp) _
  have hr1 := reach_any hb _ (h.later hw1)
  obtain ⟨r, hr⟩ : ∃ r : Nat, (if ¬ named nm then 192 else if d.down then 190 else 0 : Nat) = r := ⟨_, rfl⟩
  rw [hr] at hr1
  by_cases h0 : r = 0
  case neg =>
    have hne : ((r : Int) != 0) = true := by rw [bne_iff_ne]; omega
    have hw2 : Below w.heap.size w ((w.alloc (.cells #[.pointer (some ⟨db, 0, none⟩)] 27)).alloc (.cells #[.int .i64 (r : Int)] 69)) := ((Below.refl _ _).alloc (Nat.le_refl _) _).alloc (by simp) _
    have hD2 := h.later hw2
    have g0 : ((w.alloc (.cells #[.pointer (some ⟨db, 0, none⟩)] 27)).alloc (.cells #[.int .i64 (r : Int)] 69)).cell? ⟨w.heap.size + 1, 0, none⟩ = some (.int .i64 (r : Int)) := by
      have := heap_new (w.alloc (.cells #[.pointer (some ⟨db, 0, none⟩)] 27)) (.cells #[.int .i64 (r : Int)] 69)
      rw [World.size_alloc] at this
      exact cell_of_row _ _ 0 _ _ _ this
    have g1 : ((w.alloc (.cells #[.pointer (some ⟨db, 0, none⟩)] 27)).alloc (.cells #[.int .i64 (r : Int)] 69)).cell? ⟨w.heap.size, 0, none⟩ = some (.pointer (some ⟨db, 0, none⟩)) := by
      have := (Below.heap_alloc (w.alloc (.cells #[.pointer (some ⟨db, 0, none⟩)] 27)) (.cells #[.int .i64 (r : Int)] 69) w.heap.size (by simp)).trans (heap_new w (.cells #[.pointer (some ⟨db, 0, none⟩)] 27))
      exact cell_of_row _ _ 0 _ _ _ this
    have hch := chg_reach (cost := cost) (B := B) (F := F) hr h0
    rw [hch]
    generalize strB nm = s at *
    go_enter_defers Tryz.func66, Tryz.ntmps66
    go_wp2_with (go_at_call 77; refine hr1.mono ?_; rintro e w9 ⟨rfl, rfl⟩)
    by_cases h190 : r = 190
    · subst h190
      have hdn : d.down = true := by
        by_cases hd : d.down = true
        · exact hd
        · rw [if_neg hd] at hr
          split at hr <;> cases hr
      refine door_yes rfl g0 g1 hD2 (by omega) fun Y hY hg => ?_
      rw [first_down hrg hdn] at hY
      exact ⟨rfl, S, hY, ⟨(GrS.of_below hw2).trans (hg.mono (fun k _ e => e ▸ hSd)), fun k hk => .inl hk⟩⟩
    · refine door_no rfl g0 (by rw [beq_eq_false_iff_ne]; omega) ?_
      exact ⟨rfl, S, hD2, .below hw2⟩
  subst h0
  obtain ⟨W1, hW1⟩ : ∃ W1, (w.alloc (.cells #[.pointer (some ⟨db, 0, none⟩)] 27)).alloc (.cells #[.int .i64 0] 69) = W1 := ⟨_, rfl⟩
  have g0 : W1.heap[w.heap.size + 1]? = some (.cells #[.int .i64 0] 69 (0, 0)) := by
    have := heap_new (w.alloc (.cells #[.pointer (some ⟨db, 0, none⟩)] 27)) (.cells #[.int .i64 0] 69)
    rw [World.size_alloc, hW1] at this
    exact this
  have g1 : W1.heap[w.heap.size]? = some (.cells #[.pointer (some ⟨db, 0, none⟩)] 27 (0, 0)) := by
    rw [← hW1]
    exact (Below.heap_alloc (w.alloc (.cells #[.pointer (some ⟨db, 0, none⟩)] 27)) (.cells #[.int .i64 0] 69) w.heap.size (by simp)).trans (heap_new w (.cells #[.pointer (some ⟨db, 0, none⟩)] 27))
  rw [hW1] at hw1 hr1
  have hD1 := h.later hw1
  have hst := strike_any W1 hD1
  have c0 : W1.cell? ⟨w.heap.size + 1, 0, none⟩ = some (.int .i64 0) := cell_of_row _ _ 0 _ _ _ g0
  have c1 : W1.cell? ⟨w.heap.size, 0, none⟩ = some (.pointer (some ⟨db, 0, none⟩)) := cell_of_row _ _ 0 _ _ _ g1
  have hlt : w.heap.size + 1 < W1.heap.size := (Array.getElem?_eq_some_iff.1 g0).1
  have key : ∀ (S' : Nat → Prop) (X : World), Dv S w S' X → X.heap[w.heap.size + 1]? = some (.cells #[.int .i64 0] 69 (0, 0)) → (∀ k, S' k → k ≠ w.heap.size + 1 ∧ k ≠ w.heap.size) → ∀ (e : Int) (dx : Dk), DiskAt X lo S' db dx → (X.setCell ⟨w.heap.size + 1, 0, none⟩ (.int .i64 e)).cell? ⟨w.heap.size + 1, 0, none⟩ = some (.int .i64 e) ∧ DiskAt (X.setCell ⟨w.heap.size + 1, 0, none⟩ (.int .i64 e)) lo S' db dx ∧ Dv S w S' (X.setCell ⟨w.heap.size + 1, 0, none⟩ (.int .i64 e)) := fun S' X hv hX hS' e dx hd => by
    have hs := grS_set X (w.heap.size + 1) 0 (.int .i64 e)
    refine ⟨cell_of_row _ _ 0 _ _ _ (heap_setCell_same _ _ _ _ _ _ hX), hd.grS hs (fun k hk e => (hS' k hk).1 e), ?_⟩
    refine ⟨⟨hs.os.trans hv.gr.os, hs.tape.trans hv.gr.tape, hs.output.trans hv.gr.output, Nat.le_trans hv.gr.size hs.size, fun k hk hn => (hs.block k (Nat.lt_of_lt_of_le hk hv.gr.size) (by omega)).trans (hv.gr.block k hk hn)⟩, hv.sub⟩
  by_cases hhit : 0 < d.calls ∧ d.after = 0
  · have hch := chg_hit (cost := cost) (B := B) (F := F) hr hhit
    rw [hch]
    rw [decide_eq_true hhit] at hst
    generalize strB nm = s at *
    go_enter_defers Tryz.func66, Tryz.ntmps66
    go_wp2_with (first | (go_at_call 77; refine hr1.mono ?_; rintro e w9 ⟨rfl, rfl⟩) | (go_at_call 87; refine hst.mono ?_; rintro e w2 ⟨rfl, hD2, hg2⟩; have q0 := (hg2.block (w.heap.size + 1) hlt (by omega)).trans g0; have q1 := cell_of_row _ _ 0 _ _ _ q0; have q2 := frozen_of_row w2 (w.heap.size + 1) 0 _ _ q0; simp only [List.getElem?_toArray, List.getElem?_cons_zero] at q1))
    obtain ⟨a1, a2, a3⟩ := key S w2 ⟨(GrS.of_below hw1).trans (hg2.mono (fun k _ e => e ▸ hSd)), fun k hk => .inl hk⟩ q0 (fun k hk => by have := (hSl k hk).1; omega) 191 _ hD2
    exact door_no rfl a1 (by decide) ⟨rfl, S, a2, a3⟩
  rw [decide_eq_false hhit] at hst
  by_cases hB0 : B = 0
  case neg =>
    have hch := chg_bar (cost := cost) (F := F) hr hhit hB0
    rw [hch]
    have hBn : ((B : Int) != 0) = true := by rw [bne_iff_ne]; omega
    generalize strB nm = s at *
    go_enter_defers Tryz.func66, Tryz.ntmps66
    go_wp2_with (first | (go_at_call 77; refine hr1.mono ?_; rintro e w9 ⟨rfl, rfl⟩) | (go_at_call 87; refine hst.mono ?_; rintro e w2 ⟨rfl, hD2, hg2⟩; have q0 := (hg2.block (w.heap.size + 1) hlt (by omega)).trans g0; have q1 := cell_of_row _ _ 0 _ _ _ q0; have q2 := frozen_of_row w2 (w.heap.size + 1) 0 _ _ q0; simp only [List.getElem?_toArray, List.getElem?_cons_zero] at q1))
    have hG2 : GrS S w w2 := (GrS.of_below hw1).trans (hg2.mono (fun k _ e => e ▸ hSd))
    refine (hbar w2 hG2 hD2).mono ?_
    rintro e w9 ⟨rfl, rfl⟩
    clear hbar hdo hst hr1
    go_wp2
    obtain ⟨a1, a2, a3⟩ := key S w9 ⟨hG2, fun k hk => .inl hk⟩ q0 (fun k hk => by have := (hSl k hk).1; omega) (B : Int) _ hD2
    exact door_no rfl a1 (by rw [beq_eq_false_iff_ne]; omega) ⟨rfl, S, a2, a3⟩
  subst hB0
  have hch := chg_do (cost := cost) (F := F) hr hhit
  rw [hch]
  obtain ⟨u, hu⟩ : ∃ u, paidU (struck d) cost = u := ⟨_, rfl⟩
  have hule : u ≤ cost := hu ▸ paidU_le _ _
  rw [hu]
  obtain ⟨rr, hrr⟩ : ∃ rr, (if u < cost then (190, { falls (struck d) with fs := F u }) else (0, { paidD (struck d) cost with fs := F cost }) : Nat × Dk) = rr := ⟨_, rfl⟩
  rw [hrr]
  replace hrr := Hid.mk hrr
  replace hdo := hdo rfl (by
    by_cases hn : named nm
    · exact hn
    · rw [if_pos hn] at hr; cases hr)
  generalize strB nm = s at *
  go_enter_defers Tryz.func66, Tryz.ntmps66
  go_wp2_with (first | (go_at_call 77; refine hr1.mono ?_; rintro e w9 ⟨rfl, rfl⟩) | (go_at_call 87; refine hst.mono ?_; rintro e w2 ⟨rfl, hD2, hg2⟩; have p0 := (hg2.block (w.heap.size + 1) hlt (by omega)).trans g0; have p1 := (hg2.block w.heap.size (by omega) (by omega)).trans g1; have p2 := cell_of_row _ _ 0 _ _ _ p1; simp only [List.getElem?_toArray, List.getElem?_cons_zero] at p2))
  have hG2 : GrS S w w2 := (GrS.of_below hw1).trans (hg2.mono (fun k _ e => e ▸ hSd))
  have hlt2 : w.heap.size + 1 < w2.heap.size := Nat.lt_of_lt_of_le hlt hg2.size
  have hpy := pay_any hcost w2 hD2
  rw [hu] at hpy
  refine (hbar w2 hG2 hD2).mono ?_
  rintro e w9 ⟨rfl, rfl⟩
  clear hbar hst hr1
  go_wp2_with (go_at_call 88; refine hpy.mono ?_; rintro e w3 ⟨rfl, hD3, hg3⟩)
  have p3 := (hg3.block (w.heap.size + 1) hlt2 (by omega)).trans p0
  have p4 := (hg3.block w.heap.size (by omega) (by omega)).trans p1
  have hG3 : GrS S w w3 := hG2.trans (hg3.mono (fun k _ e => e ▸ hSd))
  have hlt3 : w.heap.size + 1 < w3.heap.size := Nat.lt_of_lt_of_le hlt2 hg3.size
  refine (hdo w3 u hule hG3 hD3).mono ?_
  rintro e w4 ⟨rfl, S', hD4, hv4⟩
  have q0 := (hv4.gr.block (w.heap.size + 1) hlt3 (fun e => by have := (hSl _ e).1; omega)).trans p3
  have q5 := (hv4.gr.block w.heap.size (by omega) (fun e => by have := (hSl _ e).1; omega)).trans p4
  have q1 := cell_of_row _ _ 0 _ _ _ q0
  have q2 := frozen_of_row w4 (w.heap.size + 1) 0 _ _ q0
  simp only [List.getElem?_toArray, List.getElem?_cons_zero] at q1
  have hV : Dv S w S' w4 := Dv.trans ⟨hG3, fun k hk => .inl hk⟩ hv4
  have hS' : ∀ k, S' k → k ≠ w.heap.size + 1 ∧ k ≠ w.heap.size := fun k hk => by
    rcases hv4.sub k hk with h' | h'
    · have := (hSl k h').1; omega
    · omega
  clear hdo hpy
  by_cases hlt9 : u < cost
  · have hlt9' : (u : Int) < (cost : Int) := by omega
    go_wp2
    have hrr' := hrr.out
    rw [if_pos hlt9] at hrr'
    subst hrr'
    obtain ⟨a1, a2, a3⟩ := key S' w4 hV q0 hS' 190 _ hD4
    have q6 : (w4.setCell ⟨w.heap.size + 1, 0, none⟩ (.int .i64 190)).cell? ⟨w.heap.size, 0, none⟩ = some (.pointer (some ⟨db, 0, none⟩)) := by
      have := (Below.heap_setCell w4 ⟨w.heap.size + 1, 0, none⟩ (.int .i64 190) w.heap.size (by simp)).trans q5
      exact cell_of_row _ _ 0 _ _ _ this
    refine door_yes rfl a1 q6 a2 (by omega) fun Y hY hg => ?_
    refine ⟨rfl, S', ?_, ?_⟩
    · have e1 : falls { paidD (struck d) cost with fs := F u } = { falls (struck d) with fs := F u } := rfl
      rw [e1] at hY
      exact hY
    · exact Dv.trans a3 ⟨hg.mono (fun k _ e => by rw [e]; obtain ⟨mb, D, fb, vv, h9⟩ := hD4; exact h9.Sdb), fun k hk => .inl hk⟩
  · have hlt9' : ¬ (u : Int) < (cost : Int) := by omega
    obtain rfl : u = cost := by omega
    go_wp2
    have hrr' := hrr.out
    rw [if_neg hlt9] at hrr'
    subst hrr'
    obtain ⟨a1, a2, a3⟩ := key S' w4 hV q0 hS' 0 _ hD4
    exact door_no rfl a1 (by decide) ⟨rfl, S', a2, a3⟩
end Go.Proofs.YthbojlbgjmecoaaGreat.DJ

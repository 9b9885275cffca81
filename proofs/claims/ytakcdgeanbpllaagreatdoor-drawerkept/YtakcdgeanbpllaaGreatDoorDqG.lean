import Derived.Test.YtakcdgeanbpllaaGreatDoorDmL
/- Sync and Trim once more: the files' blocks stay where they are. (Made by wip/open/mkDqG.py out of DmE to DmK.) -/
namespace Go.Proofs.YtakcdgeanbpllaaGreatDoor.DJ.G
open Go.RowKit

/-- A disk whose files' blocks are such as I says. -/
def DiskG (I : (List Nat → Nat) → Prop) (W : World) (lo : Nat) (S : Nat → Prop) (db : Nat) (d : Dk) : Prop := ∃ mb D fb vv, Lay W lo S db d mb D fb vv ∧ I fb
theorem DiskG.at {I : (List Nat → Nat) → Prop} {W : World} {lo : Nat} {S : Nat → Prop} {db : Nat} {d : Dk} (h : DiskG I W lo S db d) : DiskAt W lo S db d := by
  obtain ⟨mb, D, fb, vv, h, -⟩ := h
  exact ⟨mb, D, fb, vv, h⟩
theorem DiskG.grS {I : (List Nat → Nat) → Prop} {T S : Nat → Prop} {W W' : World} {lo db : Nat} {d : Dk} (h : DiskG I W lo S db d) (hg : GrS T W W') (hd : ∀ k, S k → ¬ T k) : DiskG I W' lo S db d := by
  obtain ⟨mb, D, fb, vv, h, hI⟩ := h
  exact ⟨mb, D, fb, vv, h.grS hg hd, hI⟩
theorem DiskG.later {I : (List Nat → Nat) → Prop} {S : Nat → Prop} {W W' : World} {lo db : Nat} {d : Dk} (h : DiskG I W lo S db d) (hb : Below W.heap.size W W') : DiskG I W' lo S db d := h.grS (T := fun _ => False) (.of_below hb) (fun _ _ h => h)
theorem DiskG.lt {I : (List Nat → Nat) → Prop} {S : Nat → Prop} {W : World} {lo db : Nat} {d : Dk} (h : DiskG I W lo S db d) : db < W.heap.size := h.at.lt

set_option maxRecDepth 4000 in
set_option maxHeartbeats 1000000 in
theorem strike_any {I : (List Nat → Nat) → Prop} {lo db : Nat} {S : Nat → Prop} {d : Dk} (w : World) (h : DiskG I w lo S db d) :
    Calls Tryz.prog 148 #[.pointer (some ⟨db, 1, none⟩)] w fun e w' => e = .returned (.bool (decide (0 < d.calls ∧ d.after = 0))) ∧ DiskG I w' lo S db (struck d) ∧ GrS (fun k => k = db) w w' := by
  obtain ⟨mb, D, fb, vv, h, hI⟩ := h
  obtain ⟨-, -, -, c3, c4, -⟩ := h.cells
  have hrow := h.row
  unfold dkRow at hrow
  have f3 := frozen_of_row w db 3 _ _ hrow
  have f4 := frozen_of_row w db 4 _ _ hrow
  have r1 := h.rigs.af
  have r2 := h.rigs.ca
  by_cases hc : d.calls = 0
  · have hc' : ((d.calls : Int) == 0) = true := by rw [hc]; rfl
    rw [decide_eq_false (by omega), show struck d = d by unfold struck; rw [if_pos hc]]
    have hD : Hid (DiskG I w lo S db d) := ⟨mb, D, fb, vv, h, hI⟩
    clear h hrow
    generalize d.calls = cc at *
    go_enter Tryz.func148, Tryz.ntmps148
    go_wp2
    go_ret
    exact ⟨rfl, hD.out, .refl _ _⟩
  have hc' : ((d.calls : Int) == 0) = false := by rw [beq_eq_false_iff_ne]; omega
  by_cases ha : 0 < d.after
  · rw [decide_eq_false (by omega)]
    have hs : struck d = { d with after := d.after - 1 } := by unfold struck; rw [if_neg hc, if_pos ha]
    have hD : Hid (DiskG I (w.setCell ⟨db, 3, none⟩ (.int .i64 ((d.after : Int) - 1))) lo S db (struck d)) := ⟨mb, D, fb, vv, h.flag (grS_set _ _ _ _) (struck_fs d) h.rigs.struck (by
      rw [heap_setCell_same _ _ _ _ _ _ hrow, hs]
      unfold dkRow
      simp
      omega), hI⟩
    have ha' : (0 : Int) < (d.after : Int) := by omega
    clear h hrow hs
    generalize d.calls = cc at *
    generalize d.after = aa at *
    go_enter Tryz.func148, Tryz.ntmps148
    go_wp2
    go_ret
    exact ⟨rfl, hD.out, grS_set _ _ _ _⟩
  · rw [decide_eq_true (by omega)]
    have hs : struck d = { d with calls := d.calls - 1 } := by unfold struck; rw [if_neg hc, if_neg ha]
    have hD : Hid (DiskG I (w.setCell ⟨db, 4, none⟩ (.int .i64 ((d.calls : Int) - 1))) lo S db (struck d)) := ⟨mb, D, fb, vv, h.flag (grS_set _ _ _ _) (struck_fs d) h.rigs.struck (by
      rw [heap_setCell_same _ _ _ _ _ _ hrow, hs]
      unfold dkRow
      simp
      omega), hI⟩
    have ha' : ¬ (0 : Int) < (d.after : Int) := by omega
    have hc1 : (1 : Int) ≤ (d.calls : Int) := by omega
    clear h hrow hs
    generalize d.calls = cc at *
    generalize d.after = aa at *
    go_enter Tryz.func148, Tryz.ntmps148
    go_wp2
    go_ret
    exact ⟨rfl, hD.out, grS_set _ _ _ _⟩

set_option maxRecDepth 4000 in
set_option maxHeartbeats 1000000 in
theorem pay_any {I : (List Nat → Nat) → Prop} {lo db : Nat} {S : Nat → Prop} {d : Dk} {c : Nat} (hcost : c ≤ 9223372036854775807) (w : World) (h : DiskG I w lo S db d) :
    Calls Tryz.prog 149 #[.pointer (some ⟨db, 1, none⟩), .int .i64 (c : Int)] w fun e w' => e = .returned (.int .i64 (paidU d c : Nat)) ∧ DiskG I w' lo S db (paidD d c) ∧ GrS (fun k => k = db) w w' := by
  obtain ⟨mb, D, fb, vv, h, hI⟩ := h
  obtain ⟨-, c1, c2, -⟩ := h.cells
  have hrow := h.row
  unfold dkRow at hrow
  have f2 := frozen_of_row w db 2 _ _ hrow
  cases hu : d.units with
  | none =>
    have e1 : paidU d c = c := by unfold paidU; rw [hu]
    have e2 : paidD d c = d := by unfold paidD; rw [hu]
    rw [e1, e2]
    have hD : Hid (DiskG I w lo S db d) := ⟨mb, D, fb, vv, h, hI⟩
    rw [hu] at c1
    simp only [Option.isSome_none] at c1
    clear h hrow e1 e2
    go_enter Tryz.func149, Tryz.ntmps149
    go_wp2
    go_ret
    exact ⟨rfl, hD.out, .refl _ _⟩
  | some u =>
    have e1 : paidU d c = min c u := by unfold paidU; rw [hu]
    have e2 : paidD d c = { d with units := some (u - min c u) } := by unfold paidD; rw [hu]
    have hu9 := h.rigs.un u hu
    have hD : Hid (DiskG I (w.setCell ⟨db, 2, none⟩ (.int .i64 ((u : Int) - ((min c u : Nat) : Int)))) lo S db (paidD d c)) := ⟨mb, D, fb, vv, h.flag (grS_set _ _ _ _) (paidD_fs d c) (h.rigs.paid c) (by
      rw [heap_setCell_same _ _ _ _ _ _ hrow, e2, hu]
      unfold dkRow
      simp
      omega), hI⟩
    rw [hu] at c1 c2
    simp only [Option.isSome_some, Option.getD_some] at c1 c2
    rw [e1]
    clear h hrow e1
    generalize paidD d c = d9 at *
    by_cases hcu : c ≤ u
    · rw [Nat.min_eq_left hcu] at *
      have hcu' : (c : Int) ≤ (u : Int) := by omega
      have hmn : min (c : Int) (u : Int) = (c : Int) := by omega
      clear e2
      go_enter Tryz.func149, Tryz.ntmps149
      go_wp2
      go_ret
      exact ⟨rfl, hD.out, grS_set _ _ _ _⟩
    · rw [Nat.min_eq_right (by omega : u ≤ c)] at *
      rw [Int.sub_self] at hD
      have hcu' : (u : Int) ≤ (c : Int) := by omega
      have hmn : min (c : Int) (u : Int) = (u : Int) := by omega
      clear e2
      go_enter Tryz.func149, Tryz.ntmps149
      go_wp2
      go_ret
      exact ⟨rfl, hD.out, grS_set _ _ _ _⟩

set_option maxRecDepth 4000 in
set_option maxHeartbeats 1000000 in
theorem crash_any {I : (List Nat → Nat) → Prop} {lo db : Nat} {S : Nat → Prop} {d : Dk} (w : World) (h : DiskG I w lo S db d) :
    Calls Tryz.prog 37 #[.pointer (some ⟨db, 0, none⟩)] w fun e w' => e = .returned (.tuple #[]) ∧ DiskG I w' lo S db (falls d) ∧ GrS (fun k => k = db) w w' := by
  obtain ⟨mb, D, fb, vv, h, hI⟩ := h
  obtain ⟨c0, c1, c2, c3, c4, c5⟩ := h.cells
  have hrow := h.row
  unfold dkRow at hrow
  have f1 := frozen_of_row w db 1 _ _ hrow
  have f2 := frozen_of_row w db 2 _ _ hrow
  have f3 := frozen_of_row w db 3 _ _ hrow
  have f4 := frozen_of_row w db 4 _ _ hrow
  have f5 := frozen_of_row w db 5 _ _ hrow
  have hg := ((((grS_set w db 5 (.bool true)).trans (grS_set _ db 1 (.bool false))).trans (grS_set _ db 2 (.int .i64 0))).trans (grS_set _ db 3 (.int .i64 0))).trans (grS_set _ db 4 (.int .i64 0))
  have hD : Hid (DiskG I (((((w.setCell ⟨db, 5, none⟩ (.bool true)).setCell ⟨db, 1, none⟩ (.bool false)).setCell ⟨db, 2, none⟩ (.int .i64 0)).setCell ⟨db, 3, none⟩ (.int .i64 0)).setCell ⟨db, 4, none⟩ (.int .i64 0)) lo S db (falls d)) := ⟨mb, D, fb, vv, h.flag hg rfl (Rigs.falls d) (by
    rw [heap_setCell_same _ _ _ _ _ _ (heap_setCell_same _ _ _ _ _ _ (heap_setCell_same _ _ _ _ _ _ (heap_setCell_same _ _ _ _ _ _ (heap_setCell_same _ _ _ _ _ _ hrow))))]
    unfold dkRow falls
    simp), hI⟩
  clear h hrow
  go_enter Tryz.func37, Tryz.ntmps37
  go_wp2
  go_end0
  exact ⟨rfl, hD.out, hg⟩

set_option maxRecDepth 4000 in
set_option maxHeartbeats 1000000 in
theorem change1_yes {I : (List Nat → Nat) → Prop} {lo db : Nat} {S : Nat → Prop} {d : Dk} (eb xb : Nat) (u : FrameMode) (w : World) (h0 : w.cell? ⟨eb, 0, none⟩ = some (.int .i64 190)) (h1 : w.cell? ⟨xb, 0, none⟩ = some (.pointer (some ⟨db, 0, none⟩))) (h : DiskG I w lo S db d) :
    CallsD Tryz.prog 147 #[.pointer (some ⟨eb, 0, none⟩), .pointer (some ⟨xb, 0, none⟩)] u w fun e u' w' => u' = u ∧ (e = .returned (.tuple #[]) ∧ DiskG I w' lo S db (falls d) ∧ GrS (fun k => k = db) w w') := by
  have hc := crash_any w h
  clear h
  go_enter_d Tryz.func147, Tryz.ntmps147
  go_wp2_with (go_at_call 37; refine hc.mono ?_; rintro e w9 ⟨rfl, hD9, hg9⟩)
  go_end0
  exact ⟨rfl, hD9, hg9⟩

theorem door_yes {I : (List Nat → Nat) → Prop} {R : Ending → World → Prop} {tmps : Array Value} {eb xb lo db : Nat} {S : Nat → Prop} {d : Dk} {X : World} (ht : tmps[10]? = some (.pointer (some ⟨eb, 0, none⟩))) (h0 : X.cell? ⟨eb, 0, none⟩ = some (.int .i64 190)) (h1 : X.cell? ⟨xb, 0, none⟩ = some (.pointer (some ⟨db, 0, none⟩))) (h : DiskG I X lo S db d) (hne : eb ≠ db)
    (hR : ∀ Y, DiskG I Y lo S db (falls d) → GrS (fun k => k = db) X Y → R (.returned (.int .i64 190)) Y) :
    bodyPostD Tryz.prog Tryz.f117 R Exit.ret { tmps := tmps, defers := [{ target := .fn (.func 147) #[.pointer (some ⟨eb, 0, none⟩), .pointer (some ⟨xb, 0, none⟩)], args := #[] }] } X := by
  refine leaves_cons (f := 147) (args := #[.pointer (some ⟨eb, 0, none⟩), .pointer (some ⟨xb, 0, none⟩)]) (by simp) (by simp [go_sem]) ?_
  refine (change1_yes eb xb .returning X h0 h1 h).mono ?_
  rintro e' u' Y ⟨rfl, rfl, hD, hg⟩
  have h2 := (hg.cell (o := 0) (World.block_lt_of_cell? _ _ h0) hne).trans h0
  refine ⟨.int .i64 190, ?_, hR Y hD hg⟩
  simp [results, Tryz.results117, go_sem, ht, h2]

set_option maxRecDepth 4000 in
set_option maxHeartbeats 1000000 in
theorem change_any {I : (List Nat → Nat) → Prop} {lo db : Nat} {S : Nat → Prop} {d : Dk} {nm : List Nat} (hb : ∀ x ∈ nm, x < 256) {cost B : Nat} (hB : B ≠ 190) (hcost : cost ≤ 9223372036854775807) {F : Nat → List Fl} (nb nd : FuncId) (hnb : ∀ (x : Array Value) (w : World), (callFunc nb x).run Tryz.prog w = .ok (.enter nb x) w) (hnd : ∀ (x : Array Value) (w : World), (callFunc nd x).run Tryz.prog w = .ok (.enter nd x) w) (cb cd : Array Value) (w : World) (h : DiskG I w lo S db d)
    (hbar : ∀ X, GrS S w X → DiskG I X lo S db (struck d) → Calls Tryz.prog nb cb X fun e X' => e = .returned (.int .i64 (B : Nat)) ∧ X' = X)
    (hdo : B = 0 → named nm → ∀ X u, u ≤ cost → GrS S w X → DiskG I X lo S db (paidD (struck d) cost) → Calls Tryz.prog nd (#[.int .i64 (u : Nat)] ++ cd) X fun e X' => e = .returned (.tuple #[]) ∧ ∃ S', DiskG I X' lo S' db { paidD (struck d) cost with fs := F u } ∧ Dv S X S' X') :
    Calls Tryz.prog 117 #[.pointer (some ⟨db, 0, none⟩), .string (strB nm), .int .i64 (cost : Int), .func (.func nb) #[] cb, .func (.func nd) #[] cd] w fun e w' => e = .returned (.int .i64 ((chg d nm cost B F).1 : Nat)) ∧ ∃ S', DiskG I w' lo S' db (chg d nm cost B F).2 ∧ Dv S w S' w' := by
  have hmf : ∀ (fn : Fn) (first cap : Array Value) (w : World), (Instr.makeFunc fn first cap).run Tryz.prog w = .ok (.func fn first cap) w := fun _ _ _ _ => rfl
  have hdb := h.lt
  have hSl : ∀ k, S k → k < w.heap.size ∧ lo ≤ k := fun k hk => by
    obtain ⟨mb, D, fb, vv, h, -⟩ := h
    exact ⟨h.hi k hk, h.low k hk⟩
  have hSd : S db := by
    obtain ⟨mb, D, fb, vv, h, -⟩ := h
    exact h.Sdb
  have hrg : Rigs d := by
    obtain ⟨mb, D, fb, vv, h, -⟩ := h
    exact h.rigs
  have hw1 : Below w.heap.size w ((w.alloc (.cells #[.pointer (some ⟨db, 0, none⟩)] 27)).alloc (.cells #[.int .i64 0] 35)) := ((Below.refl _ _).alloc (Nat.le_refl _) _).alloc (by simp) _
  have hr1 := reach_any hb _ (h.later hw1).at
  obtain ⟨r, hr⟩ : ∃ r : Nat, (if ¬ named nm then 192 else if d.down then 190 else 0 : Nat) = r := ⟨_, rfl⟩
  rw [hr] at hr1
  by_cases h0 : r = 0
  case neg =>
    have hne : ((r : Int) != 0) = true := by rw [bne_iff_ne]; omega
    have hw2 : Below w.heap.size w ((w.alloc (.cells #[.pointer (some ⟨db, 0, none⟩)] 27)).alloc (.cells #[.int .i64 (r : Int)] 35)) := ((Below.refl _ _).alloc (Nat.le_refl _) _).alloc (by simp) _
    have hD2 := h.later hw2
    have g0 : ((w.alloc (.cells #[.pointer (some ⟨db, 0, none⟩)] 27)).alloc (.cells #[.int .i64 (r : Int)] 35)).cell? ⟨w.heap.size + 1, 0, none⟩ = some (.int .i64 (r : Int)) := by
      have := heap_new (w.alloc (.cells #[.pointer (some ⟨db, 0, none⟩)] 27)) (.cells #[.int .i64 (r : Int)] 35)
      rw [World.size_alloc] at this
      exact cell_of_row _ _ 0 _ _ _ this
    have g1 : ((w.alloc (.cells #[.pointer (some ⟨db, 0, none⟩)] 27)).alloc (.cells #[.int .i64 (r : Int)] 35)).cell? ⟨w.heap.size, 0, none⟩ = some (.pointer (some ⟨db, 0, none⟩)) := by
      have := (Below.heap_alloc (w.alloc (.cells #[.pointer (some ⟨db, 0, none⟩)] 27)) (.cells #[.int .i64 (r : Int)] 35) w.heap.size (by simp)).trans (heap_new w (.cells #[.pointer (some ⟨db, 0, none⟩)] 27))
      exact cell_of_row _ _ 0 _ _ _ this
    have hch := chg_reach (cost := cost) (B := B) (F := F) hr h0
    rw [hch]
    generalize strB nm = s at *
    go_enter_defers Tryz.func117, Tryz.ntmps117
    go_wp2_with (go_at_call 133; refine hr1.mono ?_; rintro e w9 ⟨rfl, rfl⟩)
    by_cases h190 : r = 190
    · subst h190
      have hdn : d.down = true := by
        by_cases hd : d.down = true
        · exact hd
        · rw [if_neg hd] at hr
          split at hr <;> cases hr
      refine door_yes rfl g0 g1 hD2 (by omega) fun Y hY hg => ?_
      rw [first_down hrg hdn] at hY
      exact ⟨rfl, S, hY, ⟨(GrS.of_below hw2).trans (hg.mono (fun k _ e => e ▸ hSd)), fun k hk => .inl hk⟩⟩
    · refine door_no rfl g0 (by rw [beq_eq_false_iff_ne]; omega) ?_
      exact ⟨rfl, S, hD2, .below hw2⟩
  subst h0
  obtain ⟨W1, hW1⟩ : ∃ W1, (w.alloc (.cells #[.pointer (some ⟨db, 0, none⟩)] 27)).alloc (.cells #[.int .i64 0] 35) = W1 := ⟨_, rfl⟩
  have g0 : W1.heap[w.heap.size + 1]? = some (.cells #[.int .i64 0] 35 (0, 0)) := by
    have := heap_new (w.alloc (.cells #[.pointer (some ⟨db, 0, none⟩)] 27)) (.cells #[.int .i64 0] 35)
    rw [World.size_alloc, hW1] at this
    exact this
  have g1 : W1.heap[w.heap.size]? = some (.cells #[.pointer (some ⟨db, 0, none⟩)] 27 (0, 0)) := by
    rw [← hW1]
    exact (Below.heap_alloc (w.alloc (.cells #[.pointer (some ⟨db, 0, none⟩)] 27)) (.cells #[.int .i64 0] 35) w.heap.size (by simp)).trans (heap_new w (.cells #[.pointer (some ⟨db, 0, none⟩)] 27))
  rw [hW1] at hw1 hr1
  have hD1 := h.later hw1
  have hst := strike_any W1 hD1
  have c0 : W1.cell? ⟨w.heap.size + 1, 0, none⟩ = some (.int .i64 0) := cell_of_row _ _ 0 _ _ _ g0
  have c1 : W1.cell? ⟨w.heap.size, 0, none⟩ = some (.pointer (some ⟨db, 0, none⟩)) := cell_of_row _ _ 0 _ _ _ g1
  have hlt : w.heap.size + 1 < W1.heap.size := (Array.getElem?_eq_some_iff.1 g0).1
  have key : ∀ (S' : Nat → Prop) (X : World), Dv S w S' X → X.heap[w.heap.size + 1]? = some (.cells #[.int .i64 0] 35 (0, 0)) → (∀ k, S' k → k ≠ w.heap.size + 1 ∧ k ≠ w.heap.size) → ∀ (e : Int) (dx : Dk), DiskG I X lo S' db dx → (X.setCell ⟨w.heap.size + 1, 0, none⟩ (.int .i64 e)).cell? ⟨w.heap.size + 1, 0, none⟩ = some (.int .i64 e) ∧ DiskG I (X.setCell ⟨w.heap.size + 1, 0, none⟩ (.int .i64 e)) lo S' db dx ∧ Dv S w S' (X.setCell ⟨w.heap.size + 1, 0, none⟩ (.int .i64 e)) := fun S' X hv hX hS' e dx hd => by
    have hs := grS_set X (w.heap.size + 1) 0 (.int .i64 e)
    refine ⟨cell_of_row _ _ 0 _ _ _ (heap_setCell_same _ _ _ _ _ _ hX), hd.grS hs (fun k hk e => (hS' k hk).1 e), ?_⟩
    refine ⟨⟨hs.os.trans hv.gr.os, hs.tape.trans hv.gr.tape, hs.output.trans hv.gr.output, Nat.le_trans hv.gr.size hs.size, fun k hk hn => (hs.block k (Nat.lt_of_lt_of_le hk hv.gr.size) (by omega)).trans (hv.gr.block k hk hn)⟩, hv.sub⟩
  by_cases hhit : 0 < d.calls ∧ d.after = 0
  · have hch := chg_hit (cost := cost) (B := B) (F := F) hr hhit
    rw [hch]
    rw [decide_eq_true hhit] at hst
    generalize strB nm = s at *
    go_enter_defers Tryz.func117, Tryz.ntmps117
    go_wp2_with (first | (go_at_call 133; refine hr1.mono ?_; rintro e w9 ⟨rfl, rfl⟩) | (go_at_call 148; refine hst.mono ?_; rintro e w2 ⟨rfl, hD2, hg2⟩; have q0 := (hg2.block (w.heap.size + 1) hlt (by omega)).trans g0; have q1 := cell_of_row _ _ 0 _ _ _ q0; have q2 := frozen_of_row w2 (w.heap.size + 1) 0 _ _ q0; simp only [List.getElem?_toArray, List.getElem?_cons_zero] at q1))
    obtain ⟨a1, a2, a3⟩ := key S w2 ⟨(GrS.of_below hw1).trans (hg2.mono (fun k _ e => e ▸ hSd)), fun k hk => .inl hk⟩ q0 (fun k hk => by have := (hSl k hk).1; omega) 191 _ hD2
    exact door_no rfl a1 (by decide) ⟨rfl, S, a2, a3⟩
  rw [decide_eq_false hhit] at hst
  by_cases hB0 : B = 0
  case neg =>
    have hch := chg_bar (cost := cost) (F := F) hr hhit hB0
    rw [hch]
    have hBn : ((B : Int) != 0) = true := by rw [bne_iff_ne]; omega
    generalize strB nm = s at *
    go_enter_defers Tryz.func117, Tryz.ntmps117
    go_wp2_with (first | (go_at_call 133; refine hr1.mono ?_; rintro e w9 ⟨rfl, rfl⟩) | (go_at_call 148; refine hst.mono ?_; rintro e w2 ⟨rfl, hD2, hg2⟩; have q0 := (hg2.block (w.heap.size + 1) hlt (by omega)).trans g0; have q1 := cell_of_row _ _ 0 _ _ _ q0; have q2 := frozen_of_row w2 (w.heap.size + 1) 0 _ _ q0; simp only [List.getElem?_toArray, List.getElem?_cons_zero] at q1))
    have hG2 : GrS S w w2 := (GrS.of_below hw1).trans (hg2.mono (fun k _ e => e ▸ hSd))
    refine (hbar w2 hG2 hD2).mono ?_
    rintro e w9 ⟨rfl, rfl⟩
    clear hbar hdo hst hr1
    go_wp2
    obtain ⟨a1, a2, a3⟩ := key S w9 ⟨hG2, fun k hk => .inl hk⟩ q0 (fun k hk => by have := (hSl k hk).1; omega) (B : Int) _ hD2
    exact door_no rfl a1 (by rw [beq_eq_false_iff_ne]; omega) ⟨rfl, S, a2, a3⟩
  subst hB0
  have hch := chg_do (cost := cost) (F := F) hr hhit
  rw [hch]
  obtain ⟨u, hu⟩ : ∃ u, paidU (struck d) cost = u := ⟨_, rfl⟩
  have hule : u ≤ cost := hu ▸ paidU_le _ _
  rw [hu]
  obtain ⟨rr, hrr⟩ : ∃ rr, (if u < cost then (190, { falls (struck d) with fs := F u }) else (0, { paidD (struck d) cost with fs := F cost }) : Nat × Dk) = rr := ⟨_, rfl⟩
  rw [hrr]
  replace hrr := Hid.mk hrr
  replace hdo := hdo rfl (by
    by_cases hn : named nm
    · exact hn
    · rw [if_pos hn] at hr; cases hr)
  generalize strB nm = s at *
  go_enter_defers Tryz.func117, Tryz.ntmps117
  go_wp2_with (first | (go_at_call 133; refine hr1.mono ?_; rintro e w9 ⟨rfl, rfl⟩) | (go_at_call 148; refine hst.mono ?_; rintro e w2 ⟨rfl, hD2, hg2⟩; have p0 := (hg2.block (w.heap.size + 1) hlt (by omega)).trans g0; have p1 := (hg2.block w.heap.size (by omega) (by omega)).trans g1; have p2 := cell_of_row _ _ 0 _ _ _ p1; simp only [List.getElem?_toArray, List.getElem?_cons_zero] at p2))
  have hG2 : GrS S w w2 := (GrS.of_below hw1).trans (hg2.mono (fun k _ e => e ▸ hSd))
  have hlt2 : w.heap.size + 1 < w2.heap.size := Nat.lt_of_lt_of_le hlt hg2.size
  have hpy := pay_any hcost w2 hD2
  rw [hu] at hpy
  refine (hbar w2 hG2 hD2).mono ?_
  rintro e w9 ⟨rfl, rfl⟩
  clear hbar hst hr1
  go_wp2_with (go_at_call 149; refine hpy.mono ?_; rintro e w3 ⟨rfl, hD3, hg3⟩)
  have p3 := (hg3.block (w.heap.size + 1) hlt2 (by omega)).trans p0
  have p4 := (hg3.block w.heap.size (by omega) (by omega)).trans p1
  have hG3 : GrS S w w3 := hG2.trans (hg3.mono (fun k _ e => e ▸ hSd))
  have hlt3 : w.heap.size + 1 < w3.heap.size := Nat.lt_of_lt_of_le hlt2 hg3.size
  refine (hdo w3 u hule hG3 hD3).mono ?_
  rintro e w4 ⟨rfl, S', hD4, hv4⟩
  have q0 := (hv4.gr.block (w.heap.size + 1) hlt3 (fun e => by have := (hSl _ e).1; omega)).trans p3
  have q5 := (hv4.gr.block w.heap.size (by omega) (fun e => by have := (hSl _ e).1; omega)).trans p4
  have q1 := cell_of_row _ _ 0 _ _ _ q0
  have q2 := frozen_of_row w4 (w.heap.size + 1) 0 _ _ q0
  simp only [List.getElem?_toArray, List.getElem?_cons_zero] at q1
  have hV : Dv S w S' w4 := Dv.trans ⟨hG3, fun k hk => .inl hk⟩ hv4
  have hS' : ∀ k, S' k → k ≠ w.heap.size + 1 ∧ k ≠ w.heap.size := fun k hk => by
    rcases hv4.sub k hk with h' | h'
    · have := (hSl k h').1; omega
    · omega
  clear hdo hpy
  by_cases hlt9 : u < cost
  · have hlt9' : (u : Int) < (cost : Int) := by omega
    go_wp2
    have hrr' := hrr.out
    rw [if_pos hlt9] at hrr'
    subst hrr'
    obtain ⟨a1, a2, a3⟩ := key S' w4 hV q0 hS' 190 _ hD4
    have q6 : (w4.setCell ⟨w.heap.size + 1, 0, none⟩ (.int .i64 190)).cell? ⟨w.heap.size, 0, none⟩ = some (.pointer (some ⟨db, 0, none⟩)) := by
      have := (Below.heap_setCell w4 ⟨w.heap.size + 1, 0, none⟩ (.int .i64 190) w.heap.size (by simp)).trans q5
      exact cell_of_row _ _ 0 _ _ _ this
    refine door_yes rfl a1 q6 a2 (by omega) fun Y hY hg => ?_
    refine ⟨rfl, S', ?_, ?_⟩
    · have e1 : falls { paidD (struck d) cost with fs := F u } = { falls (struck d) with fs := F u } := rfl
      rw [e1] at hY
      exact hY
    · exact Dv.trans a3 ⟨hg.mono (fun k _ e => by rw [e]; obtain ⟨mb, D, fb, vv, h9, -⟩ := hD4; exact h9.Sdb), fun k hk => .inl hk⟩
  · have hlt9' : ¬ (u : Int) < (cost : Int) := by omega
    obtain rfl : u = cost := by omega
    go_wp2
    have hrr' := hrr.out
    rw [if_neg hlt9] at hrr'
    subst hrr'
    obtain ⟨a1, a2, a3⟩ := key S' w4 hV q0 hS' 0 _ hD4
    exact door_no rfl a1 (by decide) ⟨rfl, S', a2, a3⟩

/-- What is asked of the function that alters a file. -/
def Alters (I : (List Nat → Nat) → Prop) (n3 : FuncId) (c3 : Array Value) (lo db : Nat) (S : Nat → Prop) (d : Dk) (f : Fl) (fs' : List Fl) (X : World) : Prop :=
  ∀ mb D fb vv, Lay X lo S db d mb D fb vv → I fb → Calls Tryz.prog n3 (#[.pointer (some ⟨fb f.nm, 0, none⟩)] ++ c3) X fun e X' => e = .returned (.tuple #[]) ∧ ∃ S', DiskG I X' lo S' db { d with fs := fs' } ∧ Dv S X S' X'

set_option maxRecDepth 4000 in
set_option maxHeartbeats 1000000 in
theorem alter2_any {I : (List Nat → Nat) → Prop} {lo db : Nat} {S : Nat → Prop} {d : Dk} {f : Fl} (hf : f ∈ d.fs) {fs' : List Fl} (n3 : FuncId) (hn3 : ∀ (x : Array Value) (w : World), (callFunc n3 x).run Tryz.prog w = .ok (.enter n3 x) w) (c3 : Array Value) (u : Nat) (hu : u ≤ 1) (w : World) (x0 x1 x2 : Nat) (h0 : w.cell? ⟨x0, 0, none⟩ = some (.func (.func n3) #[] c3)) (h1 : w.cell? ⟨x1, 0, none⟩ = some (.pointer (some ⟨db, 0, none⟩))) (h2 : w.cell? ⟨x2, 0, none⟩ = some (.string (strB f.nm))) (h : DiskG I w lo S db d)
    (hA : ∀ X, Below w.heap.size w X → Alters I n3 c3 lo db S d f fs' X) :
    Calls Tryz.prog 151 #[.int .i64 (u : Int), .pointer (some ⟨x0, 0, none⟩), .pointer (some ⟨x1, 0, none⟩), .pointer (some ⟨x2, 0, none⟩)] w fun e w' => e = .returned (.tuple #[]) ∧ ∃ S', DiskG I w' lo S' db { d with fs := if u = 1 then fs' else d.fs } ∧ Dv S w S' w' := by
  by_cases h1u : u = 1
  case neg =>
    obtain rfl : u = 0 := by omega
    have hD : Hid (DiskG I w lo S db { d with fs := if 0 = 1 then fs' else d.fs }) := ⟨h⟩
    clear h hA
    go_enter Tryz.func151, Tryz.ntmps151
    go_wp2
    go_end0
    exact ⟨rfl, S, hD.out, .refl _ _⟩
  subst h1u
  simp only [if_true]
  obtain ⟨mb, D, fb, vv, h, hI⟩ := h
  obtain ⟨c0, -⟩ := h.cells
  have hl : ∀ X, Below w.heap.size w X → (Instr.lookup 72 (.map (some mb)) (.string (strB f.nm)) false).run Tryz.prog X = .ok (.pointer (some ⟨fb f.nm, 0, none⟩)) X := fun X hX => (h.grS (T := fun _ => False) (.of_below hX) (fun _ _ h => h)).look hf
  have hC := fun X hX => hA X hX mb D fb vv (h.grS (T := fun _ => False) (.of_below hX) (fun _ _ h => h)) hI
  have B0 : Below w.heap.size w w.drew := (Below.refl _ _).drew
  have hl0 := hl _ B0
  have hC0 := hC _ B0
  clear h hA hl hC
  generalize strB f.nm = s at *
  generalize fb f.nm = b at *
  go_enter Tryz.func151, Tryz.ntmps151
  go_wp2
  go_region_law (go_simp; refine hC0.mono ?_; rintro e w9 ⟨rfl, S', h9, hv9⟩)
  all_goals
    go_wp2
    go_end0
    exact ⟨rfl, S', h9, Dv.trans (.below B0) hv9⟩

set_option maxRecDepth 4000 in
set_option maxHeartbeats 1000000 in
theorem alter_any {I : (List Nat → Nat) → Prop} {lo db : Nat} {S : Nat → Prop} {d : Dk} {nm : List Nat} (hl : nm.length ≤ 4294967296) (hb : ∀ x ∈ nm, x < 256) (g : List Fl → List Fl) (n3 : FuncId) (hn3 : ∀ (x : Array Value) (w : World), (callFunc n3 x).run Tryz.prog w = .ok (.enter n3 x) w) (c3 : Array Value) (w : World) (h : DiskG I w lo S db d)
    (hA : ∀ (X : World) (d1 : Dk) (f : Fl), GrS S w X → d1.fs = d.fs → f ∈ d.fs → f.nm = nm → Alters I n3 c3 lo db S d1 f (g d.fs) X) :
    Calls Tryz.prog 120 #[.pointer (some ⟨db, 0, none⟩), .string (strB nm), .func (.func n3) #[] c3] w fun e w' => e = .returned (.int .i64 ((changes d nm g).1 : Nat)) ∧ ∃ S', DiskG I w' lo S' db (changes d nm g).2 ∧ Dv S w S' w' := by
  have hmf : ∀ (fn : Fn) (first cap : Array Value) (w : World), (Instr.makeFunc fn first cap).run Tryz.prog w = .ok (.func fn first cap) w := fun _ _ _ _ => rfl
  have hSl : ∀ k, S k → k < w.heap.size := fun k hk => by
    obtain ⟨mb, D, fb, vv, h, -⟩ := h
    exact h.hi k hk
  obtain ⟨W3, hW3⟩ : ∃ W3, ((w.alloc (.cells #[.pointer (some ⟨db, 0, none⟩)] 27)).alloc (.cells #[.string (strB nm)] 9)).alloc (.cells #[.func (.func n3) #[] c3] 170) = W3 := ⟨_, rfl⟩
  have hw1 : Below w.heap.size w W3 := by
    rw [← hW3]
    exact (((Below.refl _ _).alloc (Nat.le_refl _) _).alloc (by simp) _).alloc (by simp; omega) _
  have b0 : W3.heap[w.heap.size]? = some (.cells #[.pointer (some ⟨db, 0, none⟩)] 27 (0, 0)) := by
    rw [← hW3]
    exact (Below.heap_alloc _ _ _ (by simp; omega)).trans ((Below.heap_alloc _ _ _ (by simp)).trans (heap_new w _))
  have b1 : W3.heap[w.heap.size + 1]? = some (.cells #[.string (strB nm)] 9 (0, 0)) := by
    rw [← hW3]
    have := heap_new (w.alloc (.cells #[.pointer (some ⟨db, 0, none⟩)] 27)) (.cells #[.string (strB nm)] 9)
    rw [World.size_alloc] at this
    exact (Below.heap_alloc _ _ _ (by simp)).trans this
  have b2 : W3.heap[w.heap.size + 1 + 1]? = some (.cells #[.func (.func n3) #[] c3] 170 (0, 0)) := by
    rw [← hW3]
    have := heap_new ((w.alloc (.cells #[.pointer (some ⟨db, 0, none⟩)] 27)).alloc (.cells #[.string (strB nm)] 9)) (.cells #[.func (.func n3) #[] c3] 170)
    rw [World.size_alloc, World.size_alloc] at this
    exact this
  have hlt : w.heap.size + 1 + 1 < W3.heap.size := (Array.getElem?_eq_some_iff.1 b2).1
  have box : ∀ X, GrS S W3 X → X.cell? ⟨w.heap.size, 0, none⟩ = some (.pointer (some ⟨db, 0, none⟩)) ∧ X.cell? ⟨w.heap.size + 1, 0, none⟩ = some (.string (strB nm)) ∧ X.cell? ⟨w.heap.size + 1 + 1, 0, none⟩ = some (.func (.func n3) #[] c3) := fun X hX =>
    ⟨cell_of_row _ _ 0 _ _ _ ((hX.block _ (by omega) (fun e => by have := hSl _ e; omega)).trans b0), cell_of_row _ _ 0 _ _ _ ((hX.block _ (by omega) (fun e => by have := hSl _ e; omega)).trans b1), cell_of_row _ _ 0 _ _ _ ((hX.block _ (by omega) (fun e => by have := hSl _ e; omega)).trans b2)⟩
  have hD3 := h.later hw1
  have hch := change_any hb (cost := 1) (B := if get d.fs nm = none then 193 else 0) (by split <;> decide) (by decide) (F := fun u => if u = 1 then g d.fs else d.fs) 150 151 en150 en151 #[.pointer (some ⟨w.heap.size, 0, none⟩), .pointer (some ⟨w.heap.size + 1, 0, none⟩)] #[.pointer (some ⟨w.heap.size + 1 + 1, 0, none⟩), .pointer (some ⟨w.heap.size, 0, none⟩), .pointer (some ⟨w.heap.size + 1, 0, none⟩)] W3 hD3
    (fun X hX hD => by
      have := alter1_any hl hb X _ _ (box X hX).1 (box X hX).2.1 hD.at
      rw [struck_fs] at this
      exact this)
    (fun hB _ X u hu hX hD => by
      have hfs : (paidD (struck d) 1).fs = d.fs := by rw [paidD_fs, struck_fs]
      obtain ⟨f, hf⟩ : ∃ f, get d.fs nm = some f := by
        cases hg : get d.fs nm with
        | none => rw [if_pos hg] at hB; cases hB
        | some f => exact ⟨f, rfl⟩
      obtain ⟨f1, rfl⟩ := get_some hf
      have := alter2_any (d := paidD (struck d) 1) (f := f) (hfs ▸ f1) (fs' := g d.fs) n3 hn3 c3 u hu X _ _ _ (box X hX).2.2 (box X hX).1 (box X hX).2.1 hD (fun Y hY => hA Y _ f (GrS.trans (.of_below hw1) (GrS.trans hX (.of_below hY))) hfs f1 rfl)
      rw [hfs] at this
      exact this)
  rw [← changes_chg] at hch
  obtain ⟨r, hr⟩ : ∃ r, changes d nm g = r := ⟨_, rfl⟩
  rw [hr] at hch ⊢
  have B3 : Hid (Below w.heap.size w W3) := ⟨hw1⟩
  obtain ⟨k0, k1, k2⟩ := box W3 (.refl _ _)
  clear hA h hD3 box b0 b1 b2 hlt hw1 hr hSl
  generalize strB nm = s at *
  go_enter Tryz.func120, Tryz.ntmps120
  go_wp2_with (go_at_call 117; refine hch.mono ?_; rintro e w9 ⟨rfl, S', h9, hv9⟩)
  go_ret
  exact ⟨rfl, S', h9, Dv.trans (.below B3.out) hv9⟩

set_option maxRecDepth 4000 in
set_option maxHeartbeats 1000000 in
theorem sync_any {I : (List Nat → Nat) → Prop} {lo db : Nat} {S : Nat → Prop} {d : Dk} {nm : List Nat} (hl : nm.length ≤ 4294967296) (hb : ∀ x ∈ nm, x < 256) (w : World) (h : DiskG I w lo S db d) :
    Calls Tryz.prog 56 #[.pointer (some ⟨db, 0, none⟩), .string (strB nm)] w fun e w' => e = .returned (.int .i64 ((sync d nm).1 : Nat)) ∧ ∃ S', DiskG I w' lo S' db (sync d nm).2 ∧ Dv S w S' w' := by
  have ha := alter_any hl hb (fun fs => upd fs nm syncF) 121 en121 #[] w h (fun X d1 f hX hfs hf hn => by
    intro mb D fb vv hL hI
    have hf1 : f ∈ d1.fs := hfs ▸ hf
    refine (sync1_any X (hL.fil f hf1)).mono ?_
    rintro e X' ⟨rfl, hF, hg⟩
    refine ⟨rfl, ?_⟩
    obtain ⟨S', hL', hv⟩ := hL.turn (d' := { d1 with fs := upd d.fs nm syncF }) hf1 (hg.mono (fun k _ e => .inl e)) (f' := syncF f) rfl hF (fun k hk => .inl hk) (by rw [hfs, ← hn, upd_same (hfs ▸ hL.ok.srt) hf]) rfl rfl rfl rfl (hL.ok.siz f hf1) (Nat.le_refl _) (hL.ok.byt f hf1)
    exact ⟨S', ⟨mb, D, fb, _, hL', hI⟩, hv⟩)
  obtain ⟨r, hr⟩ : ∃ r, sync d nm = r := ⟨_, rfl⟩
  unfold sync at hr ⊢
  rw [hr] at ha ⊢
  clear h hr
  generalize strB nm = s at *
  go_enter Tryz.func56, Tryz.ntmps56
  go_wp2_with (go_at_call 120; refine ha.mono ?_; rintro e w9 ⟨rfl, S', h9, hv9⟩)
  go_ret
  exact ⟨rfl, S', h9, hv9⟩

set_option maxRecDepth 4000 in
set_option maxHeartbeats 1000000 in
theorem trim_any {I : (List Nat → Nat) → Prop} {lo db : Nat} {S : Nat → Prop} {d : Dk} {nm : List Nat} {n : Int} (hn1 : n ≤ 9223372036854775807) (hn0 : -9223372036854775808 ≤ n) (hl : nm.length ≤ 4294967296) (hb : ∀ x ∈ nm, x < 256) (w : World) (hlo : lo ≤ w.heap.size) (h : DiskG I w lo S db d) :
    Calls Tryz.prog 98 #[.pointer (some ⟨db, 0, none⟩), .string (strB nm), .int .i64 n] w fun e w' => e = .returned (.int .i64 ((trim d nm n).1 : Nat)) ∧ ∃ S', DiskG I w' lo S' db (trim d nm n).2 ∧ Dv S w S' w' := by
  have hmf : ∀ (fn : Fn) (first cap : Array Value) (w : World), (Instr.makeFunc fn first cap).run Tryz.prog w = .ok (.func fn first cap) w := fun _ _ _ _ => rfl
  obtain ⟨W1, hW1⟩ : ∃ W1, w.alloc (.cells #[.int .i64 n] 3) = W1 := ⟨_, rfl⟩
  have hw1 : Below w.heap.size w W1 := by rw [← hW1]; exact (Below.refl _ _).alloc (Nat.le_refl _) _
  have b0 : W1.heap[w.heap.size]? = some (.cells #[.int .i64 n] 3 (0, 0)) := by rw [← hW1]; exact heap_new w _
  have hSl : ∀ k, S k → k < w.heap.size := fun k hk => by
    obtain ⟨mb, D, fb, vv, h, -⟩ := h
    exact h.hi k hk
  have ha := alter_any hl hb (fun fs => upd fs nm (trimF n.toNat)) 132 en132 #[.pointer (some ⟨w.heap.size, 0, none⟩)] W1 (h.later hw1) (fun X d1 f hX hfs hf hn => by
    intro mb D fb vv hL hI
    have hf1 : f ∈ d1.fs := hfs ▸ hf
    have hc : X.cell? ⟨w.heap.size, 0, none⟩ = some (.int .i64 n) := cell_of_row _ _ 0 _ _ _ ((hX.block _ (Array.getElem?_eq_some_iff.1 b0).1 (fun e => by have := hSl _ e; omega)).trans b0)
    refine (trim1_any hn1 hn0 (hL.ok.byt f hf1) (hL.ok.siz f hf1) (hL.ok.sur f hf1) X (Nat.le_trans hlo (Nat.le_trans hw1.size hX.size)) _ hc (hL.fil f hf1)).mono ?_
    rintro e X' ⟨rfl, v', hF, hg, hv⟩
    refine ⟨rfl, ?_⟩
    obtain ⟨S', hL', hv⟩ := hL.turn (d' := { d1 with fs := upd d.fs nm (trimF n.toNat) }) hf1 (hg.mono (fun k _ e => .inl e)) (f' := trimF n.toNat f) rfl hF (fun k hk => hv.elim (fun e => .inl (e ▸ hk)) (fun e => .inr (e k hk))) (by rw [hfs, ← hn, upd_same (hfs ▸ hL.ok.srt) hf]) rfl rfl rfl rfl (Nat.le_trans (List.length_take_le' _ _) (hL.ok.siz f hf1)) (Nat.min_le_right _ _) (fun x hx => hL.ok.byt f hf1 x (List.mem_of_mem_take hx))
    exact ⟨S', ⟨mb, D, fb, _, hL', hI⟩, hv⟩)
  obtain ⟨r, hr⟩ : ∃ r, trim d nm n = r := ⟨_, rfl⟩
  unfold trim at hr ⊢
  rw [hr] at ha ⊢
  have k0 : W1.cell? ⟨w.heap.size, 0, none⟩ = some (.int .i64 n) := cell_of_row _ _ 0 _ _ _ b0
  have B1 : Hid (Below w.heap.size w W1) := ⟨hw1⟩
  clear h hr hw1 b0
  generalize strB nm = s at *
  go_enter Tryz.func98, Tryz.ntmps98
  go_wp2_with (go_at_call 120; refine ha.mono ?_; rintro e w9 ⟨rfl, S', h9, hv9⟩)
  go_ret
  exact ⟨rfl, S', h9, Dv.trans (.below B1.out) hv9⟩

end Go.Proofs.YtakcdgeanbpllaaGreatDoor.DJ.G

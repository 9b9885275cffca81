import Derived.Test.YthbojlbgjmecoaaGreatDmD
/- room, strike, pay. -/
namespace Go.Proofs.YthbojlbgjmecoaaGreat.DJ
open Go.RowKit

theorem grS_set (W : World) (b o : Nat) (v : Value) : GrS (fun k => k = b) W (W.setCell ⟨b, o, none⟩ v) := ⟨rfl, rfl, rfl, by simp, fun k _ hk => Below.heap_setCell _ _ _ k hk⟩
theorem heap_new (w : World) (o : Obj) : (w.alloc o).heap[w.heap.size]? = some o := by
  show (w.heap.push _)[w.heap.size]? = _
  exact Array.getElem?_push_size
theorem size_some {fs : List Fl} {f : Fl} {nm : List Nat} (h : get fs nm = some f) : size fs nm = f.dat.length := by unfold size; rw [h]; rfl
theorem size_none {fs : List Fl} {nm : List Nat} (h : get fs nm = none) : size fs nm = 0 := by unfold size; rw [h]; rfl

set_option maxRecDepth 4000 in
set_option maxHeartbeats 1000000 in
theorem room_any {lo db : Nat} {S : Nat → Prop} {d : Dk} {nm : List Nat} {more : Nat} (hm : more ≤ 9223372036854775807) (hl : nm.length ≤ 4294967296) (hb : ∀ x ∈ nm, x < 256) (w : World) (h : DiskAt w lo S db d) :
    Calls Tryz.prog 65 #[.pointer (some ⟨db, 0, none⟩), .string (strB nm), .int .i64 (more : Int)] w fun e w' => e = .returned (.int .i64 (if 2097152 < size d.fs nm + more ∨ (get d.fs nm = none ∧ 40 ≤ d.fs.length) then 194 else 0 : Nat)) ∧ w' = w := by
  obtain ⟨mb, D, fb, vv, h⟩ := h
  obtain ⟨c0, -⟩ := h.cells
  cases hg : get d.fs nm with
  | none =>
    have hr := h.lookNo hl hb hg
    have hn := h.map.len bmapT 3
    rw [h.ties.size] at hn
    rw [size_none hg]
    by_cases h40 : 40 ≤ d.fs.length
    · rw [if_pos (.inr ⟨rfl, h40⟩)]
      have h40' : (40 : Int) ≤ (d.fs.length : Int) := by omega
      clear h
      generalize strB nm = s at *
      go_enter Tryz.func65, Tryz.ntmps65
      go_wp2
      go_ret
      exact ⟨rfl, rfl⟩
    · have h40' : ¬ (40 : Int) ≤ (d.fs.length : Int) := by omega
      by_cases h2 : 2097152 < more
      · rw [if_pos (.inl (by omega))]
        have h2' : (2097152 : Int) < (more : Int) := by omega
        clear h
        generalize strB nm = s at *
        go_enter Tryz.func65, Tryz.ntmps65
        go_wp2
        go_ret
        exact ⟨rfl, rfl⟩
      · rw [if_neg (by omega)]
        have h2' : ¬ (2097152 : Int) < (more : Int) := by omega
        clear h
        generalize strB nm = s at *
        go_enter Tryz.func65, Tryz.ntmps65
        go_wp2
        go_ret
        exact ⟨rfl, rfl⟩
  | some f =>
    obtain ⟨h1, rfl⟩ := get_some hg
    have hr := h.lookOk h1
    obtain ⟨p, cap, hv⟩ := own_lenB (h.fil f h1).dat
    have k0 := cell_of_row _ _ 0 _ _ _ (h.fil f h1).row
    simp only [List.getElem?_toArray, List.getElem?_cons_zero] at k0
    rw [hv] at k0
    have hz := h.ok.siz f h1
    rw [size_some hg]
    clear h hv
    generalize f.dat.length = n at *
    generalize fb f.nm = b at *
    have hn : (n : Int) ≤ 2097152 := by omega
    have hn0 : (0 : Int) ≤ (n : Int) := by omega
    by_cases h2 : 2097152 < n + more
    · rw [if_pos (.inl h2)]
      have h2' : (2097152 : Int) - (n : Int) < (more : Int) := by omega
      generalize strB f.nm = s at *
      go_enter Tryz.func65, Tryz.ntmps65
      go_wp2
      go_ret
      exact ⟨rfl, rfl⟩
    · rw [if_neg (by rintro (h | h); exact h2 h; cases h.1)]
      have h2' : ¬ (2097152 : Int) - (n : Int) < (more : Int) := by omega
      generalize strB f.nm = s at *
      go_enter Tryz.func65, Tryz.ntmps65
      go_wp2
      go_ret
      exact ⟨rfl, rfl⟩

/-- What a call that the rig of Fail looks at leaves. -/
def struck (d : Dk) : Dk := if d.calls = 0 then d else if 0 < d.after then { d with after := d.after - 1 } else { d with calls := d.calls - 1 }
theorem Rigs.struck {d : Dk} (h : Rigs d) : Rigs (struck d) := by
  have h1 := h.af
  have h2 := h.ca
  unfold DJ.struck
  split
  · exact h
  split
  · exact ⟨h.un, by show d.after - 1 ≤ _; omega, h.ca, fun e => ⟨(h.dn e).1, by show d.after - 1 = 0; have := (h.dn e).2.1; omega, (h.dn e).2.2⟩⟩
  · exact ⟨h.un, h.af, by show d.calls - 1 ≤ _; omega, fun e => ⟨(h.dn e).1, (h.dn e).2.1, by show d.calls - 1 = 0; have := (h.dn e).2.2; omega⟩⟩
theorem struck_fs (d : Dk) : (struck d).fs = d.fs := by unfold struck; split; rfl; split <;> rfl

set_option maxRecDepth 4000 in
set_option maxHeartbeats 1000000 in
theorem strike_any {lo db : Nat} {S : Nat → Prop} {d : Dk} (w : World) (h : DiskAt w lo S db d) :
    Calls Tryz.prog 87 #[.pointer (some ⟨db, 1, none⟩)] w fun e w' => e = .returned (.bool (decide (0 < d.calls ∧ d.after = 0))) ∧ DiskAt w' lo S db (struck d) ∧ GrS (fun k => k = db) w w' := by
  obtain ⟨mb, D, fb, vv, h⟩ := h
  obtain ⟨-, -, -, c3, c4, -⟩ := h.cells
  have hrow := h.row
  unfold dkRow at hrow
  have f3 := frozen_of_row w db 3 _ _ hrow
  have f4 := frozen_of_row w db 4 _ _ hrow
  have r1 := h.rigs.af
  have r2 := h.rigs.ca
  by_cases hc : d.calls = 0
  · have hc' : ((d.calls : Int) == 0) = true := by rw [hc]; rfl
    rw [decide_eq_false (by omega), show struck d = d by unfold struck; rw [if_pos hc]]
    have hD : Hid (DiskAt w lo S db d) := ⟨mb, D, fb, vv, h⟩
    clear h hrow
    generalize d.calls = cc at *
    go_enter Tryz.func87, Tryz.ntmps87
    go_wp2
    go_ret
    exact ⟨rfl, hD.out, .refl _ _⟩
  have hc' : ((d.calls : Int) == 0) = false := by rw [beq_eq_false_iff_ne]; omega
  by_cases ha : 0 < d.after
  · rw [decide_eq_false (by omega)]
    have hs : struck d = { d with after := d.after - 1 } := by unfold struck; rw [if_neg hc, if_pos ha]
    have hD : Hid (DiskAt (w.setCell ⟨db, 3, none⟩ (.int .i64 ((d.after : Int) - 1))) lo S db (struck d)) := ⟨mb, D, fb, vv, h.flag (grS_set _ _ _ _) (struck_fs d) h.rigs.struck (by
      rw [heap_setCell_same _ _ _ _ _ _ hrow, hs]
      unfold dkRow
      simp
      omega)⟩
    have ha' : (0 : Int) < (d.after : Int) := by omega
    clear h hrow hs
    generalize d.calls = cc at *
    generalize d.after = aa at *
    go_enter Tryz.func87, Tryz.ntmps87
    go_wp2
    go_ret
    exact ⟨rfl, hD.out, grS_set _ _ _ _⟩
  · rw [decide_eq_true (by omega)]
    have hs : struck d = { d with calls := d.calls - 1 } := by unfold struck; rw [if_neg hc, if_neg ha]
    have hD : Hid (DiskAt (w.setCell ⟨db, 4, none⟩ (.int .i64 ((d.calls : Int) - 1))) lo S db (struck d)) := ⟨mb, D, fb, vv, h.flag (grS_set _ _ _ _) (struck_fs d) h.rigs.struck (by
      rw [heap_setCell_same _ _ _ _ _ _ hrow, hs]
      unfold dkRow
      simp
      omega)⟩
    have ha' : ¬ (0 : Int) < (d.after : Int) := by omega
    have hc1 : (1 : Int) ≤ (d.calls : Int) := by omega
    clear h hrow hs
    generalize d.calls = cc at *
    generalize d.after = aa at *
    go_enter Tryz.func87, Tryz.ntmps87
    go_wp2
    go_ret
    exact ⟨rfl, hD.out, grS_set _ _ _ _⟩

def paidU (d : Dk) (c : Nat) : Nat := match d.units with | none => c | some u => min c u
def paidD (d : Dk) (c : Nat) : Dk := match d.units with | none => d | some u => { d with units := some (u - min c u) }
theorem paidD_fs (d : Dk) (c : Nat) : (paidD d c).fs = d.fs := by unfold paidD; split <;> rfl
theorem paidU_le (d : Dk) (c : Nat) : paidU d c ≤ c := by unfold paidU; split; exact Nat.le_refl _; exact Nat.min_le_left _ _
theorem Rigs.paid {d : Dk} (h : Rigs d) (c : Nat) : Rigs (paidD d c) := by
  unfold paidD
  split
  · exact h
  · rename_i u hu
    refine ⟨fun v hv => ?_, h.af, h.ca, fun e => ?_⟩
    · have := h.un u hu
      obtain rfl := Option.some.inj hv
      omega
    · have := (h.dn e).1
      rw [hu] at this
      cases this

set_option maxRecDepth 4000 in
set_option maxHeartbeats 1000000 in
theorem pay_any {lo db : Nat} {S : Nat → Prop} {d : Dk} {c : Nat} (hcost : c ≤ 9223372036854775807) (w : World) (h : DiskAt w lo S db d) :
    Calls Tryz.prog 88 #[.pointer (some ⟨db, 1, none⟩), .int .i64 (c : Int)] w fun e w' => e = .returned (.int .i64 (paidU d c : Nat)) ∧ DiskAt w' lo S db (paidD d c) ∧ GrS (fun k => k = db) w w' := by
  obtain ⟨mb, D, fb, vv, h⟩ := h
  obtain ⟨-, c1, c2, -⟩ := h.cells
  have hrow := h.row
  unfold dkRow at hrow
  have f2 := frozen_of_row w db 2 _ _ hrow
  cases hu : d.units with
  | none =>
    have e1 : paidU d c = c := by unfold paidU; rw [hu]
    have e2 : paidD d c = d := by unfold paidD; rw [hu]
    rw [e1, e2]
    have hD : Hid (DiskAt w lo S db d) := ⟨mb, D, fb, vv, h⟩
    rw [hu] at c1
    simp only [Option.isSome_none] at c1
    clear h hrow e1 e2
    go_enter Tryz.func88, Tryz.ntmps88
    go_wp2
    go_ret
    exact ⟨rfl, hD.out, .refl _ _⟩
  | some u =>
    have e1 : paidU d c = min c u := by unfold paidU; rw [hu]
    have e2 : paidD d c = { d with units := some (u - min c u) } := by unfold paidD; rw [hu]
    have hu9 := h.rigs.un u hu
    have hD : Hid (DiskAt (w.setCell ⟨db, 2, none⟩ (.int .i64 ((u : Int) - ((min c u : Nat) : Int)))) lo S db (paidD d c)) := ⟨mb, D, fb, vv, h.flag (grS_set _ _ _ _) (paidD_fs d c) (h.rigs.paid c) (by
      rw [heap_setCell_same _ _ _ _ _ _ hrow, e2, hu]
      unfold dkRow
      simp
      omega)⟩
    rw [hu] at c1 c2
    simp only [Option.isSome_some, Option.getD_some] at c1 c2
    rw [e1]
    clear h hrow e1
    generalize paidD d c = d9 at *
    by_cases hcu : c ≤ u
    · rw [Nat.min_eq_left hcu] at *
      have hcu' : (c : Int) ≤ (u : Int) := by omega
      have hmn : min (c : Int) (u : Int) = (c : Int) := by omega
      clear e2
      go_enter Tryz.func88, Tryz.ntmps88
      go_wp2
      go_ret
      exact ⟨rfl, hD.out, grS_set _ _ _ _⟩
    · rw [Nat.min_eq_right (by omega : u ≤ c)] at *
      rw [Int.sub_self] at hD
      have hcu' : (u : Int) ≤ (c : Int) := by omega
      have hmn : min (c : Int) (u : Int) = (u : Int) := by omega
      clear e2
      go_enter Tryz.func88, Tryz.ntmps88
      go_wp2
      go_ret
      exact ⟨rfl, hD.out, grS_set _ _ _ _⟩
end Go.Proofs.YthbojlbgjmecoaaGreat.DJ

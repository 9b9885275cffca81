import Derived.Test.YthbojlbgjmecoaaGreatJoin33
import Derived.Test.YthbojlbgjmecoaaGreatDmF
import Derived.Lib.MinMax
/- levyref19's disk: its rigs. -/
namespace Go.Proofs.YthbojlbgjmecoaaGreat.DJ
open Go.RowKit
set_option linter.constructorNameAsVariable false

set_option maxRecDepth 4000 in
set_option maxHeartbeats 1000000 in
theorem rnamed_any (s : ByteArray) (hs : s.size ≤ 4294967296) (w : World) : Calls Tryz.prog 37 #[.string s] w fun e w' => e = .returned (.bool (decide (named (bs s)))) ∧ w' = w := by
  have hs' : (s.size : Int) ≤ 4294967296 := by omega
  obtain ⟨r, hr⟩ : ∃ r, decide (named (bs s)) = r := ⟨_, rfl⟩
  rw [hr]
  replace hr := Hid.mk hr
  go_enter Tryz.func37, Tryz.ntmps37
  go_wp2
  go_loopw [3] (fun x wr => ∃ j : Nat, j ≤ s.size ∧ x = .int .i64 j ∧ wr = w ∧ Hid (∀ i, i < j → ∀ x, (bs s)[i]? = some x → okc x)) (fun x _ => s.size - (intOf x).toNat)
  case atStart => exact ⟨0, by omega, rfl, rfl, ⟨fun i hi => by omega⟩⟩
  case round =>
    obtain ⟨j, hj, rfl, rfl, hall⟩ := hrel
    by_cases hlt : j < s.size
    · have hlt' : (j : Int) < (s.size : Int) := by omega
      have hj0 : (0 : Int) ≤ (j : Int) := by omega
      have hno := fun h => (not_named hlt h).symm.trans hr.out
      have hyes := okc_all hlt hall.out
      replace hno := Hid.mk hno
      replace hyes := Hid.mk hyes
      rcases six s[j].toNat with ⟨h1, h2⟩ | ⟨h1, h2⟩ | h1 | ⟨h1, h2⟩ | ⟨h1, h2⟩ | h1
      · have q0 : (97 : Int) ≤ ((s[j].toNat : Nat) : Int) := by omega
        have q1 : ((s[j].toNat : Nat) : Int) ≤ 122 := by omega
        have q2 : (48 : Int) ≤ ((s[j].toNat : Nat) : Int) := by omega
        have q3 : ¬ ((s[j].toNat : Nat) : Int) ≤ 57 := by omega
        go_wp2
        go_roundw
        case rel => exact ⟨j + 1, by omega, by first | rfl | go_num, (by first | rfl | trivial), ⟨hyes.out (.inl ⟨h1, h2⟩)⟩⟩
        case measure => simp [intOf]; omega
      · have q0 : ¬ (97 : Int) ≤ ((s[j].toNat : Nat) : Int) := by omega
        have q1 : (48 : Int) ≤ ((s[j].toNat : Nat) : Int) := by omega
        have q2 : ((s[j].toNat : Nat) : Int) ≤ 57 := by omega
        go_wp2
        go_roundw
        case rel => exact ⟨j + 1, by omega, by first | rfl | go_num, (by first | rfl | trivial), ⟨hyes.out (.inr (.inl ⟨h1, h2⟩))⟩⟩
        case measure => simp [intOf]; omega
      · have q0 : ¬ (97 : Int) ≤ ((s[j].toNat : Nat) : Int) := by omega
        have q1 : ¬ (48 : Int) ≤ ((s[j].toNat : Nat) : Int) := by omega
        have q2 : (((s[j].toNat : Nat) : Int) == 45) = true := by rw [h1]; rfl
        go_wp2
        go_roundw
        case rel => exact ⟨j + 1, by omega, by first | rfl | go_num, (by first | rfl | trivial), ⟨hyes.out (.inr (.inr h1))⟩⟩
        case measure => simp [intOf]; omega
      · have q0 : ¬ (97 : Int) ≤ ((s[j].toNat : Nat) : Int) := by omega
        have q1 : ¬ (48 : Int) ≤ ((s[j].toNat : Nat) : Int) := by omega
        have q2 : (((s[j].toNat : Nat) : Int) == 45) = false := by rw [beq_eq_false_iff_ne]; omega
        go_wp2
        go_ret
        exact ⟨congrArg (fun z => Ending.returned (.bool z)) (hno.out (by unfold okc; omega)), rfl⟩
      · have q0 : ¬ (97 : Int) ≤ ((s[j].toNat : Nat) : Int) := by omega
        have q1 : (48 : Int) ≤ ((s[j].toNat : Nat) : Int) := by omega
        have q2 : ¬ ((s[j].toNat : Nat) : Int) ≤ 57 := by omega
        have q3 : (((s[j].toNat : Nat) : Int) == 45) = false := by rw [beq_eq_false_iff_ne]; omega
        go_wp2
        go_ret
        exact ⟨congrArg (fun z => Ending.returned (.bool z)) (hno.out (by unfold okc; omega)), rfl⟩
      · have q0 : (97 : Int) ≤ ((s[j].toNat : Nat) : Int) := by omega
        have q1 : ¬ ((s[j].toNat : Nat) : Int) ≤ 122 := by omega
        have q2 : (48 : Int) ≤ ((s[j].toNat : Nat) : Int) := by omega
        have q3 : ¬ ((s[j].toNat : Nat) : Int) ≤ 57 := by omega
        have q4 : (((s[j].toNat : Nat) : Int) == 45) = false := by rw [beq_eq_false_iff_ne]; omega
        go_wp2
        go_ret
        exact ⟨congrArg (fun z => Ending.returned (.bool z)) (hno.out (by unfold okc; omega)), rfl⟩
    · have hlt' : ¬ (j : Int) < (s.size : Int) := by omega
      obtain rfl : j = s.size := by omega
      have hiff : decide (named (bs s)) = (decide (1 ≤ s.size) && decide (s.size ≤ 12)) := by
        rw [← Bool.decide_and]
        refine decide_eq_decide.2 ⟨fun h => by have h1 := h.2.1; have h2 := h.2.2; rw [bs_len] at h1 h2; exact ⟨h1, h2⟩, fun h => ⟨fun c hc => ?_, by rw [bs_len]; exact h.1, by rw [bs_len]; exact h.2⟩⟩
        obtain ⟨i, hi, e⟩ := List.mem_iff_getElem.1 hc
        rw [bs_len] at hi
        exact hall.out i hi c (by rw [← e]; exact List.getElem?_eq_getElem _)
      have hf := hiff.symm.trans hr.out
      replace hf := Hid.mk hf
      clear hiff
      by_cases h1 : 1 ≤ s.size
      · have g1 : (1 : Int) ≤ (s.size : Int) := by omega
        by_cases h2 : s.size ≤ 12
        · have g2 : (s.size : Int) ≤ 12 := by omega
          have hR := hf.out
          rw [decide_eq_true h1, decide_eq_true h2] at hR
          replace hR := Hid.mk hR
          clear hf
          go_wp2
          go_ret
          exact ⟨congrArg (fun z => Ending.returned (.bool z)) hR.out, rfl⟩
        · have g2 : ¬ (s.size : Int) ≤ 12 := by omega
          have hR := hf.out
          rw [decide_eq_true h1, decide_eq_false h2] at hR
          replace hR := Hid.mk hR
          clear hf
          go_wp2
          go_ret
          exact ⟨congrArg (fun z => Ending.returned (.bool z)) hR.out, rfl⟩
      · have g1 : ¬ (1 : Int) ≤ (s.size : Int) := by omega
        have hR := hf.out
        rw [decide_eq_false h1, Bool.false_and] at hR
        replace hR := Hid.mk hR
        clear hf
        go_wp2
        go_ret
        exact ⟨congrArg (fun z => Ending.returned (.bool z)) hR.out, rfl⟩
theorem falls_set {T : Nat → Prop} {rb : Nat} {d : Dk} {w : World} (h : RdAt w T rb d) : RdAt ((((w.setCell ⟨rb, 1, none⟩ (.bool true)).setCell ⟨rb, 2, none⟩ (.int .i64 (-1))).setCell ⟨rb, 3, none⟩ (.int .i64 0)).setCell ⟨rb, 4, none⟩ (.int .i64 0)) T rb (falls d) ∧ GrS (fun k => k = rb) w ((((w.setCell ⟨rb, 1, none⟩ (.bool true)).setCell ⟨rb, 2, none⟩ (.int .i64 (-1))).setCell ⟨rb, 3, none⟩ (.int .i64 0)).setCell ⟨rb, 4, none⟩ (.int .i64 0)) := by
  have hg := (((grS_set w rb 1 (.bool true)).trans (grS_set _ rb 2 (.int .i64 (-1)))).trans (grS_set _ rb 3 (.int .i64 0))).trans (grS_set _ rb 4 (.int .i64 0))
  refine ⟨h.turn rfl (Rigs.falls d) hg (fun v hrow => ?_), hg⟩
  unfold rdRow at hrow
  rw [heap_setCell_same _ _ _ _ _ _ (heap_setCell_same _ _ _ _ _ _ (heap_setCell_same _ _ _ _ _ _ (heap_setCell_same _ _ _ _ _ _ hrow)))]
  rfl
set_option maxRecDepth 4000 in
set_option maxHeartbeats 1000000 in
theorem rfalls_any {T : Nat → Prop} {rb : Nat} {d : Dk} (w : World) (h : RdAt w T rb d) : Calls Tryz.prog 81 #[.pointer (some ⟨rb, 0, none⟩)] w fun e w' => e = .returned (.tuple #[]) ∧ RdAt w' T rb (falls d) ∧ GrS (fun k => k = rb) w w' := by
  have hX := Hid.mk (falls_set h)
  obtain ⟨v, hrow, -⟩ := h.ex
  obtain ⟨c0, c1, c2, c3, c4, fz⟩ := rd_cells hrow
  have f1 := fz 1
  have f2 := fz 2
  have f3 := fz 3
  have f4 := fz 4
  clear fz
  clear hrow h
  go_enter Tryz.func81, Tryz.ntmps81
  go_wp2
  go_end0
  exact ⟨rfl, hX.out.1, hX.out.2⟩
set_option maxRecDepth 4000 in
set_option maxHeartbeats 1000000 in
theorem rcrash_any {T : Nat → Prop} {rb : Nat} {d : Dk} (w : World) (h : RdAt w T rb d) : Calls Tryz.prog 30 #[.pointer (some ⟨rb, 0, none⟩)] w fun e w' => e = .returned (.tuple #[]) ∧ RdAt w' T rb (falls d) ∧ GrS (fun k => k = rb) w w' := by
  have hf := rfalls_any w h
  go_enter Tryz.func30, Tryz.ntmps30
  go_wp2_with (go_at_call 81; refine hf.mono ?_; rintro e w1 ⟨rfl, h1, h2⟩; replace h1 := Hid.mk h1; replace h2 := Hid.mk h2)
  go_end0
  exact ⟨rfl, h1.out, h2.out⟩
set_option maxRecDepth 4000 in
set_option maxHeartbeats 1000000 in
theorem rarm_any {T : Nat → Prop} {rb : Nat} {d : Dk} {u : Int} (hu : u ≤ 9223372036854775807) (hu0 : -9223372036854775808 ≤ u) (w : World) (h : RdAt w T rb d) : Calls Tryz.prog 26 #[.pointer (some ⟨rb, 0, none⟩), .int .i64 u] w fun e w' => e = .returned (.tuple #[]) ∧ RdAt w' T rb (arm d u) ∧ GrS (fun k => k = rb) w w' := by
  obtain ⟨v, hrow, -⟩ := h.ex
  obtain ⟨c0, c1, c2, c3, c4, fz⟩ := rd_cells hrow
  have f1 := fz 1
  have f2 := fz 2
  have f3 := fz 3
  have f4 := fz 4
  clear fz
  cases hd : d.down with
  | true =>
    rw [hd] at c1
    have hD : Hid (RdAt w T rb (arm d u)) := ⟨by unfold arm; rw [if_pos hd]; exact h⟩
    clear h hrow
    go_enter Tryz.func26, Tryz.ntmps26
    go_wp2
    go_end0
    exact ⟨rfl, hD.out, .refl _ _⟩
  | false =>
    rw [hd] at c1
    have ha : arm d u = { d with units := if u < 0 then none else some u.toNat } := by unfold arm; rw [if_neg (by rw [hd]; decide)]
    obtain ⟨m, hm⟩ : ∃ m, max u (-1) = m := ⟨_, rfl⟩
    have hg := grS_set w rb 2 (.int .i64 m)
    have hD : Hid (RdAt (w.setCell ⟨rb, 2, none⟩ (.int .i64 m)) T rb (arm d u)) := ⟨h.turn (arm_fs d u) (h.rigs.arm hu) hg (fun v hv => by
      unfold rdRow at hv
      rw [heap_setCell_same _ _ _ _ _ _ hv, ha]
      unfold rdRow rU
      by_cases h0 : u < 0
      · simp [h0, hd]; omega
      · simp [h0, hd]; omega)⟩
    clear h hrow ha
    go_enter Tryz.func26, Tryz.ntmps26
    go_wp2
    go_end0
    exact ⟨rfl, hD.out, hg⟩
set_option maxRecDepth 4000 in
set_option maxHeartbeats 1000000 in
theorem rfail_any {T : Nat → Prop} {rb : Nat} {d : Dk} {a c : Int} (ha : a ≤ 9223372036854775807) (ha0 : -9223372036854775808 ≤ a) (hc : c ≤ 9223372036854775807) (hc0 : -9223372036854775808 ≤ c) (w : World) (h : RdAt w T rb d) : Calls Tryz.prog 28 #[.pointer (some ⟨rb, 0, none⟩), .int .i64 a, .int .i64 c] w fun e w' => e = .returned (.tuple #[]) ∧ RdAt w' T rb (fail d a c) ∧ GrS (fun k => k = rb) w w' := by
  obtain ⟨v, hrow, -⟩ := h.ex
  obtain ⟨c0, c1, c2, c3, c4, fz⟩ := rd_cells hrow
  have f1 := fz 1
  have f2 := fz 2
  have f3 := fz 3
  have f4 := fz 4
  clear fz
  cases hd : d.down with
  | true =>
    rw [hd] at c1
    have hD : Hid (RdAt w T rb (fail d a c)) := ⟨by unfold fail; rw [if_pos hd]; exact h⟩
    clear h hrow
    go_enter Tryz.func28, Tryz.ntmps28
    go_wp2
    refine bodyPost_ret (results_none rfl _ _ _) rfl ?_
    exact ⟨rfl, hD.out, .refl _ _⟩
  | false =>
    rw [hd] at c1
    have key0 : ¬ (0 ≤ a ∧ 0 < c) → RdAt ((w.setCell ⟨rb, 3, none⟩ (.int .i64 0)).setCell ⟨rb, 4, none⟩ (.int .i64 0)) T rb (fail d a c) := fun h0 => h.turn (fail_fs d a c) (h.rigs.fail ha hc) ((grS_set w rb 3 _).trans (grS_set _ rb 4 _)) (fun v hv => by
      unfold rdRow at hv
      rw [heap_setCell_same _ _ _ _ _ _ (heap_setCell_same _ _ _ _ _ _ hv)]
      unfold rdRow rU fail
      rw [if_neg (by rw [hd]; decide), if_neg h0]
      simp [hd])
    have key1 : 0 ≤ a ∧ 0 < c → RdAt ((((w.setCell ⟨rb, 3, none⟩ (.int .i64 0)).setCell ⟨rb, 4, none⟩ (.int .i64 0)).setCell ⟨rb, 3, none⟩ (.int .i64 a)).setCell ⟨rb, 4, none⟩ (.int .i64 c)) T rb (fail d a c) := fun h0 => h.turn (fail_fs d a c) (h.rigs.fail ha hc) ((((grS_set w rb 3 _).trans (grS_set _ rb 4 _)).trans (grS_set _ rb 3 _)).trans (grS_set _ rb 4 _)) (fun v hv => by
      unfold rdRow at hv
      rw [heap_setCell_same _ _ _ _ _ _ (heap_setCell_same _ _ _ _ _ _ (heap_setCell_same _ _ _ _ _ _ (heap_setCell_same _ _ _ _ _ _ hv)))]
      unfold rdRow rU fail
      rw [if_neg (by rw [hd]; decide), if_pos h0]
      simp [hd]
      omega)
    replace key0 := Hid.mk key0
    replace key1 := Hid.mk key1
    clear h hrow
    by_cases p1 : a < 0
    · have g0 : ¬ (0 : Int) ≤ a := by omega
      go_enter Tryz.func28, Tryz.ntmps28
      go_wp2
      go_end0
      exact ⟨rfl, key0.out (by omega), (grS_set w rb 3 _).trans (grS_set _ rb 4 _)⟩
    by_cases p2 : c ≤ 0
    · have g0 : (0 : Int) ≤ a := by omega
      have g1 : ¬ (0 : Int) < c := by omega
      go_enter Tryz.func28, Tryz.ntmps28
      go_wp2
      go_end0
      exact ⟨rfl, key0.out (by omega), (grS_set w rb 3 _).trans (grS_set _ rb 4 _)⟩
    have g0 : (0 : Int) ≤ a := by omega
    have g1 : (0 : Int) < c := by omega
    go_enter Tryz.func28, Tryz.ntmps28
    go_wp2
    go_end0
    exact ⟨rfl, key1.out (by omega), (((grS_set w rb 3 _).trans (grS_set _ rb 4 _)).trans (grS_set _ rb 3 _)).trans (grS_set _ rb 4 _)⟩
theorem strB_bs {nm : List Nat} (hb : ∀ x ∈ nm, x < 256) : bs (strB nm) = nm := by
  unfold bs strB
  rw [strOfNums_data, List.map_map, List.map_map]
  conv => rhs; rw [← List.map_id nm]
  apply List.map_congr_left
  intro n hn
  have := hb n hn
  simp only [Function.comp, Int.toNat_natCast, id, UInt8.toNat_ofNat']
  omega
set_option maxRecDepth 4000 in
set_option maxHeartbeats 1000000 in
theorem rfirst_any {T : Nat → Prop} {rb : Nat} {d : Dk} {nm : List Nat} (hl : nm.length ≤ 4294967296) (hb : ∀ x ∈ nm, x < 256) (w : World) (h : RdAt w T rb d) : Calls Tryz.prog 69 #[.pointer (some ⟨rb, 0, none⟩), .string (strB nm)] w fun e w' => e = .returned (.int .i64 ((first d nm).1 : Int)) ∧ RdAt w' T rb ((first d nm).2) ∧ GrS (fun k => k = rb) w w' := by
  have hnm := rnamed_any (strB nm) (by rw [← bs_len, strB_bs hb]; exact hl) w
  rw [strB_bs hb] at hnm
  obtain ⟨v, hrow, -⟩ := h.ex
  obtain ⟨c0, c1, c2, c3, c4, fz⟩ := rd_cells hrow
  have f1 := fz 1
  have f2 := fz 2
  have f3 := fz 3
  have f4 := fz 4
  clear fz
  obtain ⟨q, hq⟩ : ∃ q, first d nm = q := ⟨_, rfl⟩
  rw [hq]
  unfold first at hq
  by_cases hn : named nm
  rotate_left
  · rw [if_pos hn] at hq
    subst hq
    rw [decide_eq_false hn] at hnm
    replace h := Hid.mk h
    clear hrow hn
    go_enter Tryz.func69, Tryz.ntmps69
    go_wp2_with (go_at_call 37; refine hnm.mono ?_; rintro e w1 ⟨rfl, hw⟩; subst w1)
    go_ret
    exact ⟨rfl, h.out, .refl _ _⟩
  rw [if_neg (fun g => g hn)] at hq
  rw [decide_eq_true hn] at hnm
  cases hd : d.down with
  | true =>
    rw [if_pos hd] at hq
    rw [hd] at c1
    subst hq
    replace h := Hid.mk h
    clear hrow hn
    go_enter Tryz.func69, Tryz.ntmps69
    go_wp2_with (go_at_call 37; refine hnm.mono ?_; rintro e w1 ⟨rfl, hw⟩; subst w1)
    go_ret
    exact ⟨rfl, h.out, .refl _ _⟩
  | false =>
    rw [if_neg (by rw [hd]; decide)] at hq
    rw [hd] at c1
    have hca := h.rigs.ca
    have haf := h.rigs.af
    by_cases hc : 0 < d.calls
    rotate_left
    · rw [if_neg hc] at hq
      subst hq
      have hc' : ¬ (0 : Int) < (d.calls : Int) := by omega
      replace h := Hid.mk h
      clear hrow hn
      go_enter Tryz.func69, Tryz.ntmps69
      go_wp2_with (go_at_call 37; refine hnm.mono ?_; rintro e w1 ⟨rfl, hw⟩; subst w1)
      go_ret
      exact ⟨rfl, h.out, .refl _ _⟩
    rw [if_pos hc] at hq
    have hc' : (0 : Int) < (d.calls : Int) := by omega
    by_cases ha : 0 < d.after
    · rw [if_pos ha] at hq
      subst hq
      have ha' : (0 : Int) < (d.after : Int) := by omega
      obtain ⟨n, hn1⟩ : ∃ n, d.after = n + 1 := ⟨d.after - 1, by omega⟩
      have hD : Hid (RdAt (w.setCell ⟨rb, 3, none⟩ (.int .i64 (n : Int))) T rb { d with after := d.after - 1 }) := ⟨h.turn rfl ⟨h.rigs.un, by show d.after - 1 ≤ _; omega, h.rigs.ca, fun e => absurd (hd.symm.trans e) (by decide)⟩ (grS_set w rb 3 _) (fun v hv => by
        unfold rdRow at hv
        rw [heap_setCell_same _ _ _ _ _ _ hv]
        unfold rdRow rU
        simp [hn1])⟩
      rw [hn1] at c3
      have c3' : w.cell? ⟨rb, 3, none⟩ = some (.int .i64 ((n : Int) + 1)) := c3
      have g0 : (0 : Int) < (n : Int) + 1 := by omega
      have g1 : (n : Int) + 1 ≤ 9223372036854775807 := by omega
      clear h hrow hn c3 ha' ha hn1 haf
      go_enter Tryz.func69, Tryz.ntmps69
      go_wp2_with (go_at_call 37; refine hnm.mono ?_; rintro e w1 ⟨rfl, hw⟩; subst w1)
      go_ret
      exact ⟨rfl, hD.out, grS_set w rb 3 _⟩
    · rw [if_neg ha] at hq
      subst hq
      have ha' : ¬ (0 : Int) < (d.after : Int) := by omega
      obtain ⟨n, hn1⟩ : ∃ n, d.calls = n + 1 := ⟨d.calls - 1, by omega⟩
      have hD : Hid (RdAt (w.setCell ⟨rb, 4, none⟩ (.int .i64 (n : Int))) T rb { d with calls := d.calls - 1 }) := ⟨h.turn rfl ⟨h.rigs.un, h.rigs.af, by show d.calls - 1 ≤ _; omega, fun e => absurd (hd.symm.trans e) (by decide)⟩ (grS_set w rb 4 _) (fun v hv => by
        unfold rdRow at hv
        rw [heap_setCell_same _ _ _ _ _ _ hv]
        unfold rdRow rU
        simp [hn1])⟩
      rw [hn1] at c4 hc'
      have c4' : w.cell? ⟨rb, 4, none⟩ = some (.int .i64 ((n : Int) + 1)) := c4
      have g0 : (0 : Int) < (n : Int) + 1 := by omega
      have g1 : (n : Int) + 1 ≤ 9223372036854775807 := by omega
      clear h hrow hn c4 hc' hc hn1 hca
      go_enter Tryz.func69, Tryz.ntmps69
      go_wp2_with (go_at_call 37; refine hnm.mono ?_; rintro e w1 ⟨rfl, hw⟩; subst w1)
      go_ret
      exact ⟨rfl, hD.out, grS_set w rb 4 _⟩
/-- What pays answers. -/
def paysV : Option Nat → Value
  | none => .tuple #[.bool true, .int .i64 0]
  | some n => .tuple #[.bool false, .int .i64 (n : Int)]
set_option maxRecDepth 4000 in
set_option maxHeartbeats 1000000 in
theorem rpays_any {T : Nat → Prop} {rb : Nat} {d : Dk} {c : Nat} (hcost : c ≤ 9223372036854775807) (w : World) (h : RdAt w T rb d) : Calls Tryz.prog 70 #[.pointer (some ⟨rb, 0, none⟩), .int .i64 (c : Int)] w fun e w' => e = .returned (paysV (pays d c).1) ∧ RdAt w' T rb ((pays d c).2) ∧ GrS (fun k => k = rb) w w' := by
  obtain ⟨v, hrow, -⟩ := h.ex
  obtain ⟨c0, c1, c2, c3, c4, fz⟩ := rd_cells hrow
  have f1 := fz 1
  have f2 := fz 2
  have f3 := fz 3
  have f4 := fz 4
  clear fz
  obtain ⟨q, hq⟩ : ∃ q, pays d c = q := ⟨_, rfl⟩
  rw [hq]
  unfold pays at hq
  cases hu : d.units with
  | none =>
    rw [hu] at hq
    subst hq
    have c2' : w.cell? ⟨rb, 2, none⟩ = some (.int .i64 (-1)) := by rw [c2]; unfold rU; rw [hu]
    replace h := Hid.mk h
    clear hrow c2 hu
    go_enter Tryz.func70, Tryz.ntmps70
    go_wp2
    refine bodyPost_ret (v := .tuple #[.bool true, .int .i64 0]) (by simp [results, Tryz.results70, go_sem]) rfl ?_
    exact ⟨rfl, h.out, .refl _ _⟩
  | some u =>
    rw [hu] at hq
    simp only at hq
    have hu1 := h.rigs.un u hu
    have c2' : w.cell? ⟨rb, 2, none⟩ = some (.int .i64 (u : Int)) := by rw [c2]; unfold rU; rw [hu]
    have g0 : ¬ (u : Int) < 0 := by omega
    have hu1' : (u : Int) ≤ 9223372036854775807 := by omega
    by_cases hc : c ≤ u
    · rw [if_pos hc] at hq
      subst hq
      have hc' : (c : Int) ≤ (u : Int) := by omega
      have hD : Hid (RdAt (w.setCell ⟨rb, 2, none⟩ (.int .i64 ((u : Int) - (c : Int)))) T rb { d with units := some (u - c) }) := ⟨h.turn rfl ⟨fun v hv => by injection hv with hv; omega, h.rigs.af, h.rigs.ca, fun e => by have := (h.rigs.dn e).1; rw [hu] at this; cases this⟩ (grS_set w rb 2 _) (fun v hv => by
        unfold rdRow at hv
        rw [heap_setCell_same _ _ _ _ _ _ hv]
        unfold rdRow rU
        simp
        omega)⟩
      clear h hrow c2 hu hc hu1
      go_enter Tryz.func70, Tryz.ntmps70
      go_wp2
      refine bodyPost_ret (v := .tuple #[.bool true, .int .i64 0]) (by simp [results, Tryz.results70, go_sem]) rfl ?_
      exact ⟨rfl, hD.out, grS_set w rb 2 _⟩
    · rw [if_neg hc] at hq
      subst hq
      have hc' : ¬ (c : Int) ≤ (u : Int) := by omega
      have hf := rfalls_any w h
      clear h hrow c2 hu hc hu1
      go_enter Tryz.func70, Tryz.ntmps70
      go_wp2_with (go_at_call 81; refine hf.mono ?_; rintro e w1 ⟨rfl, h1, h2⟩; replace h1 := Hid.mk h1; replace h2 := Hid.mk h2)
      refine bodyPost_ret (v := .tuple #[.bool false, .int .i64 (u : Int)]) (by simp [results, Tryz.results70, go_sem]) rfl ?_
      exact ⟨rfl, h1.out, h2.out⟩
end Go.Proofs.YthbojlbgjmecoaaGreat.DJ

import Derived.Test.YtnmcniibcjjflaaDoorTurnDoes
import Derived.Test.YtnmcniibcjjflaaDoorJoin28
import Derived.Test.YtnmcniibcjjflaaDoorTurnRefScale
import Derived.Test.YtnmcniibcjjflaaDoorTurnRefTimes
import Derived.Test.YtnmcniibcjjflaaDoorTurnRefSplit2
import Derived.Test.YtnmcniibcjjflaaDoorJoin10
import Derived.Test.YtnmcniibcjjflaaDoorTurnRefBracket2
namespace Go.Proofs.YtnmcniibcjjflaaDoor
open Go.RowKit Go.Shelf

set_option maxHeartbeats 1000000 in
theorem does_14 (k0 n0 k1 n1 k2 n2 num den mode : Int) (bv : Value) (la : Option Addr) (ln lcap : Nat) (w : World) (hK : Kinds w) (vs : List (Int × Int)) (hln : vs.length = ln) (hl : vs.length ≤ 20000) (hV : Vals w la vs) (r : (Int × Int) × Nat) (hr : Hid (r = tkn mode vs)) :
    Calls Tryd.prog 11 #[.agg (opl 14 k0 n0 k1 n1 k2 n2 num den mode bv (.slice la ln lcap))] w fun e w' => e = .returned (.agg #[.int .i64 r.1.1, .int .i64 r.1.2]) ∧ Below w.heap.size w w' := by
  subst hln
  have hk := hK.1
  have hb2 := below_two w (.cells (opl 14 k0 n0 k1 n1 k2 n2 num den mode bv (.slice la vs.length lcap)) 38) (.cells #[.int .i64 0, .int .i64 0] 24)
  have hR := box_two w (.cells (opl 14 k0 n0 k1 n1 k2 n2 num den mode bv (.slice la vs.length lcap)) 38)
  have hs2 : ((w.alloc (.cells (opl 14 k0 n0 k1 n1 k2 n2 num den mode bv (.slice la vs.length lcap)) 38)).alloc (.cells #[.int .i64 0, .int .i64 0] 24)).heap.size = w.heap.size + 2 := by simp
  go_enter Tryd.func11, Tryd.ntmps11
  go_wp2_with (go_at_call 8; fail)
  generalize ((w.alloc (.cells (opl 14 k0 n0 k1 n1 k2 n2 num den mode bv (.slice la vs.length lcap)) 38)).alloc (.cells #[.int .i64 0, .int .i64 0] 24)) = X at *
  have hZ := Box.new X (.slice la vs.length lcap) (.int .i64 0) 29
  have hb3 : Below X.heap.size X (X.alloc (.cells #[.slice la vs.length lcap, .int .i64 0] 29)) := (Below.refl _ _).alloc (Nat.le_refl _) _
  have hV3 := (hV.later hb2).later hb3
  have hK3 := (hK.later hb2).later hb3
  have hR3 := hR.later hb3
  have hb4 := below_step hb2 hb3
  have hsz := hb3.size
  rw [hs2] at hZ
  generalize X.alloc (.cells #[.slice la vs.length lcap, .int .i64 0] 29) = Y at *
  refine (sum_any (w.heap.size + 2) mode la lcap vs hl Y hK3 ⟨hZ.1, hZ.2.1, hZ.2.2.2, hV3, hZ.2.2.1⟩ (by omega) (vals_other (hV.later hb2) (by omega)) r hr).mono ?_
  rintro e w3 ⟨rfl, hO, -⟩
  have hB : Below w.heap.size w w3 := ⟨hO.os.trans hb4.os, hO.tape.trans hb4.tape, hO.output.trans hb4.output, Nat.le_trans hb4.size hO.size, fun k hk => (hO.block k (by have := hb4.size; omega) (by omega)).trans (hb4.block k hk)⟩
  have hbk := hO.block (w.heap.size + 1) (by omega) (by omega)
  have r0 := (World.cell?_of_block hbk).trans hR3.1
  have r1 := (World.cell?_of_block hbk).trans hR3.2.1
  have q0 := (World.frozen?_of_block hbk).trans hR3.2.2.1
  have q1 := (World.frozen?_of_block hbk).trans hR3.2.2.2
  go_wp2
  exact bodyPost_ret (v := .agg #[.int .i64 r.1.1, .int .i64 r.1.2]) (by simp [results, Tryd.results11, go_sem, r0, r1]) rfl ⟨rfl, (hB.setCell (by simp) _).setCell (by simp) _⟩

set_option maxHeartbeats 1000000 in
theorem does_0 (kind k0 n0 k1 n1 k2 n2 num den mode : Int) (bv lv : Value) (w : World) (hK : Kinds w) (hk : kind < 1 ∨ 14 < kind) (b : Bool) (hb : M.valid k0 n0 = b) :
    Calls Tryd.prog 11 #[.agg (opl kind k0 n0 k1 n1 k2 n2 num den mode bv lv)] w fun e w' => e = .returned (.agg #[.int .i64 3, .int .i64 (if b then 1 else 0)]) ∧ Below w.heap.size w w' := by
  have e1 : (kind == 1) = false := by simp; omega
  have e2 : (kind == 2) = false := by simp; omega
  have e3 : (kind == 3) = false := by simp; omega
  have e4 : (kind == 4) = false := by simp; omega
  have e5 : (kind == 5) = false := by simp; omega
  have e6 : (kind == 6) = false := by simp; omega
  have e7 : (kind == 7) = false := by simp; omega
  have e8 : (kind == 8) = false := by simp; omega
  have e9 : (kind == 9) = false := by simp; omega
  have e10 : (kind == 10) = false := by simp; omega
  have e11 : (kind == 11) = false := by simp; omega
  have e12 : (kind == 12) = false := by simp; omega
  have e13 : (kind == 13) = false := by simp; omega
  have e14 : (kind == 14) = false := by simp; omega
  have hv := valid_any k0 n0 ((w.alloc (.cells (opl kind k0 n0 k1 n1 k2 n2 num den mode bv lv) 38)).alloc (.cells #[.int .i64 0, .int .i64 0] 24)) ((hK.alloc _).alloc _)
  rw [hb] at hv
  cases b
  all_goals
    go_enter Tryd.func11, Tryd.ntmps11
    go_wp2_with (go_at_call 12; refine hv.mono ?_; rintro e w3 ⟨rfl, hb3⟩; obtain ⟨r0, r1, q0, q1⟩ := (box_two w (.cells (opl kind k0 n0 k1 n1 k2 n2 num den mode bv lv) 38)).later hb3; have hB3 := below_step (below_two _ _ _) hb3; clear hb3)
  · exact bodyPost_ret (v := .agg #[.int .i64 3, .int .i64 0]) (by simp [results, Tryd.results11, go_sem, r0, r1]) rfl ⟨rfl, (hB3.setCell (by simp) _).setCell (by simp) _⟩
  · exact bodyPost_ret (v := .agg #[.int .i64 3, .int .i64 1]) (by simp [results, Tryd.results11, go_sem, r0, r1]) rfl ⟨rfl, (hB3.setCell (by simp) _).setCell (by simp) _⟩

end Go.Proofs.YtnmcniibcjjflaaDoor


namespace Go.Proofs.YtnmcniibcjjflaaDoor
open Go.RowKit Go.Shelf

set_option maxHeartbeats 1000000 in
theorem rdoes_1 (k0 n0 k1 n1 k2 n2 num den mode : Int) (ba : Option Addr) (bn bcap : Nat) (lv : Value) (w : World) (r : Int × Int) (hr : Hid (r = M.ans (M.refuse (takesB k0 1) k0 n0 [(k1, n1)]) (M.fit true k0 (wrap64 (n0 + n1))))) :
    Calls Tryd.prog 13 #[.agg (opl 1 k0 n0 k1 n1 k2 n2 num den mode (.slice ba bn bcap) lv)] w fun e w' => e = .returned (.agg #[.int .i64 r.1, .int .i64 r.2]) ∧ Below w.heap.size w w' := by
  go_enter Tryd.func13, Tryd.ntmps13
  go_wp2_with (go_at_call 36; refine (radd_any k0 n0 k1 n1 _ r (by rw [any_1]; exact hr)).mono ?_; rintro e w3 ⟨rfl, hb3⟩; obtain ⟨r0, r1, q0, q1⟩ := (box_two w (.cells (opl 1 k0 n0 k1 n1 k2 n2 num den mode (.slice ba bn bcap) lv) 38)).later hb3; have hB3 := below_step (below_two _ _ _) hb3; clear hb3)
  exact bodyPost_ret (v := .agg #[.int .i64 r.1, .int .i64 r.2]) (by simp [results, Tryd.results13, go_sem, r0, r1]) rfl ⟨rfl, (hB3.setCell (by simp) _).setCell (by simp) _⟩

set_option maxHeartbeats 1000000 in
theorem rdoes_2 (k0 n0 k1 n1 k2 n2 num den mode : Int) (ba : Option Addr) (bn bcap : Nat) (lv : Value) (w : World) (r : Int × Int) (hr : Hid (r = M.ans (M.refuse (takesB k0 1) k0 n0 [(k1, n1)]) (M.fit true k0 (wrap64 (n0 - n1))))) :
    Calls Tryd.prog 13 #[.agg (opl 2 k0 n0 k1 n1 k2 n2 num den mode (.slice ba bn bcap) lv)] w fun e w' => e = .returned (.agg #[.int .i64 r.1, .int .i64 r.2]) ∧ Below w.heap.size w w' := by
  go_enter Tryd.func13, Tryd.ntmps13
  go_wp2_with (go_at_call 37; refine (rsub_any k0 n0 k1 n1 _ r (by rw [any_1]; exact hr)).mono ?_; rintro e w3 ⟨rfl, hb3⟩; obtain ⟨r0, r1, q0, q1⟩ := (box_two w (.cells (opl 2 k0 n0 k1 n1 k2 n2 num den mode (.slice ba bn bcap) lv) 38)).later hb3; have hB3 := below_step (below_two _ _ _) hb3; clear hb3)
  exact bodyPost_ret (v := .agg #[.int .i64 r.1, .int .i64 r.2]) (by simp [results, Tryd.results13, go_sem, r0, r1]) rfl ⟨rfl, (hB3.setCell (by simp) _).setCell (by simp) _⟩

set_option maxHeartbeats 1000000 in
theorem rdoes_3 (k0 n0 k1 n1 k2 n2 num den mode : Int) (ba : Option Addr) (bn bcap : Nat) (lv : Value) (w : World) (r : Int × Int) (hr : Hid (r = M.ans (M.refuse (takesB k0 1) k0 n0 []) (M.fit true k0 (wrap64 (-n0))))) :
    Calls Tryd.prog 13 #[.agg (opl 3 k0 n0 k1 n1 k2 n2 num den mode (.slice ba bn bcap) lv)] w fun e w' => e = .returned (.agg #[.int .i64 r.1, .int .i64 r.2]) ∧ Below w.heap.size w w' := by
  go_enter Tryd.func13, Tryd.ntmps13
  go_wp2_with (go_at_call 38; refine (rneg_any k0 n0 _ r (by rw [any_1]; exact hr)).mono ?_; rintro e w3 ⟨rfl, hb3⟩; obtain ⟨r0, r1, q0, q1⟩ := (box_two w (.cells (opl 3 k0 n0 k1 n1 k2 n2 num den mode (.slice ba bn bcap) lv) 38)).later hb3; have hB3 := below_step (below_two _ _ _) hb3; clear hb3)
  exact bodyPost_ret (v := .agg #[.int .i64 r.1, .int .i64 r.2]) (by simp [results, Tryd.results13, go_sem, r0, r1]) rfl ⟨rfl, (hB3.setCell (by simp) _).setCell (by simp) _⟩

set_option maxHeartbeats 1000000 in
theorem rdoes_4 (k0 n0 k1 n1 k2 n2 num den mode : Int) (ba : Option Addr) (bn bcap : Nat) (lv : Value) (w : World) (r : Int × Int) (m : Int) (hm : (n0 < wrap64 (-n0) ∧ m = wrap64 (-n0)) ∨ (¬ n0 < wrap64 (-n0) ∧ m = n0)) (hr : Hid (r = M.ans (M.refuse (takesB k0 1) k0 n0 []) (M.fit true k0 m))) :
    Calls Tryd.prog 13 #[.agg (opl 4 k0 n0 k1 n1 k2 n2 num den mode (.slice ba bn bcap) lv)] w fun e w' => e = .returned (.agg #[.int .i64 r.1, .int .i64 r.2]) ∧ Below w.heap.size w w' := by
  go_enter Tryd.func13, Tryd.ntmps13
  go_wp2_with (go_at_call 39; refine (rabs_any k0 n0 _ m hm r (by rw [any_1]; exact hr)).mono ?_; rintro e w3 ⟨rfl, hb3⟩; obtain ⟨r0, r1, q0, q1⟩ := (box_two w (.cells (opl 4 k0 n0 k1 n1 k2 n2 num den mode (.slice ba bn bcap) lv) 38)).later hb3; have hB3 := below_step (below_two _ _ _) hb3; clear hb3)
  exact bodyPost_ret (v := .agg #[.int .i64 r.1, .int .i64 r.2]) (by simp [results, Tryd.results13, go_sem, r0, r1]) rfl ⟨rfl, (hB3.setCell (by simp) _).setCell (by simp) _⟩

set_option maxHeartbeats 1000000 in
theorem rdoes_5 (k0 n0 k1 n1 k2 n2 num den mode : Int) (ba : Option Addr) (bn bcap : Nat) (lv : Value) (w : World) (r : Int × Int) (m : Int) (hm : (n1 < n0 ∧ m = n1) ∨ (¬ n1 < n0 ∧ m = n0)) (hr : Hid (r = M.ans (M.refuse (takesB k0 2) k0 n0 [(k1, n1)]) (M.fit true k0 m))) :
    Calls Tryd.prog 13 #[.agg (opl 5 k0 n0 k1 n1 k2 n2 num den mode (.slice ba bn bcap) lv)] w fun e w' => e = .returned (.agg #[.int .i64 r.1, .int .i64 r.2]) ∧ Below w.heap.size w w' := by
  go_enter Tryd.func13, Tryd.ntmps13
  go_wp2_with (go_at_call 40; refine (rmin_any k0 n0 k1 n1 _ m hm r (by rw [any_2]; exact hr)).mono ?_; rintro e w3 ⟨rfl, hb3⟩; obtain ⟨r0, r1, q0, q1⟩ := (box_two w (.cells (opl 5 k0 n0 k1 n1 k2 n2 num den mode (.slice ba bn bcap) lv) 38)).later hb3; have hB3 := below_step (below_two _ _ _) hb3; clear hb3)
  exact bodyPost_ret (v := .agg #[.int .i64 r.1, .int .i64 r.2]) (by simp [results, Tryd.results13, go_sem, r0, r1]) rfl ⟨rfl, (hB3.setCell (by simp) _).setCell (by simp) _⟩

set_option maxHeartbeats 1000000 in
theorem rdoes_6 (k0 n0 k1 n1 k2 n2 num den mode : Int) (ba : Option Addr) (bn bcap : Nat) (lv : Value) (w : World) (r : Int × Int) (m : Int) (hm : (n0 < n1 ∧ m = n1) ∨ (¬ n0 < n1 ∧ m = n0)) (hr : Hid (r = M.ans (M.refuse (takesB k0 2) k0 n0 [(k1, n1)]) (M.fit true k0 m))) :
    Calls Tryd.prog 13 #[.agg (opl 6 k0 n0 k1 n1 k2 n2 num den mode (.slice ba bn bcap) lv)] w fun e w' => e = .returned (.agg #[.int .i64 r.1, .int .i64 r.2]) ∧ Below w.heap.size w w' := by
  go_enter Tryd.func13, Tryd.ntmps13
  go_wp2_with (go_at_call 41; refine (rmax_any k0 n0 k1 n1 _ m hm r (by rw [any_2]; exact hr)).mono ?_; rintro e w3 ⟨rfl, hb3⟩; obtain ⟨r0, r1, q0, q1⟩ := (box_two w (.cells (opl 6 k0 n0 k1 n1 k2 n2 num den mode (.slice ba bn bcap) lv) 38)).later hb3; have hB3 := below_step (below_two _ _ _) hb3; clear hb3)
  exact bodyPost_ret (v := .agg #[.int .i64 r.1, .int .i64 r.2]) (by simp [results, Tryd.results13, go_sem, r0, r1]) rfl ⟨rfl, (hB3.setCell (by simp) _).setCell (by simp) _⟩

set_option maxHeartbeats 1000000 in
theorem rdoes_7 (k0 n0 k1 n1 k2 n2 num den mode : Int) (ba : Option Addr) (bn bcap : Nat) (lv : Value) (w : World) (r : Int × Int) (m : Int) (hm : IsClamp n0 n1 n2 m) (hr : Hid (r = M.ans (M.refuse (takesB k0 2) k0 n0 [(k1, n1), (k2, n2)]) (M.fit true k0 m))) :
    Calls Tryd.prog 13 #[.agg (opl 7 k0 n0 k1 n1 k2 n2 num den mode (.slice ba bn bcap) lv)] w fun e w' => e = .returned (.agg #[.int .i64 r.1, .int .i64 r.2]) ∧ Below w.heap.size w w' := by
  go_enter Tryd.func13, Tryd.ntmps13
  go_wp2_with (go_at_call 42; refine (rclamp_any k0 n0 k1 n1 k2 n2 _ m hm r (by rw [any_2]; exact hr)).mono ?_; rintro e w3 ⟨rfl, hb3⟩; obtain ⟨r0, r1, q0, q1⟩ := (box_two w (.cells (opl 7 k0 n0 k1 n1 k2 n2 num den mode (.slice ba bn bcap) lv) 38)).later hb3; have hB3 := below_step (below_two _ _ _) hb3; clear hb3)
  exact bodyPost_ret (v := .agg #[.int .i64 r.1, .int .i64 r.2]) (by simp [results, Tryd.results13, go_sem, r0, r1]) rfl ⟨rfl, (hB3.setCell (by simp) _).setCell (by simp) _⟩

set_option maxHeartbeats 1000000 in
theorem rdoes_8 (k0 n0 k1 n1 k2 n2 num den mode : Int) (ba : Option Addr) (bn bcap : Nat) (lv : Value) (w : World) (r : Int × Int) (m : Int × Bool) (hm : Hid (m = M.wh (decide (n0 < 0) != decide (num < 0)) mode (n0.natAbs * num.natAbs) den.natAbs)) (hr : Hid (r = M.ans (M.refuse (takesB k0 8) k0 n0 []) (M.scl num den mode m))) :
    Calls Tryd.prog 13 #[.agg (opl 8 k0 n0 k1 n1 k2 n2 num den mode (.slice ba bn bcap) lv)] w fun e w' => e = .returned (.agg #[.int .i64 r.1, .int .i64 r.2]) ∧ Below w.heap.size w w' := by
  go_enter Tryd.func13, Tryd.ntmps13
  go_wp2_with (go_at_call 43; refine (rscale_any k0 n0 num den mode _ m hm r hr).mono ?_; rintro e w3 ⟨rfl, hb3⟩; obtain ⟨r0, r1, q0, q1⟩ := (box_two w (.cells (opl 8 k0 n0 k1 n1 k2 n2 num den mode (.slice ba bn bcap) lv) 38)).later hb3; have hB3 := below_step (below_two _ _ _) hb3; clear hb3)
  exact bodyPost_ret (v := .agg #[.int .i64 r.1, .int .i64 r.2]) (by simp [results, Tryd.results13, go_sem, r0, r1]) rfl ⟨rfl, (hB3.setCell (by simp) _).setCell (by simp) _⟩

set_option maxHeartbeats 1000000 in
theorem rdoes_9 (k0 n0 k1 n1 k2 n2 num den mode : Int) (ba : Option Addr) (bn bcap : Nat) (lv : Value) (w : World) (r : Int × Int) (m : Int × Bool) (hm : Hid (m = M.wh (decide (n0 < 0) != decide (n1 < 0)) 1 (n0.natAbs * n1.natAbs) 1)) (hr : Hid (r = M.ans (M.pair (takesB k0 8) (takesB k1 16) k0 n0 k1 n1) (M.fit m.2 1 m.1))) :
    Calls Tryd.prog 13 #[.agg (opl 9 k0 n0 k1 n1 k2 n2 num den mode (.slice ba bn bcap) lv)] w fun e w' => e = .returned (.agg #[.int .i64 r.1, .int .i64 r.2]) ∧ Below w.heap.size w w' := by
  go_enter Tryd.func13, Tryd.ntmps13
  go_wp2_with (go_at_call 44; refine (rtimes_any k0 n0 k1 n1 _ m hm r hr).mono ?_; rintro e w3 ⟨rfl, hb3⟩; obtain ⟨r0, r1, q0, q1⟩ := (box_two w (.cells (opl 9 k0 n0 k1 n1 k2 n2 num den mode (.slice ba bn bcap) lv) 38)).later hb3; have hB3 := below_step (below_two _ _ _) hb3; clear hb3)
  exact bodyPost_ret (v := .agg #[.int .i64 r.1, .int .i64 r.2]) (by simp [results, Tryd.results13, go_sem, r0, r1]) rfl ⟨rfl, (hB3.setCell (by simp) _).setCell (by simp) _⟩

set_option maxHeartbeats 1000000 in
theorem rdoes_10 (k0 n0 k1 n1 k2 n2 num den mode : Int) (ba : Option Addr) (bn bcap : Nat) (lv : Value) (w : World) (r : Int × Int) (m : Int × Bool) (hm : Hid (m = M.wh (decide (n0 < 0) != decide (n1 < 0)) mode n0.natAbs n1.natAbs)) (hr : Hid (r = M.ans (M.pair (takesB k0 8) (takesB k1 16) k0 n0 k1 n1) (M.spl mode n1 m))) :
    Calls Tryd.prog 13 #[.agg (opl 10 k0 n0 k1 n1 k2 n2 num den mode (.slice ba bn bcap) lv)] w fun e w' => e = .returned (.agg #[.int .i64 r.1, .int .i64 r.2]) ∧ Below w.heap.size w w' := by
  go_enter Tryd.func13, Tryd.ntmps13
  go_wp2_with (go_at_call 45; refine (rsplit_any k0 n0 k1 n1 mode _ m hm r hr).mono ?_; rintro e w3 ⟨rfl, hb3⟩; obtain ⟨r0, r1, q0, q1⟩ := (box_two w (.cells (opl 10 k0 n0 k1 n1 k2 n2 num den mode (.slice ba bn bcap) lv) 38)).later hb3; have hB3 := below_step (below_two _ _ _) hb3; clear hb3)
  exact bodyPost_ret (v := .agg #[.int .i64 r.1, .int .i64 r.2]) (by simp [results, Tryd.results13, go_sem, r0, r1]) rfl ⟨rfl, (hB3.setCell (by simp) _).setCell (by simp) _⟩

set_option maxHeartbeats 1000000 in
theorem rdoes_11 (k0 n0 k1 n1 k2 n2 num den mode : Int) (ba : Option Addr) (bn bcap : Nat) (lv : Value) (w : World) (r : Int × Int) (m : Int × Bool) (hm : Hid (m = M.wh (decide (n0 < 0)) mode n0.natAbs num.natAbs)) (hr : Hid (r = M.ans (M.refuse (takesB k0 8) k0 n0 []) (M.rnd num mode m.2 (wrap64 (m.1 * num))))) :
    Calls Tryd.prog 13 #[.agg (opl 11 k0 n0 k1 n1 k2 n2 num den mode (.slice ba bn bcap) lv)] w fun e w' => e = .returned (.agg #[.int .i64 r.1, .int .i64 r.2]) ∧ Below w.heap.size w w' := by
  go_enter Tryd.func13, Tryd.ntmps13
  go_wp2_with (go_at_call 46; refine (rround_any k0 n0 num mode _ m hm r hr).mono ?_; rintro e w3 ⟨rfl, hb3⟩; obtain ⟨r0, r1, q0, q1⟩ := (box_two w (.cells (opl 11 k0 n0 k1 n1 k2 n2 num den mode (.slice ba bn bcap) lv) 38)).later hb3; have hB3 := below_step (below_two _ _ _) hb3; clear hb3)
  exact bodyPost_ret (v := .agg #[.int .i64 r.1, .int .i64 r.2]) (by simp [results, Tryd.results13, go_sem, r0, r1]) rfl ⟨rfl, (hB3.setCell (by simp) _).setCell (by simp) _⟩

set_option maxHeartbeats 1000000 in
theorem rdoes_12 (k0 n0 k1 n1 k2 n2 num den mode : Int) (ba : Option Addr) (bn bcap : Nat) (lv : Value) (w : World) (r : Int × Int) (hr : Hid (r = M.ans (M.refuse (takesB k0 (useOf mode)) k0 n0 [(k1, n1)]) (M.cmpn mode n0 n1))) :
    Calls Tryd.prog 13 #[.agg (opl 12 k0 n0 k1 n1 k2 n2 num den mode (.slice ba bn bcap) lv)] w fun e w' => e = .returned (.agg #[.int .i64 r.1, .int .i64 r.2]) ∧ Below w.heap.size w w' := by
  go_enter Tryd.func13, Tryd.ntmps13
  go_wp2_with (go_at_call 47; refine (rcompare_any mode k0 n0 k1 n1 _ r hr.out).mono ?_; rintro e w3 ⟨rfl, hb3⟩; obtain ⟨r0, r1, q0, q1⟩ := (box_two w (.cells (opl 12 k0 n0 k1 n1 k2 n2 num den mode (.slice ba bn bcap) lv) 38)).later hb3; have hB3 := below_step (below_two _ _ _) hb3; clear hb3)
  exact bodyPost_ret (v := .agg #[.int .i64 r.1, .int .i64 r.2]) (by simp [results, Tryd.results13, go_sem, r0, r1]) rfl ⟨rfl, (hB3.setCell (by simp) _).setCell (by simp) _⟩

set_option maxHeartbeats 1000000 in
theorem rdoes_13 (k0 n0 k1 n1 k2 n2 num den mode : Int) (ba : Option Addr) (bn bcap : Nat) (lv : Value) (w : World) (r : Int × Int) (bs : List (Int × Int)) (hbn : bs.length = bn) (hV : Vals w ba bs) (m : Int × Bool) (hm : Hid (m = M.wh false 4 (M.took n0 bs) 1000000)) (hr : Hid (r = M.ans (M.refuse (takesB k0 8) k0 n0 []) (brk bs m))) :
    Calls Tryd.prog 13 #[.agg (opl 13 k0 n0 k1 n1 k2 n2 num den mode (.slice ba bn bcap) lv)] w fun e w' => e = .returned (.agg #[.int .i64 r.1, .int .i64 r.2]) ∧ Below w.heap.size w w' := by
  subst hbn
  go_enter Tryd.func13, Tryd.ntmps13
  go_wp2_with (go_at_call 48; refine (rbracket_any ba bcap bs k0 n0 _ (hV.later (below_two _ _ _)) m hm r hr).mono ?_; rintro e w3 ⟨rfl, hb3⟩; obtain ⟨r0, r1, q0, q1⟩ := (box_two w (.cells (opl 13 k0 n0 k1 n1 k2 n2 num den mode (.slice ba bs.length bcap) lv) 38)).later hb3; have hB3 := below_step (below_two _ _ _) hb3; clear hb3)
  exact bodyPost_ret (v := .agg #[.int .i64 r.1, .int .i64 r.2]) (by simp [results, Tryd.results13, go_sem, r0, r1]) rfl ⟨rfl, (hB3.setCell (by simp) _).setCell (by simp) _⟩

end Go.Proofs.YtnmcniibcjjflaaDoor

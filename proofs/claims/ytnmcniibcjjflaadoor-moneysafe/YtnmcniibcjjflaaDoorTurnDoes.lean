import Derived.Test.YtnmcniibcjjflaaDoorJoin40
import Derived.Test.YtnmcniibcjjflaaDoorTurnDiv
import Derived.Test.YtnmcniibcjjflaaDoorJoin27
import Derived.Test.YtnmcniibcjjflaaDoorJoin31
import Derived.Test.YtnmcniibcjjflaaDoorJoin14
import Derived.Test.YtnmcniibcjjflaaDoorJoin30
import Derived.Test.YtnmcniibcjjflaaDoorJoin29
import Derived.Test.YtnmcniibcjjflaaDoorJoin16
namespace Go.Proofs.YtnmcniibcjjflaaDoor
open Go.RowKit Go.Shelf

abbrev opl (kind k0 n0 k1 n1 k2 n2 num den mode : Int) (bv lv : Value) : Array Value := #[.int .i64 kind, .int .i64 k0, .int .i64 n0, .int .i64 k1, .int .i64 n1, .int .i64 k2, .int .i64 n2, .int .i64 num, .int .i64 den, .int .i64 mode, bv, lv]

theorem box_two (w : World) (o : Obj) : Box ((w.alloc o).alloc (.cells #[.int .i64 0, .int .i64 0] 24)) (w.heap.size + 1) (.int .i64 0) (.int .i64 0) := by
  have := Box.new (w.alloc o) (.int .i64 0) (.int .i64 0) 24
  have e : (w.alloc o).heap.size = w.heap.size + 1 := by simp
  rwa [e] at this
theorem below_two (w : World) (o p : Obj) : Below w.heap.size w ((w.alloc o).alloc p) := ((Below.refl w.heap.size w).alloc (Nat.le_refl _) o).alloc (by simp) p

set_option maxHeartbeats 1000000 in
theorem does_1 (k0 n0 k1 n1 k2 n2 num den mode : Int) (ba : Option Addr) (bn bcap : Nat) (lv : Value) (w : World) (hK : Kinds w) (r : Int × Int) (hr : Hid (r = M.ans (M.refuse (takesB k0 1) k0 n0 [(k1, n1)]) (M.fit true k0 (wrap64 (n0 + n1))))) :
    Calls Tryd.prog 11 #[.agg (opl 1 k0 n0 k1 n1 k2 n2 num den mode (.slice ba bn bcap) lv)] w fun e w' => e = .returned (.agg #[.int .i64 r.1, .int .i64 r.2]) ∧ Below w.heap.size w w' := by
  go_enter Tryd.func11, Tryd.ntmps11
  go_wp2_with (go_at_call 21; refine (add_any k0 n0 k1 n1 _ ((hK.alloc _).alloc _) r hr).mono ?_; rintro e w3 ⟨rfl, hb3⟩; obtain ⟨r0, r1, q0, q1⟩ := (box_two w (.cells (opl 1 k0 n0 k1 n1 k2 n2 num den mode (.slice ba bn bcap) lv) 38)).later hb3; have hB3 := below_step (below_two _ _ _) hb3; clear hb3)
  exact bodyPost_ret (v := .agg #[.int .i64 r.1, .int .i64 r.2]) (by simp [results, Tryd.results11, go_sem, r0, r1]) rfl ⟨rfl, (hB3.setCell (by simp) _).setCell (by simp) _⟩

set_option maxHeartbeats 1000000 in
theorem does_2 (k0 n0 k1 n1 k2 n2 num den mode : Int) (ba : Option Addr) (bn bcap : Nat) (lv : Value) (w : World) (hK : Kinds w) (r : Int × Int) (hr : Hid (r = M.ans (M.refuse (takesB k0 1) k0 n0 [(k1, n1)]) (M.fit true k0 (wrap64 (n0 - n1))))) :
    Calls Tryd.prog 11 #[.agg (opl 2 k0 n0 k1 n1 k2 n2 num den mode (.slice ba bn bcap) lv)] w fun e w' => e = .returned (.agg #[.int .i64 r.1, .int .i64 r.2]) ∧ Below w.heap.size w w' := by
  go_enter Tryd.func11, Tryd.ntmps11
  go_wp2_with (go_at_call 25; refine (sub_any k0 n0 k1 n1 _ ((hK.alloc _).alloc _) r hr).mono ?_; rintro e w3 ⟨rfl, hb3⟩; obtain ⟨r0, r1, q0, q1⟩ := (box_two w (.cells (opl 2 k0 n0 k1 n1 k2 n2 num den mode (.slice ba bn bcap) lv) 38)).later hb3; have hB3 := below_step (below_two _ _ _) hb3; clear hb3)
  exact bodyPost_ret (v := .agg #[.int .i64 r.1, .int .i64 r.2]) (by simp [results, Tryd.results11, go_sem, r0, r1]) rfl ⟨rfl, (hB3.setCell (by simp) _).setCell (by simp) _⟩

set_option maxHeartbeats 1000000 in
theorem does_3 (k0 n0 k1 n1 k2 n2 num den mode : Int) (ba : Option Addr) (bn bcap : Nat) (lv : Value) (w : World) (hK : Kinds w) (r : Int × Int) (hr : Hid (r = M.ans (M.refuse (takesB k0 1) k0 n0 []) (M.fit true k0 (wrap64 (-n0))))) :
    Calls Tryd.prog 11 #[.agg (opl 3 k0 n0 k1 n1 k2 n2 num den mode (.slice ba bn bcap) lv)] w fun e w' => e = .returned (.agg #[.int .i64 r.1, .int .i64 r.2]) ∧ Below w.heap.size w w' := by
  go_enter Tryd.func11, Tryd.ntmps11
  go_wp2_with (go_at_call 26; refine (neg_any k0 n0 _ ((hK.alloc _).alloc _) r hr).mono ?_; rintro e w3 ⟨rfl, hb3⟩; obtain ⟨r0, r1, q0, q1⟩ := (box_two w (.cells (opl 3 k0 n0 k1 n1 k2 n2 num den mode (.slice ba bn bcap) lv) 38)).later hb3; have hB3 := below_step (below_two _ _ _) hb3; clear hb3)
  exact bodyPost_ret (v := .agg #[.int .i64 r.1, .int .i64 r.2]) (by simp [results, Tryd.results11, go_sem, r0, r1]) rfl ⟨rfl, (hB3.setCell (by simp) _).setCell (by simp) _⟩

set_option maxHeartbeats 1000000 in
theorem does_4 (k0 n0 k1 n1 k2 n2 num den mode : Int) (ba : Option Addr) (bn bcap : Nat) (lv : Value) (w : World) (hK : Kinds w) (r : Int × Int) (m : Int) (hm : (n0 < wrap64 (-n0) ∧ m = wrap64 (-n0)) ∨ (¬ n0 < wrap64 (-n0) ∧ m = n0)) (hr : Hid (r = M.ans (M.refuse (takesB k0 1) k0 n0 []) (M.fit true k0 m))) :
    Calls Tryd.prog 11 #[.agg (opl 4 k0 n0 k1 n1 k2 n2 num den mode (.slice ba bn bcap) lv)] w fun e w' => e = .returned (.agg #[.int .i64 r.1, .int .i64 r.2]) ∧ Below w.heap.size w w' := by
  go_enter Tryd.func11, Tryd.ntmps11
  go_wp2_with (go_at_call 27; refine (abs_any k0 n0 _ ((hK.alloc _).alloc _) m hm r hr).mono ?_; rintro e w3 ⟨rfl, hb3⟩; obtain ⟨r0, r1, q0, q1⟩ := (box_two w (.cells (opl 4 k0 n0 k1 n1 k2 n2 num den mode (.slice ba bn bcap) lv) 38)).later hb3; have hB3 := below_step (below_two _ _ _) hb3; clear hb3)
  exact bodyPost_ret (v := .agg #[.int .i64 r.1, .int .i64 r.2]) (by simp [results, Tryd.results11, go_sem, r0, r1]) rfl ⟨rfl, (hB3.setCell (by simp) _).setCell (by simp) _⟩

set_option maxHeartbeats 1000000 in
theorem does_5 (k0 n0 k1 n1 k2 n2 num den mode : Int) (ba : Option Addr) (bn bcap : Nat) (lv : Value) (w : World) (hK : Kinds w) (r : Int × Int) (m : Int) (hm : (n1 < n0 ∧ m = n1) ∨ (¬ n1 < n0 ∧ m = n0)) (hr : Hid (r = M.ans (M.refuse (takesB k0 2) k0 n0 [(k1, n1)]) (M.fit true k0 m))) :
    Calls Tryd.prog 11 #[.agg (opl 5 k0 n0 k1 n1 k2 n2 num den mode (.slice ba bn bcap) lv)] w fun e w' => e = .returned (.agg #[.int .i64 r.1, .int .i64 r.2]) ∧ Below w.heap.size w w' := by
  go_enter Tryd.func11, Tryd.ntmps11
  go_wp2_with (go_at_call 28; refine (min_any k0 n0 k1 n1 _ ((hK.alloc _).alloc _) m hm r hr).mono ?_; rintro e w3 ⟨rfl, hb3⟩; obtain ⟨r0, r1, q0, q1⟩ := (box_two w (.cells (opl 5 k0 n0 k1 n1 k2 n2 num den mode (.slice ba bn bcap) lv) 38)).later hb3; have hB3 := below_step (below_two _ _ _) hb3; clear hb3)
  exact bodyPost_ret (v := .agg #[.int .i64 r.1, .int .i64 r.2]) (by simp [results, Tryd.results11, go_sem, r0, r1]) rfl ⟨rfl, (hB3.setCell (by simp) _).setCell (by simp) _⟩

set_option maxHeartbeats 1000000 in
theorem does_6 (k0 n0 k1 n1 k2 n2 num den mode : Int) (ba : Option Addr) (bn bcap : Nat) (lv : Value) (w : World) (hK : Kinds w) (r : Int × Int) (m : Int) (hm : (n0 < n1 ∧ m = n1) ∨ (¬ n0 < n1 ∧ m = n0)) (hr : Hid (r = M.ans (M.refuse (takesB k0 2) k0 n0 [(k1, n1)]) (M.fit true k0 m))) :
    Calls Tryd.prog 11 #[.agg (opl 6 k0 n0 k1 n1 k2 n2 num den mode (.slice ba bn bcap) lv)] w fun e w' => e = .returned (.agg #[.int .i64 r.1, .int .i64 r.2]) ∧ Below w.heap.size w w' := by
  go_enter Tryd.func11, Tryd.ntmps11
  go_wp2_with (go_at_call 29; refine (max_any k0 n0 k1 n1 _ ((hK.alloc _).alloc _) m hm r hr).mono ?_; rintro e w3 ⟨rfl, hb3⟩; obtain ⟨r0, r1, q0, q1⟩ := (box_two w (.cells (opl 6 k0 n0 k1 n1 k2 n2 num den mode (.slice ba bn bcap) lv) 38)).later hb3; have hB3 := below_step (below_two _ _ _) hb3; clear hb3)
  exact bodyPost_ret (v := .agg #[.int .i64 r.1, .int .i64 r.2]) (by simp [results, Tryd.results11, go_sem, r0, r1]) rfl ⟨rfl, (hB3.setCell (by simp) _).setCell (by simp) _⟩

set_option maxHeartbeats 1000000 in
theorem does_7 (k0 n0 k1 n1 k2 n2 num den mode : Int) (ba : Option Addr) (bn bcap : Nat) (lv : Value) (w : World) (hK : Kinds w) (r : Int × Int) (m : Int) (hm : IsClamp n0 n1 n2 m) (hr : Hid (r = M.ans (M.refuse (takesB k0 2) k0 n0 [(k1, n1), (k2, n2)]) (M.fit true k0 m))) :
    Calls Tryd.prog 11 #[.agg (opl 7 k0 n0 k1 n1 k2 n2 num den mode (.slice ba bn bcap) lv)] w fun e w' => e = .returned (.agg #[.int .i64 r.1, .int .i64 r.2]) ∧ Below w.heap.size w w' := by
  go_enter Tryd.func11, Tryd.ntmps11
  go_wp2_with (go_at_call 30; refine (clamp_any k0 n0 k1 n1 k2 n2 _ ((hK.alloc _).alloc _) m hm r hr).mono ?_; rintro e w3 ⟨rfl, hb3⟩; obtain ⟨r0, r1, q0, q1⟩ := (box_two w (.cells (opl 7 k0 n0 k1 n1 k2 n2 num den mode (.slice ba bn bcap) lv) 38)).later hb3; have hB3 := below_step (below_two _ _ _) hb3; clear hb3)
  exact bodyPost_ret (v := .agg #[.int .i64 r.1, .int .i64 r.2]) (by simp [results, Tryd.results11, go_sem, r0, r1]) rfl ⟨rfl, (hB3.setCell (by simp) _).setCell (by simp) _⟩

set_option maxHeartbeats 1000000 in
theorem does_8 (k0 n0 k1 n1 k2 n2 num den mode : Int) (ba : Option Addr) (bn bcap : Nat) (lv : Value) (w : World) (hK : Kinds w) (r : Int × Int) (m : Int × Bool) (hm : Hid (m = M.wh (decide (n0 < 0) != decide (num < 0)) mode (n0.natAbs * num.natAbs) den.natAbs)) (hr : Hid (r = M.ans (M.refuse (takesB k0 8) k0 n0 []) (M.scl num den mode m))) :
    Calls Tryd.prog 11 #[.agg (opl 8 k0 n0 k1 n1 k2 n2 num den mode (.slice ba bn bcap) lv)] w fun e w' => e = .returned (.agg #[.int .i64 r.1, .int .i64 r.2]) ∧ Below w.heap.size w w' := by
  go_enter Tryd.func11, Tryd.ntmps11
  go_wp2_with (go_at_call 22; refine (scale_all k0 n0 num den mode _ ((hK.alloc _).alloc _) m hm r hr).mono ?_; rintro e w3 ⟨rfl, hb3⟩; obtain ⟨r0, r1, q0, q1⟩ := (box_two w (.cells (opl 8 k0 n0 k1 n1 k2 n2 num den mode (.slice ba bn bcap) lv) 38)).later hb3; have hB3 := below_step (below_two _ _ _) hb3; clear hb3)
  exact bodyPost_ret (v := .agg #[.int .i64 r.1, .int .i64 r.2]) (by simp [results, Tryd.results11, go_sem, r0, r1]) rfl ⟨rfl, (hB3.setCell (by simp) _).setCell (by simp) _⟩

set_option maxHeartbeats 1000000 in
theorem does_9 (k0 n0 k1 n1 k2 n2 num den mode : Int) (ba : Option Addr) (bn bcap : Nat) (lv : Value) (w : World) (hK : Kinds w) (r : Int × Int) (m : Int × Bool) (hm : Hid (m = M.wh (decide (n0 < 0) != decide (n1 < 0)) 1 (n0.natAbs * n1.natAbs) 1)) (hr : Hid (r = M.ans (M.pair (takesB k0 8) (takesB k1 16) k0 n0 k1 n1) (M.fit m.2 1 m.1))) :
    Calls Tryd.prog 11 #[.agg (opl 9 k0 n0 k1 n1 k2 n2 num den mode (.slice ba bn bcap) lv)] w fun e w' => e = .returned (.agg #[.int .i64 r.1, .int .i64 r.2]) ∧ Below w.heap.size w w' := by
  go_enter Tryd.func11, Tryd.ntmps11
  go_wp2_with (go_at_call 31; refine (times_any k0 n0 k1 n1 _ ((hK.alloc _).alloc _) m hm r hr).mono ?_; rintro e w3 ⟨rfl, hb3⟩; obtain ⟨r0, r1, q0, q1⟩ := (box_two w (.cells (opl 9 k0 n0 k1 n1 k2 n2 num den mode (.slice ba bn bcap) lv) 38)).later hb3; have hB3 := below_step (below_two _ _ _) hb3; clear hb3)
  exact bodyPost_ret (v := .agg #[.int .i64 r.1, .int .i64 r.2]) (by simp [results, Tryd.results11, go_sem, r0, r1]) rfl ⟨rfl, (hB3.setCell (by simp) _).setCell (by simp) _⟩

set_option maxHeartbeats 1000000 in
theorem does_10 (k0 n0 k1 n1 k2 n2 num den mode : Int) (ba : Option Addr) (bn bcap : Nat) (lv : Value) (w : World) (hK : Kinds w) (r : Int × Int) (m : Int × Bool) (hm : Hid (m = M.wh (decide (n0 < 0) != decide (n1 < 0)) mode n0.natAbs n1.natAbs)) (hr : Hid (r = M.ans (M.pair (takesB k0 8) (takesB k1 16) k0 n0 k1 n1) (M.spl mode n1 m))) :
    Calls Tryd.prog 11 #[.agg (opl 10 k0 n0 k1 n1 k2 n2 num den mode (.slice ba bn bcap) lv)] w fun e w' => e = .returned (.agg #[.int .i64 r.1, .int .i64 r.2]) ∧ Below w.heap.size w w' := by
  go_enter Tryd.func11, Tryd.ntmps11
  go_wp2_with (go_at_call 23; refine (split_any k0 n0 k1 n1 mode _ ((hK.alloc _).alloc _) m hm r hr).mono ?_; rintro e w3 ⟨rfl, hb3⟩; obtain ⟨r0, r1, q0, q1⟩ := (box_two w (.cells (opl 10 k0 n0 k1 n1 k2 n2 num den mode (.slice ba bn bcap) lv) 38)).later hb3; have hB3 := below_step (below_two _ _ _) hb3; clear hb3)
  exact bodyPost_ret (v := .agg #[.int .i64 r.1, .int .i64 r.2]) (by simp [results, Tryd.results11, go_sem, r0, r1]) rfl ⟨rfl, (hB3.setCell (by simp) _).setCell (by simp) _⟩

set_option maxHeartbeats 1000000 in
theorem does_11 (k0 n0 k1 n1 k2 n2 num den mode : Int) (ba : Option Addr) (bn bcap : Nat) (lv : Value) (w : World) (hK : Kinds w) (r : Int × Int) (m : Int × Bool) (hm : Hid (m = M.wh (decide (n0 < 0)) mode n0.natAbs num.natAbs)) (hr : Hid (r = M.ans (M.refuse (takesB k0 8) k0 n0 []) (M.rnd num mode m.2 (wrap64 (m.1 * num))))) :
    Calls Tryd.prog 11 #[.agg (opl 11 k0 n0 k1 n1 k2 n2 num den mode (.slice ba bn bcap) lv)] w fun e w' => e = .returned (.agg #[.int .i64 r.1, .int .i64 r.2]) ∧ Below w.heap.size w w' := by
  go_enter Tryd.func11, Tryd.ntmps11
  go_wp2_with (go_at_call 32; refine (round_any k0 n0 num mode _ ((hK.alloc _).alloc _) m hm r hr).mono ?_; rintro e w3 ⟨rfl, hb3⟩; obtain ⟨r0, r1, q0, q1⟩ := (box_two w (.cells (opl 11 k0 n0 k1 n1 k2 n2 num den mode (.slice ba bn bcap) lv) 38)).later hb3; have hB3 := below_step (below_two _ _ _) hb3; clear hb3)
  exact bodyPost_ret (v := .agg #[.int .i64 r.1, .int .i64 r.2]) (by simp [results, Tryd.results11, go_sem, r0, r1]) rfl ⟨rfl, (hB3.setCell (by simp) _).setCell (by simp) _⟩

set_option maxHeartbeats 1000000 in
theorem does_12 (k0 n0 k1 n1 k2 n2 num den mode : Int) (ba : Option Addr) (bn bcap : Nat) (lv : Value) (w : World) (hK : Kinds w) (r : Int × Int) (hr : Hid (r = M.ans (M.refuse (takesB k0 (useOf mode)) k0 n0 [(k1, n1)]) (M.cmpn mode n0 n1))) :
    Calls Tryd.prog 11 #[.agg (opl 12 k0 n0 k1 n1 k2 n2 num den mode (.slice ba bn bcap) lv)] w fun e w' => e = .returned (.agg #[.int .i64 r.1, .int .i64 r.2]) ∧ Below w.heap.size w w' := by
  go_enter Tryd.func11, Tryd.ntmps11
  go_wp2_with (go_at_call 33; refine (compare_any mode k0 n0 k1 n1 _ ((hK.alloc _).alloc _) r hr.out).mono ?_; rintro e w3 ⟨rfl, hb3⟩; obtain ⟨r0, r1, q0, q1⟩ := (box_two w (.cells (opl 12 k0 n0 k1 n1 k2 n2 num den mode (.slice ba bn bcap) lv) 38)).later hb3; have hB3 := below_step (below_two _ _ _) hb3; clear hb3)
  exact bodyPost_ret (v := .agg #[.int .i64 r.1, .int .i64 r.2]) (by simp [results, Tryd.results11, go_sem, r0, r1]) rfl ⟨rfl, (hB3.setCell (by simp) _).setCell (by simp) _⟩

set_option maxHeartbeats 1000000 in
theorem does_13 (k0 n0 k1 n1 k2 n2 num den mode : Int) (ba : Option Addr) (bn bcap : Nat) (lv : Value) (w : World) (hK : Kinds w) (r : Int × Int) (bs : List (Int × Int)) (hbn : bs.length = bn) (hV : Vals w ba bs) (m : Int × Bool) (hm : Hid (m = M.wh false 4 (M.took n0 bs) 1000000)) (hr : Hid (r = M.ans (M.refuse (takesB k0 8) k0 n0 []) (brk bs m))) :
    Calls Tryd.prog 11 #[.agg (opl 13 k0 n0 k1 n1 k2 n2 num den mode (.slice ba bn bcap) lv)] w fun e w' => e = .returned (.agg #[.int .i64 r.1, .int .i64 r.2]) ∧ Below w.heap.size w w' := by
  subst hbn
  go_enter Tryd.func11, Tryd.ntmps11
  go_wp2_with (go_at_call 24; refine (bracket_any ba bcap bs k0 n0 _ ((hK.alloc _).alloc _) (hV.later (below_two _ _ _)) m hm r hr).mono ?_; rintro e w3 ⟨rfl, hb3⟩; obtain ⟨r0, r1, q0, q1⟩ := (box_two w (.cells (opl 13 k0 n0 k1 n1 k2 n2 num den mode (.slice ba bs.length bcap) lv) 38)).later hb3; have hB3 := below_step (below_two _ _ _) hb3; clear hb3)
  exact bodyPost_ret (v := .agg #[.int .i64 r.1, .int .i64 r.2]) (by simp [results, Tryd.results11, go_sem, r0, r1]) rfl ⟨rfl, (hB3.setCell (by simp) _).setCell (by simp) _⟩

end Go.Proofs.YtnmcniibcjjflaaDoor

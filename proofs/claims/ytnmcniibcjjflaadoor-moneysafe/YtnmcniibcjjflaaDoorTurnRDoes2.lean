import Derived.Test.YtnmcniibcjjflaaDoorJoin42
namespace Go.Proofs.YtnmcniibcjjflaaDoor
open Go.RowKit Go.Shelf

theorem rsum_any (kind : Int) (a : Option Addr) (cap N : Nat) (vs : List (Int × Int)) (hN : vs.length = N) (w : World) (hV : Vals w a vs) (hl : vs.length ≤ 20000) (r : (Int × Int) × Nat) (hr : Hid (r = tkn kind vs)) :
    Calls Tryd.prog 49 #[.int .i64 kind, .slice a N cap] w fun e w' => e = .returned (.agg #[.int .i64 r.1.1, .int .i64 r.1.2]) ∧ Below w.heap.size w w' := by
  subst hN
  go_enter Tryd.func49, Tryd.ntmps49
  go_wp2_with (go_at_call 6; refine (taken_ref kind a cap vs _ (hV.later ((Below.refl _ _).alloc (Nat.le_refl _) _)) hl r hr).mono ?_; rintro e w3 ⟨rfl, hb3⟩; obtain ⟨r0, r1, q0, q1⟩ := ((Box.new w (.int .i64 0) (.int .i64 0) 24).later hb3).alloc (.cells #[.int .i64 r.1.1, .int .i64 r.1.2] 24); obtain ⟨x0, x1, -, -⟩ := Box.new w3 (.int .i64 r.1.1) (.int .i64 r.1.2) 24; have hB3 := below_step (below_step ((Below.refl w.heap.size w).alloc (Nat.le_refl _) _) hb3) ((Below.refl w3.heap.size w3).alloc (Nat.le_refl _) (.cells #[.int .i64 r.1.1, .int .i64 r.1.2] 24)); clear hb3)
  exact bodyPost_ret (v := .agg #[.int .i64 r.1.1, .int .i64 r.1.2]) (by simp [results, Tryd.results49, go_sem, r0, r1]) rfl ⟨rfl, (hB3.setCell (by simp) _).setCell (by simp) _⟩

set_option maxHeartbeats 1000000 in
theorem rdoes_14 (k0 n0 k1 n1 k2 n2 num den mode : Int) (bv : Value) (la : Option Addr) (ln lcap : Nat) (w : World) (vs : List (Int × Int)) (hln : vs.length = ln) (hl : vs.length ≤ 20000) (hV : Vals w la vs) (r : (Int × Int) × Nat) (hr : Hid (r = tkn mode vs)) :
    Calls Tryd.prog 13 #[.agg (opl 14 k0 n0 k1 n1 k2 n2 num den mode bv (.slice la ln lcap))] w fun e w' => e = .returned (.agg #[.int .i64 r.1.1, .int .i64 r.1.2]) ∧ Below w.heap.size w w' := by
  go_enter Tryd.func13, Tryd.ntmps13
  go_wp2_with (go_at_call 49; refine (rsum_any mode la lcap ln vs hln _ (hV.later (below_two _ _ _)) hl r hr).mono ?_; rintro e w3 ⟨rfl, hb3⟩; obtain ⟨r0, r1, q0, q1⟩ := (box_two w (.cells (opl 14 k0 n0 k1 n1 k2 n2 num den mode bv (.slice la ln lcap)) 38)).later hb3; have hB3 := below_step (below_two _ _ _) hb3; clear hb3)
  exact bodyPost_ret (v := .agg #[.int .i64 r.1.1, .int .i64 r.1.2]) (by simp [results, Tryd.results13, go_sem, r0, r1]) rfl ⟨rfl, (hB3.setCell (by simp) _).setCell (by simp) _⟩

set_option maxHeartbeats 1000000 in
theorem rdoes_0 (kind k0 n0 k1 n1 k2 n2 num den mode : Int) (bv lv : Value) (w : World) (hk : kind < 1 ∨ 14 < kind) (b : Bool) (hb : M.valid k0 n0 = b) :
    Calls Tryd.prog 13 #[.agg (opl kind k0 n0 k1 n1 k2 n2 num den mode bv lv)] w fun e w' => e = .returned (.agg #[.int .i64 3, .int .i64 (if b then 1 else 0)]) ∧ Below w.heap.size w w' := by
  have e1 : (kind == 1) = false := by simp; omega
  have e2 : (kind == 2) = false := by simp; omega
  have e3 : (kind == 3) = false := by simp; omega
  have e4 : (kind == 4) = false := by simp; omega
  have e5 : (kind == 5) = false := by simp; omega
  have e6 : (kind == 6) = false := by simp; omega
  have e7 : (kind == 7) = false := by simp; omega
  have e8 : (kind == 8) = false := by simp; omega
  have e9 : (kind == 9) = false := by simp; omega
  have e10 : (kind == 10) = false := by simp; omega
  have e11 : (kind == 11) = false := by simp; omega
  have e12 : (kind == 12) = false := by simp; omega
  have e13 : (kind == 13) = false := by simp; omega
  have e14 : (kind == 14) = false := by simp; omega
  have hv := rvalid_v k0 n0 ((w.alloc (.cells (opl kind k0 n0 k1 n1 k2 n2 num den mode bv lv) 38)).alloc (.cells #[.int .i64 0, .int .i64 0] 24)) b hb
  cases b
  all_goals
    go_enter Tryd.func13, Tryd.ntmps13
    go_wp2_with (go_at_call 15; refine hv.mono ?_; rintro e w3 ⟨rfl, hb3⟩; obtain ⟨r0, r1, q0, q1⟩ := (box_two w (.cells (opl kind k0 n0 k1 n1 k2 n2 num den mode bv lv) 38)).later hb3; have hB3 := below_step (below_two _ _ _) hb3; clear hb3)
  · exact bodyPost_ret (v := .agg #[.int .i64 3, .int .i64 0]) (by simp [results, Tryd.results13, go_sem, r0, r1]) rfl ⟨rfl, (hB3.setCell (by simp) _).setCell (by simp) _⟩
  · exact bodyPost_ret (v := .agg #[.int .i64 3, .int .i64 1]) (by simp [results, Tryd.results13, go_sem, r0, r1]) rfl ⟨rfl, (hB3.setCell (by simp) _).setCell (by simp) _⟩

/-- What the document answers to one step of a script. -/
def ansOp (kind k0 n0 k1 n1 k2 n2 num den mode : Int) (bs vs : List (Int × Int)) : Int × Int :=
  if kind = 1 then M.ans (M.refuse (takesB k0 1) k0 n0 [(k1, n1)]) (M.fit true k0 (wrap64 (n0 + n1)))
  else if kind = 2 then M.ans (M.refuse (takesB k0 1) k0 n0 [(k1, n1)]) (M.fit true k0 (wrap64 (n0 - n1)))
  else if kind = 3 then M.ans (M.refuse (takesB k0 1) k0 n0 []) (M.fit true k0 (wrap64 (-n0)))
  else if kind = 4 then M.ans (M.refuse (takesB k0 1) k0 n0 []) (M.fit true k0 (if n0 < wrap64 (-n0) then wrap64 (-n0) else n0))
  else if kind = 5 then M.ans (M.refuse (takesB k0 2) k0 n0 [(k1, n1)]) (M.fit true k0 (if n1 < n0 then n1 else n0))
  else if kind = 6 then M.ans (M.refuse (takesB k0 2) k0 n0 [(k1, n1)]) (M.fit true k0 (if n0 < n1 then n1 else n0))
  else if kind = 7 then M.ans (M.refuse (takesB k0 2) k0 n0 [(k1, n1), (k2, n2)]) (M.fit true k0 (if n0 < n1 then n1 else if n2 < n0 then n2 else n0))
  else if kind = 8 then M.ans (M.refuse (takesB k0 8) k0 n0 []) (M.scl num den mode (M.wh (decide (n0 < 0) != decide (num < 0)) mode (n0.natAbs * num.natAbs) den.natAbs))
  else if kind = 9 then M.ans (M.pair (takesB k0 8) (takesB k1 16) k0 n0 k1 n1) (M.fit (M.wh (decide (n0 < 0) != decide (n1 < 0)) 1 (n0.natAbs * n1.natAbs) 1).2 1 (M.wh (decide (n0 < 0) != decide (n1 < 0)) 1 (n0.natAbs * n1.natAbs) 1).1)
  else if kind = 10 then M.ans (M.pair (takesB k0 8) (takesB k1 16) k0 n0 k1 n1) (M.spl mode n1 (M.wh (decide (n0 < 0) != decide (n1 < 0)) mode n0.natAbs n1.natAbs))
  else if kind = 11 then M.ans (M.refuse (takesB k0 8) k0 n0 []) (M.rnd num mode (M.wh (decide (n0 < 0)) mode n0.natAbs num.natAbs).2 (wrap64 ((M.wh (decide (n0 < 0)) mode n0.natAbs num.natAbs).1 * num)))
  else if kind = 12 then M.ans (M.refuse (takesB k0 (useOf mode)) k0 n0 [(k1, n1)]) (M.cmpn mode n0 n1)
  else if kind = 13 then M.ans (M.refuse (takesB k0 8) k0 n0 []) (brk bs (M.wh false 4 (M.took n0 bs) 1000000))
  else if kind = 14 then (tkn mode vs).1
  else (3, if M.valid k0 n0 then 1 else 0)
theorem ansOp_1 (k0 n0 k1 n1 k2 n2 num den mode : Int) (bs vs : List (Int × Int)) : ansOp 1 k0 n0 k1 n1 k2 n2 num den mode bs vs = M.ans (M.refuse (takesB k0 1) k0 n0 [(k1, n1)]) (M.fit true k0 (wrap64 (n0 + n1))) := by unfold ansOp; rw [if_pos rfl]
theorem ansOp_2 (k0 n0 k1 n1 k2 n2 num den mode : Int) (bs vs : List (Int × Int)) : ansOp 2 k0 n0 k1 n1 k2 n2 num den mode bs vs = M.ans (M.refuse (takesB k0 1) k0 n0 [(k1, n1)]) (M.fit true k0 (wrap64 (n0 - n1))) := by unfold ansOp; rw [if_neg (by decide), if_pos rfl]
theorem ansOp_3 (k0 n0 k1 n1 k2 n2 num den mode : Int) (bs vs : List (Int × Int)) : ansOp 3 k0 n0 k1 n1 k2 n2 num den mode bs vs = M.ans (M.refuse (takesB k0 1) k0 n0 []) (M.fit true k0 (wrap64 (-n0))) := by unfold ansOp; rw [if_neg (by decide), if_neg (by decide), if_pos rfl]
theorem ansOp_4 (k0 n0 k1 n1 k2 n2 num den mode : Int) (bs vs : List (Int × Int)) : ansOp 4 k0 n0 k1 n1 k2 n2 num den mode bs vs = M.ans (M.refuse (takesB k0 1) k0 n0 []) (M.fit true k0 (if n0 < wrap64 (-n0) then wrap64 (-n0) else n0)) := by unfold ansOp; rw [if_neg (by decide), if_neg (by decide), if_neg (by decide), if_pos rfl]
theorem ansOp_5 (k0 n0 k1 n1 k2 n2 num den mode : Int) (bs vs : List (Int × Int)) : ansOp 5 k0 n0 k1 n1 k2 n2 num den mode bs vs = M.ans (M.refuse (takesB k0 2) k0 n0 [(k1, n1)]) (M.fit true k0 (if n1 < n0 then n1 else n0)) := by unfold ansOp; rw [if_neg (by decide), if_neg (by decide), if_neg (by decide), if_neg (by decide), if_pos rfl]
theorem ansOp_6 (k0 n0 k1 n1 k2 n2 num den mode : Int) (bs vs : List (Int × Int)) : ansOp 6 k0 n0 k1 n1 k2 n2 num den mode bs vs = M.ans (M.refuse (takesB k0 2) k0 n0 [(k1, n1)]) (M.fit true k0 (if n0 < n1 then n1 else n0)) := by unfold ansOp; rw [if_neg (by decide), if_neg (by decide), if_neg (by decide), if_neg (by decide), if_neg (by decide), if_pos rfl]
theorem ansOp_7 (k0 n0 k1 n1 k2 n2 num den mode : Int) (bs vs : List (Int × Int)) : ansOp 7 k0 n0 k1 n1 k2 n2 num den mode bs vs = M.ans (M.refuse (takesB k0 2) k0 n0 [(k1, n1), (k2, n2)]) (M.fit true k0 (if n0 < n1 then n1 else if n2 < n0 then n2 else n0)) := by unfold ansOp; rw [if_neg (by decide), if_neg (by decide), if_neg (by decide), if_neg (by decide), if_neg (by decide), if_neg (by decide), if_pos rfl]
theorem ansOp_8 (k0 n0 k1 n1 k2 n2 num den mode : Int) (bs vs : List (Int × Int)) : ansOp 8 k0 n0 k1 n1 k2 n2 num den mode bs vs = M.ans (M.refuse (takesB k0 8) k0 n0 []) (M.scl num den mode (M.wh (decide (n0 < 0) != decide (num < 0)) mode (n0.natAbs * num.natAbs) den.natAbs)) := by unfold ansOp; rw [if_neg (by decide), if_neg (by decide), if_neg (by decide), if_neg (by decide), if_neg (by decide), if_neg (by decide), if_neg (by decide), if_pos rfl]
theorem ansOp_9 (k0 n0 k1 n1 k2 n2 num den mode : Int) (bs vs : List (Int × Int)) : ansOp 9 k0 n0 k1 n1 k2 n2 num den mode bs vs = M.ans (M.pair (takesB k0 8) (takesB k1 16) k0 n0 k1 n1) (M.fit (M.wh (decide (n0 < 0) != decide (n1 < 0)) 1 (n0.natAbs * n1.natAbs) 1).2 1 (M.wh (decide (n0 < 0) != decide (n1 < 0)) 1 (n0.natAbs * n1.natAbs) 1).1) := by unfold ansOp; rw [if_neg (by decide), if_neg (by decide), if_neg (by decide), if_neg (by decide), if_neg (by decide), if_neg (by decide), if_neg (by decide), if_neg (by decide), if_pos rfl]
theorem ansOp_10 (k0 n0 k1 n1 k2 n2 num den mode : Int) (bs vs : List (Int × Int)) : ansOp 10 k0 n0 k1 n1 k2 n2 num den mode bs vs = M.ans (M.pair (takesB k0 8) (takesB k1 16) k0 n0 k1 n1) (M.spl mode n1 (M.wh (decide (n0 < 0) != decide (n1 < 0)) mode n0.natAbs n1.natAbs)) := by unfold ansOp; rw [if_neg (by decide), if_neg (by decide), if_neg (by decide), if_neg (by decide), if_neg (by decide), if_neg (by decide), if_neg (by decide), if_neg (by decide), if_neg (by decide), if_pos rfl]
theorem ansOp_11 (k0 n0 k1 n1 k2 n2 num den mode : Int) (bs vs : List (Int × Int)) : ansOp 11 k0 n0 k1 n1 k2 n2 num den mode bs vs = M.ans (M.refuse (takesB k0 8) k0 n0 []) (M.rnd num mode (M.wh (decide (n0 < 0)) mode n0.natAbs num.natAbs).2 (wrap64 ((M.wh (decide (n0 < 0)) mode n0.natAbs num.natAbs).1 * num))) := by unfold ansOp; rw [if_neg (by decide), if_neg (by decide), if_neg (by decide), if_neg (by decide), if_neg (by decide), if_neg (by decide), if_neg (by decide), if_neg (by decide), if_neg (by decide), if_neg (by decide), if_pos rfl]
theorem ansOp_12 (k0 n0 k1 n1 k2 n2 num den mode : Int) (bs vs : List (Int × Int)) : ansOp 12 k0 n0 k1 n1 k2 n2 num den mode bs vs = M.ans (M.refuse (takesB k0 (useOf mode)) k0 n0 [(k1, n1)]) (M.cmpn mode n0 n1) := by unfold ansOp; rw [if_neg (by decide), if_neg (by decide), if_neg (by decide), if_neg (by decide), if_neg (by decide), if_neg (by decide), if_neg (by decide), if_neg (by decide), if_neg (by decide), if_neg (by decide), if_neg (by decide), if_pos rfl]
theorem ansOp_13 (k0 n0 k1 n1 k2 n2 num den mode : Int) (bs vs : List (Int × Int)) : ansOp 13 k0 n0 k1 n1 k2 n2 num den mode bs vs = M.ans (M.refuse (takesB k0 8) k0 n0 []) (brk bs (M.wh false 4 (M.took n0 bs) 1000000)) := by unfold ansOp; rw [if_neg (by decide), if_neg (by decide), if_neg (by decide), if_neg (by decide), if_neg (by decide), if_neg (by decide), if_neg (by decide), if_neg (by decide), if_neg (by decide), if_neg (by decide), if_neg (by decide), if_neg (by decide), if_pos rfl]
theorem ansOp_14 (k0 n0 k1 n1 k2 n2 num den mode : Int) (bs vs : List (Int × Int)) : ansOp 14 k0 n0 k1 n1 k2 n2 num den mode bs vs = (tkn mode vs).1 := by unfold ansOp; rw [if_neg (by decide), if_neg (by decide), if_neg (by decide), if_neg (by decide), if_neg (by decide), if_neg (by decide), if_neg (by decide), if_neg (by decide), if_neg (by decide), if_neg (by decide), if_neg (by decide), if_neg (by decide), if_neg (by decide), if_pos rfl]
theorem ansOp_0 (kind k0 n0 k1 n1 k2 n2 num den mode : Int) (bs vs : List (Int × Int)) (hk : kind < 1 ∨ 14 < kind) : ansOp kind k0 n0 k1 n1 k2 n2 num den mode bs vs = (3, if M.valid k0 n0 then 1 else 0) := by unfold ansOp; rw [if_neg (by omega), if_neg (by omega), if_neg (by omega), if_neg (by omega), if_neg (by omega), if_neg (by omega), if_neg (by omega), if_neg (by omega), if_neg (by omega), if_neg (by omega), if_neg (by omega), if_neg (by omega), if_neg (by omega), if_neg (by omega)]

theorem if_or (p : Prop) [Decidable p] (a b : Int) : (p ∧ (if p then a else b) = a) ∨ (¬ p ∧ (if p then a else b) = b) := by by_cases h : p <;> simp [h]
theorem clamp_if (x l h : Int) : IsClamp x l h (if x < l then l else if h < x then h else x) := by
  unfold IsClamp
  by_cases h1 : x < l
  · simp [h1]
  · by_cases h2 : h < x <;> simp [h1, h2]

theorem does_any (kind k0 n0 k1 n1 k2 n2 num den mode : Int) (bs vs : List (Int × Int)) (ba : Option Addr) (bcap : Nat) (la : Option Addr) (lcap : Nat) (w : World) (hK : Kinds w) (hl : kind = 14 → vs.length ≤ 20000) (hB : Vals w ba bs) (hV : Vals w la vs) (r : Int × Int) (hr : Hid (r = ansOp kind k0 n0 k1 n1 k2 n2 num den mode bs vs)) :
    Calls Tryd.prog 11 #[.agg (opl kind k0 n0 k1 n1 k2 n2 num den mode (.slice ba bs.length bcap) (.slice la vs.length lcap))] w fun e w' => e = .returned (.agg #[.int .i64 r.1, .int .i64 r.2]) ∧ Below w.heap.size w w' := by
  rcases (show kind = 1 ∨ kind = 2 ∨ kind = 3 ∨ kind = 4 ∨ kind = 5 ∨ kind = 6 ∨ kind = 7 ∨ kind = 8 ∨ kind = 9 ∨ kind = 10 ∨ kind = 11 ∨ kind = 12 ∨ kind = 13 ∨ kind = 14 ∨ (kind < 1 ∨ 14 < kind) by omega) with rfl | rfl | rfl | rfl | rfl | rfl | rfl | rfl | rfl | rfl | rfl | rfl | rfl | rfl | h
  · exact does_1 k0 n0 k1 n1 k2 n2 num den mode ba bs.length bcap _ w hK r (by unfold Hid; rw [hr.out, ansOp_1])
  · exact does_2 k0 n0 k1 n1 k2 n2 num den mode ba bs.length bcap _ w hK r (by unfold Hid; rw [hr.out, ansOp_2])
  · exact does_3 k0 n0 k1 n1 k2 n2 num den mode ba bs.length bcap _ w hK r (by unfold Hid; rw [hr.out, ansOp_3])
  · exact does_4 k0 n0 k1 n1 k2 n2 num den mode ba bs.length bcap _ w hK r (if n0 < wrap64 (-n0) then wrap64 (-n0) else n0) (if_or _ _ _) (by unfold Hid; rw [hr.out, ansOp_4])
  · exact does_5 k0 n0 k1 n1 k2 n2 num den mode ba bs.length bcap _ w hK r (if n1 < n0 then n1 else n0) (if_or _ _ _) (by unfold Hid; rw [hr.out, ansOp_5])
  · exact does_6 k0 n0 k1 n1 k2 n2 num den mode ba bs.length bcap _ w hK r (if n0 < n1 then n1 else n0) (if_or _ _ _) (by unfold Hid; rw [hr.out, ansOp_6])
  · exact does_7 k0 n0 k1 n1 k2 n2 num den mode ba bs.length bcap _ w hK r (if n0 < n1 then n1 else if n2 < n0 then n2 else n0) (clamp_if _ _ _) (by unfold Hid; rw [hr.out, ansOp_7])
  · exact does_8 k0 n0 k1 n1 k2 n2 num den mode ba bs.length bcap _ w hK r _ rfl (by unfold Hid; rw [hr.out, ansOp_8])
  · exact does_9 k0 n0 k1 n1 k2 n2 num den mode ba bs.length bcap _ w hK r _ rfl (by unfold Hid; rw [hr.out, ansOp_9])
  · exact does_10 k0 n0 k1 n1 k2 n2 num den mode ba bs.length bcap _ w hK r _ rfl (by unfold Hid; rw [hr.out, ansOp_10])
  · exact does_11 k0 n0 k1 n1 k2 n2 num den mode ba bs.length bcap _ w hK r _ rfl (by unfold Hid; rw [hr.out, ansOp_11])
  · exact does_12 k0 n0 k1 n1 k2 n2 num den mode ba bs.length bcap _ w hK r (by unfold Hid; rw [hr.out, ansOp_12])
  · exact does_13 k0 n0 k1 n1 k2 n2 num den mode ba bs.length bcap _ w hK r bs rfl hB _ rfl (by unfold Hid; rw [hr.out, ansOp_13])
  · obtain ⟨r1, r2⟩ := r
    have e : (tkn mode vs).1 = (r1, r2) := by rw [← ansOp_14 k0 n0 k1 n1 k2 n2 num den mode bs vs]; exact hr.out.symm
    have := does_14 k0 n0 k1 n1 k2 n2 num den mode (.slice ba bs.length bcap) la vs.length lcap w hK vs rfl (hl rfl) hV (tkn mode vs) rfl
    rwa [e] at this
  · obtain rfl := hr.out
    rw [ansOp_0 kind k0 n0 k1 n1 k2 n2 num den mode bs vs h]
    exact does_0 kind k0 n0 k1 n1 k2 n2 num den mode _ _ w hK h _ rfl

theorem rdoes_any (kind k0 n0 k1 n1 k2 n2 num den mode : Int) (bs vs : List (Int × Int)) (ba : Option Addr) (bcap : Nat) (la : Option Addr) (lcap : Nat) (w : World) (hl : kind = 14 → vs.length ≤ 20000) (hB : Vals w ba bs) (hV : Vals w la vs) (r : Int × Int) (hr : Hid (r = ansOp kind k0 n0 k1 n1 k2 n2 num den mode bs vs)) :
    Calls Tryd.prog 13 #[.agg (opl kind k0 n0 k1 n1 k2 n2 num den mode (.slice ba bs.length bcap) (.slice la vs.length lcap))] w fun e w' => e = .returned (.agg #[.int .i64 r.1, .int .i64 r.2]) ∧ Below w.heap.size w w' := by
  rcases (show kind = 1 ∨ kind = 2 ∨ kind = 3 ∨ kind = 4 ∨ kind = 5 ∨ kind = 6 ∨ kind = 7 ∨ kind = 8 ∨ kind = 9 ∨ kind = 10 ∨ kind = 11 ∨ kind = 12 ∨ kind = 13 ∨ kind = 14 ∨ (kind < 1 ∨ 14 < kind) by omega) with rfl | rfl | rfl | rfl | rfl | rfl | rfl | rfl | rfl | rfl | rfl | rfl | rfl | rfl | h
  · exact rdoes_1 k0 n0 k1 n1 k2 n2 num den mode ba bs.length bcap _ w r (by unfold Hid; rw [hr.out, ansOp_1])
  · exact rdoes_2 k0 n0 k1 n1 k2 n2 num den mode ba bs.length bcap _ w r (by unfold Hid; rw [hr.out, ansOp_2])
  · exact rdoes_3 k0 n0 k1 n1 k2 n2 num den mode ba bs.length bcap _ w r (by unfold Hid; rw [hr.out, ansOp_3])
  · exact rdoes_4 k0 n0 k1 n1 k2 n2 num den mode ba bs.length bcap _ w r (if n0 < wrap64 (-n0) then wrap64 (-n0) else n0) (if_or _ _ _) (by unfold Hid; rw [hr.out, ansOp_4])
  · exact rdoes_5 k0 n0 k1 n1 k2 n2 num den mode ba bs.length bcap _ w r (if n1 < n0 then n1 else n0) (if_or _ _ _) (by unfold Hid; rw [hr.out, ansOp_5])
  · exact rdoes_6 k0 n0 k1 n1 k2 n2 num den mode ba bs.length bcap _ w r (if n0 < n1 then n1 else n0) (if_or _ _ _) (by unfold Hid; rw [hr.out, ansOp_6])
  · exact rdoes_7 k0 n0 k1 n1 k2 n2 num den mode ba bs.length bcap _ w r (if n0 < n1 then n1 else if n2 < n0 then n2 else n0) (clamp_if _ _ _) (by unfold Hid; rw [hr.out, ansOp_7])
  · exact rdoes_8 k0 n0 k1 n1 k2 n2 num den mode ba bs.length bcap _ w r _ rfl (by unfold Hid; rw [hr.out, ansOp_8])
  · exact rdoes_9 k0 n0 k1 n1 k2 n2 num den mode ba bs.length bcap _ w r _ rfl (by unfold Hid; rw [hr.out, ansOp_9])
  · exact rdoes_10 k0 n0 k1 n1 k2 n2 num den mode ba bs.length bcap _ w r _ rfl (by unfold Hid; rw [hr.out, ansOp_10])
  · exact rdoes_11 k0 n0 k1 n1 k2 n2 num den mode ba bs.length bcap _ w r _ rfl (by unfold Hid; rw [hr.out, ansOp_11])
  · exact rdoes_12 k0 n0 k1 n1 k2 n2 num den mode ba bs.length bcap _ w r (by unfold Hid; rw [hr.out, ansOp_12])
  · exact rdoes_13 k0 n0 k1 n1 k2 n2 num den mode ba bs.length bcap _ w r bs rfl hB _ rfl (by unfold Hid; rw [hr.out, ansOp_13])
  · obtain ⟨r1, r2⟩ := r
    have e : (tkn mode vs).1 = (r1, r2) := by rw [← ansOp_14 k0 n0 k1 n1 k2 n2 num den mode bs vs]; exact hr.out.symm
    have := rdoes_14 k0 n0 k1 n1 k2 n2 num den mode (.slice ba bs.length bcap) la vs.length lcap w vs rfl (hl rfl) hV (tkn mode vs) rfl
    rwa [e] at this
  · obtain rfl := hr.out
    rw [ansOp_0 kind k0 n0 k1 n1 k2 n2 num den mode bs vs h]
    exact rdoes_0 kind k0 n0 k1 n1 k2 n2 num den mode _ _ w h _ rfl

end Go.Proofs.YtnmcniibcjjflaaDoor

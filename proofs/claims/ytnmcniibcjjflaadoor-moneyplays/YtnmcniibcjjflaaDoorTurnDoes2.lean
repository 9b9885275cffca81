import Derived.Test.YtnmcniibcjjflaaDoorTurnDoes
namespace Go.Proofs.YtnmcniibcjjflaaDoor
open Go.RowKit Go.Shelf

set_option maxHeartbeats 1000000 in
theorem does_14 (k0 n0 k1 n1 k2 n2 num den mode : Int) (bv : Value) (la : Option Addr) (ln lcap : Nat) (w : World) (hK : Kinds w) (vs : List (Int × Int)) (hln : vs.length = ln) (hl : vs.length ≤ 20000) (hV : Vals w la vs) (r : (Int × Int) × Nat) (hr : Hid (r = tkn mode vs)) :
    Calls Tryd.prog 11 #[.agg (opl 14 k0 n0 k1 n1 k2 n2 num den mode bv (.slice la ln lcap))] w fun e w' => e = .returned (.agg #[.int .i64 r.1.1, .int .i64 r.1.2]) ∧ Below w.heap.size w w' := by
  subst hln
  have hk := hK.1
  have hb2 := below_two w (.cells (opl 14 k0 n0 k1 n1 k2 n2 num den mode bv (.slice la vs.length lcap)) 38) (.cells #[.int .i64 0, .int .i64 0] 24)
  have hR := box_two w (.cells (opl 14 k0 n0 k1 n1 k2 n2 num den mode bv (.slice la vs.length lcap)) 38)
  have hs2 : ((w.alloc (.cells (opl 14 k0 n0 k1 n1 k2 n2 num den mode bv (.slice la vs.length lcap)) 38)).alloc (.cells #[.int .i64 0, .int .i64 0] 24)).heap.size = w.heap.size + 2 := by simp
  go_enter Tryd.func11, Tryd.ntmps11
  go_wp2_with (go_at_call 8; fail)
  generalize ((w.alloc (.cells (opl 14 k0 n0 k1 n1 k2 n2 num den mode bv (.slice la vs.length lcap)) 38)).alloc (.cells #[.int .i64 0, .int .i64 0] 24)) = X at *
  have hZ := Box.new X (.slice la vs.length lcap) (.int .i64 0) 29
  have hb3 : Below X.heap.size X (X.alloc (.cells #[.slice la vs.length lcap, .int .i64 0] 29)) := (Below.refl _ _).alloc (Nat.le_refl _) _
  have hV3 := (hV.later hb2).later hb3
  have hK3 := (hK.later hb2).later hb3
  have hR3 := hR.later hb3
  have hb4 := below_step hb2 hb3
  have hsz := hb3.size
  rw [hs2] at hZ
  generalize X.alloc (.cells #[.slice la vs.length lcap, .int .i64 0] 29) = Y at *
  refine (sum_any (w.heap.size + 2) mode la lcap vs hl Y hK3 ⟨hZ.1, hZ.2.1, hZ.2.2.2, hV3, hZ.2.2.1⟩ (by omega) (vals_other (hV.later hb2) (by omega)) r hr).mono ?_
  rintro e w3 ⟨rfl, hO, -⟩
  have hB : Below w.heap.size w w3 := ⟨hO.os.trans hb4.os, hO.tape.trans hb4.tape, hO.output.trans hb4.output, Nat.le_trans hb4.size hO.size, fun k hk => (hO.block k (by have := hb4.size; omega) (by omega)).trans (hb4.block k hk)⟩
  have hbk := hO.block (w.heap.size + 1) (by omega) (by omega)
  have r0 := (World.cell?_of_block hbk).trans hR3.1
  have r1 := (World.cell?_of_block hbk).trans hR3.2.1
  have q0 := (World.frozen?_of_block hbk).trans hR3.2.2.1
  have q1 := (World.frozen?_of_block hbk).trans hR3.2.2.2
  go_wp2
  exact bodyPost_ret (v := .agg #[.int .i64 r.1.1, .int .i64 r.1.2]) (by simp [results, Tryd.results11, go_sem, r0, r1]) rfl ⟨rfl, (hB.setCell (by simp) _).setCell (by simp) _⟩

set_option maxHeartbeats 1000000 in
theorem does_0 (kind k0 n0 k1 n1 k2 n2 num den mode : Int) (bv lv : Value) (w : World) (hK : Kinds w) (hk : kind < 1 ∨ 14 < kind) (b : Bool) (hb : M.valid k0 n0 = b) :
    Calls Tryd.prog 11 #[.agg (opl kind k0 n0 k1 n1 k2 n2 num den mode bv lv)] w fun e w' => e = .returned (.agg #[.int .i64 3, .int .i64 (if b then 1 else 0)]) ∧ Below w.heap.size w w' := by
  have e1 : (kind == 1) = false := by simp; omega
  have e2 : (kind == 2) = false := by simp; omega
  have e3 : (kind == 3) = false := by simp; omega
  have e4 : (kind == 4) = false := by simp; omega
  have e5 : (kind == 5) = false := by simp; omega
  have e6 : (kind == 6) = false := by simp; omega
  have e7 : (kind == 7) = false := by simp; omega
  have e8 : (kind == 8) = false := by simp; omega
  have e9 : (kind == 9) = false := by simp; omega
  have e10 : (kind == 10) = false := by simp; omega
  have e11 : (kind == 11) = false := by simp; omega
  have e12 : (kind == 12) = false := by simp; omega
  have e13 : (kind == 13) = false := by simp; omega
  have e14 : (kind == 14) = false := by simp; omega
  have hv := valid_any k0 n0 ((w.alloc (.cells (opl kind k0 n0 k1 n1 k2 n2 num den mode bv lv) 38)).alloc (.cells #[.int .i64 0, .int .i64 0] 24)) ((hK.alloc _).alloc _)
  rw [hb] at hv
  cases b
  all_goals
    go_enter Tryd.func11, Tryd.ntmps11
    go_wp2_with (go_at_call 12; refine hv.mono ?_; rintro e w3 ⟨rfl, hb3⟩; obtain ⟨r0, r1, q0, q1⟩ := (box_two w (.cells (opl kind k0 n0 k1 n1 k2 n2 num den mode bv lv) 38)).later hb3; have hB3 := below_step (below_two _ _ _) hb3; clear hb3)
  · exact bodyPost_ret (v := .agg #[.int .i64 3, .int .i64 0]) (by simp [results, Tryd.results11, go_sem, r0, r1]) rfl ⟨rfl, (hB3.setCell (by simp) _).setCell (by simp) _⟩
  · exact bodyPost_ret (v := .agg #[.int .i64 3, .int .i64 1]) (by simp [results, Tryd.results11, go_sem, r0, r1]) rfl ⟨rfl, (hB3.setCell (by simp) _).setCell (by simp) _⟩

end Go.Proofs.YtnmcniibcjjflaaDoor

import Derived.Test.YtnmcniibcjjflaaDoorTurnSumF
namespace Go.Proofs.YtnmcniibcjjflaaDoor
open Go.RowKit Go.Shelf

set_option maxHeartbeats 600000 in
theorem sum_kind (kind : Int) (l : Value) (hk : ¬ (kind = 1 ∨ kind = 2)) (w : World) (hK : Kinds w) :
    Calls Tryd.prog 8 #[.int .i64 kind, l] w fun e w' => e = .returned (.agg #[.int .i64 6, .int .i64 5]) ∧ Below w.heap.size w w' := by
  have hT := fun W hK => takes_any kind 1 W hK
  rw [takes_1, decide_eq_false hk] at hT
  have hR := Box.new w (.int .i64 0) (.int .i64 0) 24
  have hB := (Below.refl w.heap.size w).alloc (Nat.le_refl _) (.cells #[.int .i64 0, .int .i64 0] 24)
  go_enter Tryd.func8, Tryd.ntmps8
  go_wp2_with (first | (go_at_call 17; refine (hT _ (hK.later ((Below.refl _ _).alloc (Nat.le_refl _) _))).mono ?_; rintro e w' ⟨rfl, rfl⟩) | (go_at_call 18; refine (fault_any _ _).mono ?_; rintro e w3 ⟨rfl, hb3⟩; obtain ⟨r0, r1, q0, q1⟩ := hR.later hb3; have hB3 := below_step hB hb3; clear hb3))
  exact bodyPost_ret (v := .agg #[.int .i64 6, .int .i64 5]) (by simp [results, Tryd.results8, go_sem, r0, r1]) rfl ⟨rfl, (hB3.setCell (by simp) _).setCell (by simp) _⟩

set_option maxRecDepth 10000 in
set_option maxHeartbeats 600000 in
theorem sum_nil (kind : Int) (hk : kind = 1 ∨ kind = 2) (w : World) (hK : Kinds w) (r : Int × Int) (hr : Hid (r = M.fit true kind 0)) :
    Calls Tryd.prog 8 #[.int .i64 kind, .nilFunc] w fun e w' => e = .returned (.agg #[.int .i64 r.1, .int .i64 r.2]) ∧ Below w.heap.size w w' := by
  have hT := fun W hK => takes_any kind 1 W hK
  rw [takes_1, decide_eq_true hk] at hT
  have hnil : ∀ W : World, (binOp BinOp.neq 44 .nilFunc .nilFunc).run Tryd.prog W = .ok (.bool false) W := fun _ => by kernel_rfl
  have hs1 : (w.alloc (.cells #[.int .i64 0, .int .i64 0] 24)).heap.size = w.heap.size + 1 := by simp
  have hTal : Tal ((w.alloc (.cells #[.int .i64 0, .int .i64 0] 24)).alloc (.cells #[.int .i64 kind, .int .u64 0, .int .u64 0, .int .i64 0, .int .i64 0] 47)) (w.heap.size + 1) kind 0 0 0 := by
    have e : lowOf 0 = 0 := rfl
    have e2 : highOf 0 = 0 := rfl
    unfold Tal
    rw [e, e2, ← hs1]
    simp
  have hB0 := ((Below.refl w.heap.size w).alloc (Nat.le_refl _) (.cells #[.int .i64 0, .int .i64 0] 24)).alloc (by simp) (.cells #[.int .i64 kind, .int .u64 0, .int .u64 0, .int .i64 0, .int .i64 0] 47)
  have hK0 := hK.later hB0
  have hR0 := (Box.new w (.int .i64 0) (.int .i64 0) 24).alloc (.cells #[.int .i64 kind, .int .u64 0, .int .u64 0, .int .i64 0, .int .i64 0] 47)
  have hres := result_sum (w.heap.size + 1) kind 0 0 _ hK0 hTal (by omega) r hr
  go_enter Tryd.func8, Tryd.ntmps8
  go_wp2_with (first | (go_at_call 17; refine (hT _ (hK.later ((Below.refl _ _).alloc (Nat.le_refl _) _))).mono ?_; rintro e w' ⟨rfl, rfl⟩) | (go_at_call 20; refine hres.mono ?_; rintro e w3 ⟨rfl, hb3⟩; obtain ⟨r0, r1, q0, q1⟩ := hR0.later hb3; have hB3 := below_step hB0 hb3; clear hb3))
  exact bodyPost_ret (v := .agg #[.int .i64 r.1, .int .i64 r.2]) (by simp [results, Tryd.results8, go_sem, r0, r1]) rfl ⟨rfl, (hB3.setCell (by simp) _).setCell (by simp) _⟩

/-- P1.12: what Sum answers, and how much it takes. -/
def tkn (kind : Int) (vs : List (Int × Int)) : (Int × Int) × Nat := if kind = 1 ∨ kind = 2 then M.tk kind 0 0 vs else ((6, 5), 0)

theorem sum_any (G : Nat) (kind : Int) (av : Option Addr) (cap : Nat) (vs : List (Int × Int)) (hl : vs.length ≤ 20000) (w : World) (hK : Kinds w) (hG : Giv w G av cap vs 0) (hGk : G ≠ 0) (hVs : ∀ X v, Vals X av vs → Vals (X.setCell ⟨G, 1, none⟩ v) av vs) (r : (Int × Int) × Nat) (hr : Hid (r = tkn kind vs)) :
    Calls Tryd.prog 8 #[.int .i64 kind, .func (.func 7) #[.pointer (some ⟨G, 0, none⟩)] #[]] w fun e w' => e = .returned (.agg #[.int .i64 r.1.1, .int .i64 r.1.2]) ∧ Off1 G w w' ∧ Giv w' G av cap vs (r.2 : Int) := by
  by_cases hk : kind = 1 ∨ kind = 2
  · exact sum_num G kind hk av cap vs hl w hK hG hGk hVs r (by unfold Hid; rw [hr.out, tkn, if_pos hk])
  · obtain rfl : r = ((6, 5), 0) := by rw [hr.out, tkn, if_neg hk]
    refine (sum_kind kind _ hk w hK).mono ?_
    rintro e w' ⟨rfl, hb⟩
    exact ⟨rfl, ⟨hb.os, hb.tape, hb.output, hb.size, fun k hk _ => hb.block k hk⟩, hG.stepB (B := 0) ⟨none, ⟨hb.os, hb.tape, hb.output, hb.size, fun k hk _ => hb.block k hk⟩, fun r e => by cases e⟩⟩

theorem sum_none (kind : Int) (w : World) (hK : Kinds w) (r : (Int × Int) × Nat) (hr : Hid (r = tkn kind [])) :
    Calls Tryd.prog 8 #[.int .i64 kind, .nilFunc] w fun e w' => e = .returned (.agg #[.int .i64 r.1.1, .int .i64 r.1.2]) ∧ Below w.heap.size w w' := by
  by_cases hk : kind = 1 ∨ kind = 2
  · exact sum_nil kind hk w hK r.1 (by unfold Hid; rw [hr.out, tkn, if_pos hk]; rfl)
  · obtain rfl : r = ((6, 5), 0) := by rw [hr.out, tkn, if_neg hk]
    exact sum_kind kind _ hk w hK

theorem taken_ref (kind : Int) (a : Option Addr) (cap : Nat) (vs : List (Int × Int)) (w : World) (hV : Vals w a vs) (hl : vs.length ≤ 20000) (r : (Int × Int) × Nat) (hr : Hid (r = tkn kind vs)) :
    Calls Tryd.prog 6 #[.int .i64 kind, .slice a vs.length cap] w fun e w' => e = .returned (.tuple #[.agg #[.int .i64 r.1.1, .int .i64 r.1.2], .int .i64 (r.2 : Int)]) ∧ Below w.heap.size w w' :=
  taken_any_ref kind a cap vs w hV (by omega) r hr

end Go.Proofs.YtnmcniibcjjflaaDoor

import Derived.Test.YtnmcniibcjjflaaDoorJoin5
import Derived.Test.YtnmcniibcjjflaaDoorTurnMishap
namespace Go.Proofs.YtnmcniibcjjflaaDoor
open Go.RowKit

theorem isMode_yes (m : Int) (w : World) (h : 1 ≤ m ∧ m ≤ 5) : Calls Tryd.prog 55 #[.int .i64 m] w fun e w' => e = .returned (.bool true) ∧ w' = w := by
  obtain ⟨h1, h2⟩ := h
  go_enter Tryd.func55, Tryd.ntmps55
  go_wp2
  go_ret
  exact ⟨rfl, rfl⟩
theorem isMode_no (m : Int) (w : World) (h : ¬ (1 ≤ m ∧ m ≤ 5)) : Calls Tryd.prog 55 #[.int .i64 m] w fun e w' => e = .returned (.bool false) ∧ w' = w := by
  by_cases c : 1 ≤ m
  · have c2 : ¬ m ≤ 5 := by omega
    go_enter Tryd.func55, Tryd.ntmps55
    go_wp2
    go_ret
    exact ⟨rfl, rfl⟩
  · have c2 : decide (1 ≤ m) = false := by simpa using c
    go_enter Tryd.func55, Tryd.ntmps55
    go_wp2
    go_ret
    exact ⟨rfl, rfl⟩

theorem risMode_yes (m : Int) (w : World) (h : 1 ≤ m ∧ m ≤ 5) : Calls Tryd.prog 65 #[.int .i64 m] w fun e w' => e = .returned (.bool true) ∧ w' = w := by
  obtain ⟨h1, h2⟩ := h
  go_enter Tryd.func65, Tryd.ntmps65
  go_wp2
  go_ret
  exact ⟨rfl, rfl⟩
theorem risMode_no (m : Int) (w : World) (h : ¬ (1 ≤ m ∧ m ≤ 5)) : Calls Tryd.prog 65 #[.int .i64 m] w fun e w' => e = .returned (.bool false) ∧ w' = w := by
  by_cases c : 1 ≤ m
  · have c2 : ¬ m ≤ 5 := by omega
    go_enter Tryd.func65, Tryd.ntmps65
    go_wp2
    go_ret
    exact ⟨rfl, rfl⟩
  · have c2 : decide (1 ≤ m) = false := by simpa using c
    go_enter Tryd.func65, Tryd.ntmps65
    go_wp2
    go_ret
    exact ⟨rfl, rfl⟩

end Go.Proofs.YtnmcniibcjjflaaDoor


namespace Go.Proofs.YtnmcniibcjjflaaDoor
open Go.RowKit

theorem takes_in (i : Nat) (hi : i < 7) (use : Int) (w : World) (hK : Kinds w) :
    Calls Tryd.prog 17 #[.int .i64 i, .int .i64 use] w fun e w' => e = .returned (.bool (bits .and .i64 (M.us.getD i 0) use != 0)) ∧ w' = w := by
  obtain ⟨hz, -, -, h2⟩ := And.intro hK.1 (hK.2 i hi)
  generalize M.us.getD i 0 = u at *
  clear hK
  have hi' : (i : Int) < 7 := by omega
  have h00 : 0 ≤ (i : Int) := by omega
  go_enter Tryd.func17, Tryd.ntmps17
  go_wp2_with (go_at_call 34; refine (known_yes _ _ ⟨h00, hi'⟩).mono ?_; rintro e w' ⟨rfl, rfl⟩)
  go_ret
  exact ⟨rfl, rfl⟩

theorem takes_out (k : Int) (hk : ¬ (0 ≤ k ∧ k < 7)) (use : Int) (w : World) :
    Calls Tryd.prog 17 #[.int .i64 k, .int .i64 use] w fun e w' => e = .returned (.bool false) ∧ w' = w := by
  go_enter Tryd.func17, Tryd.ntmps17
  go_wp2_with (go_at_call 34; refine (known_no _ _ hk).mono ?_; rintro e w' ⟨rfl, rfl⟩)
  go_ret
  exact ⟨rfl, rfl⟩

/-- Which kinds bear the use. -/
def takesB (k use : Int) : Bool := decide (0 ≤ k ∧ k < 7) && (bits .and .i64 (M.us.getD k.toNat 0) use != 0)

theorem takes_any (k use : Int) (w : World) (hK : Kinds w) :
    Calls Tryd.prog 17 #[.int .i64 k, .int .i64 use] w fun e w' => e = .returned (.bool (takesB k use)) ∧ w' = w := by
  by_cases hk : 0 ≤ k ∧ k < 7
  · obtain ⟨i, rfl⟩ : ∃ i : Nat, k = i := ⟨k.toNat, by omega⟩
    refine (takes_in i (by omega) use w hK).mono ?_
    rintro e w' ⟨rfl, rfl⟩
    exact ⟨ret_bool (by unfold takesB; rw [decide_eq_true hk]; rfl), rfl⟩
  · refine (takes_out k hk use w).mono ?_
    rintro e w' ⟨rfl, rfl⟩
    exact ⟨ret_bool (by unfold takesB; rw [decide_eq_false hk]; rfl), rfl⟩

theorem seven {p : Int → Prop} (k : Int) (h0 : p 0) (h1 : p 1) (h2 : p 2) (h3 : p 3) (h4 : p 4) (h5 : p 5) (h6 : p 6) (ho : ¬ (0 ≤ k ∧ k < 7) → p k) : p k := by
  by_cases hk : 0 ≤ k ∧ k < 7
  · have : k = 0 ∨ k = 1 ∨ k = 2 ∨ k = 3 ∨ k = 4 ∨ k = 5 ∨ k = 6 := by omega
    rcases this with rfl | rfl | rfl | rfl | rfl | rfl | rfl <;> assumption
  · exact ho hk

theorem takes_1 (k : Int) : takesB k 1 = decide (k = 1 ∨ k = 2) :=
  seven (p := fun k => takesB k 1 = decide (k = 1 ∨ k = 2)) k rfl rfl rfl rfl rfl rfl rfl (fun h => by unfold takesB; rw [decide_eq_false h]; simp; omega)
theorem takes_2 (k : Int) : takesB k 2 = decide (k = 1 ∨ k = 2 ∨ k = 4) :=
  seven (p := fun k => takesB k 2 = decide (k = 1 ∨ k = 2 ∨ k = 4)) k rfl rfl rfl rfl rfl rfl rfl (fun h => by unfold takesB; rw [decide_eq_false h]; simp; omega)
theorem takes_4 (k : Int) : takesB k 4 = decide (1 ≤ k ∧ k ≤ 5) :=
  seven (p := fun k => takesB k 4 = decide (1 ≤ k ∧ k ≤ 5)) k rfl rfl rfl rfl rfl rfl rfl (fun h => by unfold takesB; rw [decide_eq_false h]; simp; omega)
theorem takes_8 (k : Int) : takesB k 8 = decide (k = 1) :=
  seven (p := fun k => takesB k 8 = decide (k = 1)) k rfl rfl rfl rfl rfl rfl rfl (fun h => by unfold takesB; rw [decide_eq_false h]; simp; omega)
theorem takes_16 (k : Int) : takesB k 16 = decide (k = 2) :=
  seven (p := fun k => takesB k 16 = decide (k = 2)) k rfl rfl rfl rfl rfl rfl rfl (fun h => by unfold takesB; rw [decide_eq_false h]; simp; omega)

end Go.Proofs.YtnmcniibcjjflaaDoor


namespace Go.Proofs.YtnmcniibcjjflaaDoor
open Go.RowKit

/-- Numbers in a row of memory. -/
def Ints (w : World) (b : Nat) (ks : List Int) : Prop := ks.length ≤ maxLen ∧ b < w.heap.size ∧ ∀ i, i < ks.length → w.cell? ⟨b, i, none⟩ = some (.int .i64 (ks.getD i 0))

theorem Ints.later {w w' : World} {b : Nat} {ks : List Int} (h : Ints w b ks) (hb : Below w.heap.size w w') : Ints w' b ks := by
  obtain ⟨h0, hlt, hc⟩ := h
  refine ⟨h0, Nat.lt_of_lt_of_le hlt hb.size, fun i hi => ?_⟩
  rw [hb.cell (p := ⟨b, i, none⟩) hlt]
  exact hc i hi

/-- Values in a row of memory of their own, from its first cell. -/
def Row (w : World) (b : Nat) (vs : List (Int × Int)) : Prop := vs.length ≤ maxLen ∧ b < w.heap.size ∧ ∀ i, i < vs.length → w.cell? ⟨b, i * 2, none⟩ = some (.int .i64 (vs.getD i (0, 0)).1) ∧ w.cell? ⟨b, i * 2 + 1, none⟩ = some (.int .i64 (vs.getD i (0, 0)).2)

theorem Row.later {w w' : World} {b : Nat} {vs : List (Int × Int)} (h : Row w b vs) (hb : Below w.heap.size w w') : Row w' b vs := by
  obtain ⟨h0, hlt, hc⟩ := h
  refine ⟨h0, Nat.lt_of_lt_of_le hlt hb.size, fun i hi => ?_⟩
  rw [hb.cell (p := ⟨b, i * 2, none⟩) hlt, hb.cell (p := ⟨b, i * 2 + 1, none⟩) hlt]
  exact hc i hi

theorem Row.vals {w : World} {b : Nat} {vs : List (Int × Int)} (h : Row w b vs) : Vals w (some ⟨b, 0, none⟩) vs := by
  obtain ⟨h0, hlt, hc⟩ := h
  refine ⟨h0, .inr ⟨b, 0, rfl, hlt, fun i hi => ?_⟩⟩
  have := hc i hi
  simpa using this

end Go.Proofs.YtnmcniibcjjflaaDoor

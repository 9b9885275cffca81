import Derived.Test.YtnmcniibcjjflaaDoorJoin4
import Derived.Test.YtnmcniibcjjflaaDoorJoin5
namespace Go.Proofs.YtnmcniibcjjflaaDoor
open Go.RowKit

theorem isMode_yes (m : Int) (w : World) (h : 1 ≤ m ∧ m ≤ 5) : Calls Tryd.prog 55 #[.int .i64 m] w fun e w' => e = .returned (.bool true) ∧ w' = w := by
  obtain ⟨h1, h2⟩ := h
  go_enter Tryd.func55, Tryd.ntmps55
  go_wp2
  go_ret
  exact ⟨rfl, rfl⟩
theorem isMode_no (m : Int) (w : World) (h : ¬ (1 ≤ m ∧ m ≤ 5)) : Calls Tryd.prog 55 #[.int .i64 m] w fun e w' => e = .returned (.bool false) ∧ w' = w := by
  by_cases c : 1 ≤ m
  · have c2 : ¬ m ≤ 5 := by omega
    go_enter Tryd.func55, Tryd.ntmps55
    go_wp2
    go_ret
    exact ⟨rfl, rfl⟩
  · have c2 : decide (1 ≤ m) = false := by simpa using c
    go_enter Tryd.func55, Tryd.ntmps55
    go_wp2
    go_ret
    exact ⟨rfl, rfl⟩

theorem risMode_yes (m : Int) (w : World) (h : 1 ≤ m ∧ m ≤ 5) : Calls Tryd.prog 65 #[.int .i64 m] w fun e w' => e = .returned (.bool true) ∧ w' = w := by
  obtain ⟨h1, h2⟩ := h
  go_enter Tryd.func65, Tryd.ntmps65
  go_wp2
  go_ret
  exact ⟨rfl, rfl⟩
theorem risMode_no (m : Int) (w : World) (h : ¬ (1 ≤ m ∧ m ≤ 5)) : Calls Tryd.prog 65 #[.int .i64 m] w fun e w' => e = .returned (.bool false) ∧ w' = w := by
  by_cases c : 1 ≤ m
  · have c2 : ¬ m ≤ 5 := by omega
    go_enter Tryd.func65, Tryd.ntmps65
    go_wp2
    go_ret
    exact ⟨rfl, rfl⟩
  · have c2 : decide (1 ≤ m) = false := by simpa using c
    go_enter Tryd.func65, Tryd.ntmps65
    go_wp2
    go_ret
    exact ⟨rfl, rfl⟩

end Go.Proofs.YtnmcniibcjjflaaDoor


namespace Go.Proofs.YtnmcniibcjjflaaDoor
open Go.RowKit

theorem takes_in (i : Nat) (hi : i < 7) (use : Int) (w : World) (hK : Kinds w) :
    Calls Tryd.prog 17 #[.int .i64 i, .int .i64 use] w fun e w' => e = .returned (.bool (bits .and .i64 (M.us.getD i 0) use != 0)) ∧ w' = w := by
  obtain ⟨hz, -, -, h2⟩ := And.intro hK.1 (hK.2 i hi)
  generalize M.us.getD i 0 = u at *
  clear hK
  have hi' : (i : Int) < 7 := by omega
  have h00 : 0 ≤ (i : Int) := by omega
  go_enter Tryd.func17, Tryd.ntmps17
  go_wp2_with (go_at_call 34; refine (known_yes _ _ ⟨h00, hi'⟩).mono ?_; rintro e w' ⟨rfl, rfl⟩)
  go_ret
  exact ⟨rfl, rfl⟩

theorem takes_out (k : Int) (hk : ¬ (0 ≤ k ∧ k < 7)) (use : Int) (w : World) :
    Calls Tryd.prog 17 #[.int .i64 k, .int .i64 use] w fun e w' => e = .returned (.bool false) ∧ w' = w := by
  go_enter Tryd.func17, Tryd.ntmps17
  go_wp2_with (go_at_call 34; refine (known_no _ _ hk).mono ?_; rintro e w' ⟨rfl, rfl⟩)
  go_ret
  exact ⟨rfl, rfl⟩

/-- Which kinds bear the use. -/
def takesB (k use : Int) : Bool := decide (0 ≤ k ∧ k < 7) && (bits .and .i64 (M.us.getD k.toNat 0) use != 0)

theorem takes_any (k use : Int) (w : World) (hK : Kinds w) :
    Calls Tryd.prog 17 #[.int .i64 k, .int .i64 use] w fun e w' => e = .returned (.bool (takesB k use)) ∧ w' = w := by
  by_cases hk : 0 ≤ k ∧ k < 7
  · obtain ⟨i, rfl⟩ : ∃ i : Nat, k = i := ⟨k.toNat, by omega⟩
    refine (takes_in i (by omega) use w hK).mono ?_
    rintro e w' ⟨rfl, rfl⟩
    exact ⟨ret_bool (by unfold takesB; rw [decide_eq_true hk]; rfl), rfl⟩
  · refine (takes_out k hk use w).mono ?_
    rintro e w' ⟨rfl, rfl⟩
    exact ⟨ret_bool (by unfold takesB; rw [decide_eq_false hk]; rfl), rfl⟩

theorem seven {p : Int → Prop} (k : Int) (h0 : p 0) (h1 : p 1) (h2 : p 2) (h3 : p 3) (h4 : p 4) (h5 : p 5) (h6 : p 6) (ho : ¬ (0 ≤ k ∧ k < 7) → p k) : p k := by
  by_cases hk : 0 ≤ k ∧ k < 7
  · have : k = 0 ∨ k = 1 ∨ k = 2 ∨ k = 3 ∨ k = 4 ∨ k = 5 ∨ k = 6 := by omega
    rcases this with rfl | rfl | rfl | rfl | rfl | rfl | rfl <;> assumption
  · exact ho hk

theorem takes_1 (k : Int) : takesB k 1 = decide (k = 1 ∨ k = 2) :=
  seven (p := fun k => takesB k 1 = decide (k = 1 ∨ k = 2)) k rfl rfl rfl rfl rfl rfl rfl (fun h => by unfold takesB; rw [decide_eq_false h]; simp; omega)
theorem takes_2 (k : Int) : takesB k 2 = decide (k = 1 ∨ k = 2 ∨ k = 4) :=
  seven (p := fun k => takesB k 2 = decide (k = 1 ∨ k = 2 ∨ k = 4)) k rfl rfl rfl rfl rfl rfl rfl (fun h => by unfold takesB; rw [decide_eq_false h]; simp; omega)
theorem takes_4 (k : Int) : takesB k 4 = decide (1 ≤ k ∧ k ≤ 5) :=
  seven (p := fun k => takesB k 4 = decide (1 ≤ k ∧ k ≤ 5)) k rfl rfl rfl rfl rfl rfl rfl (fun h => by unfold takesB; rw [decide_eq_false h]; simp; omega)
theorem takes_8 (k : Int) : takesB k 8 = decide (k = 1) :=
  seven (p := fun k => takesB k 8 = decide (k = 1)) k rfl rfl rfl rfl rfl rfl rfl (fun h => by unfold takesB; rw [decide_eq_false h]; simp; omega)
theorem takes_16 (k : Int) : takesB k 16 = decide (k = 2) :=
  seven (p := fun k => takesB k 16 = decide (k = 2)) k rfl rfl rfl rfl rfl rfl rfl (fun h => by unfold takesB; rw [decide_eq_false h]; simp; omega)

end Go.Proofs.YtnmcniibcjjflaaDoor


namespace Go.Proofs.YtnmcniibcjjflaaDoor
open Go.RowKit

/-- Numbers in a row of memory. -/
def Ints (w : World) (b : Nat) (ks : List Int) : Prop := ks.length ≤ maxLen ∧ b < w.heap.size ∧ ∀ i, i < ks.length → w.cell? ⟨b, i, none⟩ = some (.int .i64 (ks.getD i 0))

theorem Ints.later {w w' : World} {b : Nat} {ks : List Int} (h : Ints w b ks) (hb : Below w.heap.size w w') : Ints w' b ks := by
  obtain ⟨h0, hlt, hc⟩ := h
  refine ⟨h0, Nat.lt_of_lt_of_le hlt hb.size, fun i hi => ?_⟩
  rw [hb.cell (p := ⟨b, i, none⟩) hlt]
  exact hc i hi

/-- Values in a row of memory of their own, from its first cell. -/
def Row (w : World) (b : Nat) (vs : List (Int × Int)) : Prop := vs.length ≤ maxLen ∧ b < w.heap.size ∧ ∀ i, i < vs.length → w.cell? ⟨b, i * 2, none⟩ = some (.int .i64 (vs.getD i (0, 0)).1) ∧ w.cell? ⟨b, i * 2 + 1, none⟩ = some (.int .i64 (vs.getD i (0, 0)).2)

theorem Row.later {w w' : World} {b : Nat} {vs : List (Int × Int)} (h : Row w b vs) (hb : Below w.heap.size w w') : Row w' b vs := by
  obtain ⟨h0, hlt, hc⟩ := h
  refine ⟨h0, Nat.lt_of_lt_of_le hlt hb.size, fun i hi => ?_⟩
  rw [hb.cell (p := ⟨b, i * 2, none⟩) hlt, hb.cell (p := ⟨b, i * 2 + 1, none⟩) hlt]
  exact hc i hi

theorem Row.vals {w : World} {b : Nat} {vs : List (Int × Int)} (h : Row w b vs) : Vals w (some ⟨b, 0, none⟩) vs := by
  obtain ⟨h0, hlt, hc⟩ := h
  refine ⟨h0, .inr ⟨b, 0, rfl, hlt, fun i hi => ?_⟩⟩
  have := hc i hi
  simpa using this

end Go.Proofs.YtnmcniibcjjflaaDoor


namespace Go.Proofs.YtnmcniibcjjflaaDoor
open Go.RowKit

abbrev cellsV (k n : Int) : Obj := .cells #[.int .i64 k, .int .i64 n] 24
abbrev cellsV2 (k n k' n' : Int) : Obj := .cells #[.int .i64 k, .int .i64 n, .int .i64 k', .int .i64 n'] 24
abbrev cellsV3 (k n k' n' k2 n2 : Int) : Obj := .cells #[.int .i64 k, .int .i64 n, .int .i64 k', .int .i64 n', .int .i64 k2, .int .i64 n2] 24
abbrev ints2 (a b : Int) : Obj := .cells #[.int .i64 a, .int .i64 b] 3
abbrev ints3 (a b c : Int) : Obj := .cells #[.int .i64 a, .int .i64 b, .int .i64 c] 3
abbrev ints5 (a b c d e : Int) : Obj := .cells #[.int .i64 a, .int .i64 b, .int .i64 c, .int .i64 d, .int .i64 e] 3

theorem row_one (X : World) (k n : Int) : Row (X.alloc (cellsV k n)) X.heap.size [(k, n)] := by
  refine ⟨by simp [maxLen], by simp, fun i hi => ?_⟩
  obtain rfl : i = 0 := by simpa using hi
  constructor <;> (rw [World.cell?_alloc_at _ _ _ _ rfl]; rfl)
theorem row_two (X : World) (k n k' n' : Int) : Row (X.alloc (cellsV2 k n k' n')) X.heap.size [(k, n), (k', n')] := by
  refine ⟨by simp [maxLen], by simp, fun i hi => ?_⟩
  have : i = 0 ∨ i = 1 := by simp at hi; omega
  rcases this with rfl | rfl <;> constructor <;> (rw [World.cell?_alloc_at _ _ _ _ rfl]; rfl)
theorem row_three (X : World) (k n k' n' k2 n2 : Int) : Row (X.alloc (cellsV3 k n k' n' k2 n2)) X.heap.size [(k, n), (k', n'), (k2, n2)] := by
  refine ⟨by simp [maxLen], by simp, fun i hi => ?_⟩
  have : i = 0 ∨ i = 1 ∨ i = 2 := by simp at hi; omega
  rcases this with rfl | rfl | rfl <;> constructor <;> (rw [World.cell?_alloc_at _ _ _ _ rfl]; rfl)
theorem ints_two (X : World) (a b : Int) : Ints (X.alloc (ints2 a b)) X.heap.size [a, b] := by
  refine ⟨by simp [maxLen], by simp, fun i hi => ?_⟩
  have : i = 0 ∨ i = 1 := by simp at hi; omega
  rcases this with rfl | rfl <;> (rw [World.cell?_alloc_at _ _ _ _ rfl]; rfl)
theorem ints_three (X : World) (a b c : Int) : Ints (X.alloc (ints3 a b c)) X.heap.size [a, b, c] := by
  refine ⟨by simp [maxLen], by simp, fun i hi => ?_⟩
  have : i = 0 ∨ i = 1 ∨ i = 2 := by simp at hi; omega
  rcases this with rfl | rfl | rfl <;> (rw [World.cell?_alloc_at _ _ _ _ rfl]; rfl)
theorem ints_five (X : World) (a b c d e : Int) : Ints (X.alloc (ints5 a b c d e)) X.heap.size [a, b, c, d, e] := by
  refine ⟨by simp [maxLen], by simp, fun i hi => ?_⟩
  have : i = 0 ∨ i = 1 ∨ i = 2 ∨ i = 3 ∨ i = 4 := by simp at hi; omega
  rcases this with rfl | rfl | rfl | rfl | rfl <;> (rw [World.cell?_alloc_at _ _ _ _ rfl]; rfl)
theorem Row.of {w : World} {b c : Nat} {vs : List (Int × Int)} (h : Row w b vs) (e : b = c) : Row w c vs := e ▸ h
theorem Ints.of {w : World} {b c : Nat} {vs : List Int} (h : Ints w b vs) (e : b = c) : Ints w c vs := e ▸ h
theorem Row.alloc {w : World} {b : Nat} {vs : List (Int × Int)} (h : Row w b vs) (o : Obj) : Row (w.alloc o) b vs := h.later ((Below.refl _ _).alloc (Nat.le_refl _) _)

/-- One operand and the result; two; three. -/
theorem start1 (w : World) (k0 n0 : Int) {w1 : World} (hb : Below ((w.alloc (cellsV k0 n0)).alloc (cellsV 0 0)).heap.size ((w.alloc (cellsV k0 n0)).alloc (cellsV 0 0)) w1) :
    Box w1 w.heap.size (.int .i64 k0) (.int .i64 n0) ∧ Box w1 (w.heap.size + 1) (.int .i64 0) (.int .i64 0) ∧ Below w.heap.size w w1 :=
  ⟨((Box.new w _ _ _).alloc _).later hb, ((Box.new (w.alloc _) _ _ _).later hb).of (by simp), below_step (((Below.refl _ _).alloc (Nat.le_refl _) _).alloc (by simp) _) hb⟩
theorem start2 (w : World) (k0 n0 k1 n1 : Int) {w1 : World} (hb : Below (((w.alloc (cellsV k0 n0)).alloc (cellsV k1 n1)).alloc (cellsV 0 0)).heap.size (((w.alloc (cellsV k0 n0)).alloc (cellsV k1 n1)).alloc (cellsV 0 0)) w1) :
    Box w1 w.heap.size (.int .i64 k0) (.int .i64 n0) ∧ Box w1 (w.heap.size + 1) (.int .i64 k1) (.int .i64 n1) ∧ Box w1 (w.heap.size + 1 + 1) (.int .i64 0) (.int .i64 0) ∧ Below w.heap.size w w1 :=
  ⟨(((Box.new w _ _ _).alloc _).alloc _).later hb, (((Box.new (w.alloc _) _ _ _).alloc _).later hb).of (by simp), ((Box.new ((w.alloc _).alloc _) _ _ _).later hb).of (by simp),
    below_step ((((Below.refl _ _).alloc (Nat.le_refl _) _).alloc (by simp) _).alloc (by simp; omega) _) hb⟩
theorem start3 (w : World) (k0 n0 k1 n1 k2 n2 : Int) {w1 : World} (hb : Below ((((w.alloc (cellsV k0 n0)).alloc (cellsV k1 n1)).alloc (cellsV k2 n2)).alloc (cellsV 0 0)).heap.size ((((w.alloc (cellsV k0 n0)).alloc (cellsV k1 n1)).alloc (cellsV k2 n2)).alloc (cellsV 0 0)) w1) :
    Box w1 w.heap.size (.int .i64 k0) (.int .i64 n0) ∧ Box w1 (w.heap.size + 1) (.int .i64 k1) (.int .i64 n1) ∧ Box w1 (w.heap.size + 1 + 1) (.int .i64 k2) (.int .i64 n2) ∧ Box w1 (w.heap.size + 1 + 1 + 1) (.int .i64 0) (.int .i64 0) ∧ Below w.heap.size w w1 :=
  ⟨((((Box.new w _ _ _).alloc _).alloc _).alloc _).later hb, ((((Box.new (w.alloc _) _ _ _).alloc _).alloc _).later hb).of (by simp), (((Box.new ((w.alloc _).alloc _) _ _ _).alloc _).later hb).of (by simp), ((Box.new (((w.alloc _).alloc _).alloc _) _ _ _).later hb).of (by simp),
    below_step (((((Below.refl _ _).alloc (Nat.le_refl _) _).alloc (by simp) _).alloc (by simp; omega) _).alloc (by simp; omega) _) hb⟩

/-- A further block, then a call. -/
theorem over_alloc {X w1 : World} (o : Obj) (hb : Below (X.alloc o).heap.size (X.alloc o) w1) : Below X.heap.size X w1 := below_step ((Below.refl _ _).alloc (Nat.le_refl _) _) hb

end Go.Proofs.YtnmcniibcjjflaaDoor

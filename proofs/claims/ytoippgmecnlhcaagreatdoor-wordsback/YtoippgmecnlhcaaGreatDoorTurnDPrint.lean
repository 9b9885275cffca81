import Derived.Test.YtoippgmecnlhcaaGreatDoorTurnDForm
import Derived.Test.YtoippgmecnlhcaaGreatDoorJoin8
import Derived.Test.YtoippgmecnlhcaaGreatDoorJoin7
namespace Go.Proofs.YtoippgmecnlhcaaGreatDoor
open Go.RowKit

/-- the bytes of a block's cells -/
def bytesOf (f : Nat → Int) : List UInt8 := (List.range 10).map (fun j => UInt8.ofNat (f j).toNat)
theorem bytesOf_len (f : Nat → Int) : (bytesOf f).length = 10 := by simp [bytesOf]
theorem bytesOf_at (f : Nat → Int) (hf : ∀ j, j < 10 → 0 ≤ f j ∧ f j ≤ 255) (j : Nat) (hj : j < (bytesOf f).length) : ((bytesOf f)[j].toNat : Int) = f j := by
  have h10 : j < 10 := by rw [bytesOf_len] at hj; exact hj
  have h := hf j h10
  simp [bytesOf]
  omega
def form (j : Nat) : Int := if j = 4 ∨ j = 7 then 45 else 48
/-- the text of a date -/
def txt (Y M K : Nat) (j : Nat) : Int := if 8 ≤ j ∧ j < 8 + 2 then dg K (8 + 2 - 1 - j) else if 5 ≤ j ∧ j < 5 + 2 then dg M (5 + 2 - 1 - j) else if 0 ≤ j ∧ j < 0 + 4 then dg Y (0 + 4 - 1 - j) else form j
theorem dg_bd (N k : Nat) : 48 ≤ dg N k ∧ dg N k ≤ 57 := by unfold dg; omega
theorem txt_bd (Y M K j : Nat) : 0 ≤ txt Y M K j ∧ txt Y M K j ≤ 255 := by
  have a := dg_bd K (8 + 2 - 1 - j)
  have b := dg_bd M (5 + 2 - 1 - j)
  have c := dg_bd Y (0 + 4 - 1 - j)
  unfold txt form
  repeat' split
  all_goals omega

theorem last_turned {α : Type} (a : Array α) (x : α) (f : α → α) : (a.push x).modify a.size f = a.push (f x) := by
  apply Array.ext_getElem?
  intro i
  rw [Array.getElem?_modify, Array.getElem?_push, Array.getElem?_push]
  by_cases e : a.size = i
  · subst e; simp
  · have e2 : ¬ i = a.size := fun h => e h.symm
    simp [e, e2]
theorem new_shape (X : World) (C : Array Value) : (X.alloc (.cells C 5)).shape? X.heap.size = some (5, C.size) := by
  have e : (X.alloc (.cells C 5)).heap[X.heap.size]? = some (.cells C 5) := Array.getElem?_push_size
  simp only [World.shape?, e]
theorem new_marked (X : World) (C : Array Value) : (X.alloc (.cells C 5)).freeze ⟨X.heap.size, C.size, none⟩ 1 = X.alloc (.cells C 5 (C.size, C.size + 1)) := by
  have e := last_turned X.heap (.cells C 5)
  simp only [World.freeze, World.alloc, Nat.one_ne_zero, if_false, e]
  rfl

/-- a conversion of bytes to bytes marks the row's end, and that is all -/
theorem run_mark (X : World) (C : Array Value) (l c : Nat) : (convert 61 61 (.slice (some ⟨X.heap.size, 0, none⟩) l c)).run Tryz.prog (X.alloc (.cells C 5)) = .ok (.slice (some ⟨X.heap.size, 0, none⟩) l c) (X.alloc (.cells C 5 (C.size, C.size + 1))) := by
  simp [convert, run_underlying Tryz.underlying61, run_underlying Tryz.underlying5, markStringish, new_shape X C]
  exact new_marked X C

theorem txt_new (X : World) : Txt (X.alloc (.cells #[.int .u8 48, .int .u8 48, .int .u8 48, .int .u8 48, .int .u8 45, .int .u8 48, .int .u8 48, .int .u8 45, .int .u8 48, .int .u8 48] 5 (10, 11))) X.heap.size form := by
  intro j hj
  refine ⟨?_, ?_⟩
  · rw [World.cell?_alloc_mark]
    have : j = 0 ∨ j = 1 ∨ j = 2 ∨ j = 3 ∨ j = 4 ∨ j = 5 ∨ j = 6 ∨ j = 7 ∨ j = 8 ∨ j = 9 := by omega
    rcases this with rfl | rfl | rfl | rfl | rfl | rfl | rfl | rfl | rfl | rfl <;> rfl
  · rw [World.frozen?_alloc_mark]
    simp
    omega

/-- what lies ahead of the text stays -/
theorem low3 {X w4 : World} {g : Nat} {x y z : Value} (hb : Below (g + 1) X w4) (h : X.cell? ⟨g, 0, none⟩ = some x ∧ X.cell? ⟨g, 1, none⟩ = some y ∧ X.cell? ⟨g, 2, none⟩ = some z) :
    w4.cell? ⟨g, 0, none⟩ = some x ∧ w4.cell? ⟨g, 1, none⟩ = some y ∧ w4.cell? ⟨g, 2, none⟩ = some z :=
  ⟨(hb.cell (p := ⟨g, 0, none⟩) (Nat.lt_succ_self _)).trans h.1, (hb.cell (p := ⟨g, 1, none⟩) (Nat.lt_succ_self _)).trans h.2.1, (hb.cell (p := ⟨g, 2, none⟩) (Nat.lt_succ_self _)).trans h.2.2⟩

set_option maxRecDepth 4000 in
set_option maxHeartbeats 2000000 in
theorem print_yes (n k d : Int) (h : D.At n k d) (Y M K : Nat) (hY : (Y : Int) = 1900 + k / 12) (hMM : (M : Int) = k % 12 + 1) (hK : (K : Int) = d + 1) (w : World) (hM : Mon w) :
    Calls Tryz.prog 52 #[.int .i64 n] w fun e w' => e = .returned (.tuple #[.string ⟨(bytesOf (txt Y M K)).toArray⟩, .int .i64 0]) ∧ Below w.heap.size w w' := by
  have n0 := h.nn
  have hI := isDay_yes n n0.1 n0.2 w
  have hD := dateOf_any n k d h w hM
  rw [← hY, ← hMM, ← hK] at hD
  have d1 := h.d1
  have d2 := D.ln_bd k
  have k1 := h.k1
  have y1 : Y < 1000000 := by omega
  have m1 : M < 1000000 := by omega
  have kk1 : K < 1000000 := by omega
  clear h hY hMM hK
  go_enter Tryz.func52, Tryz.ntmps52
  go_wp2_with (first | (go_at_call 67; refine hI.mono ?_; clear hI; rintro _ w ⟨rfl, rfl⟩) | (go_at_call 68; refine hD.mono ?_; clear hD; rintro _ w1 ⟨rfl, hb1⟩; obtain ⟨q0, q1, q2, -⟩ := Box3.new w1 (.int .i64 Y) (.int .i64 M) (.int .i64 K) 144))
  have hX := Box3.new w1 (.int .i64 Y) (.int .i64 M) (.int .i64 K) 144
  have hB1 := hb1.alloc hb1.size (.cells #[.int .i64 Y, .int .i64 M, .int .i64 K] 144)
  obtain ⟨W2, hW2⟩ : ∃ W2, W2 = (w1.alloc (.cells #[.int .i64 Y, .int .i64 M, .int .i64 K] 144)) := ⟨_, rfl⟩
  have hsz : W2.heap.size = w1.heap.size + 1 := by rw [hW2]; simp
  have hcv : (convert 61 61 (.slice (some ⟨W2.heap.size, 0, none⟩) 10 10)).run Tryz.prog (W2.alloc (.cells #[.int .u8 48, .int .u8 48, .int .u8 48, .int .u8 48, .int .u8 45, .int .u8 48, .int .u8 48, .int .u8 45, .int .u8 48, .int .u8 48] 5)) = .ok (.slice (some ⟨W2.heap.size, 0, none⟩) 10 10) (W2.alloc (.cells #[.int .u8 48, .int .u8 48, .int .u8 48, .int .u8 48, .int .u8 45, .int .u8 48, .int .u8 48, .int .u8 45, .int .u8 48, .int .u8 48] 5 (10, 11))) := run_mark W2 _ 10 10
  have hT := txt_new W2
  rw [← hW2] at hX hB1
  rw [← hW2]
  have hX3 := hX.alloc (.cells #[.int .u8 48, .int .u8 48, .int .u8 48, .int .u8 48, .int .u8 45, .int .u8 48, .int .u8 48, .int .u8 45, .int .u8 48, .int .u8 48] 5 (10, 11))
  have hB3 := hB1.alloc hB1.size (.cells #[.int .u8 48, .int .u8 48, .int .u8 48, .int .u8 48, .int .u8 45, .int .u8 48, .int .u8 48, .int .u8 45, .int .u8 48, .int .u8 48] 5 (10, 11))
  rw [hsz] at hcv hT
  have hle := hb1.size
  clear hW2 q0 q1 q2 hX hb1 hB1
  rw [hcv]
  go_wp2
  obtain ⟨W3, hW3⟩ : ∃ W3, W3 = (W2.alloc (.cells #[.int .u8 48, .int .u8 48, .int .u8 48, .int .u8 48, .int .u8 45, .int .u8 48, .int .u8 48, .int .u8 45, .int .u8 48, .int .u8 48] 5 (10, 11))) := ⟨_, rfl⟩
  rw [← hW3] at hX3 hB3 hT
  rw [← hW3]
  clear hcv hsz hW3
  have hst : Stb (fun X => X.cell? ⟨w1.heap.size, 0, none⟩ = some (.int .i64 Y) ∧ X.cell? ⟨w1.heap.size, 1, none⟩ = some (.int .i64 M) ∧ X.cell? ⟨w1.heap.size, 2, none⟩ = some (.int .i64 K)) := stb_cell.and (stb_cell.and stb_cell)
  have hS3 := And.intro hX3.1 (And.intro hX3.2.1 hX3.2.2.1)
  clear hX3
  have hS3d := hst _ _ hS3 (Below.refl W3.heap.size W3).drew
  have hTd : Txt W3.drew (w1.heap.size + 1) form := hT.later (Below.refl _ _).drew
  go_region_held3 (fun X => X.cell? ⟨w1.heap.size, 0, none⟩ = some (.int .i64 Y) ∧ X.cell? ⟨w1.heap.size, 1, none⟩ = some (.int .i64 M) ∧ X.cell? ⟨w1.heap.size, 2, none⟩ = some (.int .i64 K)) (with_reducible assumption)
    ((go_at_call 69; refine (putDigits_any (w1.heap.size + 1) 0 4 _ Y (by omega) y1 form _ hTd).mono ?_; rintro _ W4 ⟨⟨v4, rfl⟩, hT4, hb4⟩; have hS4 := low3 hb4 hS3d))
  have hB4 : Below w.heap.size w W4 := hB3.drew.trans (hb4.mono (by omega))
  clear hS3d hTd hS3 hT hB3 hb4
  go_wp2
  have hS4d := hst _ _ hS4 (Below.refl W4.heap.size W4).drew
  have hT4d : Txt W4.drew (w1.heap.size + 1) (fun j => if 0 ≤ j ∧ j < 0 + 4 then dg Y (0 + 4 - 1 - j) else form j) := hT4.later (Below.refl _ _).drew
  go_region_held3 (fun X => X.cell? ⟨w1.heap.size, 0, none⟩ = some (.int .i64 Y) ∧ X.cell? ⟨w1.heap.size, 1, none⟩ = some (.int .i64 M) ∧ X.cell? ⟨w1.heap.size, 2, none⟩ = some (.int .i64 K)) (with_reducible assumption)
    ((go_at_call 69; refine (putDigits_any (w1.heap.size + 1) 5 2 _ M (by omega) m1 (fun j => if 0 ≤ j ∧ j < 0 + 4 then dg Y (0 + 4 - 1 - j) else form j) _ hT4d).mono ?_; rintro _ W5 ⟨⟨v5, rfl⟩, hT5, hb5⟩; have hS5 := low3 hb5 hS4d))
  have hB5 : Below w.heap.size w W5 := hB4.drew.trans (hb5.mono (by omega))
  clear hS4d hT4d hS4 hT4 hB4 hb5
  go_wp2
  have hS5d := hst _ _ hS5 (Below.refl W5.heap.size W5).drew
  have hT5d : Txt W5.drew (w1.heap.size + 1) (fun j => if 5 ≤ j ∧ j < 5 + 2 then dg M (5 + 2 - 1 - j) else if 0 ≤ j ∧ j < 0 + 4 then dg Y (0 + 4 - 1 - j) else form j) := hT5.later (Below.refl _ _).drew
  go_region_held3 (fun X => X.cell? ⟨w1.heap.size, 0, none⟩ = some (.int .i64 Y) ∧ X.cell? ⟨w1.heap.size, 1, none⟩ = some (.int .i64 M) ∧ X.cell? ⟨w1.heap.size, 2, none⟩ = some (.int .i64 K)) (with_reducible assumption)
    ((go_at_call 69; refine (putDigits_any (w1.heap.size + 1) 8 2 _ K (by omega) kk1 (fun j => if 5 ≤ j ∧ j < 5 + 2 then dg M (5 + 2 - 1 - j) else if 0 ≤ j ∧ j < 0 + 4 then dg Y (0 + 4 - 1 - j) else form j) _ hT5d).mono ?_; rintro _ W6 ⟨⟨v6, rfl⟩, hT6, hb6⟩; have hS6 := low3 hb6 hS5d))
  have hB6 : Below w.heap.size w W6 := hB5.drew.trans (hb6.mono (by omega))
  clear hS5d hT5d hS5 hT5 hB5 hb6
  have hback := run_convert_bytes_back (P := Tryz.prog) W6 61 9 5 ⟨w1.heap.size + 1, 0, none⟩ 10 (bytesOf (txt Y M K)) Tryz.underlying61 Tryz.underlying5 Tryz.underlying9 (fun j hj => by
    have h10 : j < 10 := by rw [bytesOf_len] at hj; exact hj
    rw [bytesOf_at _ (fun j _ => txt_bd Y M K j)]
    have := (hT6 j h10).1
    rw [show (⟨w1.heap.size + 1, 0, none⟩ : Addr).add j = ⟨w1.heap.size + 1, j, none⟩ by cases j <;> simp [Addr.add]]
    exact this)
  rw [bytesOf_len] at hback
  go_wp2
  exact bodyPost_ret (v := .tuple #[.string ⟨(bytesOf (txt Y M K)).toArray⟩, .int .i64 0]) (by simp [results, Tryz.results52, go_sem]) rfl ⟨rfl, hB6⟩

theorem print_no (n : Int) (hn : ¬ (0 ≤ n ∧ n ≤ 109572)) (w : World) :
    Calls Tryz.prog 52 #[.int .i64 n] w fun e w' => e = .returned (.tuple #[.string ⟨#[]⟩, .int .i64 21]) ∧ Below w.heap.size w w' := by
  have hI := isDay_no n hn w
  clear hn
  go_enter Tryz.func52, Tryz.ntmps52
  go_wp2_with (go_at_call 67; refine hI.mono ?_; clear hI; rintro _ w ⟨rfl, rfl⟩)
  exact bodyPost_ret (v := .tuple #[.string ⟨#[]⟩, .int .i64 21]) (by simp [results, Tryz.results52, go_sem]) rfl ⟨rfl, Below.refl _ _⟩

end Go.Proofs.YtoippgmecnlhcaaGreatDoor

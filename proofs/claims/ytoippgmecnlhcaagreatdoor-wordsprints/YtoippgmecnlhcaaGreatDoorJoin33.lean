import Derived.Test.YtoippgmecnlhcaaGreatDoorJoin7
import Derived.Test.YtoippgmecnlhcaaGreatDoorJoin6
import Derived.Test.YtoippgmecnlhcaaGreatDoorJoin5
import Derived.Test.YtoippgmecnlhcaaGreatDoorJoin29
import Derived.Test.YtoippgmecnlhcaaGreatDoorJoin27
import Derived.Lib.ItoaNum
namespace Go.Proofs.YtoippgmecnlhcaaGreatDoor
open Go.RowKit

/-- the bytes of a block's cells -/
def bytesOf (f : Nat → Int) : List UInt8 := (List.range 10).map (fun j => UInt8.ofNat (f j).toNat)
theorem bytesOf_len (f : Nat → Int) : (bytesOf f).length = 10 := by simp [bytesOf]
theorem bytesOf_at (f : Nat → Int) (hf : ∀ j, j < 10 → 0 ≤ f j ∧ f j ≤ 255) (j : Nat) (hj : j < (bytesOf f).length) : ((bytesOf f)[j].toNat : Int) = f j := by
  have h10 : j < 10 := by rw [bytesOf_len] at hj; exact hj
  have h := hf j h10
  simp [bytesOf]
  omega
def form (j : Nat) : Int := if j = 4 ∨ j = 7 then 45 else 48
/-- the text of a date -/
def txt (Y M K : Nat) (j : Nat) : Int := if 8 ≤ j ∧ j < 8 + 2 then dg K (8 + 2 - 1 - j) else if 5 ≤ j ∧ j < 5 + 2 then dg M (5 + 2 - 1 - j) else if 0 ≤ j ∧ j < 0 + 4 then dg Y (0 + 4 - 1 - j) else form j
theorem dg_bd (N k : Nat) : 48 ≤ dg N k ∧ dg N k ≤ 57 := by unfold dg; omega
theorem txt_bd (Y M K j : Nat) : 0 ≤ txt Y M K j ∧ txt Y M K j ≤ 255 := by
  have a := dg_bd K (8 + 2 - 1 - j)
  have b := dg_bd M (5 + 2 - 1 - j)
  have c := dg_bd Y (0 + 4 - 1 - j)
  unfold txt form
  repeat' split
  all_goals omega

theorem last_turned {α : Type} (a : Array α) (x : α) (f : α → α) : (a.push x).modify a.size f = a.push (f x) := by
  apply Array.ext_getElem?
  intro i
  rw [Array.getElem?_modify, Array.getElem?_push, Array.getElem?_push]
  by_cases e : a.size = i
  · subst e; simp
  · have e2 : ¬ i = a.size := fun h => e h.symm
    simp [e, e2]
theorem new_shape (X : World) (C : Array Value) : (X.alloc (.cells C 5)).shape? X.heap.size = some (5, C.size) := by
  have e : (X.alloc (.cells C 5)).heap[X.heap.size]? = some (.cells C 5) := Array.getElem?_push_size
  simp only [World.shape?, e]
theorem new_marked (X : World) (C : Array Value) : (X.alloc (.cells C 5)).freeze ⟨X.heap.size, C.size, none⟩ 1 = X.alloc (.cells C 5 (C.size, C.size + 1)) := by
  have e := last_turned X.heap (.cells C 5)
  simp only [World.freeze, World.alloc, Nat.one_ne_zero, if_false, e]
  rfl

/-- a conversion of bytes to bytes marks the row's end, and that is all -/
theorem run_mark (X : World) (C : Array Value) (l c : Nat) : (convert 61 61 (.slice (some ⟨X.heap.size, 0, none⟩) l c)).run Tryz.prog (X.alloc (.cells C 5)) = .ok (.slice (some ⟨X.heap.size, 0, none⟩) l c) (X.alloc (.cells C 5 (C.size, C.size + 1))) := by
  simp [convert, run_underlying Tryz.underlying61, run_underlying Tryz.underlying5, markStringish, new_shape X C]
  exact new_marked X C

theorem txt_new (X : World) : Txt (X.alloc (.cells #[.int .u8 48, .int .u8 48, .int .u8 48, .int .u8 48, .int .u8 45, .int .u8 48, .int .u8 48, .int .u8 45, .int .u8 48, .int .u8 48] 5 (10, 11))) X.heap.size form := by
  intro j hj
  refine ⟨?_, ?_⟩
  · rw [World.cell?_alloc_mark]
    have : j = 0 ∨ j = 1 ∨ j = 2 ∨ j = 3 ∨ j = 4 ∨ j = 5 ∨ j = 6 ∨ j = 7 ∨ j = 8 ∨ j = 9 := by omega
    rcases this with rfl | rfl | rfl | rfl | rfl | rfl | rfl | rfl | rfl | rfl <;> rfl
  · rw [World.frozen?_alloc_mark]
    simp
    omega

/-- what lies ahead of the text stays -/
theorem low3 {X w4 : World} {g : Nat} {x y z : Value} (hb : Below (g + 1) X w4) (h : X.cell? ⟨g, 0, none⟩ = some x ∧ X.cell? ⟨g, 1, none⟩ = some y ∧ X.cell? ⟨g, 2, none⟩ = some z) :
    w4.cell? ⟨g, 0, none⟩ = some x ∧ w4.cell? ⟨g, 1, none⟩ = some y ∧ w4.cell? ⟨g, 2, none⟩ = some z :=
  ⟨(hb.cell (p := ⟨g, 0, none⟩) (Nat.lt_succ_self _)).trans h.1, (hb.cell (p := ⟨g, 1, none⟩) (Nat.lt_succ_self _)).trans h.2.1, (hb.cell (p := ⟨g, 2, none⟩) (Nat.lt_succ_self _)).trans h.2.2⟩

set_option maxRecDepth 4000 in
set_option maxHeartbeats 2000000 in
theorem print_yes (n k d : Int) (h : D.At n k d) (Y M K : Nat) (hY : (Y : Int) = 1900 + k / 12) (hMM : (M : Int) = k % 12 + 1) (hK : (K : Int) = d + 1) (w : World) (hM : Mon w) :
    Calls Tryz.prog 52 #[.int .i64 n] w fun e w' => e = .returned (.tuple #[.string ⟨(bytesOf (txt Y M K)).toArray⟩, .int .i64 0]) ∧ Below w.heap.size w w' := by
  have n0 := h.nn
  have hI := isDay_yes n n0.1 n0.2 w
  have hD := dateOf_any n k d h w hM
  rw [← hY, ← hMM, ← hK] at hD
  have d1 := h.d1
  have d2 := D.ln_bd k
  have k1 := h.k1
  have y1 : Y < 1000000 := by omega
  have m1 : M < 1000000 := by omega
  have kk1 : K < 1000000 := by omega
  clear h hY hMM hK
  go_enter Tryz.func52, Tryz.ntmps52
  go_wp2_with (first | (go_at_call 67; refine hI.mono ?_; clear hI; rintro _ w ⟨rfl, rfl⟩) | (go_at_call 68; refine hD.mono ?_; clear hD; rintro _ w1 ⟨rfl, hb1⟩; obtain ⟨q0, q1, q2, -⟩ := Box3.new w1 (.int .i64 Y) (.int .i64 M) (.int .i64 K) 144))
  have hX := Box3.new w1 (.int .i64 Y) (.int .i64 M) (.int .i64 K) 144
  have hB1 := hb1.alloc hb1.size (.cells #[.int .i64 Y, .int .i64 M, .int .i64 K] 144)
  obtain ⟨W2, hW2⟩ : ∃ W2, W2 = (w1.alloc (.cells #[.int .i64 Y, .int .i64 M, .int .i64 K] 144)) := ⟨_, rfl⟩
  have hsz : W2.heap.size = w1.heap.size + 1 := by rw [hW2]; simp
  have hcv : (convert 61 61 (.slice (some ⟨W2.heap.size, 0, none⟩) 10 10)).run Tryz.prog (W2.alloc (.cells #[.int .u8 48, .int .u8 48, .int .u8 48, .int .u8 48, .int .u8 45, .int .u8 48, .int .u8 48, .int .u8 45, .int .u8 48, .int .u8 48] 5)) = .ok (.slice (some ⟨W2.heap.size, 0, none⟩) 10 10) (W2.alloc (.cells #[.int .u8 48, .int .u8 48, .int .u8 48, .int .u8 48, .int .u8 45, .int .u8 48, .int .u8 48, .int .u8 45, .int .u8 48, .int .u8 48] 5 (10, 11))) := run_mark W2 _ 10 10
  have hT := txt_new W2
  rw [← hW2] at hX hB1
  rw [← hW2]
  have hX3 := hX.alloc (.cells #[.int .u8 48, .int .u8 48, .int .u8 48, .int .u8 48, .int .u8 45, .int .u8 48, .int .u8 48, .int .u8 45, .int .u8 48, .int .u8 48] 5 (10, 11))
  have hB3 := hB1.alloc hB1.size (.cells #[.int .u8 48, .int .u8 48, .int .u8 48, .int .u8 48, .int .u8 45, .int .u8 48, .int .u8 48, .int .u8 45, .int .u8 48, .int .u8 48] 5 (10, 11))
  rw [hsz] at hcv hT
  have hle := hb1.size
  clear hW2 q0 q1 q2 hX hb1 hB1
  rw [hcv]
  go_wp2
  obtain ⟨W3, hW3⟩ : ∃ W3, W3 = (W2.alloc (.cells #[.int .u8 48, .int .u8 48, .int .u8 48, .int .u8 48, .int .u8 45, .int .u8 48, .int .u8 48, .int .u8 45, .int .u8 48, .int .u8 48] 5 (10, 11))) := ⟨_, rfl⟩
  rw [← hW3] at hX3 hB3 hT
  rw [← hW3]
  clear hcv hsz hW3
  have hst : Stb (fun X => X.cell? ⟨w1.heap.size, 0, none⟩ = some (.int .i64 Y) ∧ X.cell? ⟨w1.heap.size, 1, none⟩ = some (.int .i64 M) ∧ X.cell? ⟨w1.heap.size, 2, none⟩ = some (.int .i64 K)) := stb_cell.and (stb_cell.and stb_cell)
  have hS3 := And.intro hX3.1 (And.intro hX3.2.1 hX3.2.2.1)
  clear hX3
  have hS3d := hst _ _ hS3 (Below.refl W3.heap.size W3).drew
  have hTd : Txt W3.drew (w1.heap.size + 1) form := hT.later (Below.refl _ _).drew
  go_region_held3 (fun X => X.cell? ⟨w1.heap.size, 0, none⟩ = some (.int .i64 Y) ∧ X.cell? ⟨w1.heap.size, 1, none⟩ = some (.int .i64 M) ∧ X.cell? ⟨w1.heap.size, 2, none⟩ = some (.int .i64 K)) (with_reducible assumption)
    ((go_at_call 69; refine (putDigits_any (w1.heap.size + 1) 0 4 _ Y (by omega) y1 form _ hTd).mono ?_; rintro _ W4 ⟨⟨v4, rfl⟩, hT4, hb4⟩; have hS4 := low3 hb4 hS3d))
  have hB4 : Below w.heap.size w W4 := hB3.drew.trans (hb4.mono (by omega))
  clear hS3d hTd hS3 hT hB3 hb4
  go_wp2
  have hS4d := hst _ _ hS4 (Below.refl W4.heap.size W4).drew
  have hT4d : Txt W4.drew (w1.heap.size + 1) (fun j => if 0 ≤ j ∧ j < 0 + 4 then dg Y (0 + 4 - 1 - j) else form j) := hT4.later (Below.refl _ _).drew
  go_region_held3 (fun X => X.cell? ⟨w1.heap.size, 0, none⟩ = some (.int .i64 Y) ∧ X.cell? ⟨w1.heap.size, 1, none⟩ = some (.int .i64 M) ∧ X.cell? ⟨w1.heap.size, 2, none⟩ = some (.int .i64 K)) (with_reducible assumption)
    ((go_at_call 69; refine (putDigits_any (w1.heap.size + 1) 5 2 _ M (by omega) m1 (fun j => if 0 ≤ j ∧ j < 0 + 4 then dg Y (0 + 4 - 1 - j) else form j) _ hT4d).mono ?_; rintro _ W5 ⟨⟨v5, rfl⟩, hT5, hb5⟩; have hS5 := low3 hb5 hS4d))
  have hB5 : Below w.heap.size w W5 := hB4.drew.trans (hb5.mono (by omega))
  clear hS4d hT4d hS4 hT4 hB4 hb5
  go_wp2
  have hS5d := hst _ _ hS5 (Below.refl W5.heap.size W5).drew
  have hT5d : Txt W5.drew (w1.heap.size + 1) (fun j => if 5 ≤ j ∧ j < 5 + 2 then dg M (5 + 2 - 1 - j) else if 0 ≤ j ∧ j < 0 + 4 then dg Y (0 + 4 - 1 - j) else form j) := hT5.later (Below.refl _ _).drew
  go_region_held3 (fun X => X.cell? ⟨w1.heap.size, 0, none⟩ = some (.int .i64 Y) ∧ X.cell? ⟨w1.heap.size, 1, none⟩ = some (.int .i64 M) ∧ X.cell? ⟨w1.heap.size, 2, none⟩ = some (.int .i64 K)) (with_reducible assumption)
    ((go_at_call 69; refine (putDigits_any (w1.heap.size + 1) 8 2 _ K (by omega) kk1 (fun j => if 5 ≤ j ∧ j < 5 + 2 then dg M (5 + 2 - 1 - j) else if 0 ≤ j ∧ j < 0 + 4 then dg Y (0 + 4 - 1 - j) else form j) _ hT5d).mono ?_; rintro _ W6 ⟨⟨v6, rfl⟩, hT6, hb6⟩; have hS6 := low3 hb6 hS5d))
  have hB6 : Below w.heap.size w W6 := hB5.drew.trans (hb6.mono (by omega))
  clear hS5d hT5d hS5 hT5 hB5 hb6
  have hback := run_convert_bytes_back (P := Tryz.prog) W6 61 9 5 ⟨w1.heap.size + 1, 0, none⟩ 10 (bytesOf (txt Y M K)) Tryz.underlying61 Tryz.underlying5 Tryz.underlying9 (fun j hj => by
    have h10 : j < 10 := by rw [bytesOf_len] at hj; exact hj
    rw [bytesOf_at _ (fun j _ => txt_bd Y M K j)]
    have := (hT6 j h10).1
    rw [show (⟨w1.heap.size + 1, 0, none⟩ : Addr).add j = ⟨w1.heap.size + 1, j, none⟩ by cases j <;> simp [Addr.add]]
    exact this)
  rw [bytesOf_len] at hback
  go_wp2
  exact bodyPost_ret (v := .tuple #[.string ⟨(bytesOf (txt Y M K)).toArray⟩, .int .i64 0]) (by simp [results, Tryz.results52, go_sem]) rfl ⟨rfl, hB6⟩

theorem print_no (n : Int) (hn : ¬ (0 ≤ n ∧ n ≤ 109572)) (w : World) :
    Calls Tryz.prog 52 #[.int .i64 n] w fun e w' => e = .returned (.tuple #[.string ⟨#[]⟩, .int .i64 21]) ∧ Below w.heap.size w w' := by
  have hI := isDay_no n hn w
  clear hn
  go_enter Tryz.func52, Tryz.ntmps52
  go_wp2_with (go_at_call 67; refine hI.mono ?_; clear hI; rintro _ w ⟨rfl, rfl⟩)
  exact bodyPost_ret (v := .tuple #[.string ⟨#[]⟩, .int .i64 21]) (by simp [results, Tryz.results52, go_sem]) rfl ⟨rfl, Below.refl _ _⟩

end Go.Proofs.YtoippgmecnlhcaaGreatDoor


/- THE TEXTS OF NUMBERS, SCANNED. No program. -/
namespace Go.Proofs.YtoippgmecnlhcaaGreatDoor.Q
open Go.Lib (decDigits)

def dgs (x : List UInt8) : Prop := ∀ c ∈ x, 48 ≤ c.toNat ∧ c.toNat ≤ 57
theorem vl_fold : ∀ (x : List UInt8) (a : Nat), x.foldl (fun n c => 10 * n + (c.toNat - 48)) a = a * 10 ^ x.length + val x
  | [], a => by simp [val]
  | c :: x, a => by
    have h1 := vl_fold x (10 * a + (c.toNat - 48))
    have h2 := vl_fold x (10 * 0 + (c.toNat - 48))
    rw [List.foldl_cons, h1, List.length_cons, Nat.pow_succ]
    have h3 : val (c :: x) = (10 * 0 + (c.toNat - 48)) * 10 ^ x.length + val x := by
      rw [← h2]
      rfl
    rw [h3]
    generalize 10 ^ x.length = P
    generalize c.toNat - 48 = d
    rw [Nat.mul_zero, Nat.zero_add, Nat.add_mul, Nat.mul_comm 10 a, Nat.mul_assoc, Nat.mul_comm 10 P, Nat.add_assoc]
theorem vl_app (x y : List UInt8) : val (x ++ y) = val x * 10 ^ y.length + val y := by
  have : val (x ++ y) = y.foldl (fun n c => 10 * n + (c.toNat - 48)) (val x) := by
    unfold val
    rw [List.foldl_append]
  rw [this, vl_fold]
theorem ch_nat {d : Nat} (h : d < 10) : (UInt8.ofNat (48 + d)).toNat = 48 + d := by
  rw [UInt8.toNat_ofNat']
  omega
theorem vl_one {d : Nat} (h : d < 10) : val [UInt8.ofNat (48 + d)] = d := by
  show 10 * 0 + ((UInt8.ofNat (48 + d)).toNat - 48) = d
  rw [ch_nat h]
  omega
theorem dd_all (u : Nat) : val (decDigits u) = u ∧ dgs (decDigits u) ∧ 1 ≤ (decDigits u).length ∧ (1 < (decDigits u).length → (decDigits u).head? ≠ some 48) ∧ (0 < u → (decDigits u).head? ≠ some 48) := by
  induction u using Nat.strongRecOn with
  | _ u ih =>
    rw [decDigits]
    by_cases h : u < 10
    · rw [dif_pos h]
      refine ⟨vl_one h, fun c hc => ?_, by simp, fun h => by simp at h, fun h0 => ?_⟩
      · obtain rfl := List.mem_singleton.1 hc
        rw [ch_nat h]
        omega
      · intro e
        simp only [List.head?_cons, Option.some.injEq] at e
        have := congrArg UInt8.toNat e
        rw [ch_nat h] at this
        have h48 : (48 : UInt8).toNat = 48 := rfl
        omega
    · rw [dif_neg h]
      obtain ⟨i1, i2, i3, i4, i5⟩ := ih (u / 10) (by omega)
      have hd : u % 10 < 10 := Nat.mod_lt _ (by decide)
      have hhd : (decDigits (u / 10) ++ [UInt8.ofNat (48 + u % 10)]).head? ≠ some 48 := by
        have := i5 (by omega)
        cases hx : decDigits (u / 10) with
        | nil => rw [hx] at i3; simp at i3
        | cons c x => rw [hx] at this; exact this
      refine ⟨?_, fun c hc => ?_, by simp, fun _ => hhd, fun _ => hhd⟩
      · rw [vl_app, i1, vl_one hd]
        simp
        omega
      · rcases List.mem_append.1 hc with hc | hc
        · exact i2 c hc
        · obtain rfl := List.mem_singleton.1 hc
          rw [ch_nat hd]
          omega
theorem rn_dgs {x : List UInt8} (hx : dgs x) : ∀ y : List UInt8, clsAt y 0 &&& 32 = 0 → rn 32 (x ++ y) = x.length := by
  induction x with
  | nil =>
    intro y hy
    have := rn_app_eq 32 (by decide) ([] : List UInt8) [] rfl
    exact this.2 y hy
  | cons c x ih =>
    intro y hy
    have hc := hx c (by simp)
    rw [List.cons_append, rn_cons, if_pos (by rw [(cls_digit32 c.toNat).2 hc]; decide), ih (fun d hd => hx d (List.mem_cons_of_mem _ hd)) y hy, List.length_cons]
    omega
/-- The text of a number. -/
def ntx (w p : List UInt8) (pc : Bool) : List UInt8 := w ++ ((if p = [] then [] else 46 :: p) ++ (if pc = true then [37] else []))
theorem ntx_parts {w p : List UInt8} {pc : Bool} (hw : dgs w) (hp : dgs p) : nE1 (ntx w p pc) 0 = w.length ∧ nPart (ntx w p pc) 0 = p ∧ nPc (ntx w p pc) 0 = pc ∧ nE3 (ntx w p pc) 0 = (ntx w p pc).length := by
  have hpcl : ∀ pc : Bool, clsAt (if pc = true then [37] else ([] : List UInt8)) 0 &&& 32 = 0 := fun pc => by cases pc <;> decide
  have hg : ∀ k, (ntx w p pc)[w.length + k]? = ((if p = [] then [] else 46 :: p) ++ (if pc = true then [37] else []))[k]? := fun k => get_v w _ k
  have hc : ∀ k, clsAt (ntx w p pc) (w.length + k) = clsAt ((if p = [] then [] else 46 :: p) ++ (if pc = true then [37] else [])) k := fun k => cls_v w _ k
  have h1 : nE1 (ntx w p pc) 0 = w.length := by
    unfold nE1
    rw [List.drop_zero, Nat.zero_add]
    unfold ntx
    refine rn_dgs hw _ ?_
    by_cases he : p = []
    · rw [if_pos he, List.nil_append]; exact hpcl pc
    · rw [if_neg he]; show cls (46 : UInt8).toNat &&& 32 = 0; decide
  by_cases he : p = []
  · subst he
    have hl : (ntx w [] pc).length = w.length + (if pc = true then 1 else 0) := by unfold ntx; cases pc <;> simp
    have hpt : nPt (ntx w [] pc) 0 = false := by
      unfold nPt
      rw [h1]
      have := hg 0
      rw [Nat.add_zero] at this
      rw [this]
      cases pc <;> rfl
    have h2 : nE2 (ntx w [] pc) 0 = w.length := by unfold nE2; rw [if_neg (by rw [hpt]; simp), h1]
    have hpc : nPc (ntx w [] pc) 0 = pc := by
      unfold nPc
      rw [h2]
      have := hg 0
      rw [Nat.add_zero] at this
      rw [this]
      cases pc <;> rfl
    refine ⟨h1, by unfold nPart; rw [if_neg (by rw [hpt]; simp)], hpc, ?_⟩
    unfold nE3
    rw [hpc, h2, hl]
    cases pc <;> rfl
  · have hl : (ntx w p pc).length = w.length + 1 + p.length + (if pc = true then 1 else 0) := by
      unfold ntx
      rw [if_neg he]
      cases pc <;> simp <;> omega
    obtain ⟨c, q, rfl⟩ : ∃ c q, p = c :: q := by cases p with | nil => exact absurd rfl he | cons c q => exact ⟨c, q, rfl⟩
    have hpt : nPt (ntx w (c :: q) pc) 0 = true := by
      unfold nPt
      rw [h1, hc 1]
      have := hg 0
      rw [Nat.add_zero] at this
      rw [this, if_neg he]
      have hcc : clsAt ((46 :: c :: q) ++ (if pc = true then [37] else [])) 1 = 32 := (cls_digit32 c.toNat).2 (hp c (by simp))
      rw [hcc]
      rfl
    have hdrop : (ntx w (c :: q) pc).drop (w.length + 1) = (c :: q) ++ (if pc = true then [37] else []) := by
      unfold ntx
      rw [if_neg he, ← List.drop_drop, List.drop_left]
      rfl
    have h2 : nE2 (ntx w (c :: q) pc) 0 = w.length + 1 + (c :: q).length := by
      unfold nE2
      rw [if_pos hpt, h1, hdrop, rn_dgs hp _ (hpcl pc)]
    have hpc : nPc (ntx w (c :: q) pc) 0 = pc := by
      unfold nPc
      rw [h2]
      have := hg (1 + (c :: q).length)
      rw [← Nat.add_assoc] at this
      rw [this, if_neg he, List.getElem?_append_right (by simp; omega)]
      have e : 1 + (c :: q).length - (46 :: c :: q).length = 0 := by simp; omega
      rw [e]
      cases pc <;> rfl
    refine ⟨h1, ?_, hpc, ?_⟩
    · unfold nPart
      rw [if_pos hpt, h1, h2]
      unfold slc
      rw [List.drop_take, hdrop, show w.length + 1 + (c :: q).length - (w.length + 1) = (c :: q).length from by omega, List.take_left]
    · unfold nE3
      rw [hpc, h2, hl]
      cases pc <;> rfl
theorem ntx_word {w p : List UInt8} {pc : Bool} {t : Wd} (hw : dgs w) (hw1 : 1 ≤ w.length) (hp : dgs p) (hne : p ≠ [] ∨ pc = true) (h : numTok w p pc = some t) : wordS (ntx w p pc) 0 = .ok (t, (ntx w p pc).length) ∧ clsAt (ntx w p pc) 0 = 32 := by
  obtain ⟨e1, e2, e3, e4⟩ := ntx_parts (pc := pc) hw hp
  have hslc : slc (ntx w p pc) 0 w.length = w := by
    unfold slc ntx
    rw [List.drop_zero, List.take_left]
  have hnum : numberS (ntx w p pc) 0 = .ok (t, (ntx w p pc).length) := by
    rw [numberS_eq, e1, e2, e3, e4, hslc, h]
    show (if clsAt (ntx w p pc) (ntx w p pc).length &&& 24 ≠ 0 then Except.error (0, 42) else .ok (t, (ntx w p pc).length)) = _
    rw [clsAt_out (Nat.le_refl _), if_neg (by decide)]
  obtain ⟨c, w', rfl⟩ : ∃ c w', w = c :: w' := by cases w with | nil => simp at hw1 | cons c w' => exact ⟨c, w', rfl⟩
  have hc0 : clsAt (ntx (c :: w') p pc) 0 = 32 := (cls_digit32 c.toNat).2 (hw c (by simp))
  refine ⟨?_, hc0⟩
  unfold wordS
  rw [if_neg (by rw [hc0]; decide), if_pos hc0]
  unfold dateS
  rw [if_neg, hnum]
  intro hf
  by_cases h5 : 5 ≤ (c :: w').length
  · obtain ⟨d, hd, hk⟩ := dForm_at hf (i := 4) (by omega)
    have hd' : (c :: w')[4]? = some d := by
      unfold ntx at hd
      rwa [List.getElem?_append_left (by omega)] at hd
    have hm := hw d (List.mem_of_getElem? hd')
    unfold ck at hk
    rw [if_pos (.inl rfl)] at hk
    have := of_decide_eq_true hk
    omega
  · obtain ⟨d, hd, hk⟩ := dForm_at hf (i := (c :: w').length) (by omega)
    have := get_v (c :: w') ((if p = [] then [] else 46 :: p) ++ (if pc = true then [37] else [])) 0
    rw [Nat.add_zero] at this
    unfold ntx at hd
    rw [this] at hd
    have hd2 : d = 46 ∨ d = 37 := by
      by_cases he : p = []
      · subst he
        rcases hne with h | h
        · exact absurd rfl h
        · subst h
          simp at hd
          exact .inr hd.symm
      · rw [if_neg he] at hd
        simp at hd
        exact .inl hd.symm
    unfold ck at hk
    split at hk
    · have := of_decide_eq_true hk
      rcases hd2 with rfl | rfl <;> simp at this
    · have := of_decide_eq_true hk
      rcases hd2 with rfl | rfl <;> simp at this
theorem ntx_found {w p : List UInt8} {pc : Bool} {t : Wd} (hw : dgs w) (hw1 : 1 ≤ w.length) (hp : dgs p) (hne : p ≠ [] ∨ pc = true) (hl : (ntx w p pc).length ≤ 8000) (h : numTok w p pc = some t) : foundL (ntx w p pc) = [(t, 0, 0), ((8, [], 0, 0), (ntx w p pc).length, 0)] := by
  obtain ⟨h1, h2⟩ := ntx_word hw hw1 hp hne h
  have hpos : 0 < (ntx w p pc).length := by unfold ntx; rw [List.length_append]; omega
  have hnx0 : nx (ntx w p pc) 0 = 0 := by
    obtain ⟨c, w', rfl⟩ : ∃ c w', w = c :: w' := by cases w with | nil => simp at hw1 | cons c w' => exact ⟨c, w', rfl⟩
    have hcc : cls c.toNat = 32 := (cls_digit32 c.toNat).2 (hw c (by simp))
    unfold nx ntx
    rw [List.drop_zero, List.cons_append, skp_cons, if_neg (by rw [hcc]; decide), if_neg (by rw [hcc]; decide), if_pos ⟨by rw [hcc]; decide, rfl⟩]
  have hnxe : nx (ntx w p pc) (ntx w p pc).length = (ntx w p pc).length := by
    unfold nx
    rw [List.drop_length]
    rfl
  unfold foundL
  rw [if_neg (by omega), hnx0, fnd_word (by rw [h2]; decide) h1 hnxe]
  obtain ⟨n, hn⟩ : ∃ n, (ntx w p pc).length = n + 1 := ⟨(ntx w p pc).length - 1, by omega⟩
  rw [hn, fnd_eq, clsAt_out (by omega), if_neg (by decide), if_pos rfl, if_pos hn.symm, List.append_nil]

end Go.Proofs.YtoippgmecnlhcaaGreatDoor.Q


namespace Go.Proofs.YtoippgmecnlhcaaGreatDoor.Q
open Go.Lib (decDigits)

/-- The digits behind the point of r parts of D. -/
def Dv (D : Nat) : Nat → List UInt8 → Prop
  | r, [] => r = 0
  | r, c :: l => r ≠ 0 ∧ c = UInt8.ofNat (48 + 10 * r / D) ∧ Dv D (10 * r % D) l
theorem dv_all (D : Nat) (hD : 0 < D) : ∀ (l : List UInt8) (r : Nat), r < D → Dv D r l → dgs l ∧ val l * D = r * 10 ^ l.length ∧ l.getLast? ≠ some 48
  | [], r, hr, h => by
    have h0 : r = 0 := h
    exact ⟨fun c hc => by simp at hc, by simp [val, h0], by simp⟩
  | c :: l, r, hr, h => by
    obtain ⟨h1, h2, h3⟩ := h
    have hq : 10 * r / D < 10 := (Nat.div_lt_iff_lt_mul hD).2 (by omega)
    have hm : 10 * r % D < D := Nat.mod_lt _ hD
    obtain ⟨i1, i2, i3⟩ := dv_all D hD l (10 * r % D) hm h3
    have hdm := Nat.div_add_mod (10 * r) D
    refine ⟨fun d hd => ?_, ?_, ?_⟩
    · rcases List.mem_cons.1 hd with rfl | hd
      · rw [h2, ch_nat hq]; exact ⟨Nat.le_add_right _ _, by have := hq; generalize 10 * r / D = z at *; omega⟩
      · exact i1 d hd
    · have hv : val (c :: l) = (10 * r / D) * 10 ^ l.length + val l := by
        have := vl_app [c] l
        rw [h2, vl_one hq] at this
        rw [h2]
        exact this
      rw [hv, Nat.add_mul, i2, List.length_cons, Nat.pow_succ]
      generalize 10 ^ l.length = P at *
      calc 10 * r / D * P * D + 10 * r % D * P = (D * (10 * r / D) + 10 * r % D) * P := by rw [Nat.add_mul, Nat.mul_right_comm, Nat.mul_comm D (10 * r / D)]
        _ = r * (P * 10) := by rw [hdm, Nat.mul_comm P 10, Nat.mul_comm 10 r, Nat.mul_assoc]
    · cases l with
      | nil =>
        have h0 : 10 * r % D = 0 := h3
        rw [h2]
        intro e
        simp only [List.getLast?_singleton, Option.some.injEq] at e
        have := congrArg UInt8.toNat e
        rw [ch_nat hq] at this
        have h48 : (48 : UInt8).toNat = 48 := rfl
        have hz : 10 * r / D = 0 := by omega
        rw [hz, h0] at hdm
        omega
      | cons d l => rw [List.getLast?_cons_cons]; exact i3

theorem gcd_parts (v q n d : Nat) (hq : 0 < q) (hd : 0 < d) (h : v * d = n * q) : n * (q / v.gcd q) = v / v.gcd q * d ∧ 1 ≤ q / v.gcd q ∧ q / v.gcd q ≤ d ∧ v / v.gcd q ≤ n := by
  have hg : 0 < v.gcd q := Nat.gcd_pos_of_pos_right v hq
  obtain ⟨a, ha⟩ := Nat.gcd_dvd_left v q
  obtain ⟨b, hb⟩ := Nat.gcd_dvd_right v q
  have hcop : Nat.Coprime a b := by
    have h1 := Nat.coprime_div_gcd_div_gcd hg
    rw [show v / v.gcd q = a from Nat.div_eq_of_eq_mul_right hg ha, show q / v.gcd q = b from Nat.div_eq_of_eq_mul_right hg hb] at h1
    exact h1
  rw [show v / v.gcd q = a from Nat.div_eq_of_eq_mul_right hg ha, show q / v.gcd q = b from Nat.div_eq_of_eq_mul_right hg hb]
  have hb0 : 0 < b := by
    rcases Nat.eq_zero_or_pos b with h0 | h0
    · rw [h0, Nat.mul_zero] at hb; omega
    · exact h0
  have key : n * b = a * d := by
    have h2 : v.gcd q * (a * d) = v.gcd q * (n * b) := by
      calc v.gcd q * (a * d) = (v.gcd q * a) * d := by rw [Nat.mul_assoc]
        _ = v * d := by rw [← ha]
        _ = n * q := h
        _ = n * (v.gcd q * b) := by rw [← hb]
        _ = v.gcd q * (n * b) := by rw [Nat.mul_left_comm]
    exact (Nat.eq_of_mul_eq_mul_left hg h2).symm
  refine ⟨key, hb0, ?_, ?_⟩
  · have hdv : b ∣ a * d := ⟨n, by rw [← key, Nat.mul_comm]⟩
    exact Nat.le_of_dvd hd (Nat.Coprime.dvd_of_dvd_mul_left hcop.symm hdv)
  · rcases Nat.eq_zero_or_pos n with h0 | h0
    · subst h0
      rw [Nat.zero_mul] at key
      have : a = 0 := by
        rcases Nat.eq_zero_or_pos a with h | h
        · exact h
        · have := Nat.mul_pos h hd
          omega
      omega
    · have hav : a ∣ n * b := ⟨d, key⟩
      exact Nat.le_of_dvd h0 (Nat.Coprime.dvd_of_dvd_mul_right hcop hav)

/-- The token of a percentage. -/
theorem pct_tok {n d : Nat} (hn : n ≤ 1000000000) (hd0 : 0 < d) (hd : d ≤ 1000000000) {l : List UInt8} (hl : l.length ≤ 6) (h : Dv d (100 * n % d) l) : ∃ a b, numTok (decDigits (100 * n / d)) l true = some (4, [], a, b) ∧ n * b = a * d ∧ 1 ≤ b ∧ b ≤ 1000000000 ∧ a ≤ 1000000000 := by
  obtain ⟨i1, i2, i3⟩ := dv_all d hd0 l _ (Nat.mod_lt _ hd0) h
  obtain ⟨j1, j2, j3, j4, -⟩ := dd_all (100 * n / d)
  have hdm := Nat.div_add_mod (100 * n) d
  have hv : val (decDigits (100 * n / d) ++ l) = 100 * n / d * 10 ^ l.length + val l := by rw [vl_app, j1]
  have hvd : val (decDigits (100 * n / d) ++ l) * d = n * (100 * 10 ^ l.length) := by
    rw [hv, Nat.add_mul, i2]
    generalize 10 ^ l.length = P at *
    calc 100 * n / d * P * d + 100 * n % d * P = (d * (100 * n / d) + 100 * n % d) * P := by rw [Nat.add_mul, Nat.mul_right_comm, Nat.mul_comm d (100 * n / d)]
      _ = n * (100 * P) := by rw [hdm, Nat.mul_comm 100 n, Nat.mul_assoc]
  have hpow : 10 ^ l.length ≤ 1000000 := by
    have := Nat.pow_le_pow_right (n := 10) (by decide) hl
    simpa using this
  have hpow0 : 0 < 10 ^ l.length := Nat.pow_pos (by decide)
  have hvl : val (decDigits (100 * n / d) ++ l) ≤ 100000000000000000 := by
    have h1 : val (decDigits (100 * n / d) ++ l) ≤ val (decDigits (100 * n / d) ++ l) * d := Nat.le_mul_of_pos_right _ hd0
    have h2 : n * (100 * 10 ^ l.length) ≤ 1000000000 * (100 * 1000000) := Nat.mul_le_mul hn (Nat.mul_le_mul_left _ hpow)
    omega
  obtain ⟨k1, k2, k3, k4⟩ := gcd_parts (val (decDigits (100 * n / d) ++ l)) (100 * 10 ^ l.length) n d (by omega) hd0 hvd
  refine ⟨_, _, ?_, k1, k2, by omega, by omega⟩
  unfold numTok
  rw [if_neg (by rintro (h | ⟨h, h'⟩); · omega
                 · exact j4 h h'), if_pos rfl]
  unfold pctTok
  rw [if_neg (by rintro (h | h); · omega
                 · exact i3 h), if_pos ⟨by omega, by omega⟩]
/-- The token of an amount. -/
theorem amt_tok {c : Nat} (hc : c ≤ 9999999999999) {p : List UInt8} (hp2 : p.length = 2) (hpv : val p = c % 100) : numTok (decDigits (c / 100)) p false = some (2, [], c, 0) := by
  obtain ⟨j1, j2, j3, j4, -⟩ := dd_all (c / 100)
  have hv : val (decDigits (c / 100) ++ p) = c := by rw [vl_app, j1, hp2, hpv]; omega
  unfold numTok
  rw [hv, if_neg (by rintro (h | ⟨h, h'⟩); · omega
                     · exact j4 h h'), if_neg (by simp), if_neg (by intro e; rw [e] at hp2; simp at hp2), if_pos ⟨hp2, hc⟩]

end Go.Proofs.YtoippgmecnlhcaaGreatDoor.Q

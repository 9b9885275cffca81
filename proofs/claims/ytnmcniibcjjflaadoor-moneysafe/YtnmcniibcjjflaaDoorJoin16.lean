import Derived.Test.YtnmcniibcjjflaaDoorTurnTaken
import Derived.Test.YtnmcniibcjjflaaDoorJoin13
import Derived.Test.YtnmcniibcjjflaaDoorTurnRefusal
import Derived.Test.YtnmcniibcjjflaaDoorJoin5
namespace Go.Proofs.YtnmcniibcjjflaaDoor
open Go.RowKit

/-- Bracket, of an operand that it takes. -/
def brk (bs : List (Int × Int)) (m : Int × Bool) : Int × Int := if M.areBands bs = true then M.fit m.2 1 m.1 else (6, 5)

theorem took_lt {bs : List (Int × Int)} {x : Int} (h : M.Rising 0 bs) (hx : x ≤ 9999999999999) : M.took x bs < 18446744073709551616 := by
  have h1 := M.took_le x 0 bs h
  have h2 : (x - 0).toNat ≤ 9999999999999 := by omega
  have h3 : M.took x bs ≤ 9999999999999000000 := Nat.le_trans h1 (Nat.mul_le_mul_right 1000000 h2)
  omega

theorem whole_band (p : Nat) (hp : p < 18446744073709551616) (m : Int × Bool) (hm : m = M.wh false 4 p 1000000) (w : World) :
    Calls Tryd.prog 57 #[.agg #[.bool false, .int .u64 0, .int .u64 (p : Int), .int .u64 1000000], .int .i64 4] w fun e w' => e = .returned (.tuple #[.int .i64 m.1, .bool m.2]) ∧ Below w.heap.size w w' :=
  whole_any false 0 p 1000000 p 4 w (by omega) (by omega) (by omega) (fun _ w1 => div64_small p 1000000 (by omega) hp (by omega) w1) m hm

set_option maxHeartbeats 2000000 in
theorem bracket_any (a : Option Addr) (cap : Nat) (bs : List (Int × Int)) (k0 n0 : Int) (w : World) (hK : Kinds w) (hV : Vals w a bs) (m : Int × Bool) (hm : Hid (m = M.wh false 4 (M.took n0 bs) 1000000)) (r : Int × Int) (hr : Hid (r = M.ans (M.refuse (takesB k0 8) k0 n0 []) (brk bs m))) :
    Calls Tryd.prog 24 #[.slice a bs.length cap, .agg #[.int .i64 k0, .int .i64 n0]] w fun e w' => e = .returned (.agg #[.int .i64 r.1, .int .i64 r.2]) ∧ Below w.heap.size w w' := by
  have hc := refusal_any 8 k0 n0 none 0 [] ((w.alloc (cellsV k0 n0)).alloc (cellsV 0 0)) ((hK.alloc _).alloc _) ⟨by simp, .inl rfl⟩
  cases h1 : M.refuse (takesB k0 8) k0 n0 [] with
  | some v =>
    obtain ⟨x, y⟩ := v
    rw [h1] at hc hr
    dsimp only [M.vk, M.vn, Option.isSome, List.length] at hc
    clear h1
    go_enter Tryd.func24, Tryd.ntmps24
    go_wp2_with (go_at_call 54; refine hc.mono ?_; clear hc; rintro e w1 ⟨rfl, hb1⟩; obtain ⟨-, hR1, hB1⟩ := start1 w k0 n0 hb1; obtain ⟨r0, r1, q0, q1⟩ := hR1.alloc (cellsV x y); clear hb1)
    exact bodyPost_ret (v := .agg #[.int .i64 x, .int .i64 y]) (by simp [results, Tryd.results24, go_sem, r0, r1]) rfl ⟨by rw [hr.out]; rfl, ((hB1.alloc hB1.size _).setCell (by simp) _).setCell (by simp) _⟩
  | none =>
    obtain ⟨t0, v0, -⟩ := M.refuse_none h1
    rw [h1] at hc hr
    dsimp only [M.vk, M.vn, Option.isSome, List.length] at hc
    have hr1 : r = brk bs m := hr
    clear h1 hr
    cases hbs : M.areBands bs with
    | false =>
      have HR : Hid (r = (6, 5)) := by unfold Hid brk at *; rw [hr1, hbs]; rfl
      have hA := fun w1 h => areBands_any a cap bs w1 h false hbs.symm
      clear hr1 t0 v0 hm hbs
      go_enter Tryd.func24, Tryd.ntmps24
      go_wp2_with (first | (go_at_call 54; refine hc.mono ?_; clear hc; rintro e w1 ⟨rfl, hb1⟩; obtain ⟨hX, hR1, hB1⟩ := start1 w k0 n0 hb1; obtain ⟨x0, x1, -, -⟩ := hX.alloc (cellsV 0 0); have hB1' := hB1.alloc hB1.size (cellsV 0 0); have hR1' := hR1.alloc (cellsV 0 0); have hX1 := hX.alloc (cellsV 0 0); clear hb1) | (go_at_call 59; refine (hA _ (hV.later hB1')).mono ?_; clear hA; rintro e w2 ⟨rfl, hb2⟩; have hB2 := below_step hB1' hb2; have hR2 := hR1'.later hb2; clear hb2) | (go_at_call 18; refine (fault_any _ _).mono ?_; rintro e w3 ⟨rfl, hb3⟩; obtain ⟨r0, r1, q0, q1⟩ := hR2.later hb3; have hB3 := below_step hB2 hb3; clear hb3))
      exact bodyPost_ret (v := .agg #[.int .i64 6, .int .i64 5]) (by simp [results, Tryd.results24, go_sem, r0, r1]) rfl ⟨by rw [HR.out], (hB3.setCell (by simp) _).setCell (by simp) _⟩
    | true =>
      have HR : Hid (r = M.fit m.2 1 m.1) := by unfold Hid brk at *; rw [hr1, hbs]; rfl
      have hA := fun w1 h => areBands_any a cap bs w1 h true hbs.symm
      have hris : M.Rising 0 bs := by
        unfold M.areBands at hbs
        rw [Bool.and_eq_true] at hbs
        exact M.rising_of_areB (by omega) bs hbs.2
      rw [takes_8] at t0
      obtain rfl : k0 = 1 := by simpa using t0
      have hv := M.valid_1 v0
      have hlt := took_lt hris hv.2
      have hT := fun w1 h => taken_any a cap bs n0 w1 h hv hris _ rfl
      have hW := whole_band (M.took n0 bs) hlt m hm
      generalize M.took n0 bs = p at *
      clear hr1 t0 v0 hm hbs hris hv hlt
      go_enter Tryd.func24, Tryd.ntmps24
      go_wp2_with (first | (go_at_call 54; refine hc.mono ?_; clear hc; rintro e w1 ⟨rfl, hb1⟩; obtain ⟨hX, hR1, hB1⟩ := start1 w 1 n0 hb1; obtain ⟨x0, x1, -, -⟩ := hX.alloc (cellsV 0 0); have hB1' := hB1.alloc hB1.size (cellsV 0 0); have hR1' := hR1.alloc (cellsV 0 0); have hX1 := hX.alloc (cellsV 0 0); clear hb1) | (go_at_call 59; refine (hA _ (hV.later hB1')).mono ?_; clear hA; rintro e w2 ⟨rfl, hb2⟩; have hB2 := below_step hB1' hb2; have hR2 := hR1'.later hb2; have hX2 := hX1.later hb2; obtain ⟨z0, z1, -, -⟩ := id hX2; clear hb2) | (go_at_call 60; refine (hT _ (hV.later hB2)).mono ?_; clear hT; rintro e w3 ⟨rfl, hb3⟩; have hB3 := below_step hB2 hb3; have hR3 := hR2.later hb3; clear hb3) | (go_at_call 57; refine (hW _).mono ?_; clear hW; rintro e w4 ⟨rfl, hb4⟩; have hB4 := below_step hB3 hb4; have hR4 := hR3.later hb4; clear hb4) | (go_at_call 53; refine (fitting_any _ _ _ _ (hK.later hB4)).mono ?_; rintro e w5 ⟨rfl, hb5⟩; obtain ⟨r0, r1, q0, q1⟩ := hR4.later hb5; have hB5 := below_step hB4 hb5; clear hb5))
      exact bodyPost_ret (v := .agg #[.int .i64 r.1, .int .i64 r.2]) (by rw [HR.out]; simp [results, Tryd.results24, go_sem, r0, r1]) rfl ⟨rfl, (hB5.setCell (by simp) _).setCell (by simp) _⟩

end Go.Proofs.YtnmcniibcjjflaaDoor


/- THE PLAIN MATHEMATICS of layer 1, more: the product on paper. -/
namespace Go.Proofs.YtnmcniibcjjflaaDoor
namespace M

/-- What n cells say. -/
def fval (f : Nat → Nat) : Nat → Nat
  | 0 => 0
  | n + 1 => fval f n + f n * 10 ^ n

theorem fval_congr {f g : Nat → Nat} {n : Nat} (h : ∀ i, i < n → f i = g i) : fval f n = fval g n := by
  induction n with
  | zero => rfl
  | succ n ih => simp only [fval]; rw [ih fun i hi => h i (by omega), h n (by omega)]

theorem fval_zero (n : Nat) : fval (fun _ => 0) n = 0 := by
  induction n with
  | zero => rfl
  | succ n ih => simp [fval, ih]

theorem fval_add (f : Nat → Nat) (x i : Nat) (n : Nat) (hi : i < n) : fval (fun j => if j = i then f i + x else f j) n = fval f n + x * 10 ^ i := by
  induction n with
  | zero => omega
  | succ n ih =>
    simp only [fval]
    by_cases h : i = n
    · subst h
      rw [if_pos rfl, fval_congr (g := f) fun j hj => if_neg (by omega), Nat.add_mul]
      omega
    · rw [ih (by omega), if_neg (Ne.symm h)]
      omega

/-- One carry leaves the number. -/
theorem fval_carry (f : Nat → Nat) (i n : Nat) (hi : i + 1 < n) : fval (fun j => if j = i then f i % 10 else if j = i + 1 then f (i + 1) + f i / 10 else f j) n = fval f n := by
  -- with the tens left in place i the number is the one with the tens put back
  have h1 := fval_add (fun j => if j = i then f i % 10 else f j) (f i / 10) (i + 1) n hi
  have h2 := fval_add (fun j => if j = i then f i % 10 else f j) (f i / 10 * 10) i n (by omega)
  have e1 : fval (fun j => if j = i then f i % 10 else if j = i + 1 then f (i + 1) + f i / 10 else f j) n = fval (fun j => if j = i + 1 then (fun j => if j = i then f i % 10 else f j) (i + 1) + f i / 10 else (fun j => if j = i then f i % 10 else f j) j) n := by
    refine fval_congr fun j _ => ?_
    by_cases hj : j = i
    · subst hj; simp
    · by_cases hk : j = i + 1
      · subst hk; simp
      · simp [hj, hk]
  have e2 : fval (fun j => if j = i then (fun j => if j = i then f i % 10 else f j) i + f i / 10 * 10 else (fun j => if j = i then f i % 10 else f j) j) n = fval f n := by
    refine fval_congr fun j _ => ?_
    by_cases hj : j = i
    · subst hj; simp; omega
    · simp [hj]
  rw [e1, h1, ← e2, h2, Nat.pow_succ, Nat.mul_comm (10 ^ i) 10, ← Nat.mul_assoc]

theorem val_range (f : Nat → Nat) (n : Nat) : val ((List.range n).map f) = fval f n := by
  induction n with
  | zero => rfl
  | succ n ih =>
    rw [List.range_succ, List.map_append, val_append, ih]
    simp [fval, val, Nat.mul_comm]

theorem val_take_succ (l : List Nat) (j : Nat) (h : j < l.length) : val (l.take (j + 1)) = val (l.take j) + l.getD j 0 * 10 ^ j := by
  rw [List.take_succ_eq_append_getElem h, val_append, List.getD_eq_getElem?_getD, List.getElem?_eq_getElem h]
  simp [val, Nat.mul_comm, Nat.min_eq_left (Nat.le_of_lt h)]

/-- One step of the product on paper. -/
theorem prod_step (f : Nat → Nat) (n : Nat) (A B : List Nat) (i k : Nat) (hk : k < B.length) (hn : i + k < n)
    (h : fval f n = val (A.take i) * val B + A.getD i 0 * 10 ^ i * val (B.take k)) :
    fval (fun j => if j = i + k then f (i + k) + A.getD i 0 * B.getD k 0 else f j) n = val (A.take i) * val B + A.getD i 0 * 10 ^ i * val (B.take (k + 1)) := by
  rw [fval_add f _ _ n hn, h, val_take_succ B k hk, Nat.mul_add, ← Nat.add_assoc, Nat.pow_add]
  congr 1
  rw [Nat.mul_mul_mul_comm]

theorem prod_row (A B : List Nat) (i : Nat) (hi : i < A.length) : val (A.take i) * val B + A.getD i 0 * 10 ^ i * val (B.take B.length) = val (A.take (i + 1)) * val B := by
  rw [val_take_succ A i hi, List.take_length, Nat.add_mul]

end M
end Go.Proofs.YtnmcniibcjjflaaDoor


/- THE PLAIN MATHEMATICS of layer 1, more: the sum on paper. -/
namespace Go.Proofs.YtnmcniibcjjflaaDoor
namespace M

theorem take_succ_any (l : List Nat) (j : Nat) : val (l.take (j + 1)) = val (l.take j) + l.getD j 0 * 10 ^ j := by
  by_cases h : j < l.length
  · exact val_take_succ l j h
  · rw [List.take_of_length_le (by omega), List.take_of_length_le (by omega), List.getD_eq_getElem?_getD, List.getElem?_eq_none (by omega)]
    simp

/-- How the sum on paper stands at place i. -/
def Sums (A B : List Nat) (n i : Nat) (f : Nat → Nat) : Prop :=
  fval f n = val (A.take i) + val (B.take i) ∧ (∀ j, j < i → f j ≤ 9) ∧ f i ≤ 1 ∧ ∀ j, i < j → f j = 0

theorem sums_zero (A B : List Nat) (n : Nat) : Sums A B n 0 (fun _ => 0) := by
  refine ⟨by rw [fval_zero]; simp [val], fun j h => absurd h (Nat.not_lt_zero j), by simp, fun _ _ => rfl⟩

theorem sums_low {A B : List Nat} {n i : Nat} {f : Nat → Nat} (h : Sums A B n i f) (hi : i < n) (hc : ¬ 9 < f i + (A.getD i 0 + B.getD i 0)) :
    Sums A B n (i + 1) (fun j => if j = i then f i + (A.getD i 0 + B.getD i 0) else f j) := by
  obtain ⟨h1, h2, h3, h4⟩ := h
  refine ⟨?_, fun j hj => ?_, ?_, fun j hj => ?_⟩
  · rw [fval_add f _ i n hi, h1, take_succ_any, take_succ_any, Nat.add_mul]
    omega
  · dsimp only
    by_cases e : j = i
    · rw [if_pos e]; omega
    · rw [if_neg e]; exact h2 j (by omega)
  · dsimp only
    rw [if_neg (by omega), h4 (i + 1) (by omega)]
    omega
  · dsimp only
    rw [if_neg (by omega)]
    exact h4 j (by omega)

theorem sums_high {A B : List Nat} {n i : Nat} {f : Nat → Nat} (h : Sums A B n i f) (hi : i + 1 < n) (dA : A.getD i 0 ≤ 9) (dB : B.getD i 0 ≤ 9) (hc : 9 < f i + (A.getD i 0 + B.getD i 0)) :
    Sums A B n (i + 1) (fun j => if j = i then f i + (A.getD i 0 + B.getD i 0) - 10 else if j = i + 1 then 1 else f j) := by
  obtain ⟨h1, h2, h3, h4⟩ := h
  refine ⟨?_, fun j hj => ?_, ?_, fun j hj => ?_⟩
  · have e := fval_carry (fun j => if j = i then f i + (A.getD i 0 + B.getD i 0) else f j) i n hi
    rw [fval_add f _ i n (by omega), h1] at e
    rw [take_succ_any, take_succ_any]
    generalize A.getD i 0 = α at *
    generalize B.getD i 0 = β at *
    have e2 : fval (fun j => if j = i then f i + (α + β) - 10 else if j = i + 1 then 1 else f j) n = val (A.take i) + val (B.take i) + (α + β) * 10 ^ i := by
      rw [← e]
      refine fval_congr fun j _ => ?_
      by_cases ej : j = i
      · subst ej; simp; omega
      · by_cases ek : j = i + 1
        · subst ek; simp [h4 (i + 1) (by omega)]; omega
        · simp [ej, ek]
    rw [e2, Nat.add_mul]
    omega
  · dsimp only
    by_cases e : j = i
    · rw [if_pos e]; omega
    · rw [if_neg e, if_neg (by omega)]; exact h2 j (by omega)
  · dsimp only
    rw [if_neg (by omega), if_pos rfl]
    omega
  · dsimp only
    rw [if_neg (by omega), if_neg (by omega)]
    exact h4 j (by omega)

theorem sums_end {A B : List Nat} {n : Nat} {f : Nat → Nat} (h : Sums A B n n f) (hA : A.length ≤ n) (hB : B.length ≤ n) : fval f n = val A + val B ∧ ∀ j, j < n → f j ≤ 9 := by
  refine ⟨?_, h.2.1⟩
  rw [h.1, List.take_of_length_le hA, List.take_of_length_le hB]

theorem no_carry {A B : List Nat} {n i : Nat} {f : Nat → Nat} (h : Sums A B n i f) (hA : A.length < n) (hB : B.length < n) (hi : i + 1 = n) : ¬ 9 < f i + (A.getD i 0 + B.getD i 0) := by
  have h1 := h.2.2.1
  have e1 : A.getD i 0 = 0 := by rw [List.getD_eq_getElem?_getD, List.getElem?_eq_none (by omega)]; rfl
  have e2 : B.getD i 0 = 0 := by rw [List.getD_eq_getElem?_getD, List.getElem?_eq_none (by omega)]; rfl
  omega

end M
end Go.Proofs.YtnmcniibcjjflaaDoor

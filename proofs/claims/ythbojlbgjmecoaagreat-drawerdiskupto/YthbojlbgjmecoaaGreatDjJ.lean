import Derived.Test.YthbojlbgjmecoaaGreatDjC
/- A WHOLE PIECE, AS THE PROGRAM ASKS FOR IT. No program. -/
namespace Go.Proofs.YthbojlbgjmecoaaGreat.DJ

theorem cons_of {l : List Nat} {n : Nat} (h : n + 1 ≤ l.length) : ∃ x t, l = x :: t ∧ n ≤ t.length := by
  cases l with
  | nil => simp at h
  | cons x t => exact ⟨x, t, rfl, by simpa using h⟩
theorem fourteen {b : List Nat} {n : Nat} (h : 18 + n ≤ b.length) : ∃ x0 x1 x2 x3 x4 x5 x6 x7 x8 x9 x10 x11 x12 x13 r, b = x0 :: x1 :: x2 :: x3 :: x4 :: x5 :: x6 :: x7 :: x8 :: x9 :: x10 :: x11 :: x12 :: x13 :: r ∧ n + 4 ≤ r.length := by
  obtain ⟨x0, b, rfl, h⟩ := cons_of (n := 17 + n) (l := b) (by omega)
  obtain ⟨x1, b, rfl, h⟩ := cons_of (n := 16 + n) (l := b) (by omega)
  obtain ⟨x2, b, rfl, h⟩ := cons_of (n := 15 + n) (l := b) (by omega)
  obtain ⟨x3, b, rfl, h⟩ := cons_of (n := 14 + n) (l := b) (by omega)
  obtain ⟨x4, b, rfl, h⟩ := cons_of (n := 13 + n) (l := b) (by omega)
  obtain ⟨x5, b, rfl, h⟩ := cons_of (n := 12 + n) (l := b) (by omega)
  obtain ⟨x6, b, rfl, h⟩ := cons_of (n := 11 + n) (l := b) (by omega)
  obtain ⟨x7, b, rfl, h⟩ := cons_of (n := 10 + n) (l := b) (by omega)
  obtain ⟨x8, b, rfl, h⟩ := cons_of (n := 9 + n) (l := b) (by omega)
  obtain ⟨x9, b, rfl, h⟩ := cons_of (n := 8 + n) (l := b) (by omega)
  obtain ⟨x10, b, rfl, h⟩ := cons_of (n := 7 + n) (l := b) (by omega)
  obtain ⟨x11, b, rfl, h⟩ := cons_of (n := 6 + n) (l := b) (by omega)
  obtain ⟨x12, b, rfl, h⟩ := cons_of (n := 5 + n) (l := b) (by omega)
  obtain ⟨x13, b, rfl, h⟩ := cons_of (n := 4 + n) (l := b) (by omega)
  exact ⟨x0, x1, x2, x3, x4, x5, x6, x7, x8, x9, x10, x11, x12, x13, b, rfl, by omega⟩
theorem four_told {a b c d : Nat} {r : List Nat} (h0 : a < 256) (h1 : b < 256) (h2 : c < 256) (h3 : d < 256) : four (told (a :: b :: c :: d :: r)) = [a, b, c, d] := by
  simp only [told, four, List.getD_cons_zero, List.getD_cons_succ, List.cons.injEq, and_true]
  omega
theorem told_lt {b : List Nat} (h : ∀ x ∈ b, x < 256) : told b < 4294967296 := by
  have k : ∀ i, b.getD i 0 < 256 := fun i => by
    rw [List.getD_eq_getElem?_getD]
    cases e : b[i]? with
    | none => simp
    | some y => simpa using h y (List.mem_of_getElem? e)
  have := k 0; have := k 1; have := k 2; have := k 3
  unfold told; omega

theorem whole_go {b : List Nat} {num : Nat} (hb : ∀ x ∈ b, x < 256) (h0 : 18 ≤ b.length) (h1 : b.getD 0 0 = 82) (h2 : told (b.drop 1) = num) (h3 : told (b.drop 9) ≤ 1048576) (h4 : told (b.drop 9) + 18 ≤ b.length) (h5 : ¬ (num = 0 ∧ b.getD 13 0 ≠ 0)) (h6 : told (b.drop (14 + told (b.drop 9))) = fnv (b.take (14 + told (b.drop 9)))) :
    whole b num = some (told (b.drop 5), b.getD 13 0, (b.drop 14).take (told (b.drop 9))) := by
  unfold whole
  rw [if_neg (by omega), if_neg (by omega), if_pos]
  refine ⟨?_, h5⟩
  obtain ⟨n, hn⟩ : ∃ n, told (b.drop 9) = n := ⟨_, rfl⟩
  rw [hn] at h3 h4 h6 ⊢
  obtain ⟨x0, x1, x2, x3, x4, x5, x6, x7, x8, x9, x10, x11, x12, x13, r, rfl, hr⟩ := fourteen (b := b) (n := n) (by omega)
  simp only [List.drop_succ_cons, List.drop_zero, List.getD_cons_zero, List.getD_cons_succ] at h1 h2 hn h6 ⊢
  subst h1
  have hx : ∀ y ∈ r, y < 256 := fun y hy => hb y (by simp [hy])
  have b1 : x1 < 256 := hb x1 (by simp)
  have b2 : x2 < 256 := hb x2 (by simp)
  have b3 : x3 < 256 := hb x3 (by simp)
  have b4 : x4 < 256 := hb x4 (by simp)
  have b5 : x5 < 256 := hb x5 (by simp)
  have b6 : x6 < 256 := hb x6 (by simp)
  have b7 : x7 < 256 := hb x7 (by simp)
  have b8 : x8 < 256 := hb x8 (by simp)
  have b9 : x9 < 256 := hb x9 (by simp)
  have b10 : x10 < 256 := hb x10 (by simp)
  have b11 : x11 < 256 := hb x11 (by simp)
  have b12 : x12 < 256 := hb x12 (by simp)
  have b13 : x13 < 256 := hb x13 (by simp)
  have e1 : four num = [x1, x2, x3, x4] := by rw [← h2]; exact four_told b1 b2 b3 b4
  have e2 : four (told (x5 :: x6 :: x7 :: x8 :: x9 :: x10 :: x11 :: x12 :: x13 :: r)) = [x5, x6, x7, x8] := four_told b5 b6 b7 b8
  have e3 : four n = [x9, x10, x11, x12] := by rw [← hn]; exact four_told b9 b10 b11 b12
  have hl : (r.take n).length = n := by rw [List.length_take]; omega
  have e4 : (82 :: x1 :: x2 :: x3 :: x4 :: x5 :: x6 :: x7 :: x8 :: x9 :: x10 :: x11 :: x12 :: x13 :: r).take (14 + n) = body0 num (told (x5 :: x6 :: x7 :: x8 :: x9 :: x10 :: x11 :: x12 :: x13 :: r)) x13 (r.take n) := by
    unfold body0
    rw [hl, e1, e2, e3, show 14 + n = n + 14 by omega]
    simp [List.take_succ_cons]
  have e5 : (82 :: x1 :: x2 :: x3 :: x4 :: x5 :: x6 :: x7 :: x8 :: x9 :: x10 :: x11 :: x12 :: x13 :: r).drop (14 + n) = r.drop n := by
    rw [show 14 + n = n + 14 by omega]
    simp [List.drop_succ_cons]
  rw [e4, e5] at h6
  unfold piece
  rw [← h6]
  obtain ⟨y0, t, et, h'⟩ := cons_of (n := 3) (l := r.drop n) (by rw [List.length_drop]; omega)
  obtain ⟨y1, t, rfl, h'⟩ := cons_of (n := 2) (l := t) (by omega)
  obtain ⟨y2, t, rfl, h'⟩ := cons_of (n := 1) (l := t) (by omega)
  obtain ⟨y3, t, rfl, h'⟩ := cons_of (n := 0) (l := t) (by omega)
  have hy : ∀ y ∈ r.drop n, y < 256 := fun y hy => hx y (List.mem_of_mem_drop hy)
  rw [et] at hy ⊢
  rw [four_told (hy y0 (by simp)) (hy y1 (by simp)) (hy y2 (by simp)) (hy y3 (by simp)), ← e4]
  rw [show 18 + n = (14 + n) + 4 by omega, List.take_add (i := 14 + n) (j := 4), e5, et]
  rfl
theorem whole_inv {b : List Nat} {num : Nat} {t : Nat × Nat × List Nat} (hn : num < 4294967296) (h : whole b num = some t) : 18 ≤ b.length ∧ b.getD 0 0 = 82 ∧ told (b.drop 1) = num ∧ told (b.drop 9) ≤ 1048576 ∧ told (b.drop 9) + 18 ≤ b.length ∧ ¬ (num = 0 ∧ b.getD 13 0 ≠ 0) ∧ told (b.drop (14 + told (b.drop 9))) = fnv (b.take (14 + told (b.drop 9))) := by
  obtain ⟨s, k, bd⟩ := t
  obtain ⟨rest, rfl, hl, h0⟩ := whole_some h
  have e9 : told ((piece num s k bd ++ rest).drop 9) = bd.length := by rw [drop_piece9]; exact told_four _ (by omega) _
  have hlen : (piece num s k bd ++ rest).length = bd.length + 18 + rest.length := by rw [List.length_append, piece_len]
  rw [e9]
  refine ⟨by omega, rfl, ?_, hl, by omega, ?_, ?_⟩
  · have : (piece num s k bd ++ rest).drop 1 = four num ++ (four s ++ (four bd.length ++ (k :: bd ++ (four (fnv (body0 num s k bd)) ++ rest)))) := by
      simp [piece, body0, four, List.append_assoc]
    rw [this]
    exact told_four _ hn _
  · rw [get_piece13]
    rintro ⟨e, e'⟩
    exact e' (h0 e)
  · have e1 : (piece num s k bd ++ rest) = body0 num s k bd ++ (four (fnv (body0 num s k bd)) ++ rest) := by unfold piece; rw [List.append_assoc]
    have e2 : (body0 num s k bd).length = 14 + bd.length := by rw [body0_len]; omega
    rw [e1, List.drop_left' e2, List.take_left' e2]
    exact told_four _ (fnv_lt _) _
end Go.Proofs.YthbojlbgjmecoaaGreat.DJ

import Derived.Test.YtakcdgeanbpllaaGreatDoorDnB
/- bytes: a piece as it stands in its file. -/
namespace Go.Proofs.YtakcdgeanbpllaaGreatDoor.DJ
open Go.RowKit

theorem own_app {w : World} {base : Nat} {v : Value} {xs ys : List Nat} {n : Nat} (h : w.ownsRow base 5 1 v (xs.length + n) (bysV (xs ++ ys))) (hn : ys.length = n) : w.ownsRow base 5 1 v (xs ++ ys).length (bysV (xs ++ ys)) := by
  rw [List.length_append, hn]; exact h
theorem byts1 (w : World) (k : Nat) (hk : k < 256) : Byts (w.alloc (.cells #[.int .u8 (k : Int)] 5)) (some ⟨w.heap.size, 0, none⟩) [k] := by
  refine ⟨fun x hx => by simp at hx; omega, .inr ⟨w.heap.size, 0, rfl, by simp, fun i hi => ?_⟩⟩
  obtain rfl : i = 0 := by simp at hi; exact hi
  exact cell_of_row _ _ 0 _ _ _ (heap_new w _)
theorem piece_is (num sum kind : Nat) (body : List Nat) : ((((([] ++ [82]) ++ four num) ++ four sum) ++ four body.length) ++ [kind]) ++ body = body0 num sum kind body := by
  simp [body0]

set_option maxRecDepth 4000 in
set_option maxHeartbeats 4000000 in
theorem pbytes_any (num sum kind : Nat) (hnum : num < 4294967296) (hsum : sum < 4294967296) (hk : kind < 256) (a : Option Addr) (c : Nat) (hc : a = none → c = 0) (body : List Nat) (hl : body.length ≤ 2097152) (w : World) (h : Byts w a body) :
    Calls Tryz.prog 33 #[.agg #[.int .u32 (sum : Int), .int .u8 (kind : Int), .slice a body.length c], .int .i64 (num : Int)] w fun e w' => ∃ v, e = .returned v ∧ w'.ownsRow w.heap.size 5 1 v (body.length + 18) (bysV (piece num sum kind body)) ∧ Below w.heap.size w w' := by
  obtain ⟨i0, hi, hz0, hz1, hz2⟩ := info_parts infoB
  have hnum0 : (0 : Int) ≤ (num : Int) := by omega
  have hnum1 : (num : Int) < 4294967296 := by omega
  have hl0 : (0 : Int) ≤ (body.length : Int) := by omega
  have hl1 : (body.length : Int) < 4294967296 := by omega
  obtain ⟨W0, hW0⟩ : ∃ W0, w.alloc (.cells #[.int .u32 (sum : Int), .int .u8 (kind : Int), .slice a body.length c] 82) = W0 := ⟨_, rfl⟩
  have e0 : W0.heap.size = w.heap.size + 1 := by rw [← hW0]; simp
  have b0 : Below w.heap.size w W0 := by rw [← hW0]; exact (Below.refl _ _).alloc (Nat.le_refl _) _
  have r0 : W0.heap[w.heap.size]? = some (.cells #[.int .u32 (sum : Int), .int .u8 (kind : Int), .slice a body.length c] 82 (0, 0)) := by rw [← hW0]; exact heap_new w _
  have box : ∀ X, Below (w.heap.size + 1) W0 X → X.cell? ⟨w.heap.size, 0, none⟩ = some (.int .u32 (sum : Int)) ∧ X.cell? ⟨w.heap.size, 1, none⟩ = some (.int .u8 (kind : Int)) ∧ X.cell? ⟨w.heap.size, 2, none⟩ = some (.slice a body.length c) := fun X hX => by
    have r := (hX.block w.heap.size (Nat.lt_succ_self _)).trans r0
    exact ⟨cell_of_row _ _ 0 _ _ _ r, cell_of_row _ _ 1 _ _ _ r, cell_of_row _ _ 2 _ _ _ r⟩
  obtain ⟨k0, k1, k2⟩ := box W0 (Below.refl _ _)
  have hN0 := h.later b0
  have hsz := psize_any (sum : Int) (kind : Int) a body.length c (by omega) W0
  go_enter Tryz.func33, Tryz.ntmps33
  go_wp2_with (first
    | (go_at_call 57; refine hsz.mono ?_; rintro e w1 ⟨rfl, hb1⟩; rw [e0] at hb1)
    | (at_make; refine wpList_make_own _ rfl _ _ 23 rfl (w.heap.size + 1) 5 i0 (.int .u8 0) 1 Tryz.underlying23 hi hz0 hz1 .i64 .i64 _ (18 + body.length) rfl rfl rfl (by rw [hz2]; omega) (by unfold maxLen; omega) (Nat.le_trans (Nat.le_of_eq e0.symm) hb1.size) ?_; intro w2 ho2 hg2)
    | (at_builtin; refine stopJ ?_))
  have B2 : Below (w.heap.size + 1) W0 w2 := hb1.grown hg2 (Nat.le_trans (Nat.le_of_eq e0.symm) hb1.size) (fun k hk => by cases hk)
  have z2 : w.heap.size + 1 ≤ w2.heap.size := Nat.le_trans (Nat.le_of_eq e0.symm) B2.size
  unfold StopJ
  refine wpList_layN _ rfl _ _ rfl (w.heap.size + 1) (by simp; omega) _ [] rfl (own_new ho2 _) (some ⟨w2.heap.size, 0, none⟩) 1 [82] rfl (by simp) (byts1 w2 82 (by decide)) (by simp) ?_
  intro v3 w3 ho3 hg3 _
  have A2 : Below (w.heap.size + 1) W0 (w2.alloc (.cells #[.int .u8 ((82 : Nat) : Int)] 5)) := B2.alloc z2 _
  have B3 := below_own A2 hg3 (own_new ho2 (.cells #[.int .u8 ((82 : Nat) : Int)] 5)) (by simp; omega)
  have z3 : w.heap.size + 1 ≤ w3.heap.size := Nat.le_trans (Nat.le_of_eq e0.symm) B3.size
  replace ho3 := own_app ho3 rfl
  clear ho2 hg2 hg3 A2 B2 hb1 hsz
  obtain ⟨p0, p1, p2⟩ := box w3 B3
  go_wp2_with (go_at_call 58; fail)
  refine (appendWord_any num hnum v3 _ (w.heap.size + 1) w3 z3 ho3 (by simp)).mono ?_
  rintro e w4 ⟨v4, rfl, ho4, hb4⟩
  have B4 := B3.trans hb4
  have z4 := Nat.le_trans z3 hb4.size
  replace ho4 := own_app ho4 rfl
  clear ho3 hb4 p0 p1 p2
  obtain ⟨p0, p1, p2⟩ := box w4 B4
  go_wp2_with (go_at_call 58; fail)
  refine (appendWord_any sum hsum v4 _ (w.heap.size + 1) w4 z4 ho4 (by simp [four_len])).mono ?_
  rintro e w5 ⟨v5, rfl, ho5, hb5⟩
  have B5 := B4.trans hb5
  have z5 := Nat.le_trans z4 hb5.size
  replace ho5 := own_app ho5 rfl
  clear ho4 hb5 p0 p1 p2
  obtain ⟨p0, p1, p2⟩ := box w5 B5
  go_wp2_with (go_at_call 58; fail)
  refine (appendWord_any body.length (by omega) v5 _ (w.heap.size + 1) w5 z5 ho5 (by simp [four_len])).mono ?_
  rintro e w6 ⟨v6, rfl, ho6, hb6⟩
  have B6 := B5.trans hb6
  have z6 := Nat.le_trans z5 hb6.size
  replace ho6 := own_app ho6 rfl
  clear ho5 hb6 p0 p1 p2
  obtain ⟨p0, p1, p2⟩ := box w6 B6
  go_wp2_with (at_builtin; refine stopJ ?_)
  unfold StopJ
  refine wpList_layN _ rfl _ _ rfl (w.heap.size + 1) (by simp; omega) _ _ rfl (own_new ho6 _) (some ⟨w6.heap.size, 0, none⟩) 1 [kind] rfl (by simp) (byts1 w6 kind hk) (by simp [four_len]) ?_
  intro v7 w7 ho7 hg7 _
  have A6 : Below (w.heap.size + 1) W0 (w6.alloc (.cells #[.int .u8 (kind : Int)] 5)) := B6.alloc z6 _
  have B7 := below_own A6 hg7 (own_new ho6 (.cells #[.int .u8 (kind : Int)] 5)) (by simp; omega)
  have z7 : w.heap.size + 1 ≤ w7.heap.size := Nat.le_trans (Nat.le_of_eq e0.symm) B7.size
  replace ho7 := own_app ho7 rfl
  clear ho6 hg7 A6 p0 p1 p2
  obtain ⟨p0, p1, p2⟩ := box w7 B7
  have hN7 : Byts w7 a body := hN0.later (by rw [e0]; exact B7)
  go_wp2_with (at_builtin; refine stopJ ?_)
  unfold StopJ
  refine wpList_layN _ rfl _ _ rfl (w.heap.size + 1) z7 _ _ rfl ho7 a c body rfl hc hN7 (by simp [four_len]; omega) ?_
  intro v8 w8 ho8 hg8 _
  have B8 := below_own B7 hg8 ho7 z7
  have z8 : w.heap.size + 1 ≤ w8.heap.size := Nat.le_trans (Nat.le_of_eq e0.symm) B8.size
  replace ho8 := own_app ho8 rfl
  rw [piece_is] at ho8
  have hby : ∀ x ∈ body0 num sum kind body, x < 256 := fun x hx => piece_bytes (num := num) (sum := sum) hk h.1 x (by unfold piece; exact List.mem_append_left _ hx)
  have hlen : (body0 num sum kind body).length = body.length + 14 := body0_len _ _ _ _
  have hP : Hid (∀ v, ∀ X : World, X.ownsRow (w.heap.size + 1) 5 1 v ((body0 num sum kind body).length + 4) (bysV (body0 num sum kind body ++ four (fnv (body0 num sum kind body)))) → X.ownsRow w.heap.size 5 1 v (body.length + 18) (bysV (piece num sum kind body))) := ⟨fun v X hX => by
    rw [hlen] at hX
    exact hX.mono (Nat.le_succ _)⟩
  obtain ⟨Q, hQ⟩ : ∃ Q, body0 num sum kind body = Q := ⟨_, rfl⟩
  rw [hQ] at ho8 hby hlen hP
  clear hQ
  clear ho7 hg8 p0 p1 p2
  obtain ⟨p8, c8, rfl⟩ := own_lenB ho8
  have hsm := sum_any p8 c8 Q (by omega) w8 (byts_of_own hby ho8)
  have hQ9 : Q.length ≤ 100000000 := by omega
  clear hlen
  go_wp2_with (go_at_call 59; refine hsm.mono ?_; rintro e w9 ⟨rfl, hw9⟩; subst w9)
  refine (appendWord_any (fnv Q) (fnv_lt _) _ _ (w.heap.size + 1) w8 z8 ho8 hQ9).mono ?_
  rintro e w10 ⟨v10, rfl, ho10, hb10⟩
  go_wp2
  go_ret
  exact ⟨v10, rfl, hP.out _ _ ho10, b0.trans ((B8.trans hb10).mono (Nat.le_succ _))⟩
end Go.Proofs.YtakcdgeanbpllaaGreatDoor.DJ

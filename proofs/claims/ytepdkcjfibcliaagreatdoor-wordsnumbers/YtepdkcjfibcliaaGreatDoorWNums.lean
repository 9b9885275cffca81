import Derived.Test.YtepdkcjfibcliaaGreatDoorWNumM2
import Derived.Test.YtepdkcjfibcliaaGreatDoorWKnown
import Derived.Test.YtepdkcjfibcliaaGreatDoorWLaid6
import Derived.Test.YtepdkcjfibcliaaGreatDoorXPer
import Derived.BigQuiet
import Derived.Deep.QuietTactic
namespace Go.Proofs.YtepdkcjfibcliaaGreatDoor.Q
open Go.RowKit Go.Shelf
open Go.Lib (decDigits)

theorem vl_zeros (m : Nat) (y : List UInt8) : val (List.replicate m 48 ++ y) = val y := by
  rw [vl_app]
  have : val (List.replicate m (48 : UInt8)) = 0 := by
    induction m with
    | zero => rfl
    | succ m ih =>
      rw [List.replicate_succ]
      have := vl_app [(48 : UInt8)] (List.replicate m 48)
      rw [ih, show val [(48 : UInt8)] = 0 from rfl, Nat.zero_mul] at this
      exact this
  rw [this]
  omega
theorem pad_two {u : Nat} (h : u < 100) : (X.pad u 2).length = 2 ∧ val (X.pad u 2) = u ∧ dgs (X.pad u 2) := by
  refine ⟨?_, ?_, ?_⟩
  · rw [X.pad_length]
    have := X.nDigits_le2 h
    omega
  · unfold X.pad
    rw [vl_zeros]
    exact (dd_all u).1
  · intro c hc
    unfold X.pad at hc
    rcases List.mem_append.1 hc with hc | hc
    · obtain rfl := List.eq_of_mem_replicate hc
      decide
    · exact (dd_all u).2.1 c hc
theorem tl_dv (D : Nat) : ∀ (f r : Nat) (l : List UInt8), X.tl D f r = some l → Dv D r l ∧ l.length ≤ f
  | 0, r, l, h => by
    unfold X.tl at h
    split at h
    · rename_i h0
      cases h
      exact ⟨h0, Nat.le_refl _⟩
    · cases h
  | f + 1, r, l, h => by
    unfold X.tl at h
    split at h
    · rename_i h0
      cases h
      exact ⟨h0, Nat.zero_le _⟩
    · rename_i h0
      obtain ⟨l', hl, rfl⟩ := Option.map_eq_some_iff.1 h
      obtain ⟨i1, i2⟩ := tl_dv D f _ l' hl
      exact ⟨⟨h0, rfl, i1⟩, by rw [List.length_cons]; omega⟩
theorem dd_len {u : Nat} (h : u < 18446744073709551616) : (decDigits u).length ≤ 20 := by
  rw [Go.Lib.decDigits_length]
  exact Go.Lib.nDigits_le20 u h
theorem amt_found {c : Nat} (hc : c ≤ 9999999999999) : ∃ k, foundL (X.amtL (c : Int)) = [((2, [], c, 0), 0, 0), ((8, [], 0, 0), k, 0)] := by
  obtain ⟨p1, p2, p3⟩ := pad_two (u := c % 100) (Nat.mod_lt _ (by decide))
  obtain ⟨j1, j2, j3, -, -⟩ := dd_all (c / 100)
  have hne : X.pad (c % 100) 2 ≠ [] := by intro e; rw [e] at p1; simp at p1
  have e : X.amtL (c : Int) = ntx (decDigits (c / 100)) (X.pad (c % 100) 2) false := by
    unfold X.amtL ntx
    rw [if_neg (by omega), if_neg hne, if_neg (by simp)]
    simp
  have hl := dd_len (u := c / 100) (by omega)
  rw [e]
  refine ⟨_, ntx_found j2 j3 p3 (.inl hne) ?_ (amt_tok hc p1 p2)⟩
  unfold ntx
  rw [if_neg hne, if_neg (by simp), List.length_append, List.length_append, List.length_cons, p1]
  simp
  omega
theorem pct_found {n d : Int} {s : List UInt8} (h : X.pct n d = some s) : ∃ (n' d' a b k : Nat), n = (n' : Int) ∧ d = (d' : Int) ∧ n' ≤ 1000000000 ∧ 0 < d' ∧ d' ≤ 1000000000 ∧ n' * b = a * d' ∧ 1 ≤ b ∧ b ≤ 1000000000 ∧ a ≤ 1000000000 ∧ foundL s = [((4, [], a, b), 0, 0), ((8, [], 0, 0), k, 0)] := by
  unfold X.pct at h
  split at h
  · cases h
  · rename_i hr
    obtain ⟨n', rfl⟩ : ∃ n' : Nat, n = (n' : Int) := ⟨n.toNat, by omega⟩
    obtain ⟨d', rfl⟩ : ∃ d' : Nat, d = (d' : Int) := ⟨d.toNat, by omega⟩
    have hn : n' ≤ 1000000000 := by omega
    have hd0 : 0 < d' := by omega
    have hd : d' ≤ 1000000000 := by omega
    simp only [Int.toNat_natCast] at h
    unfold X.pctL at h
    obtain ⟨l, hl, rfl⟩ := Option.map_eq_some_iff.1 h
    obtain ⟨t1, t2⟩ := tl_dv d' 6 _ l hl
    obtain ⟨a, b, k1, k2, k3, k4, k5⟩ := pct_tok hn hd0 hd t2 t1
    obtain ⟨j1, j2, j3, -, -⟩ := dd_all (100 * n' / d')
    have hq : 100 * n' / d' < 18446744073709551616 := Nat.lt_of_le_of_lt (Nat.div_le_self _ _) (by omega)
    have hll := dd_len hq
    have e : decDigits (100 * n' / d') ++ (if l = [] then [] else 46 :: l) ++ [37] = ntx (decDigits (100 * n' / d')) l true := by
      unfold ntx
      rw [if_pos rfl, List.append_assoc]
    refine ⟨n', d', a, b, (ntx (decDigits (100 * n' / d')) l true).length, rfl, rfl, hn, hd0, hd, k2, k3, k4, k5, ?_⟩
    rw [e]
    refine ntx_found j2 j3 (dv_all d' hd0 l _ (Nat.mod_lt _ hd0) t1).1 (.inr rfl) ?_ k1
    unfold ntx
    rw [if_pos rfl, List.length_append, List.length_append]
    have : (if l = [] then [] else (46 : UInt8) :: l).length ≤ 7 := by split <;> simp; omega
    simp only [List.length_singleton]
    omega

/-- Scan of a text that is one word. -/
theorem scan_one (s : List UInt8) (t : Wd) (k : Nat) (h : foundL s = [(t, 0, 0), ((8, [], 0, 0), k, 0)]) (w : World) (hC : Cls w) (hE : ErrR w) (hM : Mon w) (hS : Sgn w) : Calls Tryz.prog 5 #[.string ⟨s.toArray⟩] w fun e w' => Below w.heap.size w w' ∧ ∃ g cap, e = .returned (.tuple #[.slice (some ⟨g, 0, none⟩) 2 cap, .int .i64 0, .int .i64 0]) ∧ w'.cell? ⟨g, 0, none⟩ = some (.int .i64 (t.1 : Int)) ∧ w'.cell? ⟨g, 1, none⟩ = some (.int .i64 0) ∧ w'.cell? ⟨g, 2, none⟩ = some (.string ⟨t.2.1.toArray⟩) ∧ w'.cell? ⟨g, 3, none⟩ = some (.int .i64 (t.2.2.1 : Int)) ∧ w'.cell? ⟨g, 4, none⟩ = some (.int .i64 (t.2.2.2 : Int)) := by
  have hs : foundL (ByteArray.mk s.toArray).data.toList = [(t, 0, 0), ((8, [], 0, 0), k, 0)] := by simpa using h
  refine (scan_any _ w hC hE hM hS).mono ?_
  rintro e w' ⟨hb, ⟨pre, x, hL, hx, -⟩ | ⟨-, v, rfl, ho⟩⟩
  · rw [hs] at hL
    have : x ∈ [(t, 0, 0), (((8, [], 0, 0), k, 0) : Itm)] := by rw [hL]; simp
    simp only [List.mem_cons, List.not_mem_nil, or_false] at this
    rcases this with rfl | rfl <;> exact absurd rfl hx
  · rw [hs] at ho
    obtain ⟨g, cap, rfl⟩ := own_lit ho (by simp)
    have hc := fun j hj => ho.cellAt j hj
    exact ⟨hb, g, cap, rfl, hc 0 (by simp), hc 1 (by simp), hc 2 (by simp), hc 3 (by simp), hc 4 (by simp)⟩

theorem neTok (a b n d : Int) (t : ByteArray) (w : World) : (binOp .neq 30 (.agg #[.int .i64 a, .int .i64 b, .string t, .int .i64 n, .int .i64 d]) (.agg #[.int .i64 a, .int .i64 b, .string t, .int .i64 n, .int .i64 d])).run Tryz.prog w = .ok (.bool false) w := by
  rw [run_neq_struct, eqTok]
  rfl

/-- Behind the amount: the ratio. -/
structure Rest (n d : Int) (w : World) : Prop where
  known : Calls Tryz.prog 4 #[] w fun e w' => e = .returned (.bool true) ∧ Below w.heap.size w w'
  pct : ∀ W, Below w.heap.size w W → Calls Tryz.prog 8 #[.int .i64 n, .int .i64 d] W fun e w' => e = .returned (X.pctV (X.pct n d)) ∧ Below W.heap.size W w'
  one : ∀ (s : List UInt8) (t : Wd) (k : Nat), foundL s = [(t, 0, 0), ((8, [], 0, 0), k, 0)] → ∀ W, Below w.heap.size w W → Calls Tryz.prog 5 #[.string ⟨s.toArray⟩] W fun e w' => Below W.heap.size W w' ∧ ∃ g cap, e = .returned (.tuple #[.slice (some ⟨g, 0, none⟩) 2 cap, .int .i64 0, .int .i64 0]) ∧ w'.cell? ⟨g, 0, none⟩ = some (.int .i64 (t.1 : Int)) ∧ w'.cell? ⟨g, 1, none⟩ = some (.int .i64 0) ∧ w'.cell? ⟨g, 2, none⟩ = some (.string ⟨t.2.1.toArray⟩) ∧ w'.cell? ⟨g, 3, none⟩ = some (.int .i64 (t.2.2.1 : Int)) ∧ w'.cell? ⟨g, 4, none⟩ = some (.int .i64 (t.2.2.2 : Int))

set_option maxRecDepth 8000 in
set_option maxHeartbeats 4000000 in
theorem nums_walkQ (c n d : Int) (hc : -9223372036854775808 ≤ c ∧ c ≤ 9223372036854775807) (hn : -9223372036854775808 ≤ n ∧ n ≤ 9223372036854775807) (hd : -9223372036854775808 ≤ d ∧ d ≤ 9223372036854775807) (w : World) (hT : Tabs w) :
    Calls Tryz.prog 3 #[.int .i64 c, .int .i64 n, .int .i64 d] w fun e w' => e = .returned (.bool true) ∧ Below w.heap.size w w' := by
  obtain ⟨hC, hE, hM, hS, hX⟩ := hT
  have hR : Rest n d w := ⟨known_any w hC hE hM hS, fun W hb => X.percent_any n d hn hd W (hX.later hb), fun s t k h W hb => scan_one s t k h W (hC.later hb) (hE.later hb) (hM.later hb) (hS.later hb)⟩
  have hamt := fun W (hb : Below w.heap.size w W) => X.amount_any c hc.1 hc.2 W (hX.later hb)
  clear hC hE hM hS hX
  by_cases hcr : 0 ≤ c ∧ c ≤ 9999999999999
  · obtain ⟨m, rfl⟩ : ∃ m : Nat, c = (m : Int) := ⟨c.toNat, by omega⟩
    have hm1 : (m : Int) ≤ 9999999999999 := hcr.2
    have hm0 : (0 : Int) ≤ (m : Int) := by omega
    obtain ⟨ka, hka⟩ := amt_found (c := m) (by omega)
    have hsa := hR.one _ _ _ hka
    have hne := neTok 2 0 (m : Int) 0 ⟨#[]⟩
    obtain ⟨A, hA⟩ : ∃ A, (⟨(X.amtL (m : Int)).toArray⟩ : ByteArray) = A := ⟨_, rfl⟩
    rw [hA] at hamt hsa
    clear hA hka hcr
    have hk := hR.known
    have tok1 : True := trivial
    cases hp : X.pct n d with
    | none =>
      have hpc := hR.pct
      rw [hp] at hpc
      have hpc' : ∀ W, Below w.heap.size w W → Calls Tryz.prog 8 #[.int .i64 n, .int .i64 d] W fun e w' => e = .returned (.tuple #[.string ⟨#[]⟩, .bool false]) ∧ Below W.heap.size W w' := hpc
      clear hpc hR hp
      go_enter Tryz.func3, Tryz.ntmps3
      go_wp2_with (first | (go_at_call 4; refine hk.mono ?_; rintro e w1 ⟨rfl, hb1⟩; have ha := hamt w1 hb1) | (go_at_call 6; refine ha.mono ?_; rintro e w2 ⟨rfl, hb2⟩; have hB2 := below_step hb1 hb2; have hs := hsa w2 hB2) | (go_at_call 5; refine hs.mono ?_; rintro e w3 ⟨hb3, g3, c3, rfl, t0, t1, t2, t3, t4⟩; have hB3 := below_step hB2 hb3; have hpp := hpc' w3 hB3) | (go_at_call 7; refine (num_any _ _).mono ?_; rintro e w9 ⟨rfl, hw9⟩; subst w9) | (go_at_call 8; refine hpp.mono ?_; rintro e w4 ⟨rfl, hb4⟩; have hB4 := below_step hB3 hb4))
      go_ret
      exact ⟨rfl, hB4⟩
    | some sp =>
      obtain ⟨n', d', a, b, kp, rfl, rfl, q1, q2, q3, q4, q5, q6, q7, hkp⟩ := pct_found hp
      have hpc := hR.pct
      rw [hp] at hpc
      have hsp := hR.one _ _ _ hkp
      obtain ⟨B, hB⟩ : ∃ B, (⟨sp.toArray⟩ : ByteArray) = B := ⟨_, rfl⟩
      have hpc' : ∀ W, Below w.heap.size w W → Calls Tryz.prog 8 #[.int .i64 (n' : Int), .int .i64 (d' : Int)] W fun e w' => e = .returned (.tuple #[.string B, .bool true]) ∧ Below W.heap.size W w' := by rw [← hB]; exact hpc
      rw [hB] at hsp
      clear hpc hR hp hkp hB
      have e0 : (0 : Int) ≤ (n' : Int) := by omega
      have e1 : (0 : Int) < (d' : Int) := by omega
      have e2 : (n' : Int) ≤ 1000000000 := by omega
      have e3 : (d' : Int) ≤ 1000000000 := by omega
      have e4 : ¬ (b : Int) < 1 := by omega
      have e5 : decide ((b : Int) < 1) = false := decide_eq_false e4
      have q4' : (n' : Int) * (b : Int) = (a : Int) * (d' : Int) := by
        have := congrArg (fun z : Nat => (z : Int)) q4
        simpa using this
      have hq : Hid ((n' : Int) * (b : Int) = (a : Int) * (d' : Int)) := q4'
      clear q4 q4'
      go_enter Tryz.func3, Tryz.ntmps3
      go_wp2_with (first | (go_at_call 4; refine hk.mono ?_; rintro e w1 ⟨rfl, hb1⟩; have ha := hamt w1 hb1) | (go_at_call 6; refine ha.mono ?_; rintro e w2 ⟨rfl, hb2⟩; have hB2 := below_step hb1 hb2; have hs := hsa w2 hB2) | (go_at_call 5; have _u := tok1; clear tok1; refine hs.mono ?_; rintro e w3 ⟨hb3, g3, c3, rfl, t0, t1, t2, t3, t4⟩; have hB3 := below_step hB2 hb3; have hpp := hpc' w3 hB3) | (go_at_call 7; refine (num_any _ _).mono ?_; rintro e w9 ⟨rfl, hw9⟩; subst w9) | (go_at_call 8; refine hpp.mono ?_; rintro e w4 ⟨rfl, hb4⟩; have hB4 := below_step hB3 hb4; have hs2 := hsp w4 hB4; clear t0 t1 t2 t3 t4) | (go_at_call 5; refine hs2.mono ?_; rintro e w5 ⟨hb5, g5, c5, rfl, t0, t1, t2, t3, t4⟩; have hB5 := below_step hB4 hb5))
      go_quiet (fail)
      have hB6 := below_drewN hB5 nq
      go_wp2_with fail
      go_ret
      exact ⟨by rw [hq.out]; simp, hB6⟩
  · clear hamt
    have hk := hR.known
    have hcr' : (¬ (0 : Int) ≤ c) ∨ ((0 : Int) ≤ c ∧ ¬ c ≤ 9999999999999) := by omega
    clear hcr
    cases hp : X.pct n d with
    | none =>
      have hpc := hR.pct
      rw [hp] at hpc
      have hpc' : ∀ W, Below w.heap.size w W → Calls Tryz.prog 8 #[.int .i64 n, .int .i64 d] W fun e w' => e = .returned (.tuple #[.string ⟨#[]⟩, .bool false]) ∧ Below W.heap.size W w' := hpc
      clear hpc hR hp
      rcases hcr' with hcr | ⟨hcr, hcr2⟩
      all_goals
        go_enter Tryz.func3, Tryz.ntmps3
        go_wp2_with (first | (go_at_call 4; refine hk.mono ?_; rintro e w1 ⟨rfl, hb1⟩; have hpp := hpc' w1 hb1) | (go_at_call 8; refine hpp.mono ?_; rintro e w4 ⟨rfl, hb4⟩; have hB4 := below_step hb1 hb4))
        go_ret
        exact ⟨rfl, hB4⟩
    | some sp =>
      obtain ⟨n', d', a, b, kp, rfl, rfl, q1, q2, q3, q4, q5, q6, q7, hkp⟩ := pct_found hp
      have hpc := hR.pct
      rw [hp] at hpc
      have hsp := hR.one _ _ _ hkp
      obtain ⟨B, hB⟩ : ∃ B, (⟨sp.toArray⟩ : ByteArray) = B := ⟨_, rfl⟩
      have hpc' : ∀ W, Below w.heap.size w W → Calls Tryz.prog 8 #[.int .i64 (n' : Int), .int .i64 (d' : Int)] W fun e w' => e = .returned (.tuple #[.string B, .bool true]) ∧ Below W.heap.size W w' := by rw [← hB]; exact hpc
      rw [hB] at hsp
      clear hpc hR hp hkp hB
      have e0 : (0 : Int) ≤ (n' : Int) := by omega
      have e1 : (0 : Int) < (d' : Int) := by omega
      have e2 : (n' : Int) ≤ 1000000000 := by omega
      have e3 : (d' : Int) ≤ 1000000000 := by omega
      have e4 : ¬ (b : Int) < 1 := by omega
      have e5 : decide ((b : Int) < 1) = false := decide_eq_false e4
      have q4' : (n' : Int) * (b : Int) = (a : Int) * (d' : Int) := by
        have := congrArg (fun z : Nat => (z : Int)) q4
        simpa using this
      have hq : Hid ((n' : Int) * (b : Int) = (a : Int) * (d' : Int)) := q4'
      clear q4 q4'
      rcases hcr' with hcr | ⟨hcr, hcr2⟩
      all_goals
        go_enter Tryz.func3, Tryz.ntmps3
        go_wp2_with (first | (go_at_call 4; refine hk.mono ?_; rintro e w1 ⟨rfl, hb1⟩; have hpp := hpc' w1 hb1) | (go_at_call 7; refine (num_any _ _).mono ?_; rintro e w9 ⟨rfl, hw9⟩; subst w9) | (go_at_call 8; refine hpp.mono ?_; rintro e w4 ⟨rfl, hb4⟩; have hB4 := below_step hb1 hb4; have hs2 := hsp w4 hB4) | (go_at_call 5; refine hs2.mono ?_; rintro e w5 ⟨hb5, g5, c5, rfl, t0, t1, t2, t3, t4⟩; have hB5 := below_step hB4 hb5))
        go_quiet (fail)
        have hB6 := below_drewN hB5 nq
        go_wp2_with fail
        go_ret
        exact ⟨by rw [hq.out]; simp, hB6⟩

end Go.Proofs.YtepdkcjfibcliaaGreatDoor.Q
namespace Go.Proofs.YtepdkcjfibcliaaGreatDoor
open Go.RowKit
theorem wnums_walk (c n d : Int) (w : World) (hc : -9223372036854775808 ≤ c ∧ c ≤ 9223372036854775807) (hn : -9223372036854775808 ≤ n ∧ n ≤ 9223372036854775807) (hd : -9223372036854775808 ≤ d ∧ d ≤ 9223372036854775807) (hT : Tabs w) : Calls Tryz.prog 3 #[.int .i64 c, .int .i64 n, .int .i64 d] w fun e w' => e = .returned (.bool true) ∧ Below w.heap.size w w' := Q.nums_walkQ c n d hc hn hd w hT
end Go.Proofs.YtepdkcjfibcliaaGreatDoor

import Derived.Test.YtekapipfaahhcaaGreatDoorWR5
namespace Go.Proofs.YtekapipfaahhcaaGreatDoor.Q
open Go.RowKit

theorem val_app (x : List UInt8) : ∀ (y : List UInt8), val (x ++ y) = val x * 10 ^ y.length + val y
  | y => by
    have key : ∀ (n : Nat) (y : List UInt8), y.length = n → val (x ++ y) = val x * 10 ^ y.length + val y := by
      intro n
      induction n with
      | zero => intro y hy; rw [List.eq_nil_of_length_eq_zero hy]; simp [val]
      | succ n ih =>
        intro y hy
        obtain ⟨z, c, rfl⟩ : ∃ z c, y = z ++ [c] := ⟨y.dropLast, y.getLast (by intro h; rw [h] at hy; simp at hy), (List.dropLast_concat_getLast _).symm⟩
        rw [List.length_append] at hy ⊢
        have := ih z (by simp at hy; omega)
        rw [← List.append_assoc, val_snoc, val_snoc, this, List.length_cons, List.length_nil, Nat.zero_add, Nat.pow_add, Nat.pow_one, ← Nat.mul_assoc, Nat.mul_add, Nat.mul_comm 10 (val x * 10 ^ z.length)]
        omega
    exact key _ y rfl
theorem pct_big {V den k n : Nat} (hden : den = 100 * 10 ^ k) (hn : 100000000000 < n) (hV : n * 10 ^ k ≤ V) : ¬ V / V.gcd den ≤ 1000000000 := by
  intro h
  have h1 : V / V.gcd den * V.gcd den = V := Nat.div_mul_cancel (Nat.gcd_dvd_left _ _)
  have hp : 0 < 10 ^ k := Nat.pow_pos (by omega)
  have h2 : V.gcd den ≤ den := Nat.le_of_dvd (by omega) (Nat.gcd_dvd_right _ _)
  have h3 : V ≤ 1000000000 * den := by
    calc V = V / V.gcd den * V.gcd den := h1.symm
      _ ≤ 1000000000 * den := Nat.mul_le_mul h h2
  have h4 : 100000000001 * 10 ^ k ≤ n * 10 ^ k := Nat.mul_le_mul_right _ hn
  rw [hden] at h3
  generalize 10 ^ k = P at *
  omega
theorem idx_last (s : ByteArray) (h : 0 < s.data.toList.length) (W : World) : (Instr.index 9 (.string s) (.int .i64 ((s.size : Int) - 1))).run Tryz.prog W = .ok (.int .u8 (((s.data.toList.getLast?.getD 0).toNat : Nat) : Int)) W := by
  have hls := size_list s
  have := idx_at s (s.size - 1) (by omega) W
  rw [show ((s.size - 1 : Nat) : Int) = (s.size : Int) - 1 from by omega] at this
  rw [this, List.getLast?_eq_getElem?, List.getElem?_eq_getElem (by omega)]
  simp [hls]

theorem val_lt {x : List UInt8} (hd : digs x) : val x < 10 ^ x.length := by
  have key : ∀ (n : Nat) (y : List UInt8), y.length = n → digs y → val y < 10 ^ y.length := by
    intro n
    induction n with
    | zero => intro y hy _; rw [List.eq_nil_of_length_eq_zero hy]; simp [val]
    | succ n ih =>
      intro y hy hd
      obtain ⟨z, c, rfl⟩ : ∃ z c, y = z ++ [c] := ⟨y.dropLast, y.getLast (by intro h; rw [h] at hy; simp at hy), (List.dropLast_concat_getLast _).symm⟩
      rw [List.length_append] at hy ⊢
      have h1 := ih z (by simp at hy; omega) (fun d hm => hd d (List.mem_append.2 (.inl hm)))
      have h2 := hd c (List.mem_append.2 (.inr (by simp)))
      rw [val_snoc, List.length_cons, List.length_nil, Nat.zero_add, Nat.pow_add, Nat.pow_one]
      omega
  exact key _ x rfl hd
theorem val_bound {la lb : List UInt8} {N i : Nat} (hN : N = val la) (hb : N ≤ 100000000000) (hd : digs lb) (h6 : lb.length ≤ 6) : val (la ++ lb.take i) ≤ 200000000000000000 := by
  rw [val_app, ← hN]
  have h1 := val_lt (x := lb.take i) (fun d hm => hd d (List.mem_of_mem_take hm))
  have h2 : 10 ^ (lb.take i).length ≤ 10 ^ 6 := Nat.pow_le_pow_right (by omega) (by rw [List.length_take]; omega)
  have h3 : N * 10 ^ (lb.take i).length ≤ 100000000000 * 10 ^ 6 := Nat.mul_le_mul hb h2
  have h4 : (10 : Nat) ^ 6 = 1000000 := by decide
  omega

set_option maxRecDepth 8000 in
set_option maxHeartbeats 4000000 in
theorem numbered_pct (ahead behind : ByteArray) (la lb : List UInt8) (hB : behind.data.toList = lb) (N : Nat) (hNv : N = val la) (hNb : N ≤ 100000000000) (h6 : lb.length ≤ 6) (hlb : lb.length = behind.size) (hdb : digs lb)
    (hwh : ∀ W, Calls Tryz.prog 143 #[.string ahead] W fun e w' => e = .returned (.int .i64 (N : Int)) ∧ w' = W) (c : UInt8) (hix0 : ∀ W, (Instr.index 9 (.string ahead) (.int .i64 0)).run Tryz.prog W = .ok (.int .u8 ((c.toNat : Nat) : Int)) W)
    (hcs : ¬ (1 : Int) < (ahead.size : Int) ∨ ((1 : Int) < (ahead.size : Int) ∧ (((c.toNat : Nat) : Int) == 48) = false)) (pt : Bool)
    (hl3 : pt = true → ∃ z : Nat, (((z : Nat) : Int) == 48) = false ∧ ∀ W, (Instr.index 9 (.string behind) (.int .i64 ((behind.size : Int) - 1))).run Tryz.prog W = .ok (.int .u8 ((z : Nat) : Int)) W) (o : Option Wd)
    (ho : (if val (la ++ lb) / (val (la ++ lb)).gcd (100 * 10 ^ lb.length) ≤ 1000000000 ∧ 100 * 10 ^ lb.length / (val (la ++ lb)).gcd (100 * 10 ^ lb.length) ≤ 1000000000 then some (4, [], val (la ++ lb) / (val (la ++ lb)).gcd (100 * 10 ^ lb.length), 100 * 10 ^ lb.length / (val (la ++ lb)).gcd (100 * 10 ^ lb.length)) else none) = o) (w : World) :
    Calls Tryz.prog 133 #[.string ahead, .bool pt, .string behind, .bool true] w (NumP w o) := by
  have hb' : ¬ (100000000000 : Int) < (N : Int) := by omega
  have h6' : ¬ (6 : Int) < (behind.size : Int) := by omega
  have hixb : ∀ i, (h : i < lb.length) → ∀ W, (Instr.index 9 (.string behind) (.int .i64 (i : Int))).run Tryz.prog W = .ok (.int .u8 ((lb[i].toNat : Nat) : Int)) W := fun i h W => by
    have := idx_at behind i (by rw [hB]; exact h) W
    simpa only [hB] using this
  have ho' : Hid _ := ho
  have hNv' : Hid (N = val la) := hNv
  clear ho hNv
  have key : ∀ (z : Nat), ((pt = true ∧ (((z : Nat) : Int) == 48) = false ∧ ∀ W, (Instr.index 9 (.string behind) (.int .i64 ((behind.size : Int) - 1))).run Tryz.prog W = .ok (.int .u8 ((z : Nat) : Int)) W) ∨ pt = false) → Calls Tryz.prog 133 #[.string ahead, .bool pt, .string behind, .bool true] w (NumP w o) := by
    intro z hpt
    clear hl3
    rcases hcs with e1 | ⟨e1, e2⟩ <;> rcases hpt with ⟨rfl, hz, hl4⟩ | rfl
    all_goals
      go_enter Tryz.func133, Tryz.ntmps133
      go_wp2_with (first | (go_at_call 143; refine (hwh _).mono ?_; rintro e w9 ⟨rfl, hw9⟩; subst w9))
      go_loopw [10, 11, 12] (fun nv dv iv wr => ∃ i n d : Nat, i ≤ lb.length ∧ nv = .int .i64 (n : Int) ∧ dv = .int .i64 (d : Int) ∧ iv = .int .i64 (i : Int) ∧ Hid (n = val (la ++ lb.take i)) ∧ Hid (d = 100 * 10 ^ i) ∧ wr = (w.alloc (.cells #[.int .i64 0, .int .i64 0, .string ⟨#[]⟩, .int .i64 0, .int .i64 0] 66))) (fun _ _ iv _ => lb.length - (intOf iv).toNat)
      case atStart => exact ⟨0, N, 100, by omega, rfl, rfl, rfl, by unfold Hid; rw [List.take_zero, List.append_nil]; exact hNv'.out, rfl, rfl⟩
      case round =>
        obtain ⟨i, n, d, hi, rfl, rfl, rfl, hn, hd, rfl⟩ := hrel
        have hnb : n ≤ 200000000000000000 := by rw [hn.out]; exact val_bound hNv'.out hNb hdb h6
        have hdb2 : d ≤ 100000000 := by
          rw [hd.out]
          have : 10 ^ i ≤ 10 ^ 6 := Nat.pow_le_pow_right (by decide) (by omega)
          have h6 : 10 ^ 6 = 1000000 := by decide
          omega
        by_cases hlt : i < lb.length
        · have hlt' : (i : Int) < (behind.size : Int) := by omega
          have hi2 := hixb i hlt
          have hdg := hdb (lb[i]'hlt) (List.getElem_mem _)
          have hn2 : val (la ++ lb.take (i + 1)) = 10 * n + ((lb[i]'hlt).toNat - 48) := by
            rw [List.take_succ_eq_append_getElem hlt, ← List.append_assoc, val_snoc, ← hn.out]
          have hnb2 : val (la ++ lb.take (i + 1)) ≤ 200000000000000000 := val_bound hNv'.out hNb hdb h6
          obtain ⟨k, hk⟩ : ∃ k, (lb[i]'hlt).toNat = k := ⟨_, rfl⟩
          rw [hk] at hi2 hdg hn2
          rw [hn2] at hnb2
          have hn3 : Hid (10 * n + (k - 48) = val (la ++ lb.take (i + 1))) := hn2.symm
          have hd3 : Hid (d * 10 = 100 * 10 ^ (i + 1)) := by unfold Hid; rw [hd.out, Nat.pow_succ, Nat.mul_assoc]
          have hcast : ((10 * n + (k - 48) : Nat) : Int) = 10 * (n : Int) + ((k : Int) - 48) % 256 := by omega
          have hcast2 : ((d * 10 : Nat) : Int) = (d : Int) * 10 := by omega
          have hk' : Hid ((lb[i]'hlt).toNat = k) := hk
          have hr1 : 10 * (n : Int) + ((k : Int) - 48) % 256 ≤ 200000000000000000 := by omega
          clear hn2 hk hn hd
          go_wp2_with fail
          go_roundw
          case rel => exact ⟨i + 1, 10 * n + (k - 48), d * 10, by omega, by (first | rw [hk'.out] | skip); congr 1; omega, by rw [hcast2], by go_num, hn3.out, hd3.out, trivial⟩
          case measure => simp [intOf]; omega
        · obtain rfl : i = lb.length := by omega
          have hend : ¬ ((lb.length : Nat) : Int) < (behind.size : Int) := by omega
          have hn4 := hn.out
          rw [List.take_of_length_le (Nat.le_refl _)] at hn4
          rw [← hn4, ← hd.out] at ho'
          have hg1 : 0 < n.gcd d := Nat.gcd_pos_of_pos_right _ (by have := hd.out; have : 0 < 10 ^ lb.length := Nat.pow_pos (by decide); omega)
          have hcm := fun W => common_any n d (by omega) (by omega) W
          obtain ⟨g, hg⟩ : ∃ g, n.gcd d = g := ⟨_, rfl⟩
          rw [hg] at hcm hg1 ho'
          have l1 : n / g ≤ n := Nat.div_le_self _ _
          have l2 : d / g ≤ d := Nat.div_le_self _ _
          have a1 : (n : Int) / (g : Int) = ((n / g : Nat) : Int) := by rw [Int.natCast_ediv]
          have a2 : (d : Int) / (g : Int) = ((d / g : Nat) : Int) := by rw [Int.natCast_ediv]
          have t1 : (n : Int).tdiv (g : Int) = ((n / g : Nat) : Int) := by rw [Int.tdiv_eq_ediv_of_nonneg (by omega), a1]
          have t2 : (d : Int).tdiv (g : Int) = ((d / g : Nat) : Int) := by rw [Int.tdiv_eq_ediv_of_nonneg (by omega), a2]
          generalize n / g = Q1 at *
          generalize d / g = Q2 at *
          have w1 : IntKind.i64.wrap (Q1 : Int) = (Q1 : Int) := by rw [IntKind.wrap_i64]; omega
          have w2 : IntKind.i64.wrap (Q2 : Int) = (Q2 : Int) := by rw [IntKind.wrap_i64]; omega
          have hg0 : (g : Int) ≠ 0 := by omega
          have hg0b : ((g : Int) == 0) = false := by simp; omega
          have hQ2 : (Q2 : Int) ≤ 1000000000 := by omega
          clear hg hn hd hn4
          by_cases hq1 : Q1 ≤ 1000000000
          · have hq1' : (Q1 : Int) ≤ 1000000000 := by omega
            have hoo : some (4, [], Q1, Q2) = o := by rw [← ho'.out, if_pos ⟨hq1, by omega⟩]
            subst hoo
            clear ho'
            go_wp2_with (first | (go_at_call 144; refine (hcm _).mono ?_; rintro e w9 ⟨rfl, hw9⟩; subst w9))
            exact bodyPost_ret (v := .tuple #[.agg #[.int .i64 4, .int .i64 0, .string ⟨#[]⟩, .int .i64 (Q1 : Int), .int .i64 (Q2 : Int)], .bool true]) (by simp [results, Tryz.results133, go_sem]) rfl ⟨4, Q1, Q2, true, rfl, (fun h => (by cases h)), (fun wd h => (by cases h; exact ⟨rfl, rfl, rfl, rfl, rfl⟩)), (Below.refl _ _).alloc (Nat.le_refl _) _⟩
          · have hq1' : ¬ (Q1 : Int) ≤ 1000000000 := by omega
            have hoo : none = o := by rw [← ho'.out, if_neg (fun h => hq1 h.1)]
            subst hoo
            clear ho'
            go_wp2_with (first | (go_at_call 144; refine (hcm _).mono ?_; rintro e w9 ⟨rfl, hw9⟩; subst w9))
            exact bodyPost_ret (v := .tuple #[.agg #[.int .i64 4, .int .i64 0, .string ⟨#[]⟩, .int .i64 (Q1 : Int), .int .i64 (Q2 : Int)], .bool false]) (by simp [results, Tryz.results133, go_sem] <;> omega) rfl ⟨4, Q1, Q2, false, rfl, fun _ => rfl, (fun _ h => (by cases h)), (Below.refl _ _).alloc (Nat.le_refl _) _⟩
  cases pt with
  | true =>
    obtain ⟨z, hz, hl4⟩ := hl3 rfl
    exact key z (.inl ⟨rfl, hz, hl4⟩)
  | false => exact key 0 (.inr rfl)

end Go.Proofs.YtekapipfaahhcaaGreatDoor.Q

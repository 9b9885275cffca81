import Derived.Test.YtekapipfaahhcaaGreatDoorWR2
namespace Go.Proofs.YtekapipfaahhcaaGreatDoor.Q
open Go.RowKit

theorem val_snoc (x : List UInt8) (c : UInt8) : val (x ++ [c]) = 10 * val x + (c.toNat - 48) := by simp [val]
theorem val_app_ge (x : List UInt8) : ∀ (y : List UInt8), val x * 10 ^ y.length ≤ val (x ++ y)
  | y => by
    have key : ∀ (n : Nat) (y : List UInt8), y.length = n → val x * 10 ^ y.length ≤ val (x ++ y) := by
      intro n
      induction n with
      | zero => intro y hy; rw [List.eq_nil_of_length_eq_zero hy]; simp
      | succ n ih =>
        intro y hy
        obtain ⟨z, c, rfl⟩ : ∃ z c, y = z ++ [c] := ⟨y.dropLast, y.getLast (by intro h; rw [h] at hy; simp at hy), (List.dropLast_concat_getLast _).symm⟩
        rw [List.length_append] at hy ⊢
        have := ih z (by simp at hy; omega)
        rw [← List.append_assoc, val_snoc, List.length_cons, List.length_nil, Nat.zero_add, Nat.pow_add, Nat.pow_one, ← Nat.mul_assoc]
        omega
    exact key _ y rfl
theorem val_take_succ {l : List UInt8} {i : Nat} (h : i < l.length) : val (l.take (i + 1)) = 10 * val (l.take i) + (l[i].toNat - 48) := by
  rw [List.take_succ_eq_append_getElem h, val_snoc]
theorem val_take_ge {l : List UInt8} {i : Nat} (h : i < l.length) : 10 * val (l.take i) ≤ val l := by
  have h1 := val_app_ge (l.take i) (l.drop i)
  rw [List.take_append_drop] at h1
  have h2 : 10 ≤ 10 ^ (l.drop i).length := by
    rw [List.length_drop]
    calc 10 = 10 ^ 1 := rfl
      _ ≤ 10 ^ (l.length - i) := Nat.pow_le_pow_right (by omega) (by omega)
  calc 10 * val (l.take i) = val (l.take i) * 10 := Nat.mul_comm _ _
    _ ≤ val (l.take i) * 10 ^ (l.drop i).length := Nat.mul_le_mul_left _ h2
    _ ≤ val l := h1

set_option maxHeartbeats 1000000 in
theorem common_any (x y : Nat) (hx : x ≤ 9223372036854775807) (hy : y ≤ 9223372036854775807) (w : World) : Calls Tryz.prog 144 #[.int .i64 (x : Int), .int .i64 (y : Int)] w fun e w' => e = .returned (.int .i64 ((x.gcd y : Nat) : Int)) ∧ w' = w := by
  obtain ⟨G, hG⟩ : ∃ G, x.gcd y = G := ⟨_, rfl⟩
  have hG' : Hid (x.gcd y = G) := hG
  rw [hG]
  clear hG
  go_enter Tryz.func144, Tryz.ntmps144
  go_wp2
  go_loopw [0, 1] (fun u v wr => ∃ p q : Nat, p ≤ 9223372036854775807 ∧ q ≤ 9223372036854775807 ∧ u = .int .i64 (p : Int) ∧ v = .int .i64 (q : Int) ∧ p.gcd q = G ∧ wr = w) (fun _ v _ => (intOf v).toNat)
  case atStart => exact ⟨x, y, hx, hy, rfl, rfl, hG'.out, rfl⟩
  case round =>
    obtain ⟨p, q, hp, hq, rfl, rfl, hg, rfl⟩ := hrel
    clear hG'
    by_cases h0 : q = 0
    · subst h0
      have hg' : Hid (p = G) := by unfold Hid; rw [← hg]; simp
      clear hg
      go_wp2
      go_ret
      exact ⟨by rw [← hg'.out]; rfl, rfl⟩
    · have hpb : (0 : Int) < (q : Int) := by omega
      have hmod : (p : Int) % (q : Int) = ((p % q : Nat) : Int) := by rw [Int.natCast_emod]
      have hlt := Nat.mod_lt p (Nat.pos_of_ne_zero h0)
      have hg' : Hid (q.gcd (p % q) = G) := by unfold Hid; rw [← hg, Nat.gcd_comm p q, Nat.gcd_rec q p, Nat.gcd_comm]
      clear hg
      generalize p % q = m at *
      go_wp2
      go_roundw
      case rel => exact ⟨q, m, hq, by omega, rfl, by rw [hmod], hg'.out, trivial⟩
      case measure => simp [intOf, hmod]; omega

set_option maxRecDepth 4000 in
set_option maxHeartbeats 2000000 in
/-- The number that digits say, up to 10 ^ 18. -/
theorem whole_any (s : ByteArray) (hs : s.size ≤ 1000000) (hd : digs s.data.toList) (w : World) : Calls Tryz.prog 143 #[.string s] w fun e w' => e = .returned (.int .i64 ((min (val s.data.toList) 1000000000000000000 : Nat) : Int)) ∧ w' = w := by
  obtain ⟨l, hl⟩ : ∃ l, s.data.toList = l := ⟨_, rfl⟩
  have hls : l.length = s.size := by rw [← hl]; exact size_list s
  have hix : ∀ i, (h : i < l.length) → ∀ W, (Instr.index 9 (.string s) (.int .i64 (i : Int))).run Tryz.prog W = .ok (.int .u8 ((l[i].toNat : Nat) : Int)) W := fun i h W => by
    have := idx_at s i (by rw [hl]; exact h) W
    simpa only [hl] using this
  rw [hl] at hd ⊢
  obtain ⟨N, hN⟩ : ∃ N, min (val l) 1000000000000000000 = N := ⟨_, rfl⟩
  have hN' : Hid (min (val l) 1000000000000000000 = N) := hN
  rw [hN]
  clear hN
  go_enter Tryz.func143, Tryz.ntmps143
  go_wp2_with fail
  go_loopw [3, 4] (fun u v wr => ∃ i n : Nat, i ≤ s.size ∧ u = .int .i64 (n : Int) ∧ v = .int .i64 (i : Int) ∧ Hid (n = val (l.take i)) ∧ n < 1000000000000000000 ∧ wr = w) (fun _ v _ => s.size - (intOf v).toNat)
  case atStart => exact ⟨0, 0, by omega, rfl, rfl, by unfold Hid; simp [val], by omega, rfl⟩
  case round =>
    obtain ⟨i, n, hi, rfl, rfl, hn, hb, rfl⟩ := hrel
    by_cases hlt : i < s.size
    · have hlt' : (i : Int) < (s.size : Int) := by omega
      have hi2 := hix i (by omega)
      have hdg := hd (l[i]'(by omega)) (List.getElem_mem _)
      have hsn := val_take_succ (l := l) (i := i) (by omega)
      have hge := val_take_ge (l := l) (i := i) (by omega)
      rw [← hn.out] at hsn hge
      obtain ⟨k, hk⟩ : ∃ k, (l[i]'(by omega)).toNat = k := ⟨_, rfl⟩
      rw [hk] at hi2 hdg hsn
      by_cases hbig : 100000000000000000 ≤ n
      · have hbig' : (100000000000000000 : Int) ≤ (n : Int) := by omega
        have hNe : N = 1000000000000000000 := by have := hN'.out; omega
        subst hNe
        clear hsn hge hk hn
        go_wp2_with fail
        go_ret
        exact ⟨rfl, rfl⟩
      · have hbig' : ¬ (100000000000000000 : Int) ≤ (n : Int) := by omega
        have hsub : IntKind.u8.wrap ((k : Int) - 48) = (k : Int) - 48 := by rw [IntKind.wrap_u8]; omega
        have hn' : Hid (10 * n + (k - 48) = val (l.take (i + 1))) := hsn.symm
        have hcast : ((10 * n + (k - 48) : Nat) : Int) = 10 * (n : Int) + ((k : Int) - 48) % 256 := by omega
        have hk' : Hid ((l[i]'(by omega)).toNat = k) := hk
        clear hsn hge hk hn
        go_wp2_with fail
        go_roundw
        case rel => exact ⟨i + 1, 10 * n + (k - 48), by omega, by rw [hcast, hk'.out], by go_num, hn'.out, by omega, trivial⟩
        case measure => simp [intOf]; omega
    · obtain rfl : i = s.size := by omega
      have hNe : N = n := by
        have h1 := hN'.out
        have h2 := hn.out
        rw [List.take_of_length_le (by omega)] at h2
        omega
      subst hNe
      clear hn
      go_wp2_with fail
      go_ret
      exact ⟨rfl, rfl⟩

/-- What the reference's takers of words answer. -/
def refV : Res → Value
  | .ok (w, e) => .tuple #[.agg (tokC w.1 0 w.2.1 w.2.2.1 w.2.2.2), .int .i64 (e : Int), .int .i64 0]
  | .error (p, n) => .tuple #[.agg (tokC 0 0 [] 0 0), .int .i64 (p : Int), .int .i64 (n : Int)]

end Go.Proofs.YtekapipfaahhcaaGreatDoor.Q

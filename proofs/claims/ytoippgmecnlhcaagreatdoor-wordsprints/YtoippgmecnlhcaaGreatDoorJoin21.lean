import Derived.Test.YtoippgmecnlhcaaGreatDoorJoin20
import Derived.Test.YtoippgmecnlhcaaGreatDoorTurnDRParse
namespace Go.Proofs.YtoippgmecnlhcaaGreatDoor.Q
open Go.RowKit

theorem val_snoc (x : List UInt8) (c : UInt8) : val (x ++ [c]) = 10 * val x + (c.toNat - 48) := by simp [val]
theorem val_app_ge (x : List UInt8) : ∀ (y : List UInt8), val x * 10 ^ y.length ≤ val (x ++ y)
  | y => by
    have key : ∀ (n : Nat) (y : List UInt8), y.length = n → val x * 10 ^ y.length ≤ val (x ++ y) := by
      intro n
      induction n with
      | zero => intro y hy; rw [List.eq_nil_of_length_eq_zero hy]; simp
      | succ n ih =>
        intro y hy
        obtain ⟨z, c, rfl⟩ : ∃ z c, y = z ++ [c] := ⟨y.dropLast, y.getLast (by intro h; rw [h] at hy; simp at hy), (List.dropLast_concat_getLast _).symm⟩
        rw [List.length_append] at hy ⊢
        have := ih z (by simp at hy; omega)
        rw [← List.append_assoc, val_snoc, List.length_cons, List.length_nil, Nat.zero_add, Nat.pow_add, Nat.pow_one, ← Nat.mul_assoc]
        omega
    exact key _ y rfl
theorem val_take_succ {l : List UInt8} {i : Nat} (h : i < l.length) : val (l.take (i + 1)) = 10 * val (l.take i) + (l[i].toNat - 48) := by
  rw [List.take_succ_eq_append_getElem h, val_snoc]
theorem val_take_ge {l : List UInt8} {i : Nat} (h : i < l.length) : 10 * val (l.take i) ≤ val l := by
  have h1 := val_app_ge (l.take i) (l.drop i)
  rw [List.take_append_drop] at h1
  have h2 : 10 ≤ 10 ^ (l.drop i).length := by
    rw [List.length_drop]
    calc 10 = 10 ^ 1 := rfl
      _ ≤ 10 ^ (l.length - i) := Nat.pow_le_pow_right (by omega) (by omega)
  calc 10 * val (l.take i) = val (l.take i) * 10 := Nat.mul_comm _ _
    _ ≤ val (l.take i) * 10 ^ (l.drop i).length := Nat.mul_le_mul_left _ h2
    _ ≤ val l := h1

set_option maxHeartbeats 1000000 in
theorem common_any (x y : Nat) (hx : x ≤ 9223372036854775807) (hy : y ≤ 9223372036854775807) (w : World) : Calls Tryz.prog 147 #[.int .i64 (x : Int), .int .i64 (y : Int)] w fun e w' => e = .returned (.int .i64 ((x.gcd y : Nat) : Int)) ∧ w' = w := by
  obtain ⟨G, hG⟩ : ∃ G, x.gcd y = G := ⟨_, rfl⟩
  have hG' : Hid (x.gcd y = G) := hG
  rw [hG]
  clear hG
  go_enter Tryz.func147, Tryz.ntmps147
  go_wp2
  go_loopw [0, 1] (fun u v wr => ∃ p q : Nat, p ≤ 9223372036854775807 ∧ q ≤ 9223372036854775807 ∧ u = .int .i64 (p : Int) ∧ v = .int .i64 (q : Int) ∧ p.gcd q = G ∧ wr = w) (fun _ v _ => (intOf v).toNat)
  case atStart => exact ⟨x, y, hx, hy, rfl, rfl, hG'.out, rfl⟩
  case round =>
    obtain ⟨p, q, hp, hq, rfl, rfl, hg, rfl⟩ := hrel
    clear hG'
    by_cases h0 : q = 0
    · subst h0
      have hg' : Hid (p = G) := by unfold Hid; rw [← hg]; simp
      clear hg
      go_wp2
      go_ret
      exact ⟨by rw [← hg'.out]; rfl, rfl⟩
    · have hpb : (0 : Int) < (q : Int) := by omega
      have hmod : (p : Int) % (q : Int) = ((p % q : Nat) : Int) := by rw [Int.natCast_emod]
      have hlt := Nat.mod_lt p (Nat.pos_of_ne_zero h0)
      have hg' : Hid (q.gcd (p % q) = G) := by unfold Hid; rw [← hg, Nat.gcd_comm p q, Nat.gcd_rec q p, Nat.gcd_comm]
      clear hg
      generalize p % q = m at *
      go_wp2
      go_roundw
      case rel => exact ⟨q, m, hq, by omega, rfl, by rw [hmod], hg'.out, trivial⟩
      case measure => simp [intOf, hmod]; omega

set_option maxRecDepth 4000 in
set_option maxHeartbeats 2000000 in
/-- The number that digits say, up to 10 ^ 18. -/
theorem whole_any (s : ByteArray) (hs : s.size ≤ 1000000) (hd : digs s.data.toList) (w : World) : Calls Tryz.prog 146 #[.string s] w fun e w' => e = .returned (.int .i64 ((min (val s.data.toList) 1000000000000000000 : Nat) : Int)) ∧ w' = w := by
  obtain ⟨l, hl⟩ : ∃ l, s.data.toList = l := ⟨_, rfl⟩
  have hls : l.length = s.size := by rw [← hl]; exact size_list s
  have hix : ∀ i, (h : i < l.length) → ∀ W, (Instr.index 9 (.string s) (.int .i64 (i : Int))).run Tryz.prog W = .ok (.int .u8 ((l[i].toNat : Nat) : Int)) W := fun i h W => by
    have := idx_at s i (by rw [hl]; exact h) W
    simpa only [hl] using this
  rw [hl] at hd ⊢
  obtain ⟨N, hN⟩ : ∃ N, min (val l) 1000000000000000000 = N := ⟨_, rfl⟩
  have hN' : Hid (min (val l) 1000000000000000000 = N) := hN
  rw [hN]
  clear hN
  go_enter Tryz.func146, Tryz.ntmps146
  go_wp2_with fail
  go_loopw [3, 4] (fun u v wr => ∃ i n : Nat, i ≤ s.size ∧ u = .int .i64 (n : Int) ∧ v = .int .i64 (i : Int) ∧ Hid (n = val (l.take i)) ∧ n < 1000000000000000000 ∧ wr = w) (fun _ v _ => s.size - (intOf v).toNat)
  case atStart => exact ⟨0, 0, by omega, rfl, rfl, by unfold Hid; simp [val], by omega, rfl⟩
  case round =>
    obtain ⟨i, n, hi, rfl, rfl, hn, hb, rfl⟩ := hrel
    by_cases hlt : i < s.size
    · have hlt' : (i : Int) < (s.size : Int) := by omega
      have hi2 := hix i (by omega)
      have hdg := hd (l[i]'(by omega)) (List.getElem_mem _)
      have hsn := val_take_succ (l := l) (i := i) (by omega)
      have hge := val_take_ge (l := l) (i := i) (by omega)
      rw [← hn.out] at hsn hge
      obtain ⟨k, hk⟩ : ∃ k, (l[i]'(by omega)).toNat = k := ⟨_, rfl⟩
      rw [hk] at hi2 hdg hsn
      by_cases hbig : 100000000000000000 ≤ n
      · have hbig' : (100000000000000000 : Int) ≤ (n : Int) := by omega
        have hNe : N = 1000000000000000000 := by have := hN'.out; omega
        subst hNe
        clear hsn hge hk hn
        go_wp2_with fail
        go_ret
        exact ⟨rfl, rfl⟩
      · have hbig' : ¬ (100000000000000000 : Int) ≤ (n : Int) := by omega
        have hsub : IntKind.u8.wrap ((k : Int) - 48) = (k : Int) - 48 := by rw [IntKind.wrap_u8]; omega
        have hn' : Hid (10 * n + (k - 48) = val (l.take (i + 1))) := hsn.symm
        have hcast : ((10 * n + (k - 48) : Nat) : Int) = 10 * (n : Int) + ((k : Int) - 48) % 256 := by omega
        have hk' : Hid ((l[i]'(by omega)).toNat = k) := hk
        clear hsn hge hk hn
        go_wp2_with fail
        go_roundw
        case rel => exact ⟨i + 1, 10 * n + (k - 48), by omega, by rw [hcast, hk'.out], by go_num, hn'.out, by omega, trivial⟩
        case measure => simp [intOf]; omega
    · obtain rfl : i = s.size := by omega
      have hNe : N = n := by
        have h1 := hN'.out
        have h2 := hn.out
        rw [List.take_of_length_le (by omega)] at h2
        omega
      subst hNe
      clear hn
      go_wp2_with fail
      go_ret
      exact ⟨rfl, rfl⟩

/-- What the reference's takers of words answer. -/
def refV : Res → Value
  | .ok (w, e) => .tuple #[.agg (tokC w.1 0 w.2.1 w.2.2.1 w.2.2.2), .int .i64 (e : Int), .int .i64 0]
  | .error (p, n) => .tuple #[.agg (tokC 0 0 [] 0 0), .int .i64 (p : Int), .int .i64 (n : Int)]

end Go.Proofs.YtoippgmecnlhcaaGreatDoor.Q


namespace Go.Proofs.YtoippgmecnlhcaaGreatDoor.Q
open Go.RowKit

set_option maxRecDepth 8000 in
set_option maxHeartbeats 2000000 in
theorem dated_any (s : ByteArray) (a : Nat) (ha : a ≤ s.size) (hs : s.size ≤ 8000) (hf : dForm (dX s.data.toList a)) (w : World) :
    Calls Tryz.prog 103 #[.string s, .int .i64 (a : Int)] w fun e w' => e = .returned (refV (dateS s.data.toList a)) ∧ Below w.heap.size w w' := by
  have hb1 := (Below.refl w.heap.size w).alloc (Nat.le_refl _) (.cells #[.int .i64 0, .int .i64 0, .string ⟨#[]⟩, .int .i64 0, .int .i64 0] 60)
  have hbox := Box5.new w 60
  obtain ⟨l, hl⟩ : ∃ l, s.data.toList = l := ⟨_, rfl⟩
  have hls : l.length = s.size := by rw [← hl]; exact size_list s
  rw [hl] at hf ⊢
  have h10 := ((dForm_iff l a (by omega)).1 hf).1
  obtain ⟨x, hx⟩ : ∃ x, s.extract a (a + 10) = x := ⟨_, rfl⟩
  have hxl : dX l a = x := by
    unfold dX
    rw [show min (a + 10) l.length = a + 10 from by omega, ← hl, ← slice_list, hx]
  have hsl : ∀ W, (Instr.slice 9 (.string s) (some (.int .i64 (a : Int))) (some (.int .i64 ((a : Int) + 10))) none).run Tryz.prog W = .ok (.string x) W := fun W => by
    rw [run_slice_string W 9 s .i64 .i64 (a : Int) ((a : Int) + 10) Tryz.underlying9 (by omega) (by omega) (by omega), ← hx, show ((a : Int) + 10).toNat = a + 10 from by omega]
    rfl
  obtain ⟨R, hR⟩ : ∃ R, dateS l a = R := ⟨_, rfl⟩
  rw [hR]
  unfold dateS at hR
  rw [if_pos hf] at hR
  rw [hxl] at hR hf
  have hp := fun W => rparse_any x 10 (Nat.le_refl _) (by rw [hf.1]; exact Nat.le_refl _) (fun i h _ => hf.2 i h) (.inl rfl) (dNum x).1 (if (dNum x).2 = 0 then 10 else 0) (dNum x).2 (.inr ⟨rfl, hf.1, rfl, rfl⟩) W
  obtain ⟨v, hv⟩ : ∃ v, (dNum x).1 = v := ⟨_, rfl⟩
  have hbd := dNum_bd x
  have hz := dNum_zero x
  rw [hv] at hbd hp hR hz
  obtain ⟨z, hz'⟩ : ∃ z, (dNum x).2 = z := ⟨_, rfl⟩
  rw [hz'] at hp hR hz
  clear hf hxl
  by_cases hz0 : z = 0
  · subst hz0
    by_cases hend : a + 10 < s.size
    · have hend' : (a : Int) + 10 < (s.size : Int) := by omega
      have hix := idx_at s (a + 10) (by rw [hl]; omega)
      simp only [hl] at hix
      rw [show ((a + 10 : Nat) : Int) = (a : Int) + 10 from by omega] at hix
      rw [clsAt_in (by omega)] at hR
      obtain ⟨k, hk⟩ : ∃ k, (l[a + 10]'(by omega)).toNat = k := ⟨_, rfl⟩
      rw [hk] at hix hR
      by_cases hbad : cls k &&& 56 = 0
      · rw [if_pos ⟨rfl, hbad⟩] at hR
        have hRv : Hid (refV (.ok ((5, [], v.toNat, 0), a + 10)) = refV R) := by unfold Hid; rw [hR]
        have hW := fun W => isWord_at k false (by simp [hbad]) W
        clear hR hbad hz hk
        go_enter Tryz.func103, Tryz.ntmps103
        go_wp2_with (first | (go_at_call 130; refine (hp _).mono ?_; rintro e w1 ⟨rfl, hb2⟩; have hVa := hb2; have hbx := hbox.later hVa; have hbx' := hbx; obtain ⟨⟨v0, c0⟩, ⟨v1, c1⟩, ⟨v2, c2⟩, ⟨v3, c3⟩, ⟨v4, c4⟩, hf⟩ := hbx'; have f0 := hf 0; have f1 := hf 1; have f2 := hf 2; have f3 := hf 3; have f4 := hf 4; clear hf) | (go_at_call 129; refine (hW _).mono ?_; rintro e w9 ⟨rfl, hw9⟩; subst w9))
        obtain ⟨q0, q1, q2, q3, q4⟩ := set5_cells hbx (.int .i64 5) (.int .i64 0) (.string ⟨#[]⟩) (.int .i64 v) (.int .i64 0)
        unfold set5 at q0 q1 q2 q3 q4
        refine bodyPost_ret (v := .tuple #[.agg #[.int .i64 5, .int .i64 0, .string ⟨#[]⟩, .int .i64 v, .int .i64 0], .int .i64 ((a : Int) + 10), .int .i64 0]) (by simp [results, Tryz.results103, go_sem, q0, q1, q2, q3, q4]) rfl ⟨?_, set5_below (below_step hb1 hVa) (Nat.le_refl _) _ _ _ _ _⟩
        rw [← hRv.out]
        simp [refV, tokC]
        omega
      · rw [if_neg (fun h => hbad h.2)] at hR
        have hRv : Hid (refV (.error (a, 44)) = refV R) := by unfold Hid; rw [hR]
        have hW := fun W => isWord_at k true (by simp [hbad]) W
        clear hR hbad hz hk
        go_enter Tryz.func103, Tryz.ntmps103
        go_wp2_with (first | (go_at_call 130; refine (hp _).mono ?_; rintro e w1 ⟨rfl, hb2⟩; have hVa := hb2; have hbx := hbox.later hVa; have hbx' := hbx; obtain ⟨⟨v0, c0⟩, ⟨v1, c1⟩, ⟨v2, c2⟩, ⟨v3, c3⟩, ⟨v4, c4⟩, hf⟩ := hbx'; have f0 := hf 0; have f1 := hf 1; have f2 := hf 2; have f3 := hf 3; have f4 := hf 4; clear hf) | (go_at_call 129; refine (hW _).mono ?_; rintro e w9 ⟨rfl, hw9⟩; subst w9))
        obtain ⟨q0, q1, q2, q3, q4⟩ := set5_cells hbx (.int .i64 0) (.int .i64 0) (.string ⟨#[]⟩) (.int .i64 0) (.int .i64 0)
        unfold set5 at q0 q1 q2 q3 q4
        refine bodyPost_ret (v := .tuple #[.agg #[.int .i64 0, .int .i64 0, .string ⟨#[]⟩, .int .i64 0, .int .i64 0], .int .i64 (a : Int), .int .i64 44]) (by simp [results, Tryz.results103, go_sem, q0, q1, q2, q3, q4]) rfl ⟨?_, set5_below (below_step hb1 hVa) (Nat.le_refl _) _ _ _ _ _⟩
        rw [← hRv.out]
        rfl
    · have hend' : ¬ (a : Int) + 10 < (s.size : Int) := by omega
      rw [clsAt_out (by omega), if_pos ⟨rfl, by decide⟩] at hR
      have hRv : Hid (refV (.ok ((5, [], v.toNat, 0), a + 10)) = refV R) := by unfold Hid; rw [hR]
      clear hR hz
      go_enter Tryz.func103, Tryz.ntmps103
      go_wp2_with (first | (go_at_call 130; refine (hp _).mono ?_; rintro e w1 ⟨rfl, hb2⟩; have hVa := hb2; have hbx := hbox.later hVa; have hbx' := hbx; obtain ⟨⟨v0, c0⟩, ⟨v1, c1⟩, ⟨v2, c2⟩, ⟨v3, c3⟩, ⟨v4, c4⟩, hf⟩ := hbx'; have f0 := hf 0; have f1 := hf 1; have f2 := hf 2; have f3 := hf 3; have f4 := hf 4; clear hf))
      obtain ⟨q0, q1, q2, q3, q4⟩ := set5_cells hbx (.int .i64 5) (.int .i64 0) (.string ⟨#[]⟩) (.int .i64 v) (.int .i64 0)
      unfold set5 at q0 q1 q2 q3 q4
      refine bodyPost_ret (v := .tuple #[.agg #[.int .i64 5, .int .i64 0, .string ⟨#[]⟩, .int .i64 v, .int .i64 0], .int .i64 ((a : Int) + 10), .int .i64 0]) (by simp [results, Tryz.results103, go_sem, q0, q1, q2, q3, q4]) rfl ⟨?_, set5_below (below_step hb1 hVa) (Nat.le_refl _) _ _ _ _ _⟩
      rw [← hRv.out]
      simp [refV, tokC]
      omega
  · rw [if_neg (fun h => hz0 h.1)] at hR
    have hRv : Hid (refV (.error (a, 44)) = refV R) := by unfold Hid; rw [hR]
    have hz2 : z = 20 ∨ z = 21 := by omega
    rw [if_neg hz0] at hp
    clear hR hz hz0
    rcases hz2 with rfl | rfl
    all_goals
      go_enter Tryz.func103, Tryz.ntmps103
      go_wp2_with (first | (go_at_call 130; refine (hp _).mono ?_; rintro e w1 ⟨rfl, hb2⟩; have hVa := hb2; have hbx := hbox.later hVa; have hbx' := hbx; obtain ⟨⟨v0, c0⟩, ⟨v1, c1⟩, ⟨v2, c2⟩, ⟨v3, c3⟩, ⟨v4, c4⟩, hf⟩ := hbx'; have f0 := hf 0; have f1 := hf 1; have f2 := hf 2; have f3 := hf 3; have f4 := hf 4; clear hf))
      obtain ⟨q0, q1, q2, q3, q4⟩ := set5_cells hbx (.int .i64 0) (.int .i64 0) (.string ⟨#[]⟩) (.int .i64 0) (.int .i64 0)
      unfold set5 at q0 q1 q2 q3 q4
      refine bodyPost_ret (v := .tuple #[.agg #[.int .i64 0, .int .i64 0, .string ⟨#[]⟩, .int .i64 0, .int .i64 0], .int .i64 (a : Int), .int .i64 44]) (by simp [results, Tryz.results103, go_sem, q0, q1, q2, q3, q4]) rfl ⟨?_, set5_below (below_step hb1 hVa) (Nat.le_refl _) _ _ _ _ _⟩
      rw [← hRv.out]
      rfl

end Go.Proofs.YtoippgmecnlhcaaGreatDoor.Q

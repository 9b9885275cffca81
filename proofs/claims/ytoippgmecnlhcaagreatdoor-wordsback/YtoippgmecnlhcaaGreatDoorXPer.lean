import Derived.Test.YtoippgmecnlhcaaGreatDoorXPct
namespace Go.Proofs.YtoippgmecnlhcaaGreatDoor.X
open Go.RowKit Go.Sort Go.Lib

/-- P4.12: Percent, of any two numbers. -/
def pct (n d : Int) : Option (List UInt8) := if n < 0 ∨ 1000000000 < n ∨ d < 1 ∨ 1000000000 < d then none else pctL (100 * n.toNat) d.toNat
/-- What is answered. -/
def pctV (o : Option (List UInt8)) : Value := .tuple #[.string ⟨(o.getD []).toArray⟩, .bool o.isSome]

set_option maxHeartbeats 1000000 in
theorem percent_any (n d : Int) (hn : -9223372036854775808 ≤ n ∧ n ≤ 9223372036854775807) (hd : -9223372036854775808 ≤ d ∧ d ≤ 9223372036854775807) (w : World) (htab : Tab w) :
    Calls Tryz.prog 51 #[.int .i64 n, .int .i64 d] w fun e w' => e = .returned (pctV (pct n d)) ∧ Below w.heap.size w w' := by
  by_cases hbad : n < 0 ∨ 1000000000 < n ∨ d < 1 ∨ 1000000000 < d
  · have hp : pct n d = none := if_pos hbad
    rw [hp]
    have hcs : n < 0 ∨ (¬ n < 0 ∧ 1000000000 < n) ∨ (¬ n < 0 ∧ ¬ 1000000000 < n ∧ d < 1) ∨ (¬ n < 0 ∧ ¬ 1000000000 < n ∧ ¬ d < 1 ∧ 1000000000 < d) := by omega
    clear hp hbad
    rcases hcs with h1 | ⟨h1, h2⟩ | ⟨h1, h2, h3⟩ | ⟨h1, h2, h3, h4⟩
    all_goals
      go_enter Tryz.func51, Tryz.ntmps51
      go_wp2_with fail
      exact bodyPost_ret (v := pctV none) (by simp [results, Tryz.results51, go_sem, pctV]) rfl ⟨rfl, Below.refl _ _⟩
  · obtain ⟨N, rfl⟩ : ∃ N : Nat, n = (N : Int) := ⟨n.toNat, by omega⟩
    obtain ⟨D, rfl⟩ : ∃ D : Nat, d = (D : Int) := ⟨d.toNat, by omega⟩
    have hD : 0 < D := by omega
    have hN9 : N ≤ 1000000000 := by omega
    have hD9 : D ≤ 1000000000 := by omega
    have h1 : ¬ (N : Int) < 0 := by omega
    have h2 : ¬ (1000000000 : Int) < N := by omega
    have h3 : ¬ (D : Int) < 1 := by omega
    have h4 : ¬ (1000000000 : Int) < D := by omega
    have hp : pct (N : Int) (D : Int) = pctL (100 * N) D := by
      unfold pct
      rw [if_neg hbad, Int.toNat_natCast, Int.toNat_natCast]
    rw [hp]
    clear hp hbad
    obtain ⟨R, hR0⟩ : ∃ R, pctL (100 * N) D = R := ⟨_, rfl⟩
    have hR : Hid (R = _) := hR0.symm.trans (pct_prog hD)
    rw [hR0]
    clear hR0
    have e1 : ((N : Int) * 100 * 1000000 % (D : Int)) = ((100 * N * 1000000 % D : Nat) : Int) := by
      rw [show (N : Int) * 100 * 1000000 = ((100 * N * 1000000 : Nat) : Int) from by omega, Int.natCast_emod]
    have e2 : ((N : Int) * 100 * 1000000 / (D : Int)) = ((100 * N * 1000000 / D : Nat) : Int) := by
      rw [show (N : Int) * 100 * 1000000 = ((100 * N * 1000000 : Nat) : Int) from by omega, Int.natCast_ediv]
    have hq : 100 * N * 1000000 / D ≤ 100 * N * 1000000 := Nat.div_le_self _ _
    by_cases hz : 100 * N * 1000000 % D = 0
    · have hzb : (((N : Int) * 100 * 1000000 % (D : Int)) != 0) = false := by rw [e1, hz]; rfl
      rw [if_pos hz] at hR
      have hq17 : 100 * N * 1000000 / D ≤ 100000000000000000 := by omega
      generalize 100 * N * 1000000 / D = q at *
      obtain ⟨S, hS⟩ : ∃ S, decDigits (q / 1000000) = S := ⟨_, rfl⟩
      have hSl : S.length ≤ 20 := by rw [← hS, decDigits_length]; exact nDigits_le20 _ (by omega)
      have hf : ∀ W, Tab W → _ := fun W h => formatU_at ((q : Int) / 1000000) (q / 1000000) (by omega) (by omega) S hS W h
      rw [hS] at hR
      clear e1 hz hq hS
      by_cases hm : q % 1000000 = 0
      · have hmb : ((q : Int) % 1000000 != 0) = false := by rw [show (q : Int) % 1000000 = 0 from by omega]; rfl
        rw [if_pos hm] at hR
        have hsum : ¬ 9223372036854775807 < S.length + 1 := by omega
        have hR' : Hid (R = some (S ++ [37])) := by
          unfold Hid
          rw [hR.out]
          simp
        clear hm hR
        go_enter Tryz.func51, Tryz.ntmps51
        go_wp2_with (first | (go_at_call 63; refine (hf _ htab).mono ?_; rintro e w1 ⟨rfl, hb1⟩))
        refine bodyPost_ret (v := .tuple #[.string (⟨S.toArray⟩ ++ ⟨[37].toArray⟩), .bool true]) (by simp [results, Tryz.results51, go_sem]) rfl ⟨?_, hb1⟩
        rw [hR'.out, ByteArray.mk_append_mk]
        rfl
      · have hmb : ((q : Int) % 1000000 != 0) = true := by simp; omega
        rw [if_neg hm] at hR
        obtain ⟨T, hT⟩ : ∃ T, pad (q % 1000000) 6 = T := ⟨_, rfl⟩
        have hTl : T.length = 6 := by
          rw [← hT, pad_fx (k := 6) (m := q % 1000000) (by decide) (by show q % 1000000 < 1000000; omega), fx_len]
        rw [hT] at hR
        obtain ⟨U, hU⟩ : ∃ U, trimRightB T 48 = U := ⟨_, rfl⟩
        have hUl : U.length ≤ 6 := by
          rw [← hU, ← hTl]
          unfold trimRightB
          rw [List.length_reverse]
          have h1 := (List.dropWhile_suffix (· == 48) (l := T.reverse)).length_le
          rw [List.length_reverse] at h1
          exact h1
        rw [hU] at hR
        have hp : ∀ W, Tab W → _ := fun W h => padded_at ((q : Int) % 1000000) (q % 1000000) 6 (by omega) (by omega) (by omega) 6 rfl T hT W h
        have ht : ∀ W, Calls Tryz.prog 66 #[.string ⟨T.toArray⟩, .string ⟨#[48]⟩] W fun e w' => e = .returned (.string ⟨U.toArray⟩) ∧ w' = W := fun W => by
          have h := Tryz.strings_TrimRight_one ⟨T.toArray⟩ 48 (by decide) W (by show T.toArray.size ≤ _; simp [hTl])
          rw [show (⟨T.toArray⟩ : ByteArray).data.toList = T from rfl, hU] at h
          exact h
        have s1 : ¬ 9223372036854775807 < 1 + U.length := by omega
        have s2 : ¬ 9223372036854775807 < S.length + (1 + U.length) := by omega
        have s3 : ¬ 9223372036854775807 < S.length + (1 + U.length) + 1 := by omega
        have hR' : Hid (R = some (S ++ ([46] ++ U) ++ [37])) := hR.out
        clear hm hR hU hT
        go_enter Tryz.func51, Tryz.ntmps51
        go_wp2_with (first | (go_at_call 63; refine (hf _ htab).mono ?_; rintro e w1 ⟨rfl, hb1⟩; have htab1 := htab.later hb1) | (go_at_call 64; refine (hp _ htab1).mono ?_; rintro e w2 ⟨rfl, hb2⟩) | (go_at_call 66; refine (ht _).mono ?_; rintro e w3 ⟨rfl, rfl⟩))
        refine bodyPost_ret (v := .tuple #[.string (⟨S.toArray⟩ ++ (⟨[46].toArray⟩ ++ ⟨U.toArray⟩) ++ ⟨[37].toArray⟩), .bool true]) (by simp [results, Tryz.results51, go_sem]) rfl ⟨?_, below_step hb1 hb2⟩
        rw [hR'.out, ByteArray.mk_append_mk, ByteArray.mk_append_mk, ByteArray.mk_append_mk]
        rfl
    · have hzb : (((N : Int) * 100 * 1000000 % (D : Int)) != 0) = true := by
        rw [e1]
        generalize 100 * N * 1000000 % D = m at *
        simp
        omega
      rw [if_neg hz] at hR
      clear e1 e2 hz hq
      have hR' : Hid (pctV R = pctV none) := by unfold Hid; rw [hR.out]
      clear hR
      go_enter Tryz.func51, Tryz.ntmps51
      go_wp2_with fail
      exact bodyPost_ret (v := pctV none) (by simp [results, Tryz.results51, go_sem, pctV]) rfl ⟨by rw [hR'.out], Below.refl _ _⟩

end Go.Proofs.YtoippgmecnlhcaaGreatDoor.X

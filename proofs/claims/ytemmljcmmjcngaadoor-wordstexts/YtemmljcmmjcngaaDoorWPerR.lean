import Derived.Test.YtemmljcmmjcngaaDoorWPer
namespace Go.Proofs.YtemmljcmmjcngaaDoor
open Go.RowKit Go.Sort Go.Lib

theorem digitsOf_at (z : Int) (u : Nat) (hz : z = (u : Int)) (hu : u ≤ 9223372036854775807) (S : List UInt8) (hS : decDigits u = S) (w : World) :
    Calls Tryd.prog 13 #[.int .i64 z] w fun e w' => e = .returned (.string ⟨S.toArray⟩) ∧ Below w.heap.size w w' := by
  rw [hz, ← hS]
  exact digitsOf_any u hu w

/-- The text that has been laid, and what is to come: together they are the whole. -/
def pctI (A D i r : Nat) (T : List UInt8) : Prop := r < D ∧ pctL A D = (tl D (6 - i) r).map fun l => T ++ (if i = 0 ∧ l ≠ [] then 46 :: l else l) ++ [37]
theorem pctI_start {A D : Nat} (hD : 0 < D) : pctI A D 0 (A % D) (decDigits (A / D)) := by
  refine ⟨Nat.mod_lt _ hD, ?_⟩
  unfold pctL
  congr 1
  funext l
  by_cases h : l = []
  · simp [h]
  · simp [h]
theorem pctI_step {A D i r : Nat} {T : List UInt8} (hD : 0 < D) (hi : i < 6) (hr : r ≠ 0) (h : pctI A D i r T) : pctI A D (i + 1) (10 * r % D) (T ++ (if i = 0 then [46] else []) ++ [ch (10 * r / D)]) := by
  refine ⟨Nat.mod_lt _ hD, ?_⟩
  rw [h.2, show 6 - i = (6 - (i + 1)) + 1 from by omega]
  show (if r = 0 then some [] else (tl D (6 - (i + 1)) (10 * r % D)).map (ch (10 * r / D) :: ·)).map _ = _
  rw [if_neg hr, Option.map_map]
  congr 1
  funext l
  by_cases h0 : i = 0
  · simp [h0]
  · simp [h0]
theorem pctI_end {A D i : Nat} {T : List UInt8} (h : pctI A D i 0 T) : pctL A D = some (T ++ [37]) := by
  rw [h.2]
  have : tl D (6 - i) 0 = some [] := by cases 6 - i <;> rfl
  rw [this]
  simp
theorem pctI_none {A D r : Nat} {T : List UInt8} (hr : r ≠ 0) (h : pctI A D 6 r T) : pctL A D = none := by
  rw [h.2]
  show (if r = 0 then some [] else none).map _ = _
  rw [if_neg hr]
  rfl

set_option maxRecDepth 4000 in
set_option maxHeartbeats 1000000 in
theorem rpercent_any (n d : Int) (hn : -9223372036854775808 ≤ n ∧ n ≤ 9223372036854775807) (hd : -9223372036854775808 ≤ d ∧ d ≤ 9223372036854775807) (w : World) :
    Calls Tryd.prog 5 #[.int .i64 n, .int .i64 d] w fun e w' => e = .returned (pctV (pct n d)) ∧ Below w.heap.size w w' := by
  by_cases hbad : n < 0 ∨ 1000000000 < n ∨ d < 1 ∨ 1000000000 < d
  · have hp : pct n d = none := if_pos hbad
    rw [hp]
    have hcs : n < 0 ∨ (¬ n < 0 ∧ 1000000000 < n) ∨ (¬ n < 0 ∧ ¬ 1000000000 < n ∧ d < 1) ∨ (¬ n < 0 ∧ ¬ 1000000000 < n ∧ ¬ d < 1 ∧ 1000000000 < d) := by omega
    clear hp hbad
    rcases hcs with h1 | ⟨h1, h2⟩ | ⟨h1, h2, h3⟩ | ⟨h1, h2, h3, h4⟩
    all_goals
      go_enter Tryd.func5, Tryd.ntmps5
      go_wp2_with fail
      exact bodyPost_ret (v := pctV none) (by simp [results, Tryd.results5, go_sem, pctV]) rfl ⟨rfl, Below.refl _ _⟩
  · obtain ⟨N, rfl⟩ : ∃ N : Nat, n = (N : Int) := ⟨n.toNat, by omega⟩
    obtain ⟨D, rfl⟩ : ∃ D : Nat, d = (D : Int) := ⟨d.toNat, by omega⟩
    have hD : 0 < D := by omega
    have hN9 : N ≤ 1000000000 := by omega
    have hD9 : D ≤ 1000000000 := by omega
    have h1 : ¬ (N : Int) < 0 := by omega
    have h2 : ¬ (1000000000 : Int) < N := by omega
    have h3 : ¬ (D : Int) < 1 := by omega
    have h4 : ¬ (1000000000 : Int) < D := by omega
    have hp : pct (N : Int) (D : Int) = pctL (100 * N) D := by
      unfold pct
      rw [if_neg hbad, Int.toNat_natCast, Int.toNat_natCast]
    rw [hp]
    clear hp hbad
    obtain ⟨R, hR0⟩ : ∃ R, pctL (100 * N) D = R := ⟨_, rfl⟩
    have hR : Hid (pctL (100 * N) D = R) := hR0
    rw [hR0]
    clear hR0
    have hst := pctI_start (A := 100 * N) hD
    have e1 : (100 * (N : Int) / (D : Int)) = ((100 * N / D : Nat) : Int) := by
      rw [show 100 * (N : Int) = ((100 * N : Nat) : Int) from by omega, Int.natCast_ediv]
    have e2 : (100 * (N : Int) % (D : Int)) = ((100 * N % D : Nat) : Int) := by
      rw [show 100 * (N : Int) = ((100 * N : Nat) : Int) from by omega, Int.natCast_emod]
    have hq : 100 * N / D ≤ 100 * N := Nat.div_le_self _ _
    have hqb : 100 * N / D ≤ 100000000000 := by omega
    generalize 100 * N / D = q at *
    generalize 100 * N % D = r0 at *
    obtain ⟨S, hS⟩ : ∃ S, decDigits q = S := ⟨_, rfl⟩
    have hSl : S.length ≤ 20 := by rw [← hS, decDigits_length]; exact nDigits_le20 _ (by omega)
    have hf : ∀ W, _ := fun W => digitsOf_at (q : Int) q rfl (by omega) S hS W
    rw [hS] at hst
    have hst' : Hid (pctI (100 * N) D 0 r0 S) := hst
    clear hS hst hq
    go_enter Tryd.func5, Tryd.ntmps5
    go_wp2_with (first | (go_at_call 13; refine (hf _).mono ?_; rintro e w1 ⟨rfl, hb1⟩))
    go_loopw [6, 7, 8] (fun s rr j wr => ∃ (i r : Nat) (T : List UInt8), i ≤ 6 ∧ j = .int .i64 i ∧ rr = .int .i64 (r : Int) ∧ s = .string ⟨T.toArray⟩ ∧ pctI (100 * N) D i r T ∧ T.length ≤ 30 + 2 * i ∧ Below w.heap.size w wr) (fun _ _ j _ => 7 - (RowKit.intOf j).toNat)
    case atStart => exact ⟨0, r0, S, by omega, rfl, by rw [e2], rfl, hst'.out, by omega, hb1⟩
    case round =>
      obtain ⟨i, r, T, hi6, rfl, rfl, rfl, hI, hTl, hB⟩ := hrel
      clear hst' hb1 hf hSl e1 e2
      have hrD : r < D := hI.1
      have hI' : Hid (pctI (100 * N) D i r T) := hI
      clear hI
      by_cases hr0 : r = 0
      · subst hr0
        have hE : Hid (R = some (T ++ [37])) := hR.out.symm.trans (pctI_end hI'.out)
        have hsum : ¬ 9223372036854775807 < T.length + 1 := by omega
        clear hR hI'
        go_wp2_with fail
        refine bodyPost_ret (v := .tuple #[.string (⟨T.toArray⟩ ++ ⟨[37].toArray⟩), .bool true]) (by simp [results, Tryd.results5, go_sem]) rfl ⟨?_, hB⟩
        rw [hE.out, ByteArray.mk_append_mk]
        rfl
      · have hrp : (0 : Int) < (r : Int) := by omega
        by_cases h6 : i = 6
        · subst h6
          have hE : Hid (R = none) := hR.out.symm.trans (pctI_none hr0 hI'.out)
          clear hR hI'
          go_wp2_with fail
          exact bodyPost_ret (v := pctV none) (by simp [results, Tryd.results5, go_sem, pctV]) rfl ⟨by rw [hE.out], hB⟩
        · have h6b : ((i : Int) == 6) = false := by simp; omega
          have hI2 : Hid _ := pctI_step hD (by omega) hr0 hI'.out
          have f1 : (10 * (r : Int) / (D : Int)) = ((10 * r / D : Nat) : Int) := by
            rw [show 10 * (r : Int) = ((10 * r : Nat) : Int) from by omega, Int.natCast_ediv]
          have f2 : (10 * (r : Int) % (D : Int)) = ((10 * r % D : Nat) : Int) := by
            rw [show 10 * (r : Int) = ((10 * r : Nat) : Int) from by omega, Int.natCast_emod]
          have hc : 10 * r / D < 10 := Nat.div_lt_of_lt_mul (by rw [Nat.mul_comm]; exact (Nat.mul_lt_mul_right (by decide)).2 hrD)
          generalize 10 * r / D = c at *
          generalize 10 * r % D = r' at *
          have hdc : ∀ W, _ := fun W => digitsOf_at (c : Int) c rfl (by omega) [ch c] (decDigits_one hc) W
          clear hI' hR
          by_cases h0 : i = 0
          · subst h0
            rw [if_pos rfl] at hI2
            have s1 : ¬ 9223372036854775807 < T.length + 1 := by omega
            have s2 : ¬ 9223372036854775807 < T.length + 1 + 1 := by omega
            go_wp2_with (first | (go_at_call 13; refine (hdc _).mono ?_; rintro e w1 ⟨rfl, hb1⟩))
            go_roundw
            case rel => exact ⟨1, r', T ++ [46] ++ [ch c], by omega, rfl, by rw [f2], by rw [← ByteArray.mk_append_mk, ← ByteArray.mk_append_mk], hI2.out, by simp; omega, below_step hB hb1⟩
            case measure => simp [RowKit.intOf]
          · have h0b : ((i : Int) == 0) = false := by simp; omega
            rw [if_neg h0, List.append_nil] at hI2
            have s1 : ¬ 9223372036854775807 < T.length + 1 := by omega
            go_wp2_with (first | (go_at_call 13; refine (hdc _).mono ?_; rintro e w1 ⟨rfl, hb1⟩))
            go_roundw
            case rel => exact ⟨i + 1, r', T ++ [ch c], by omega, by go_num, by rw [f2], by rw [← ByteArray.mk_append_mk], hI2.out, by simp; omega, below_step hB hb1⟩
            case measure => simp [RowKit.intOf]; omega

end Go.Proofs.YtemmljcmmjcngaaDoor

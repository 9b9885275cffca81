import Derived.Test.YtoippgmecnlhcaaGreatDoorJoin41
import Derived.Test.YtoippgmecnlhcaaGreatDoorTurnWWrt
namespace Go.Proofs.YtoippgmecnlhcaaGreatDoor.Q
open Go.RowKit
open Go.Lib (decDigits)

/-- A token that came in: its kind, place, text, number, divisor. -/
abbrev Tk := Int × Int × List UInt8 × Int × Int
def Rng (t : Tk) : Prop := t.2.2.1.length ≤ 140737488351232 ∧ (-9223372036854775808 ≤ t.2.2.2.1 ∧ t.2.2.2.1 ≤ 9223372036854775807) ∧ (-9223372036854775808 ≤ t.2.2.2.2 ∧ t.2.2.2.2 ≤ 9223372036854775807)
/-- What spelled tells of any token. -/
noncomputable def sayK (t : Tk) : List UInt8 := if t.1 = 1 ∨ t.1 = 7 then t.2.2.1 else if t.1 = 2 then X.amtL t.2.2.2.1 else if t.1 = 3 then Go.Lib.itoa t.2.2.2.1 else if t.1 = 4 then (X.pct t.2.2.2.1 t.2.2.2.2).getD [] else if t.1 = 5 then (if 0 ≤ t.2.2.2.1 ∧ t.2.2.2.1 ≤ 109572 then dtx t.2.2.2.1.toNat else []) else if t.1 = 6 then (X.qt t.2.2.1).getD [] else []

theorem dayPrint_gen (n : Int) (w : World) (hM : Mon w) : Calls Tryz.prog 52 #[.int .i64 n] w fun e w' => (∃ z : Int, e = .returned (.tuple #[.string ⟨(if 0 ≤ n ∧ n ≤ 109572 then dtx n.toNat else []).toArray⟩, .int .i64 z])) ∧ Below w.heap.size w w' := by
  by_cases h : 0 ≤ n ∧ n ≤ 109572
  · rw [if_pos h]
    obtain ⟨k, d, hA⟩ := D.at_ex n h.1 h.2
    obtain ⟨m, rfl⟩ : ∃ m : Nat, n = (m : Int) := ⟨n.toNat, by omega⟩
    refine (daysPrint_any m ⟨k, d, hA⟩ w hM).mono ?_
    rintro e w' ⟨rfl, hb⟩
    exact ⟨⟨0, rfl⟩, hb⟩
  · rw [if_neg h]
    refine (print_no n h w).mono ?_
    rintro e w' ⟨rfl, hb⟩
    exact ⟨⟨21, rfl⟩, hb⟩
theorem formatI_gen (n : Int) (hn : -9223372036854775808 ≤ n ∧ n ≤ 9223372036854775807) (w : World) (hX : X.Tab w) : Calls Tryz.prog 50 #[.int .i64 n, .int .i64 10] w fun e w' => e = .returned (.string ⟨(Go.Lib.itoa n).toArray⟩) ∧ Below w.heap.size w w' := by
  refine (Tryz.strconv_FormatInt_10 n hn.1 hn.2 w hX).mono ?_
  rintro e w' ⟨rfl, k, os, rfl⟩
  exact ⟨rfl, Go.Lib.below_grow _ _ (Nat.le_refl _) _ _⟩

set_option maxRecDepth 4000 in
set_option maxHeartbeats 2000000 in
theorem spelled_gen (t : Tk) (hr : Rng t) (W : World) (hM : Mon W) (hX : X.Tab W) : Calls Tryz.prog 38 #[.agg #[.int .i64 t.1, .int .i64 0, .string ⟨t.2.2.1.toArray⟩, .int .i64 t.2.2.2.1, .int .i64 t.2.2.2.2]] W fun e W' => e = .returned (.string ⟨(sayK t).toArray⟩) ∧ Below W.heap.size W W' := by
  obtain ⟨K, A, T, N, D0⟩ := t
  obtain ⟨hT, hN, hD⟩ := hr
  simp only at hT hN hD ⊢
  have hb := fun (v : Array Value) => (Below.refl W.heap.size W).alloc (Nat.le_refl _) (.cells v 60)
  obtain ⟨S, hS⟩ : ∃ S, sayK (K, A, T, N, D0) = S := ⟨_, rfl⟩
  rw [hS]
  clear hT
  by_cases h1 : K = 1
  · subst h1
    obtain rfl : T = S := hS
    go_enter Tryz.func38, Tryz.ntmps38
    go_wp2
    go_ret
    exact ⟨rfl, hb _⟩
  by_cases h7 : K = 7
  · subst h7
    obtain rfl : T = S := hS
    go_enter Tryz.func38, Tryz.ntmps38
    go_wp2
    go_ret
    exact ⟨rfl, hb _⟩
  by_cases h2 : K = 2
  · subst h2
    have hc := fun V h => X.amount_any N hN.1 hN.2 V h
    have e : X.amtL N = S := hS
    rw [e] at hc
    clear e hS hN hD
    go_enter Tryz.func38, Tryz.ntmps38
    go_wp2_with (go_at_call 49; refine (hc _ (hX.later (hb _))).mono ?_; rintro e w1 ⟨rfl, hb1⟩)
    go_ret
    exact ⟨rfl, below_step (hb _) hb1⟩
  by_cases h3 : K = 3
  · subst h3
    have hc := fun V h => formatI_gen N hN V h
    have e : Go.Lib.itoa N = S := hS
    rw [e] at hc
    clear e hS hN hD
    go_enter Tryz.func38, Tryz.ntmps38
    go_wp2_with (go_at_call 50; refine (hc _ (hX.later (hb _))).mono ?_; rintro e w1 ⟨rfl, hb1⟩)
    go_ret
    exact ⟨rfl, below_step (hb _) hb1⟩
  by_cases h4 : K = 4
  · subst h4
    have hc := fun V h => X.percent_any N D0 hN hD V h
    have hS' : (X.pct N D0).getD [] = S := hS
    unfold X.pctV at hc
    rw [hS'] at hc
    obtain ⟨ok, hok⟩ : ∃ ok, (X.pct N D0).isSome = ok := ⟨_, rfl⟩
    rw [hok] at hc
    clear hS hS' hok hN hD
    go_enter Tryz.func38, Tryz.ntmps38
    go_wp2_with (go_at_call 51; refine (hc _ (hX.later (hb _))).mono ?_; rintro e w1 ⟨rfl, hb1⟩)
    go_ret
    exact ⟨rfl, below_step (hb _) hb1⟩
  by_cases h5 : K = 5
  · subst h5
    have hc := fun V h => dayPrint_gen N V h
    have e : (if 0 ≤ N ∧ N ≤ 109572 then dtx N.toNat else []) = S := hS
    rw [e] at hc
    clear e hS hD
    go_enter Tryz.func38, Tryz.ntmps38
    go_wp2_with (go_at_call 52; refine (hc _ (hM.later (hb _))).mono ?_; rintro e w1 ⟨⟨z, rfl⟩, hb1⟩)
    go_ret
    exact ⟨rfl, below_step (hb _) hb1⟩
  by_cases h6 : K = 6
  · subst h6
    have hc := fun V => X.quote_any ⟨T.toArray⟩ V
    have hS' : (X.qt (ByteArray.mk T.toArray).data.toList).getD [] = S := hS
    unfold X.pctV at hc
    rw [hS'] at hc
    obtain ⟨ok, hok⟩ : ∃ ok, (X.qt (ByteArray.mk T.toArray).data.toList).isSome = ok := ⟨_, rfl⟩
    rw [hok] at hc
    clear hS hS' hok hN hD
    go_enter Tryz.func38, Tryz.ntmps38
    go_wp2_with (go_at_call 53; refine (hc _).mono ?_; rintro e w1 ⟨rfl, hb1⟩)
    go_ret
    exact ⟨rfl, below_step (hb _) hb1⟩
  have hS' : [] = S := by
    rw [← hS]
    unfold sayK
    simp [h1, h2, h3, h4, h5, h6, h7]
  subst hS'
  have k1 : (K == 1) = false := by simp [h1]
  have k2 : (K == 2) = false := by simp [h2]
  have k3 : (K == 3) = false := by simp [h3]
  have k4 : (K == 4) = false := by simp [h4]
  have k5 : (K == 5) = false := by simp [h5]
  have k6 : (K == 6) = false := by simp [h6]
  have k7 : (K == 7) = false := by simp [h7]
  clear hS hN hD
  go_enter Tryz.func38, Tryz.ntmps38
  go_wp2
  go_ret
  exact ⟨rfl, hb _⟩

/-- How long it is. -/
theorem sayK_len {t : Tk} (hr : Rng t) : (sayK t).length ≤ 140737488351232 := by
  obtain ⟨K, A, T, N, D0⟩ := t
  obtain ⟨hT, hN, hD⟩ := hr
  simp only at hT hN hD
  unfold sayK
  simp only
  split
  · exact hT
  · split
    · unfold X.amtL
      have h1 := dd_short (u := N.natAbs / 100) (by omega)
      have h2 := X.pad_length (N.natAbs % 100) 2
      have h3 := X.nDigits_le2 (u := N.natAbs % 100) (Nat.mod_lt _ (by decide))
      have h4 : (if N < 0 then [(45 : UInt8)] else []).length ≤ 1 := by split <;> simp
      rw [List.length_append, List.length_append, List.length_append, List.length_singleton]
      omega
    · split
      · unfold Go.Lib.itoa
        have h1 := dd_short (u := N.natAbs) (by omega)
        have h2 := dd_short (u := N.toNat) (by omega)
        split <;> simp <;> omega
      · split
        · cases hp : X.pct N D0 with
          | none => simp
          | some s =>
            unfold X.pct at hp
            split at hp
            · cases hp
            · unfold X.pctL at hp
              obtain ⟨l, hl, rfl⟩ := Option.map_eq_some_iff.1 hp
              have h1 := tl_short _ _ _ _ hl
              have h2 := dd_short (u := 100 * N.toNat / D0.toNat) (Nat.lt_of_le_of_lt (Nat.div_le_self _ _) (by omega))
              have h3 : (if l = [] then [] else (46 : UInt8) :: l).length ≤ 7 := by split <;> simp; omega
              rw [Option.getD_some, List.length_append, List.length_append, List.length_singleton]
              omega
        · split
          · split
            · rename_i hd
              obtain ⟨k, d, hA⟩ := D.at_ex N hd.1 hd.2
              obtain ⟨m, rfl⟩ : ∃ m : Nat, N = (m : Int) := ⟨N.toNat, by omega⟩
              have := spl_len (w := (5, [], m, 0)) (.inr (.inr (.inr (.inr (.inr (.inl ⟨rfl, k, d, hA⟩))))))
              have h2 : (dtx m).length ≤ 100 := this
              show (dtx m).length ≤ _
              omega
            · simp
          · split
            · cases hq : X.qt T with
              | none => simp
              | some s =>
                unfold X.qt at hq
                split at hq
                · rename_i hq2
                  cases hq
                  have := X.flat_len T
                  rw [Option.getD_some, List.length_append, List.length_append]
                  simp only [List.length_singleton]
                  omega
                · cases hq
            · simp

end Go.Proofs.YtoippgmecnlhcaaGreatDoor.Q

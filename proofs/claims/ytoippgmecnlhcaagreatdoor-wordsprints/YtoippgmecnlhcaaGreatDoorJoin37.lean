import Derived.Test.YtoippgmecnlhcaaGreatDoorJoin35
namespace Go.Proofs.YtoippgmecnlhcaaGreatDoor.Q
open Go.RowKit
open Go.Lib (decDigits)

/-- A token that came in: its kind, place, text, number, divisor. -/
abbrev Tk := Int × Int × List UInt8 × Int × Int
def Rng (t : Tk) : Prop := t.2.2.1.length ≤ 140737488351232 ∧ (-9223372036854775808 ≤ t.2.2.2.1 ∧ t.2.2.2.1 ≤ 9223372036854775807) ∧ (-9223372036854775808 ≤ t.2.2.2.2 ∧ t.2.2.2.2 ≤ 9223372036854775807)
/-- What spelled tells of any token. -/
noncomputable def sayK (t : Tk) : List UInt8 := if t.1 = 1 ∨ t.1 = 7 then t.2.2.1 else if t.1 = 2 then X.amtL t.2.2.2.1 else if t.1 = 3 then Go.Lib.itoa t.2.2.2.1 else if t.1 = 4 then (X.pct t.2.2.2.1 t.2.2.2.2).getD [] else if t.1 = 5 then (if 0 ≤ t.2.2.2.1 ∧ t.2.2.2.1 ≤ 109572 then dtx t.2.2.2.1.toNat else []) else if t.1 = 6 then (X.qt t.2.2.1).getD [] else []

theorem dayPrint_gen (n : Int) (w : World) (hM : Mon w) : Calls Tryz.prog 52 #[.int .i64 n] w fun e w' => (∃ z : Int, e = .returned (.tuple #[.string ⟨(if 0 ≤ n ∧ n ≤ 109572 then dtx n.toNat else []).toArray⟩, .int .i64 z])) ∧ Below w.heap.size w w' := by
  by_cases h : 0 ≤ n ∧ n ≤ 109572
  · rw [if_pos h]
    obtain ⟨k, d, hA⟩ := D.at_ex n h.1 h.2
    obtain ⟨m, rfl⟩ : ∃ m : Nat, n = (m : Int) := ⟨n.toNat, by omega⟩
    refine (daysPrint_any m ⟨k, d, hA⟩ w hM).mono ?_
    rintro e w' ⟨rfl, hb⟩
    exact ⟨⟨0, rfl⟩, hb⟩
  · rw [if_neg h]
    refine (print_no n h w).mono ?_
    rintro e w' ⟨rfl, hb⟩
    exact ⟨⟨21, rfl⟩, hb⟩
theorem formatI_gen (n : Int) (hn : -9223372036854775808 ≤ n ∧ n ≤ 9223372036854775807) (w : World) (hX : X.Tab w) : Calls Tryz.prog 50 #[.int .i64 n, .int .i64 10] w fun e w' => e = .returned (.string ⟨(Go.Lib.itoa n).toArray⟩) ∧ Below w.heap.size w w' := by
  refine (Tryz.strconv_FormatInt_10 n hn.1 hn.2 w hX).mono ?_
  rintro e w' ⟨rfl, k, os, rfl⟩
  exact ⟨rfl, Go.Lib.below_grow _ _ (Nat.le_refl _) _ _⟩

set_option maxRecDepth 4000 in
set_option maxHeartbeats 2000000 in
theorem spelled_gen (t : Tk) (hr : Rng t) (W : World) (hM : Mon W) (hX : X.Tab W) : Calls Tryz.prog 38 #[.agg #[.int .i64 t.1, .int .i64 0, .string ⟨t.2.2.1.toArray⟩, .int .i64 t.2.2.2.1, .int .i64 t.2.2.2.2]] W fun e W' => e = .returned (.string ⟨(sayK t).toArray⟩) ∧ Below W.heap.size W W' := by
  obtain ⟨K, A, T, N, D0⟩ := t
  obtain ⟨hT, hN, hD⟩ := hr
  simp only at hT hN hD ⊢
  have hb := fun (v : Array Value) => (Below.refl W.heap.size W).alloc (Nat.le_refl _) (.cells v 60)
  obtain ⟨S, hS⟩ : ∃ S, sayK (K, A, T, N, D0) = S := ⟨_, rfl⟩
  rw [hS]
  clear hT
  by_cases h1 : K = 1
  · subst h1
    obtain rfl : T = S := hS
    go_enter Tryz.func38, Tryz.ntmps38
    go_wp2
    go_ret
    exact ⟨rfl, hb _⟩
  by_cases h7 : K = 7
  · subst h7
    obtain rfl : T = S := hS
    go_enter Tryz.func38, Tryz.ntmps38
    go_wp2
    go_ret
    exact ⟨rfl, hb _⟩
  by_cases h2 : K = 2
  · subst h2
    have hc := fun V h => X.amount_any N hN.1 hN.2 V h
    have e : X.amtL N = S := hS
    rw [e] at hc
    clear e hS hN hD
    go_enter Tryz.func38, Tryz.ntmps38
    go_wp2_with (go_at_call 49; refine (hc _ (hX.later (hb _))).mono ?_; rintro e w1 ⟨rfl, hb1⟩)
    go_ret
    exact ⟨rfl, below_step (hb _) hb1⟩
  by_cases h3 : K = 3
  · subst h3
    have hc := fun V h => formatI_gen N hN V h
    have e : Go.Lib.itoa N = S := hS
    rw [e] at hc
    clear e hS hN hD
    go_enter Tryz.func38, Tryz.ntmps38
    go_wp2_with (go_at_call 50; refine (hc _ (hX.later (hb _))).mono ?_; rintro e w1 ⟨rfl, hb1⟩)
    go_ret
    exact ⟨rfl, below_step (hb _) hb1⟩
  by_cases h4 : K = 4
  · subst h4
    have hc := fun V h => X.percent_any N D0 hN hD V h
    have hS' : (X.pct N D0).getD [] = S := hS
    unfold X.pctV at hc
    rw [hS'] at hc
    obtain ⟨ok, hok⟩ : ∃ ok, (X.pct N D0).isSome = ok := ⟨_, rfl⟩
    rw [hok] at hc
    clear hS hS' hok hN hD
    go_enter Tryz.func38, Tryz.ntmps38
    go_wp2_with (go_at_call 51; refine (hc _ (hX.later (hb _))).mono ?_; rintro e w1 ⟨rfl, hb1⟩)
    go_ret
    exact ⟨rfl, below_step (hb _) hb1⟩
  by_cases h5 : K = 5
  · subst h5
    have hc := fun V h => dayPrint_gen N V h
    have e : (if 0 ≤ N ∧ N ≤ 109572 then dtx N.toNat else []) = S := hS
    rw [e] at hc
    clear e hS hD
    go_enter Tryz.func38, Tryz.ntmps38
    go_wp2_with (go_at_call 52; refine (hc _ (hM.later (hb _))).mono ?_; rintro e w1 ⟨⟨z, rfl⟩, hb1⟩)
    go_ret
    exact ⟨rfl, below_step (hb _) hb1⟩
  by_cases h6 : K = 6
  · subst h6
    have hc := fun V => X.quote_any ⟨T.toArray⟩ V
    have hS' : (X.qt (ByteArray.mk T.toArray).data.toList).getD [] = S := hS
    unfold X.pctV at hc
    rw [hS'] at hc
    obtain ⟨ok, hok⟩ : ∃ ok, (X.qt (ByteArray.mk T.toArray).data.toList).isSome = ok := ⟨_, rfl⟩
    rw [hok] at hc
    clear hS hS' hok hN hD
    go_enter Tryz.func38, Tryz.ntmps38
    go_wp2_with (go_at_call 53; refine (hc _).mono ?_; rintro e w1 ⟨rfl, hb1⟩)
    go_ret
    exact ⟨rfl, below_step (hb _) hb1⟩
  have hS' : [] = S := by
    rw [← hS]
    unfold sayK
    simp [h1, h2, h3, h4, h5, h6, h7]
  subst hS'
  have k1 : (K == 1) = false := by simp [h1]
  have k2 : (K == 2) = false := by simp [h2]
  have k3 : (K == 3) = false := by simp [h3]
  have k4 : (K == 4) = false := by simp [h4]
  have k5 : (K == 5) = false := by simp [h5]
  have k6 : (K == 6) = false := by simp [h6]
  have k7 : (K == 7) = false := by simp [h7]
  clear hS hN hD
  go_enter Tryz.func38, Tryz.ntmps38
  go_wp2
  go_ret
  exact ⟨rfl, hb _⟩

/-- How long it is. -/
theorem sayK_len {t : Tk} (hr : Rng t) : (sayK t).length ≤ 140737488351232 := by
  obtain ⟨K, A, T, N, D0⟩ := t
  obtain ⟨hT, hN, hD⟩ := hr
  simp only at hT hN hD
  unfold sayK
  simp only
  split
  · exact hT
  · split
    · unfold X.amtL
      have h1 := dd_short (u := N.natAbs / 100) (by omega)
      have h2 := X.pad_length (N.natAbs % 100) 2
      have h3 := X.nDigits_le2 (u := N.natAbs % 100) (Nat.mod_lt _ (by decide))
      have h4 : (if N < 0 then [(45 : UInt8)] else []).length ≤ 1 := by split <;> simp
      rw [List.length_append, List.length_append, List.length_append, List.length_singleton]
      omega
    · split
      · unfold Go.Lib.itoa
        have h1 := dd_short (u := N.natAbs) (by omega)
        have h2 := dd_short (u := N.toNat) (by omega)
        split <;> simp <;> omega
      · split
        · cases hp : X.pct N D0 with
          | none => simp
          | some s =>
            unfold X.pct at hp
            split at hp
            · cases hp
            · unfold X.pctL at hp
              obtain ⟨l, hl, rfl⟩ := Option.map_eq_some_iff.1 hp
              have h1 := tl_short _ _ _ _ hl
              have h2 := dd_short (u := 100 * N.toNat / D0.toNat) (Nat.lt_of_le_of_lt (Nat.div_le_self _ _) (by omega))
              have h3 : (if l = [] then [] else (46 : UInt8) :: l).length ≤ 7 := by split <;> simp; omega
              rw [Option.getD_some, List.length_append, List.length_append, List.length_singleton]
              omega
        · split
          · split
            · rename_i hd
              obtain ⟨k, d, hA⟩ := D.at_ex N hd.1 hd.2
              obtain ⟨m, rfl⟩ : ∃ m : Nat, N = (m : Int) := ⟨N.toNat, by omega⟩
              have := spl_len (w := (5, [], m, 0)) (.inr (.inr (.inr (.inr (.inr (.inl ⟨rfl, k, d, hA⟩))))))
              have h2 : (dtx m).length ≤ 100 := this
              show (dtx m).length ≤ _
              omega
            · simp
          · split
            · cases hq : X.qt T with
              | none => simp
              | some s =>
                unfold X.qt at hq
                split at hq
                · rename_i hq2
                  cases hq
                  have := X.flat_len T
                  rw [Option.getD_some, List.length_append, List.length_append]
                  simp only [List.length_singleton]
                  omega
                · cases hq
            · simp

end Go.Proofs.YtoippgmecnlhcaaGreatDoor.Q


namespace Go.Proofs.YtoippgmecnlhcaaGreatDoor.Q
open Go.RowKit
open Go.Lib (decDigits)

/-- Tokens that are not alike. -/
theorem eqTok_ne (a b n d a' b' n' d' : Int) (t t' : ByteArray) (h : ¬ (a = a' ∧ b = b' ∧ t = t' ∧ n = n' ∧ d = d')) (w : World) : (Op.equalIn 10000 60 (.agg #[.int .i64 a, .int .i64 b, .string t, .int .i64 n, .int .i64 d]) (.agg #[.int .i64 a', .int .i64 b', .string t', .int .i64 n', .int .i64 d'])).run Tryz.prog w = .ok false w := by
  have hS : Tryz.prog.underlying 60 = some (.struct (Tryz.prog.fieldsOf 60)) := by kernel_rfl
  have hp : Tryz.prog.stoodInHeld 60 = false := by kernel_rfl
  rw [show (10000 : Nat) = 9999 + 1 from rfl, run_equalIn_agg w 9999 60 _ _ hS hp]
  simp only [Program.fieldsOf, Tryz.underlying60]
  by_cases h1 : a = a'
  · subst h1
    by_cases h2 : b = b'
    · subst h2
      by_cases h3 : t = t'
      · subst h3
        by_cases h4 : n = n'
        · subst h4
          have h5 : d ≠ d' := fun h5 => h ⟨rfl, rfl, rfl, rfl, h5⟩
          have h5' : (d == d') = false := by simp [h5]
          clear h
          go_simp
        · have h4' : (n == n') = false := by simp [h4]
          clear h
          go_simp
      · clear h
        go_simp
        intro e
        exfalso
        apply h3
        obtain ⟨⟨l⟩⟩ := t
        obtain ⟨⟨l'⟩⟩ := t'
        simp at e
        rw [e]
    · have h2' : (b == b') = false := by simp [h2]
      clear h
      go_simp
  · have h1' : (a == a') = false := by simp [h1]
    clear h
    go_simp
theorem eqlTok_ne (a b n d a' b' n' d' : Int) (t t' : ByteArray) (h : ¬ (a = a' ∧ b = b' ∧ t = t' ∧ n = n' ∧ d = d')) (w : World) : (binOp .eql 60 (.agg #[.int .i64 a, .int .i64 b, .string t, .int .i64 n, .int .i64 d]) (.agg #[.int .i64 a', .int .i64 b', .string t', .int .i64 n', .int .i64 d'])).run Tryz.prog w = .ok (.bool false) w := by
  rw [run_eql_struct, eqTok_ne _ _ _ _ _ _ _ _ _ _ h]
  rfl

/-- The word that a token's text is, if it is that token. -/
noncomputable def okW (t : Tk) : Option Wd := match wordS (sayK t) 0 with
  | .ok (w, e) => if e = (sayK t).length ∧ (w.1 : Int) = t.1 ∧ w.2.1 = t.2.2.1 ∧ (w.2.2.1 : Int) = t.2.2.2.1 ∧ (w.2.2.2 : Int) = t.2.2.2.2 then some w else none
  | .error _ => none
/-- What written answers. -/
noncomputable def wtK (t : Tk) : List UInt8 × Bool := if t.1 = 8 then ([10], decide (t.2.2.1 = [] ∧ t.2.2.2.1 = 0 ∧ t.2.2.2.2 = 0)) else (sayK t, (okW t).isSome)

set_option maxRecDepth 4000 in
set_option maxHeartbeats 2000000 in
theorem written_gen8 (t : Tk) (h8 : t.1 = 8) (W : World) : Calls Tryz.prog 14 #[.agg #[.int .i64 t.1, .int .i64 t.2.1, .string ⟨t.2.2.1.toArray⟩, .int .i64 t.2.2.2.1, .int .i64 t.2.2.2.2]] W fun e W' => e = .returned (.tuple #[.string ⟨(wtK t).1.toArray⟩, .bool (wtK t).2]) ∧ Below W.heap.size W W' := by
  obtain ⟨K, A, T, N, D0⟩ := t
  simp only at h8
  subst h8
  have hb := (Below.refl W.heap.size W).alloc (Nat.le_refl _) (.cells #[.int .i64 8, .int .i64 0, .string ⟨T.toArray⟩, .int .i64 N, .int .i64 D0] 60)
  by_cases hz : T = [] ∧ N = 0 ∧ D0 = 0
  · obtain ⟨rfl, rfl, rfl⟩ := hz
    have he := eqlTok 8 0 0 0 ⟨#[]⟩
    show Calls _ _ _ _ fun e W' => e = .returned (.tuple #[.string ⟨#[10]⟩, .bool true]) ∧ _
    go_enter Tryz.func14, Tryz.ntmps14
    go_wp2
    go_quiet (fail)
    have hbq := below_drewN hb nq
    go_wp2
    exact bodyPost_ret (v := .tuple #[.string ⟨#[10]⟩, .bool true]) (by simp [results, Tryz.results14, go_sem]) rfl ⟨rfl, hbq⟩
  · have he := eqlTok_ne 8 0 N D0 8 0 0 0 ⟨T.toArray⟩ ⟨#[]⟩ (fun ⟨_, _, h3, h4, h5⟩ => hz ⟨by
        have := congrArg (fun b : ByteArray => b.data.toList) h3
        simpa using this, h4, h5⟩)
    have hwt : wtK (8, A, T, N, D0) = ([10], false) := by
      unfold wtK
      rw [if_pos rfl, decide_eq_false hz]
    rw [hwt]
    clear hwt hz
    go_enter Tryz.func14, Tryz.ntmps14
    go_wp2
    go_quiet (fail)
    have hbq := below_drewN hb nq
    go_wp2
    exact bodyPost_ret (v := .tuple #[.string ⟨#[10]⟩, .bool false]) (by simp [results, Tryz.results14, go_sem]) rfl ⟨rfl, hbq⟩

set_option maxRecDepth 8000 in
set_option maxHeartbeats 4000000 in
theorem written_gen1 (K A N D0 : Int) (T S : List UInt8) (h8 : K ≠ 8) (hln : S.length ≤ 140737488351232) (W : World) (hC : Cls W) (hE : ErrR W) (hM : Mon W) (hS : Sgn W)
    (hsp : ∀ V, Below W.heap.size W V → Calls Tryz.prog 38 #[.agg #[.int .i64 K, .int .i64 0, .string ⟨T.toArray⟩, .int .i64 N, .int .i64 D0]] V fun e V' => e = .returned (.string ⟨S.toArray⟩) ∧ Below V.heap.size V V')
    (ok : Bool) (hok : ok = match wordS S 0 with | .ok (w, e) => decide (e = S.length ∧ (w.1 : Int) = K ∧ w.2.1 = T ∧ (w.2.2.1 : Int) = N ∧ (w.2.2.2 : Int) = D0) | .error _ => false) :
    Calls Tryz.prog 14 #[.agg #[.int .i64 K, .int .i64 A, .string ⟨T.toArray⟩, .int .i64 N, .int .i64 D0]] W fun e W' => e = .returned (.tuple #[.string ⟨S.toArray⟩, .bool ok]) ∧ Below W.heap.size W W' := by
  have hwd := fun V (hb : Below W.heap.size W V) => word_any ⟨S.toArray⟩ 0 (Nat.zero_le _) (by show S.toArray.size ≤ 140737488351232; rw [List.size_toArray]; omega) V (hC.later hb) (hE.later hb) (hM.later hb) (hS.later hb)
  have h8' : (K == 8) = false := by simp [h8]
  have hsz : (ByteArray.mk S.toArray).size = S.length := by show S.toArray.size = _; simp
  have hb := (Below.refl W.heap.size W).alloc (Nat.le_refl _) (.cells #[.int .i64 K, .int .i64 0, .string ⟨T.toArray⟩, .int .i64 N, .int .i64 D0] 60)
  have hc : ∀ W', Below (W.heap.size + 1) (W.alloc (.cells #[.int .i64 K, .int .i64 0, .string ⟨T.toArray⟩, .int .i64 N, .int .i64 D0] 60)) W' → W'.cell? ⟨W.heap.size, 0, none⟩ = some (.int .i64 K) ∧ W'.cell? ⟨W.heap.size, 1, none⟩ = some (.int .i64 0) ∧ W'.cell? ⟨W.heap.size, 2, none⟩ = some (.string ⟨T.toArray⟩) ∧ W'.cell? ⟨W.heap.size, 3, none⟩ = some (.int .i64 N) ∧ W'.cell? ⟨W.heap.size, 4, none⟩ = some (.int .i64 D0) := fun W' hb' =>
    ⟨(hb'.cell (p := ⟨W.heap.size, 0, none⟩) (Nat.lt_succ_self _)).trans (by simp), (hb'.cell (p := ⟨W.heap.size, 1, none⟩) (Nat.lt_succ_self _)).trans (by simp), (hb'.cell (p := ⟨W.heap.size, 2, none⟩) (Nat.lt_succ_self _)).trans (by simp), (hb'.cell (p := ⟨W.heap.size, 3, none⟩) (Nat.lt_succ_self _)).trans (by simp), (hb'.cell (p := ⟨W.heap.size, 4, none⟩) (Nat.lt_succ_self _)).trans (by simp)⟩
  have h1 := hsp _ hb
  have hsz1 : (W.alloc (.cells #[.int .i64 K, .int .i64 0, .string ⟨T.toArray⟩, .int .i64 N, .int .i64 D0] 60)).heap.size = W.heap.size + 1 := by simp
  rw [hsz1] at h1
  clear hC hE hM hS h8 hsp
  have hw0 : wordS (ByteArray.mk S.toArray).data.toList 0 = wordS S 0 := rfl
  rw [hw0] at hwd
  clear hw0
  cases hw : wordS S 0 with
  | error pn =>
    obtain ⟨p, n⟩ := pn
    rw [hw] at hok hwd
    obtain rfl : ok = false := hok
    have hn := (wordS_err hw).1
    have hn' : ((n : Int) == 0) = false := by simp; omega
    unfold resV tokC at hwd
    simp only at hwd
    clear hw hn
    go_enter Tryz.func14, Tryz.ntmps14
    go_wp2_with (first | (go_at_call 38; refine h1.mono ?_; rintro e w1 ⟨rfl, hb1⟩; have hB1 : Below W.heap.size W w1 := hb.trans (hb1.mono (by omega)); have h2 := hwd w1 hB1) | (go_at_call 39; refine h2.mono ?_; rintro e w2 ⟨rfl, hb2⟩; have hB2 := below_step hB1 hb2; have hsw : W.heap.size + 1 ≤ w1.heap.size := (by have := hb1.size; rw [hsz1] at this; exact this); obtain ⟨c0, c1, c2, c3, c4⟩ := hc w2 (hb1.trans (hb2.mono hsw)); have hsw2 := hB2.size))
    have hB9 := hB2.alloc hB2.size (.cells #[.int .i64 0, .int .i64 (p : Int), .string ⟨#[]⟩, .int .i64 0, .int .i64 0] 60)
    clear hc h1 h2 hb hsz1 hb1 hb2 c0 c1 c2 c3 c4 hwd
    go_quiet (fail)
    have hbq := below_drewN hB9 nq
    go_wp2
    exact bodyPost_ret (v := .tuple #[.string ⟨S.toArray⟩, .bool false]) (by simp [results, Tryz.results14, go_sem]) rfl ⟨rfl, hbq⟩
  | ok we =>
    obtain ⟨⟨k2, t2, n2, d2⟩, e2⟩ := we
    rw [hw] at hok hwd
    unfold resV tokC at hwd
    simp only at hwd hok
    clear hw
    by_cases hl : e2 = S.length
    · subst hl
      have hB3 : ∀ w2, Below W.heap.size W w2 → Below W.heap.size W (w2.alloc (.cells #[.int .i64 (k2 : Int), .int .i64 0, .string ⟨t2.toArray⟩, .int .i64 (n2 : Int), .int .i64 (d2 : Int)] 60)) := fun w2 h => h.alloc h.size _
      by_cases hq : (k2 : Int) = K ∧ t2 = T ∧ (n2 : Int) = N ∧ (d2 : Int) = D0
      · obtain rfl : ok = true := by rw [hok]; exact decide_eq_true ⟨rfl, hq⟩
        obtain ⟨rfl, rfl, rfl, rfl⟩ := hq
        have he := eqlTok (k2 : Int) 0 (n2 : Int) (d2 : Int) ⟨t2.toArray⟩
        clear hok
        go_enter Tryz.func14, Tryz.ntmps14
        go_wp2_with (first | (go_at_call 38; refine h1.mono ?_; rintro e w1 ⟨rfl, hb1⟩; have hB1 : Below W.heap.size W w1 := hb.trans (hb1.mono (by omega)); have h2 := hwd w1 hB1) | (go_at_call 39; refine h2.mono ?_; rintro e w2 ⟨rfl, hb2⟩; have hB2 := below_step hB1 hb2; have hsw : W.heap.size + 1 ≤ w1.heap.size := (by have := hb1.size; rw [hsz1] at this; exact this); obtain ⟨c0, c1, c2, c3, c4⟩ := hc w2 (hb1.trans (hb2.mono hsw)); have hsw2 := hB2.size))
        have hbx := (hb1.trans (hb2.mono hsw)).alloc (by have := hb2.size; omega) (.cells #[.int .i64 (k2 : Int), .int .i64 0, .string ⟨t2.toArray⟩, .int .i64 (n2 : Int), .int .i64 (d2 : Int)] 60)
        obtain ⟨d0, d1, d2', d3, d4⟩ := hc _ hbx
        have hB4 := hB3 _ hB2
        clear hbx hc h1 h2 hb hsz1 hb1 hb2 c0 c1 c2 c3 c4 hwd hB3
        go_quiet (fail)
        have hbq := below_drewN hB4 nq
        go_wp2
        exact bodyPost_ret (v := .tuple #[.string ⟨S.toArray⟩, .bool true]) (by simp [results, Tryz.results14, go_sem]) rfl ⟨rfl, hbq⟩
      · obtain rfl : ok = false := by rw [hok]; exact decide_eq_false (fun h => hq h.2)
        have he := eqlTok_ne (k2 : Int) 0 (n2 : Int) (d2 : Int) K 0 N D0 ⟨t2.toArray⟩ ⟨T.toArray⟩ (fun ⟨g1, _, g3, g4, g5⟩ => hq ⟨g1, by
          have := congrArg (fun b : ByteArray => b.data.toList) g3
          simpa using this, g4, g5⟩)
        clear hok hq
        go_enter Tryz.func14, Tryz.ntmps14
        go_wp2_with (first | (go_at_call 38; refine h1.mono ?_; rintro e w1 ⟨rfl, hb1⟩; have hB1 : Below W.heap.size W w1 := hb.trans (hb1.mono (by omega)); have h2 := hwd w1 hB1) | (go_at_call 39; refine h2.mono ?_; rintro e w2 ⟨rfl, hb2⟩; have hB2 := below_step hB1 hb2; have hsw : W.heap.size + 1 ≤ w1.heap.size := (by have := hb1.size; rw [hsz1] at this; exact this); obtain ⟨c0, c1, c2, c3, c4⟩ := hc w2 (hb1.trans (hb2.mono hsw)); have hsw2 := hB2.size))
        have hbx := (hb1.trans (hb2.mono hsw)).alloc (by have := hb2.size; omega) (.cells #[.int .i64 (k2 : Int), .int .i64 0, .string ⟨t2.toArray⟩, .int .i64 (n2 : Int), .int .i64 (d2 : Int)] 60)
        obtain ⟨d0, d1, d2', d3, d4⟩ := hc _ hbx
        have hB4 := hB3 _ hB2
        clear hbx hc h1 h2 hb hsz1 hb1 hb2 c0 c1 c2 c3 c4 hwd hB3
        go_quiet (fail)
        have hbq := below_drewN hB4 nq
        go_wp2
        exact bodyPost_ret (v := .tuple #[.string ⟨S.toArray⟩, .bool false]) (by simp [results, Tryz.results14, go_sem]) rfl ⟨rfl, hbq⟩
    · obtain rfl : ok = false := by rw [hok]; exact decide_eq_false (fun h => hl h.1)
      have hl' : ((e2 : Int) == (S.length : Int)) = false := by simp; omega
      clear hok hl
      go_enter Tryz.func14, Tryz.ntmps14
      go_wp2_with (first | (go_at_call 38; refine h1.mono ?_; rintro e w1 ⟨rfl, hb1⟩; have hB1 : Below W.heap.size W w1 := hb.trans (hb1.mono (by omega)); have h2 := hwd w1 hB1) | (go_at_call 39; refine h2.mono ?_; rintro e w2 ⟨rfl, hb2⟩; have hB2 := below_step hB1 hb2; have hsw : W.heap.size + 1 ≤ w1.heap.size := (by have := hb1.size; rw [hsz1] at this; exact this); obtain ⟨c0, c1, c2, c3, c4⟩ := hc w2 (hb1.trans (hb2.mono hsw)); have hsw2 := hB2.size))
      have hB9 := hB2.alloc hB2.size (.cells #[.int .i64 (k2 : Int), .int .i64 0, .string ⟨t2.toArray⟩, .int .i64 (n2 : Int), .int .i64 (d2 : Int)] 60)
      clear hc h1 h2 hb hsz1 hb1 hb2 c0 c1 c2 c3 c4 hwd
      go_quiet (fail)
      have hbq := below_drewN hB9 nq
      go_wp2
      exact bodyPost_ret (v := .tuple #[.string ⟨S.toArray⟩, .bool false]) (by simp [results, Tryz.results14, go_sem]) rfl ⟨rfl, hbq⟩

theorem written_gen (t : Tk) (hr : Rng t) (W : World) (hC : Cls W) (hE : ErrR W) (hM : Mon W) (hS : Sgn W) (hX : X.Tab W) : Calls Tryz.prog 14 #[.agg #[.int .i64 t.1, .int .i64 t.2.1, .string ⟨t.2.2.1.toArray⟩, .int .i64 t.2.2.2.1, .int .i64 t.2.2.2.2]] W fun e W' => e = .returned (.tuple #[.string ⟨(wtK t).1.toArray⟩, .bool (wtK t).2]) ∧ Below W.heap.size W W' := by
  by_cases h8 : t.1 = 8
  · exact written_gen8 t h8 W
  · have hwt : wtK t = (sayK t, (okW t).isSome) := if_neg h8
    rw [hwt]
    refine written_gen1 t.1 t.2.1 t.2.2.2.1 t.2.2.2.2 t.2.2.1 (sayK t) h8 (sayK_len hr) W hC hE hM hS (fun V hb => spelled_gen t hr V (hM.later hb) (hX.later hb)) _ ?_
    unfold okW
    cases wordS (sayK t) 0 with
    | error p => rfl
    | ok we =>
      obtain ⟨w, e⟩ := we
      simp only
      split
      · rename_i h
        rw [decide_eq_true h]
        rfl
      · rename_i h
        rw [decide_eq_false h]
        rfl
theorem wtK_len {t : Tk} (hr : Rng t) : (wtK t).1.length ≤ 140737488351232 := by
  unfold wtK
  split
  · simp
  · exact sayK_len hr

end Go.Proofs.YtoippgmecnlhcaaGreatDoor.Q

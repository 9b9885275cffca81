import Derived.Test.YtoippgmecnlhcaaGreatDoorTurnWAny
namespace Go.Proofs.YtoippgmecnlhcaaGreatDoor.Q
open Go.RowKit
open Go.Lib (decDigits)

/-- Tokens that are not alike. -/
theorem eqTok_ne (a b n d a' b' n' d' : Int) (t t' : ByteArray) (h : ¬ (a = a' ∧ b = b' ∧ t = t' ∧ n = n' ∧ d = d')) (w : World) : (Op.equalIn 10000 60 (.agg #[.int .i64 a, .int .i64 b, .string t, .int .i64 n, .int .i64 d]) (.agg #[.int .i64 a', .int .i64 b', .string t', .int .i64 n', .int .i64 d'])).run Tryz.prog w = .ok false w := by
  have hS : Tryz.prog.underlying 60 = some (.struct (Tryz.prog.fieldsOf 60)) := by kernel_rfl
  have hp : Tryz.prog.stoodInHeld 60 = false := by kernel_rfl
  rw [show (10000 : Nat) = 9999 + 1 from rfl, run_equalIn_agg w 9999 60 _ _ hS hp]
  simp only [Program.fieldsOf, Tryz.underlying60]
  by_cases h1 : a = a'
  · subst h1
    by_cases h2 : b = b'
    · subst h2
      by_cases h3 : t = t'
      · subst h3
        by_cases h4 : n = n'
        · subst h4
          have h5 : d ≠ d' := fun h5 => h ⟨rfl, rfl, rfl, rfl, h5⟩
          have h5' : (d == d') = false := by simp [h5]
          clear h
          go_simp
        · have h4' : (n == n') = false := by simp [h4]
          clear h
          go_simp
      · clear h
        go_simp
        intro e
        exfalso
        apply h3
        obtain ⟨⟨l⟩⟩ := t
        obtain ⟨⟨l'⟩⟩ := t'
        simp at e
        rw [e]
    · have h2' : (b == b') = false := by simp [h2]
      clear h
      go_simp
  · have h1' : (a == a') = false := by simp [h1]
    clear h
    go_simp
theorem eqlTok_ne (a b n d a' b' n' d' : Int) (t t' : ByteArray) (h : ¬ (a = a' ∧ b = b' ∧ t = t' ∧ n = n' ∧ d = d')) (w : World) : (binOp .eql 60 (.agg #[.int .i64 a, .int .i64 b, .string t, .int .i64 n, .int .i64 d]) (.agg #[.int .i64 a', .int .i64 b', .string t', .int .i64 n', .int .i64 d'])).run Tryz.prog w = .ok (.bool false) w := by
  rw [run_eql_struct, eqTok_ne _ _ _ _ _ _ _ _ _ _ h]
  rfl

/-- The word that a token's text is, if it is that token. -/
noncomputable def okW (t : Tk) : Option Wd := match wordS (sayK t) 0 with
  | .ok (w, e) => if e = (sayK t).length ∧ (w.1 : Int) = t.1 ∧ w.2.1 = t.2.2.1 ∧ (w.2.2.1 : Int) = t.2.2.2.1 ∧ (w.2.2.2 : Int) = t.2.2.2.2 then some w else none
  | .error _ => none
/-- What written answers. -/
noncomputable def wtK (t : Tk) : List UInt8 × Bool := if t.1 = 8 then ([10], decide (t.2.2.1 = [] ∧ t.2.2.2.1 = 0 ∧ t.2.2.2.2 = 0)) else (sayK t, (okW t).isSome)

set_option maxRecDepth 4000 in
set_option maxHeartbeats 2000000 in
theorem written_gen8 (t : Tk) (h8 : t.1 = 8) (W : World) : Calls Tryz.prog 14 #[.agg #[.int .i64 t.1, .int .i64 t.2.1, .string ⟨t.2.2.1.toArray⟩, .int .i64 t.2.2.2.1, .int .i64 t.2.2.2.2]] W fun e W' => e = .returned (.tuple #[.string ⟨(wtK t).1.toArray⟩, .bool (wtK t).2]) ∧ Below W.heap.size W W' := by
  obtain ⟨K, A, T, N, D0⟩ := t
  simp only at h8
  subst h8
  have hb := (Below.refl W.heap.size W).alloc (Nat.le_refl _) (.cells #[.int .i64 8, .int .i64 0, .string ⟨T.toArray⟩, .int .i64 N, .int .i64 D0] 60)
  by_cases hz : T = [] ∧ N = 0 ∧ D0 = 0
  · obtain ⟨rfl, rfl, rfl⟩ := hz
    have he := eqlTok 8 0 0 0 ⟨#[]⟩
    show Calls _ _ _ _ fun e W' => e = .returned (.tuple #[.string ⟨#[10]⟩, .bool true]) ∧ _
    go_enter Tryz.func14, Tryz.ntmps14
    go_wp2
    go_quiet (fail)
    have hbq := below_drewN hb nq
    go_wp2
    exact bodyPost_ret (v := .tuple #[.string ⟨#[10]⟩, .bool true]) (by simp [results, Tryz.results14, go_sem]) rfl ⟨rfl, hbq⟩
  · have he := eqlTok_ne 8 0 N D0 8 0 0 0 ⟨T.toArray⟩ ⟨#[]⟩ (fun ⟨_, _, h3, h4, h5⟩ => hz ⟨by
        have := congrArg (fun b : ByteArray => b.data.toList) h3
        simpa using this, h4, h5⟩)
    have hwt : wtK (8, A, T, N, D0) = ([10], false) := by
      unfold wtK
      rw [if_pos rfl, decide_eq_false hz]
    rw [hwt]
    clear hwt hz
    go_enter Tryz.func14, Tryz.ntmps14
    go_wp2
    go_quiet (fail)
    have hbq := below_drewN hb nq
    go_wp2
    exact bodyPost_ret (v := .tuple #[.string ⟨#[10]⟩, .bool false]) (by simp [results, Tryz.results14, go_sem]) rfl ⟨rfl, hbq⟩

set_option maxRecDepth 8000 in
set_option maxHeartbeats 4000000 in
theorem written_gen1 (K A N D0 : Int) (T S : List UInt8) (h8 : K ≠ 8) (hln : S.length ≤ 140737488351232) (W : World) (hC : Cls W) (hE : ErrR W) (hM : Mon W) (hS : Sgn W)
    (hsp : ∀ V, Below W.heap.size W V → Calls Tryz.prog 38 #[.agg #[.int .i64 K, .int .i64 0, .string ⟨T.toArray⟩, .int .i64 N, .int .i64 D0]] V fun e V' => e = .returned (.string ⟨S.toArray⟩) ∧ Below V.heap.size V V')
    (ok : Bool) (hok : ok = match wordS S 0 with | .ok (w, e) => decide (e = S.length ∧ (w.1 : Int) = K ∧ w.2.1 = T ∧ (w.2.2.1 : Int) = N ∧ (w.2.2.2 : Int) = D0) | .error _ => false) :
    Calls Tryz.prog 14 #[.agg #[.int .i64 K, .int .i64 A, .string ⟨T.toArray⟩, .int .i64 N, .int .i64 D0]] W fun e W' => e = .returned (.tuple #[.string ⟨S.toArray⟩, .bool ok]) ∧ Below W.heap.size W W' := by
  have hwd := fun V (hb : Below W.heap.size W V) => word_any ⟨S.toArray⟩ 0 (Nat.zero_le _) (by show S.toArray.size ≤ 140737488351232; rw [List.size_toArray]; omega) V (hC.later hb) (hE.later hb) (hM.later hb) (hS.later hb)
  have h8' : (K == 8) = false := by simp [h8]
  have hsz : (ByteArray.mk S.toArray).size = S.length := by show S.toArray.size = _; simp
  have hb := (Below.refl W.heap.size W).alloc (Nat.le_refl _) (.cells #[.int .i64 K, .int .i64 0, .string ⟨T.toArray⟩, .int .i64 N, .int .i64 D0] 60)
  have hc : ∀ W', Below (W.heap.size + 1) (W.alloc (.cells #[.int .i64 K, .int .i64 0, .string ⟨T.toArray⟩, .int .i64 N, .int .i64 D0] 60)) W' → W'.cell? ⟨W.heap.size, 0, none⟩ = some (.int .i64 K) ∧ W'.cell? ⟨W.heap.size, 1, none⟩ = some (.int .i64 0) ∧ W'.cell? ⟨W.heap.size, 2, none⟩ = some (.string ⟨T.toArray⟩) ∧ W'.cell? ⟨W.heap.size, 3, none⟩ = some (.int .i64 N) ∧ W'.cell? ⟨W.heap.size, 4, none⟩ = some (.int .i64 D0) := fun W' hb' =>
    ⟨(hb'.cell (p := ⟨W.heap.size, 0, none⟩) (Nat.lt_succ_self _)).trans (by simp), (hb'.cell (p := ⟨W.heap.size, 1, none⟩) (Nat.lt_succ_self _)).trans (by simp), (hb'.cell (p := ⟨W.heap.size, 2, none⟩) (Nat.lt_succ_self _)).trans (by simp), (hb'.cell (p := ⟨W.heap.size, 3, none⟩) (Nat.lt_succ_self _)).trans (by simp), (hb'.cell (p := ⟨W.heap.size, 4, none⟩) (Nat.lt_succ_self _)).trans (by simp)⟩
  have h1 := hsp _ hb
  have hsz1 : (W.alloc (.cells #[.int .i64 K, .int .i64 0, .string ⟨T.toArray⟩, .int .i64 N, .int .i64 D0] 60)).heap.size = W.heap.size + 1 := by simp
  rw [hsz1] at h1
  clear hC hE hM hS h8 hsp
  have hw0 : wordS (ByteArray.mk S.toArray).data.toList 0 = wordS S 0 := rfl
  rw [hw0] at hwd
  clear hw0
  cases hw : wordS S 0 with
  | error pn =>
    obtain ⟨p, n⟩ := pn
    rw [hw] at hok hwd
    obtain rfl : ok = false := hok
    have hn := (wordS_err hw).1
    have hn' : ((n : Int) == 0) = false := by simp; omega
    unfold resV tokC at hwd
    simp only at hwd
    clear hw hn
    go_enter Tryz.func14, Tryz.ntmps14
    go_wp2_with (first | (go_at_call 38; refine h1.mono ?_; rintro e w1 ⟨rfl, hb1⟩; have hB1 : Below W.heap.size W w1 := hb.trans (hb1.mono (by omega)); have h2 := hwd w1 hB1) | (go_at_call 39; refine h2.mono ?_; rintro e w2 ⟨rfl, hb2⟩; have hB2 := below_step hB1 hb2; have hsw : W.heap.size + 1 ≤ w1.heap.size := (by have := hb1.size; rw [hsz1] at this; exact this); obtain ⟨c0, c1, c2, c3, c4⟩ := hc w2 (hb1.trans (hb2.mono hsw)); have hsw2 := hB2.size))
    have hB9 := hB2.alloc hB2.size (.cells #[.int .i64 0, .int .i64 (p : Int), .string ⟨#[]⟩, .int .i64 0, .int .i64 0] 60)
    clear hc h1 h2 hb hsz1 hb1 hb2 c0 c1 c2 c3 c4 hwd
    go_quiet (fail)
    have hbq := below_drewN hB9 nq
    go_wp2
    exact bodyPost_ret (v := .tuple #[.string ⟨S.toArray⟩, .bool false]) (by simp [results, Tryz.results14, go_sem]) rfl ⟨rfl, hbq⟩
  | ok we =>
    obtain ⟨⟨k2, t2, n2, d2⟩, e2⟩ := we
    rw [hw] at hok hwd
    unfold resV tokC at hwd
    simp only at hwd hok
    clear hw
    by_cases hl : e2 = S.length
    · subst hl
      have hB3 : ∀ w2, Below W.heap.size W w2 → Below W.heap.size W (w2.alloc (.cells #[.int .i64 (k2 : Int), .int .i64 0, .string ⟨t2.toArray⟩, .int .i64 (n2 : Int), .int .i64 (d2 : Int)] 60)) := fun w2 h => h.alloc h.size _
      by_cases hq : (k2 : Int) = K ∧ t2 = T ∧ (n2 : Int) = N ∧ (d2 : Int) = D0
      · obtain rfl : ok = true := by rw [hok]; exact decide_eq_true ⟨rfl, hq⟩
        obtain ⟨rfl, rfl, rfl, rfl⟩ := hq
        have he := eqlTok (k2 : Int) 0 (n2 : Int) (d2 : Int) ⟨t2.toArray⟩
        clear hok
        go_enter Tryz.func14, Tryz.ntmps14
        go_wp2_with (first | (go_at_call 38; refine h1.mono ?_; rintro e w1 ⟨rfl, hb1⟩; have hB1 : Below W.heap.size W w1 := hb.trans (hb1.mono (by omega)); have h2 := hwd w1 hB1) | (go_at_call 39; refine h2.mono ?_; rintro e w2 ⟨rfl, hb2⟩; have hB2 := below_step hB1 hb2; have hsw : W.heap.size + 1 ≤ w1.heap.size := (by have := hb1.size; rw [hsz1] at this; exact this); obtain ⟨c0, c1, c2, c3, c4⟩ := hc w2 (hb1.trans (hb2.mono hsw)); have hsw2 := hB2.size))
        have hbx := (hb1.trans (hb2.mono hsw)).alloc (by have := hb2.size; omega) (.cells #[.int .i64 (k2 : Int), .int .i64 0, .string ⟨t2.toArray⟩, .int .i64 (n2 : Int), .int .i64 (d2 : Int)] 60)
        obtain ⟨d0, d1, d2', d3, d4⟩ := hc _ hbx
        have hB4 := hB3 _ hB2
        clear hbx hc h1 h2 hb hsz1 hb1 hb2 c0 c1 c2 c3 c4 hwd hB3
        go_quiet (fail)
        have hbq := below_drewN hB4 nq
        go_wp2
        exact bodyPost_ret (v := .tuple #[.string ⟨S.toArray⟩, .bool true]) (by simp [results, Tryz.results14, go_sem]) rfl ⟨rfl, hbq⟩
      · obtain rfl : ok = false := by rw [hok]; exact decide_eq_false (fun h => hq h.2)
        have he := eqlTok_ne (k2 : Int) 0 (n2 : Int) (d2 : Int) K 0 N D0 ⟨t2.toArray⟩ ⟨T.toArray⟩ (fun ⟨g1, _, g3, g4, g5⟩ => hq ⟨g1, by
          have := congrArg (fun b : ByteArray => b.data.toList) g3
          simpa using this, g4, g5⟩)
        clear hok hq
        go_enter Tryz.func14, Tryz.ntmps14
        go_wp2_with (first | (go_at_call 38; refine h1.mono ?_; rintro e w1 ⟨rfl, hb1⟩; have hB1 : Below W.heap.size W w1 := hb.trans (hb1.mono (by omega)); have h2 := hwd w1 hB1) | (go_at_call 39; refine h2.mono ?_; rintro e w2 ⟨rfl, hb2⟩; have hB2 := below_step hB1 hb2; have hsw : W.heap.size + 1 ≤ w1.heap.size := (by have := hb1.size; rw [hsz1] at this; exact this); obtain ⟨c0, c1, c2, c3, c4⟩ := hc w2 (hb1.trans (hb2.mono hsw)); have hsw2 := hB2.size))
        have hbx := (hb1.trans (hb2.mono hsw)).alloc (by have := hb2.size; omega) (.cells #[.int .i64 (k2 : Int), .int .i64 0, .string ⟨t2.toArray⟩, .int .i64 (n2 : Int), .int .i64 (d2 : Int)] 60)
        obtain ⟨d0, d1, d2', d3, d4⟩ := hc _ hbx
        have hB4 := hB3 _ hB2
        clear hbx hc h1 h2 hb hsz1 hb1 hb2 c0 c1 c2 c3 c4 hwd hB3
        go_quiet (fail)
        have hbq := below_drewN hB4 nq
        go_wp2
        exact bodyPost_ret (v := .tuple #[.string ⟨S.toArray⟩, .bool false]) (by simp [results, Tryz.results14, go_sem]) rfl ⟨rfl, hbq⟩
    · obtain rfl : ok = false := by rw [hok]; exact decide_eq_false (fun h => hl h.1)
      have hl' : ((e2 : Int) == (S.length : Int)) = false := by simp; omega
      clear hok hl
      go_enter Tryz.func14, Tryz.ntmps14
      go_wp2_with (first | (go_at_call 38; refine h1.mono ?_; rintro e w1 ⟨rfl, hb1⟩; have hB1 : Below W.heap.size W w1 := hb.trans (hb1.mono (by omega)); have h2 := hwd w1 hB1) | (go_at_call 39; refine h2.mono ?_; rintro e w2 ⟨rfl, hb2⟩; have hB2 := below_step hB1 hb2; have hsw : W.heap.size + 1 ≤ w1.heap.size := (by have := hb1.size; rw [hsz1] at this; exact this); obtain ⟨c0, c1, c2, c3, c4⟩ := hc w2 (hb1.trans (hb2.mono hsw)); have hsw2 := hB2.size))
      have hB9 := hB2.alloc hB2.size (.cells #[.int .i64 (k2 : Int), .int .i64 0, .string ⟨t2.toArray⟩, .int .i64 (n2 : Int), .int .i64 (d2 : Int)] 60)
      clear hc h1 h2 hb hsz1 hb1 hb2 c0 c1 c2 c3 c4 hwd
      go_quiet (fail)
      have hbq := below_drewN hB9 nq
      go_wp2
      exact bodyPost_ret (v := .tuple #[.string ⟨S.toArray⟩, .bool false]) (by simp [results, Tryz.results14, go_sem]) rfl ⟨rfl, hbq⟩

theorem written_gen (t : Tk) (hr : Rng t) (W : World) (hC : Cls W) (hE : ErrR W) (hM : Mon W) (hS : Sgn W) (hX : X.Tab W) : Calls Tryz.prog 14 #[.agg #[.int .i64 t.1, .int .i64 t.2.1, .string ⟨t.2.2.1.toArray⟩, .int .i64 t.2.2.2.1, .int .i64 t.2.2.2.2]] W fun e W' => e = .returned (.tuple #[.string ⟨(wtK t).1.toArray⟩, .bool (wtK t).2]) ∧ Below W.heap.size W W' := by
  by_cases h8 : t.1 = 8
  · exact written_gen8 t h8 W
  · have hwt : wtK t = (sayK t, (okW t).isSome) := if_neg h8
    rw [hwt]
    refine written_gen1 t.1 t.2.1 t.2.2.2.1 t.2.2.2.2 t.2.2.1 (sayK t) h8 (sayK_len hr) W hC hE hM hS (fun V hb => spelled_gen t hr V (hM.later hb) (hX.later hb)) _ ?_
    unfold okW
    cases wordS (sayK t) 0 with
    | error p => rfl
    | ok we =>
      obtain ⟨w, e⟩ := we
      simp only
      split
      · rename_i h
        rw [decide_eq_true h]
        rfl
      · rename_i h
        rw [decide_eq_false h]
        rfl
theorem wtK_len {t : Tk} (hr : Rng t) : (wtK t).1.length ≤ 140737488351232 := by
  unfold wtK
  split
  · simp
  · exact sayK_len hr

end Go.Proofs.YtoippgmecnlhcaaGreatDoor.Q

import Derived.Test.YtoippgmecnlhcaaGreatDoorJoin41
import Derived.Test.YtoippgmecnlhcaaGreatDoorTurnWRnd
import Derived.Test.YtoippgmecnlhcaaGreatDoorJoin25
import Derived.Deep.QuietTactic
namespace Go.Proofs.YtoippgmecnlhcaaGreatDoor.Q
open Go.RowKit
open Go.Lib (decDigits)

theorem tl_short (D : Nat) : ∀ (f r : Nat) (l : List UInt8), X.tl D f r = some l → l.length ≤ f
  | 0, r, l, h => by
    unfold X.tl at h
    split at h
    · cases h; exact Nat.le_refl _
    · cases h
  | f + 1, r, l, h => by
    unfold X.tl at h
    split at h
    · cases h; exact Nat.zero_le _
    · obtain ⟨l', hl, rfl⟩ := Option.map_eq_some_iff.1 h
      have := tl_short D f _ l' hl
      rw [List.length_cons]
      omega
theorem dd_short {u : Nat} (h : u < 18446744073709551616) : (decDigits u).length ≤ 20 := by
  rw [Go.Lib.decDigits_length]
  exact Go.Lib.nDigits_le20 u h
theorem spl_len {w : Wd} (hw : Ft w) : (spl dtx w).length ≤ 100 := by
  obtain ⟨K, T, N, D0⟩ := w
  rcases hw with ⟨h, hl⟩ | ⟨h, hl⟩ | ⟨h, hn⟩ | ⟨h, hn⟩ | ⟨h, hn, hd0, hd⟩ | ⟨h, hd⟩ | ⟨h, hl, hf⟩
  all_goals (simp only at h; subst h)
  · show T.length ≤ 100
    simp only at hl
    omega
  · show T.length ≤ 100
    simp only at hl
    omega
  · show (decDigits (N / 100) ++ 46 :: X.pad (N % 100) 2).length ≤ 100
    simp only at hn
    have h1 := dd_short (u := N / 100) (by omega)
    have h2 := X.pad_length (N % 100) 2
    have h3 := X.nDigits_le2 (u := N % 100) (Nat.mod_lt _ (by decide))
    rw [List.length_append, List.length_cons]
    omega
  · show (decDigits N).length ≤ 100
    simp only at hn
    have h1 := dd_short (u := N) (by omega)
    omega
  · show ((X.pctL (100 * N) D0).getD []).length ≤ 100
    simp only at hn hd0 hd
    cases hp : X.pctL (100 * N) D0 with
    | none => simp
    | some s =>
      unfold X.pctL at hp
      obtain ⟨l, hl, rfl⟩ := Option.map_eq_some_iff.1 hp
      have h1 := tl_short _ _ _ _ hl
      have h2 := dd_short (u := 100 * N / D0) (Nat.lt_of_le_of_lt (Nat.div_le_self _ _) (by omega))
      have h3 : (if l = [] then [] else (46 : UInt8) :: l).length ≤ 7 := by split <;> simp; omega
      rw [Option.getD_some, List.length_append, List.length_append, List.length_singleton]
      omega
  · obtain ⟨k, d, hA⟩ := hd
    have k1 := hA.k0
    have d1 := hA.d0
    show (dtx N).length ≤ 100
    rw [dtx_at hA (Y := (1900 + k / 12).toNat) (M := (k % 12 + 1).toNat) (K := (d + 1).toNat) (by omega) (by omega) (by omega)]
    simp [dtT]
  · show (34 :: (T.flatMap esq ++ [34])).length ≤ 100
    simp only at hl
    have := X.flat_len T
    rw [esq_esc, List.length_cons, List.length_append, List.length_singleton]
    omega
theorem gw_word {w : Wd} (h : Gw (spl dtx) w) : wordS (spl dtx w) 0 = .ok (w, (spl dtx w).length) := by
  obtain ⟨-, hsl, v, hw⟩ := h
  have := word_cut (fol_stop (v := v) (v' := []) (.inl rfl)) hsl hw
  rwa [List.append_nil] at this
theorem gw_ft {w : Wd} (h : Gw (spl dtx) w) : Ft w := word_ft (gw_word h)

theorem eqlTok (a b n d : Int) (t : ByteArray) (w : World) : (binOp .eql 60 (.agg #[.int .i64 a, .int .i64 b, .string t, .int .i64 n, .int .i64 d]) (.agg #[.int .i64 a, .int .i64 b, .string t, .int .i64 n, .int .i64 d])).run Tryz.prog w = .ok (.bool true) w := by
  rw [run_eql_struct, eqTok]
  rfl

set_option maxRecDepth 4000 in
set_option maxHeartbeats 2000000 in
theorem written_end (at_ : Nat) (W : World) : Calls Tryz.prog 14 #[.agg (tokC 8 at_ [] 0 0)] W fun e W' => e = .returned (.tuple #[.string ⟨#[10]⟩, .bool true]) ∧ Below W.heap.size W W' := by
  have hb := (Below.refl W.heap.size W).alloc (Nat.le_refl _) (.cells #[.int .i64 8, .int .i64 0, .string ⟨#[]⟩, .int .i64 0, .int .i64 0] 60)
  have he := eqlTok 8 0 0 0 ⟨#[]⟩
  unfold tokC
  go_enter Tryz.func14, Tryz.ntmps14
  go_wp2
  go_quiet (fail)
  have hbq := below_drewN hb nq
  go_wp2
  exact bodyPost_ret (v := .tuple #[.string ⟨#[10]⟩, .bool true]) (by simp [results, Tryz.results14, go_sem]) rfl ⟨rfl, hbq⟩

set_option maxRecDepth 8000 in
set_option maxHeartbeats 4000000 in
theorem written_any (x : Wd) (hg : Gw (spl dtx) x) (at_ : Nat) (W : World) (hC : Cls W) (hE : ErrR W) (hM : Mon W) (hS : Sgn W) (hX : X.Tab W) : Calls Tryz.prog 14 #[.agg (tokC x.1 at_ x.2.1 x.2.2.1 x.2.2.2)] W fun e W' => e = .returned (.tuple #[.string ⟨(spl dtx x).toArray⟩, .bool true]) ∧ Below W.heap.size W W' := by
  have hft := gw_ft hg
  have hsp := fun V (hb : Below W.heap.size W V) => spelled_any x hft V (hM.later hb) (hX.later hb)
  have hln := spl_len hft
  have hw := gw_word hg
  obtain ⟨S, hS0⟩ : ∃ S, spl dtx x = S := ⟨_, rfl⟩
  rw [hS0] at hsp hln hw ⊢
  have hwd := fun V (hb : Below W.heap.size W V) => word_any ⟨S.toArray⟩ 0 (Nat.zero_le _) (by show S.toArray.size ≤ 140737488351232; rw [List.size_toArray]; omega) V (hC.later hb) (hE.later hb) (hM.later hb) (hS.later hb)
  have hres : resV 0 (wordS (ByteArray.mk S.toArray).data.toList 0) = .tuple #[.agg (tokC x.1 0 x.2.1 x.2.2.1 x.2.2.2), .int .i64 (S.length : Int), .int .i64 0] := by
    show resV 0 (wordS S 0) = _
    rw [hw]
    rfl
  have h8 : x.1 ≠ 8 := hg.1
  obtain ⟨K, T, N, D0⟩ := x
  simp only at h8 hres hsp ⊢
  have h8' : ((K : Int) == 8) = false := by simp; omega
  rw [hres] at hwd
  have hsz : (ByteArray.mk S.toArray).size = S.length := by show S.toArray.size = _; simp
  clear hres hw hft hg hC hE hM hS hX hS0 h8
  unfold tokC at hwd hsp ⊢
  have he := eqlTok (K : Int) 0 (N : Int) (D0 : Int) ⟨T.toArray⟩
  have hb := (Below.refl W.heap.size W).alloc (Nat.le_refl _) (.cells #[.int .i64 (K : Int), .int .i64 0, .string ⟨T.toArray⟩, .int .i64 (N : Int), .int .i64 (D0 : Int)] 60)
  have hc : ∀ W', Below (W.heap.size + 1) (W.alloc (.cells #[.int .i64 (K : Int), .int .i64 0, .string ⟨T.toArray⟩, .int .i64 (N : Int), .int .i64 (D0 : Int)] 60)) W' → W'.cell? ⟨W.heap.size, 0, none⟩ = some (.int .i64 (K : Int)) ∧ W'.cell? ⟨W.heap.size, 1, none⟩ = some (.int .i64 0) ∧ W'.cell? ⟨W.heap.size, 2, none⟩ = some (.string ⟨T.toArray⟩) ∧ W'.cell? ⟨W.heap.size, 3, none⟩ = some (.int .i64 (N : Int)) ∧ W'.cell? ⟨W.heap.size, 4, none⟩ = some (.int .i64 (D0 : Int)) := fun W' hb' =>
    ⟨(hb'.cell (p := ⟨W.heap.size, 0, none⟩) (Nat.lt_succ_self _)).trans (by simp), (hb'.cell (p := ⟨W.heap.size, 1, none⟩) (Nat.lt_succ_self _)).trans (by simp), (hb'.cell (p := ⟨W.heap.size, 2, none⟩) (Nat.lt_succ_self _)).trans (by simp), (hb'.cell (p := ⟨W.heap.size, 3, none⟩) (Nat.lt_succ_self _)).trans (by simp), (hb'.cell (p := ⟨W.heap.size, 4, none⟩) (Nat.lt_succ_self _)).trans (by simp)⟩
  have h1 := hsp _ hb
  have hsz1 : (W.alloc (.cells #[.int .i64 (K : Int), .int .i64 0, .string ⟨T.toArray⟩, .int .i64 (N : Int), .int .i64 (D0 : Int)] 60)).heap.size = W.heap.size + 1 := by simp
  rw [hsz1] at h1
  go_enter Tryz.func14, Tryz.ntmps14
  go_wp2_with (first | (go_at_call 38; refine h1.mono ?_; rintro e w1 ⟨rfl, hb1⟩; have hB1 : Below W.heap.size W w1 := hb.trans (hb1.mono (by omega)); have h2 := hwd w1 hB1) | (go_at_call 39; refine h2.mono ?_; rintro e w2 ⟨rfl, hb2⟩; have hB2 := below_step hB1 hb2; have hsw : W.heap.size + 1 ≤ w1.heap.size := (by have := hb1.size; rw [hsz1] at this; exact this); obtain ⟨c0, c1, c2, c3, c4⟩ := hc w2 (hb1.trans (hb2.mono hsw)); have hsw2 := hB2.size))
  have hbx := (hb1.trans (hb2.mono hsw)).alloc (by have := hb2.size; omega) (.cells #[.int .i64 (K : Int), .int .i64 0, .string ⟨T.toArray⟩, .int .i64 (N : Int), .int .i64 (D0 : Int)] 60)
  obtain ⟨d0, d1, d2', d3, d4⟩ := hc _ hbx
  have hB3 := hB2.alloc hB2.size (.cells #[.int .i64 (K : Int), .int .i64 0, .string ⟨T.toArray⟩, .int .i64 (N : Int), .int .i64 (D0 : Int)] 60)
  clear hbx hc h1 h2 hb hsz1 hb1 hb2 c0 c1 c2 c3 c4 hwd hsp
  go_quiet (fail)
  have hbq := below_drewN hB3 nq
  go_wp2
  exact bodyPost_ret (v := .tuple #[.string ⟨S.toArray⟩, .bool true]) (by simp [results, Tryz.results14, go_sem]) rfl ⟨rfl, hbq⟩

end Go.Proofs.YtoippgmecnlhcaaGreatDoor.Q

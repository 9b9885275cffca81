import Derived.Test.YtmbjfpmplmebcaaCrD
namespace Go.Proofs.Ytmbjfpmplmebcaa.CF
open Go.RowKit
attribute [local go_sem] run_store_float

def cntN (k r n t : Nat) : Nat := min (k + t - r) n - (k - r)
def sumC (D : Dots) (lo : Nat) : Nat → Nat
  | 0 => 0
  | c + 1 => sumS D lo c
set_option maxRecDepth 8000 in
set_option maxHeartbeats 2000000 in
theorem smoothR_any (D : Dots) (hD : Ok D) (hl : D.length ≤ 8796093021952) (n : Int) (a : Option Addr) (c : Nat) (w : World) (h : RtAt w a D) : Calls Try.prog 51 #[.slice a D.length c, .int .i64 n] w (OutR w (smoothD D n) (smoothE D n)) := by
  obtain ⟨i0, hi, hz0, hz1, hz2⟩ := info_parts infoR
  have hio := ordered_any D (by omega) a c w h
  cases hW : okW n with
  | false =>
    have e1 : smoothD D n = [] := if_neg (fun h => by rw [hW] at h; cases h.1)
    have e2 : smoothE D n = 173 := if_pos hW
    rw [e1, e2]
    unfold okW at hW
    clear hio hD h e1 e2
    obtain ⟨c1, h1⟩ : ∃ c1, decide (n < 1) = c1 := ⟨_, rfl⟩
    obtain ⟨c2, h2⟩ : ∃ c2, decide (15 < n) = c2 := ⟨_, rfl⟩
    rw [h1, h2] at hW
    cases c1 with
    | true =>
      go_enter Try.func51, Try.ntmps51
      go_wp2
      exact bodyPost_ret (v := .tuple #[.slice none 0 0, .int .i64 173]) (by simp [results, Try.results51, go_sem]) rfl ⟨none, 0, rfl, .inl rfl, Below.refl _ _⟩
    | false =>
      cases c2 with
      | true =>
        go_enter Try.func51, Try.ntmps51
        go_wp2
        exact bodyPost_ret (v := .tuple #[.slice none 0 0, .int .i64 173]) (by simp [results, Try.results51, go_sem]) rfl ⟨none, 0, rfl, .inl rfl, Below.refl _ _⟩
      | false =>
        have h3 : n.tmod 2 = 0 := by simpa using hW
        have h4 : IntKind.i64.wrap (n.tmod 2) = 0 := by rw [h3]; rfl
        have h5 : (n.tmod 2 == 0) = true := by rw [h3]; rfl
        go_enter Try.func51, Try.ntmps51
        go_wp2
        exact bodyPost_ret (v := .tuple #[.slice none 0 0, .int .i64 173]) (by simp [results, Try.results51, go_sem]) rfl ⟨none, 0, rfl, .inl rfl, Below.refl _ _⟩
  | true =>
    obtain ⟨r, hr, hr7⟩ := okW_parts hW
    have h1 : decide (n < 1) = false := decide_eq_false (by omega)
    have h2 : decide (15 < n) = false := decide_eq_false (by omega)
    have h3 : n.tmod 2 = 1 := by rw [Int.tmod_eq_emod_of_nonneg (by omega)]; omega
    have h4 : IntKind.i64.wrap (n.tmod 2) = 1 := by rw [h3]; rfl
    cases hO : inO D with
    | false =>
      have e1 : smoothD D n = [] := if_neg (fun h => by rw [hO] at h; cases h.2)
      have e2 : smoothE D n = 172 := by unfold smoothE; rw [if_neg (by rw [hW]; decide), if_neg (by rw [hO]; decide)]
      rw [e1, e2]
      rw [hO] at hio
      clear hr hr7 hW
      go_enter Try.func51, Try.ntmps51
      go_wp2_with (go_at_call 60; refine hio.mono ?_; rintro _ w1 ⟨rfl, hB1⟩)
      exact bodyPost_ret (v := .tuple #[.slice none 0 0, .int .i64 172]) (by simp [results, Try.results51, go_sem]) rfl ⟨none, 0, rfl, .inl rfl, hB1⟩
    | true =>
      have e0 : ((n - 1) / 2).toNat = r := by omega
      have e1 : smoothD D n = smoothN D r D.length := by unfold smoothD; rw [if_pos ⟨hW, hO⟩, e0]
      have e2 : smoothE D n = 0 := by unfold smoothE; rw [if_neg (by rw [hW]; decide), if_pos hO]
      rw [e1, e2]
      rw [hO] at hio
      have h6 : IntKind.i64.wrap (n - 1) = n - 1 := by rw [IntKind.wrap_i64]; omega
      have h7 : (n - 1).tdiv 2 = (r : Int) := by rw [Int.tdiv_eq_ediv_of_nonneg (by omega)]; omega
      have h8 : IntKind.i64.wrap (r : Int) = (r : Int) := by rw [IntKind.wrap_i64]; omega
      clear e0 e1 e2 hW
      replace hr := Hid.mk hr
      go_enter Try.func51, Try.ntmps51
      go_wp2_with (go_at_call 60; refine hio.mono ?_; clear hio; rintro _ w1 ⟨rfl, hB1⟩)
      go_loopw [7, 9] (fun v x wr => ∃ k : Nat, k ≤ D.length ∧ x = .int .i64 (k : Int) ∧ wr.ownsRow w.heap.size 37 2 v k (rtV (smoothN D r k)) ∧ Below w.heap.size w wr) (fun _ x _ => D.length - (intOf x).toNat)
      case atStart => exact ⟨0, by omega, rfl, World.ownsRow_nil _ _ _ _, hB1⟩
      case round =>
        clear hB1
        obtain ⟨k, hk, rfl, ho, hB⟩ := hrel
        obtain ⟨W2, hW2⟩ : ∃ W2, W2 = wr := ⟨_, rfl⟩
        subst wr
        by_cases hlt : k < D.length
        · have hlt' : (k : Int) < (D.length : Int) := by omega
          have hk0 : (0 : Int) ≤ (k : Int) := by omega
          obtain ⟨b, off, rfl, hc⟩ := (h.later hB).cells hlt
          obtain ⟨p0, -⟩ := hc k hlt
          have hbl : b < W2.heap.size := World.block_lt_of_cell? _ _ p0
          obtain ⟨lo, hlo⟩ : ∃ lo, lo = loN k r := ⟨_, rfl⟩
          obtain ⟨m, hm⟩ : ∃ m, hiN k r D.length = lo + m + 1 := ⟨hiN k r D.length - lo - 1, by rw [hlo]; unfold hiN loN; omega⟩
          have hlm : lo + m < D.length := by have : hiN k r D.length ≤ D.length := Nat.min_le_right _ _; omega
          have hsd : Hid (smoothN D r (k + 1) = smoothN D r k ++ [((D.getD k (0, 0)).1, divN (sumS D lo m) (wholeN ((m : Int) + 1)))]) := ⟨by
            show _ ++ [(_, meanN D (loN k r) (hiN k r D.length))] = _
            rw [← hlo, hm]
            unfold meanN
            rw [show lo + m + 1 - lo - 1 = m by omega, show ((lo + m + 1 : Nat) : Int) - (lo : Int) = (m : Int) + 1 by omega]⟩
          have g3 : IntKind.i64.wrap ((k : Int) - (r : Int)) = (k : Int) - (r : Int) := by rw [IntKind.wrap_i64]; omega
          have g4 : IntKind.i64.wrap ((k : Int) + (r : Int)) = (k : Int) + (r : Int) := by rw [IntKind.wrap_i64]; omega
          have hcn0 : Hid (cntN k r D.length 0 = 0) := ⟨by unfold cntN; omega⟩
          have hcn1 : Hid (cntN k r D.length (2 * r + 1) = m + 1) := ⟨by unfold hiN loN at *; unfold cntN; omega⟩
          obtain ⟨q1, q2, q3⟩ := whole_some (z := (m : Int) + 1) (by omega) (by omega) (by omega)
          have sl := sumS_le hD hO (lo := lo) m hlm
          have hwh := Hid.mk (fun W => whole_any ((m : Int) + 1) (by omega) (by omega) W)
          have hdv := Hid.mk (fun W => div_any (sumS D lo m) (wholeN ((m : Int) + 1)) sl.2 q1 q2 q3 W)
          replace hlo := Hid.mk hlo
          replace hm := Hid.mk hm
          replace hO := Hid.mk hO
          clear sl q1 q2 q3 h1 h2 h3 h4 h6 h7 h8
          go_wp2
          go_loopw [10, 11, 12] (fun xn xs xj wx => ∃ t : Nat, t ≤ 2 * r + 1 ∧ xj = .int .i64 ((k : Int) - (r : Int) + (t : Int)) ∧ xn = .int .i64 (cntN k r D.length t : Int) ∧ xs = .int .u32 (sumC D lo (cntN k r D.length t) : Int) ∧ wx = W2) (fun _ _ xj _ => ((k : Int) + (r : Int) + 1 - intOf xj).toNat)
          case atStart => exact ⟨0, by omega, by simp, by rw [hcn0.out]; rfl, by rw [hcn0.out]; rfl, rfl⟩
          case round =>
            clear hcn0
            obtain ⟨t, ht, rfl, rfl, rfl, hwx⟩ := hrel
            subst wr
            have hcst : Hid (cntN k r D.length (t + 1) = cntN k r D.length t ∨ (cntN k r D.length (t + 1) = cntN k r D.length t + 1 ∧ k + t - r = lo + cntN k r D.length t ∧ r ≤ k + t ∧ k + t - r < D.length)) := ⟨by have := hlo.out; unfold loN at this; unfold cntN; omega⟩
            have hcsn : Hid (((k : Int) - (r : Int) + (t : Int) < 0 ∨ (D.length : Int) ≤ (k : Int) - (r : Int) + (t : Int)) → cntN k r D.length (t + 1) = cntN k r D.length t) := ⟨fun h => by have := hlo.out; unfold loN at this; unfold cntN; omega⟩
            have hcsy : Hid (¬ (k : Int) - (r : Int) + (t : Int) < 0 → ¬ (D.length : Int) ≤ (k : Int) - (r : Int) + (t : Int) → t < 2 * r + 1 → cntN k r D.length (t + 1) = cntN k r D.length t + 1 ∧ (k : Int) - (r : Int) + (t : Int) = ((lo + cntN k r D.length t : Nat) : Int) ∧ lo + cntN k r D.length t < D.length) := ⟨fun h1 h2 h3 => by have := hlo.out; unfold loN at this; unfold cntN; omega⟩
            clear hcst
            by_cases hlast : t < 2 * r + 1
            · obtain ⟨J, hJ⟩ : ∃ J, J = (k : Int) - (r : Int) + (t : Int) := ⟨_, rfl⟩
              rw [← hJ] at hcsn hcsy ⊢
              have hj1 : J ≤ (k : Int) + (r : Int) := by omega
              have hj2 : IntKind.i64.wrap (J + 1) = J + 1 := by rw [IntKind.wrap_i64]; omega
              have hj3 : Hid (J + 1 = (k : Int) - (r : Int) + ((t + 1 : Nat) : Int)) := ⟨by omega⟩
              have hj4 : Hid (((k : Int) + (r : Int) + 1 - (J + 1)).toNat < ((k : Int) + (r : Int) + 1 - J).toNat) := ⟨by omega⟩
              have hJb : Hid (-9223372036854775807 ≤ J ∧ J ≤ 9223372036854775806) := ⟨by omega⟩
              by_cases n1 : J < 0
              · have hce := Hid.mk (hcsn.out (.inl n1))
                clear hJ hc hcsn hcsy
                generalize cntN k r D.length t = C at *
                go_wp2
                go_roundw
                case rel => exact ⟨t + 1, by omega, by rw [hj3.out], by rw [hce.out], by rw [hce.out], by first | rfl | trivial⟩
                case measure => simpa [intOf] using hj4.out
              · by_cases n2 : (D.length : Int) ≤ J
                · have hce := Hid.mk (hcsn.out (.inr n2))
                  clear hJ hc hcsn hcsy
                  generalize cntN k r D.length t = C at *
                  go_wp2
                  go_roundw
                  case rel => exact ⟨t + 1, by omega, by rw [hj3.out], by rw [hce.out], by rw [hce.out], by first | rfl | trivial⟩
                  case measure => simpa [intOf] using hj4.out
                · obtain ⟨c1, c2, c3⟩ := hcsy.out n1 n2 hlast
                  replace c1 := Hid.mk c1
                  clear hJ hcsn hcsy
                  generalize cntN k r D.length t = C at *
                  obtain ⟨-, p1⟩ := hc (lo + C) c3
                  have hy := (hD.getD (lo + C)).2
                  cases C with
                  | zero =>
                    simp only [Nat.add_zero] at p1 c2 hy
                    subst c2
                    have hj0 : (0 : Int) ≤ (lo : Int) := by omega
                    have hjl : (lo : Int) < (D.length : Int) := by omega
                    have hss : Hid ((D.getD lo (0, 0)).2 = sumC D lo (0 + 1)) := ⟨rfl⟩
                    generalize (D.getD lo (0, 0)).2 = y at *
                    clear hc
                    go_wp2
                    go_roundw
                    case rel => exact ⟨t + 1, by omega, by rw [← hj3.out], by rw [c1.out]; rfl, by rw [c1.out, ← hss.out], by first | rfl | trivial⟩
                    case measure => simpa [intOf] using hj4.out
                  | succ C =>
                    subst c2
                    have hj0 : (0 : Int) ≤ ((lo + (C + 1) : Nat) : Int) := by omega
                    have hjl : ((lo + (C + 1) : Nat) : Int) < (D.length : Int) := by omega
                    have sk := sumS_le hD hO.out (lo := lo) C (by omega)
                    have hss : Hid (addN (sumC D lo (C + 1)) (D.getD (lo + (C + 1)) (0, 0)).2 = sumC D lo (C + 1 + 1)) := ⟨rfl⟩
                    have had := fun W => add_any (sumC D lo (C + 1)) (D.getD (lo + (C + 1)) (0, 0)).2 sk.2 hy W
                    have hcz : (((C + 1 : Nat) : Int) == 0) = false := beq_eq_false_iff_ne.2 (by omega)
                    generalize (D.getD (lo + (C + 1)) (0, 0)).2 = y at *
                    generalize sumC D lo (C + 1) = S at *
                    clear hc sk
                    go_wp2_with (go_at_call 65; refine (had _).mono ?_; rintro _ w9 ⟨rfl, hw9⟩; subst w9)
                    go_roundw
                    case rel => exact ⟨t + 1, by omega, by rw [← hj3.out]; congr 1, by rw [c1.out]; rfl, by rw [c1.out, ← hss.out], by first | rfl | trivial⟩
                    case measure => simpa [intOf] using hj4.out
            · obtain rfl : t = 2 * r + 1 := by omega
              have hj1 : ¬ (k : Int) - (r : Int) + ((2 * r + 1 : Nat) : Int) ≤ (k : Int) + (r : Int) := by omega
              rw [hcn1.out]
              have hd2 := hdv.out
              have hw2 := hwh.out
              rw [show sumC D lo (m + 1) = sumS D lo m from rfl]
              generalize sumS D lo m = S at *
              generalize wholeN ((m : Int) + 1) = V at *
              generalize divN S V = R at *
              generalize (D.getD k (0, 0)).1 = x at *
              clear hcsn hcsy hc hdv hwh hD
              generalize (k : Int) - (r : Int) + ((2 * r + 1 : Nat) : Int) = J at *
              go_wp2_with (first | (go_at_call 12; refine (hw2 _).mono ?_; rintro _ w9 ⟨rfl, hw9⟩; subst w9) | (go_at_call 62; fail))
              refine (hd2 _).mono ?_
              rintro _ X ⟨rfl, hBX1⟩
              have hoX := own_bel ho hBX1
              have hBX : Below w.heap.size w X := hB.trans (hBX1.mono hB.size)
              have r0 := (hBX1.cell (p := ⟨b, off + k * 2, none⟩) hbl).trans p0
              have hoA := hoX.alloc (.cells #[.int .i64 x, .int .u32 (R : Int)] 37)
              have hBA : Below w.heap.size w (X.alloc (.cells #[.int .i64 x, .int .u32 (R : Int)] 37)) := hBX.alloc hBX.size _
              have hlv := Hid.mk (fun (j : Nat) hj => (hoX.lt j hj).1)
              clear hBX1 hB ho p0 hbl hd2 hw2
              go_wp2_with (at_builtin; refine wpList_append_own _ rfl _ _ 26 rfl w.heap.size 37 i0 _ 2 16 Try.underlying26 hi hz0 hz1 hz2 rfl (by decide) _ k (rtV (smoothN D r k)) rfl hoA ⟨X.heap.size, 0, none⟩ 1 1 [.int .i64 x, .int .u32 (R : Int)] rfl rfl (lit_at X _ _) (by simp [Value.oneCell']) (by unfold maxLen; omega) (by omega) hBA.size ?_; intro v4 w4 hown4 hgrow4 _; have hB4 := hBA.grown hgrow4 hBA.size hlv.out)
              go_roundw
              case rel => exact ⟨k + 1, by omega, by go_num, by rw [hsd.out, rtV_snoc]; exact hown4, hB4⟩
              case measure => simp [intOf]; omega
        · obtain rfl : k = D.length := by omega
          obtain ⟨a', c', rfl, hP⟩ := rt_of_own ho (smoothN_len D _ _).symm
          go_wp2
          exact bodyPost_ret (v := .tuple #[.slice a' (smoothN D r D.length).length c', .int .i64 0]) (by simp [results, Try.results51, go_sem]) rfl ⟨a', c', rfl, hP, hB⟩
end Go.Proofs.Ytmbjfpmplmebcaa.CF

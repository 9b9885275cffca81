import Derived.Test.YteefieidfgpijaaCqC
namespace Go.Proofs.Yteefieidfgpijaa.CF
open Go.RowKit

def oneS (m : Nat) : ByteArray := ⟨#[UInt8.ofNat m]⟩
/-- The row of height 0 as a number. -/
def zerI (D : Dots) (n : Nat) : Int := match zerR D n with
  | some z => (z : Int)
  | none => -1
theorem zerI_iff (D : Dots) (n r : Nat) : ((r : Int) == zerI D n) = decide (zerR D n = some r) := by
  unfold zerI
  cases h : zerR D n with
  | none =>
    rw [decide_eq_false (by intro e; cases e), beq_eq_false_iff_ne]
    show (r : Int) ≠ -1
    omega
  | some z =>
    by_cases e : z = r
    · subst e; simp
    · rw [decide_eq_false (by intro e2; injection e2 with e2; exact e e2), beq_eq_false_iff_ne]
      show (r : Int) ≠ (z : Int)
      omega
set_option maxRecDepth 8000 in
set_option maxHeartbeats 2000000 in
theorem rmark_any (D : Dots) (h : Draws D) (hl : D.length ≤ 9223372036854775806) (wide n r c : Nat) (hw : 2 ≤ wide ∧ wide ≤ 72) (lR gR : Nat) (hh : Int)
    (hrow : ∀ k, k < D.length → ∀ X, Calls Try.prog 48 #[.int .u32 (hgt D k : Int), .int .u32 (lR : Int), .int .u32 (gR : Int), .int .i64 hh] X fun e w' => e = .returned (.int .i64 (rowK D n k : Int)) ∧ Below X.heap.size X w')
    (a : Option Addr) (cap : Nat) (w : World) (hp : RtAt w a D) : Calls Try.prog 49 #[.slice a D.length cap, .int .i64 (c : Int), .int .i64 (r : Int), .int .i64 (zerI D n), .int .i64 (wide : Int), .int .i64 hh, .int .u32 (lR : Int), .int .u32 (gR : Int)] w fun e w' => e = .returned (.string (oneS (markN D n wide r c))) ∧ Below w.heap.size w w' := by
  have hze := zerI_iff D n r
  have hm1 : Hid (star D n wide D.length r c = true → markN D n wide r c = 42) := ⟨fun e => if_pos e⟩
  have hm2 : Hid (star D n wide D.length r c = false → markN D n wide r c = if decide (zerR D n = some r) = true then 45 else 32) := ⟨fun e => by
    unfold markN
    rw [if_neg (by rw [e]; decide)]
    by_cases e2 : zerR D n = some r
    · rw [if_pos e2, if_pos (decide_eq_true e2)]
    · rw [if_neg e2, if_neg (by rw [decide_eq_false e2]; decide)]⟩
  have hst : Hid (∀ k, k < D.length → (rowK D n k == r && colK D wide k == c) = true → star D n wide D.length r c = true) := ⟨fun k hk e => by
    unfold star
    rw [List.any_eq_true]
    exact ⟨k, List.mem_range.2 hk, e⟩⟩
  have hcol : Hid (∀ k, k < D.length → ((colK D wide k : Nat) : Int) = colN (pX D 0) (pX D (D.length - 1)) (wide : Int) (pX D k) ∧ colK D wide k < wide) := ⟨fun k hk => colK_eq h.io hk (by omega)⟩
  have hx : Hid (∀ k, k < D.length → pX D 0 ≤ pX D k ∧ pX D k ≤ pX D (D.length - 1) ∧ -9999999999999 ≤ pX D 0 ∧ pX D (D.length - 1) ≤ 9999999999999 ∧ (1 < D.length → pX D 0 < pX D (D.length - 1)) ∧ (¬ 1 < D.length → pX D 0 = pX D (D.length - 1))) := ⟨fun k hk => ⟨inO_mono h.io (by omega) hk, inO_mono h.io (by omega) (by omega), (inO_bd h.io (j := 0) (by omega)).1, (inO_bd h.io (j := D.length - 1) (by omega)).2, fun h1 => inO_lt h.io (by omega) (by omega), fun h1 => by rw [show D.length - 1 = 0 by omega]⟩⟩
  have hrowH := Hid.mk hrow
  have hsu : Hid (∀ k, star D n wide (k + 1) r c = (star D n wide k r c || (rowK D n k == r && colK D wide k == c))) := ⟨fun k => star_succ D n wide k r c⟩
  obtain ⟨zb, hzb⟩ : ∃ zb, decide (zerR D n = some r) = zb := ⟨_, rfl⟩
  rw [hzb] at hze hm2
  obtain ⟨zI, hzI⟩ : ∃ zI, zI = zerI D n := ⟨_, rfl⟩
  obtain ⟨M, hM⟩ : ∃ M, M = markN D n wide r c := ⟨_, rfl⟩
  rw [← hzI] at hze ⊢
  rw [← hM] at hm1 hm2 ⊢
  clear hrow hzb hzI hM h
  go_enter Try.func49, Try.ntmps49
  go_wp2_with fail
  go_loopw [17] (fun v wr => ∃ k : Nat, k ≤ D.length ∧ v = .int .i64 (k : Int) ∧ Hid (star D n wide k r c = false) ∧ Below w.heap.size w wr) (fun v _ => D.length - (intOf v).toNat)
  case atStart => exact ⟨0, by omega, rfl, ⟨rfl⟩, Below.refl _ _⟩
  case round =>
    obtain ⟨k, hk, rfl, hno, hB⟩ := hrel
    by_cases hlt : k < D.length
    · have hlt' : (k : Int) < (D.length : Int) := by omega
      have hk0 : (0 : Int) ≤ (k : Int) := by omega
      obtain ⟨b, off, rfl, hc⟩ := (hp.later hB).cells hlt
      obtain ⟨s0, s1⟩ := hc k hlt
      obtain ⟨e0, -⟩ := hc 0 (by omega)
      obtain ⟨en, -⟩ := hc (D.length - 1) (by omega)
      rw [Nat.zero_mul, Nat.add_zero] at e0
      change wr.cell? _ = some (.int .i64 (pX D k)) at s0
      change wr.cell? _ = some (.int .i64 (pX D 0)) at e0
      change wr.cell? _ = some (.int .i64 (pX D (D.length - 1))) at en
      change wr.cell? _ = some (.int .u32 (hgt D k : Int)) at s1
      obtain ⟨q4, q5⟩ := hcol.out k hlt
      obtain ⟨y1, y2, y3, y4, y5, y7⟩ := hx.out k hlt
      have hro := hrowH.out k hlt
      have hs2 := hsu.out k
      rw [hno.out, Bool.false_or] at hs2
      have hs3 := hst.out k hlt
      replace hs2 := Hid.mk hs2
      replace hs3 := Hid.mk hs3
      clear hc hcol hx hrowH hsu hst hp hno
      generalize pX D k = px at *
      generalize pX D 0 = x0 at *
      generalize pX D (D.length - 1) = x1 at *
      generalize hgt D k = py at *
      generalize rowK D n k = ro at *
      generalize colK D wide k = co at *
      go_upto_if 28 with fail
      go_cut [18] (fun v wx => v = .int .i64 (co : Int) ∧ ∃ m, wx = wr.drewN m)
      case first =>
        by_cases h1 : 1 < D.length
        · have h1' : (1 : Int) < (D.length : Int) := by omega
          have y6 := y5 h1
          have e : (co : Int) = (px - x0) * ((wide : Int) - 1) / (x1 - x0) := by rw [q4]; exact if_neg (by omega)
          have hd1 : 0 ≤ px - x0 ∧ px - x0 ≤ 20000000000000 := by omega
          have hd2 : 0 ≤ (wide : Int) - 1 ∧ (wide : Int) - 1 ≤ 100 := by omega
          have hd3 : 0 < x1 - x0 ∧ x1 - x0 ≤ 20000000000000 := by omega
          have hpp := col_prod hd1 hd2
          have hq : ((px - x0) * ((wide : Int) - 1)).tdiv (x1 - x0) = (co : Int) := by rw [Int.tdiv_eq_ediv_of_nonneg hpp.1, e]
          have hne : x1 - x0 ≠ 0 := by omega
          obtain ⟨m, hm⟩ : ∃ m, D.length = m + 1 := ⟨D.length - 1, by omega⟩
          rw [show D.length - 1 = m by omega] at en
          have m1 : (D.length : Int) - 1 = (m : Int) := by omega
          have m2 : IntKind.i64.wrap ((D.length : Int) - 1) = (m : Int) := by rw [IntKind.wrap_i64]; omega
          have m3 : (m : Int) < (D.length : Int) := by omega
          have m4 : (0 : Int) ≤ (m : Int) := by omega
          have hlen : (0 : Int) < (D.length : Int) := by omega
          clear e q4 y5 y7 h1 hm
          go_wp2_with fail
          go_quiet (fail)
          go_wp2
          go_meet
          exact ⟨rfl, _, rfl⟩
        · have h1' : ¬ (1 : Int) < (D.length : Int) := by omega
          have e : (co : Int) = 0 := by rw [q4]; exact if_pos (y7 h1)
          replace e := Hid.mk e
          clear q4 y5 y7 h1
          go_wp2
          go_meet
          exact ⟨by rw [e.out], 0, rfl⟩
      case rest =>
        obtain ⟨rfl, m, hwc⟩ := hcut
        have s1' : wc.cell? ⟨b, off + k * 2 + 1, none⟩ = some (.int .u32 (py : Int)) := by rw [hwc]; exact s1
        have hBc : Below w.heap.size w wc := by rw [hwc]; exact below_drewN hB _
        clear s0 e0 en s1 hwc hB q4 y1 y2 y3 y4 y5 y7
        by_cases ec : co = c
        · subst ec
          by_cases er : ro = r
          · subst er
            have hmm := hm1.out (hs3.out (by simp))
            have b1 : ((co : Int) == (co : Int)) = true := by simp
            have b2 : ((ro : Int) == (ro : Int)) = true := by simp
            clear hs2 hs3 hm1 hm2
            go_wp2_with (go_at_call 48; refine (hro _).mono ?_; rintro _ w5 ⟨rfl, hB5⟩)
            go_ret
            exact ⟨by rw [hmm]; rfl, hBc.trans (hB5.mono hBc.size)⟩
          · have hs4 : Hid (star D n wide (k + 1) r co = false) := ⟨by rw [hs2.out]; simp [er]⟩
            have b1 : ((co : Int) == (co : Int)) = true := by simp
            have b2 : ((ro : Int) == (r : Int)) = false := beq_eq_false_iff_ne.2 (by omega)
            clear hs2 hs3 er
            go_wp2_with (go_at_call 48; refine (hro _).mono ?_; rintro _ w5 ⟨rfl, hB5⟩)
            go_roundw
            case rel => exact ⟨k + 1, by omega, by go_num, hs4, hBc.trans (hB5.mono hBc.size)⟩
            case measure => simp [intOf]; omega
        · have hs4 : Hid (star D n wide (k + 1) r c = false) := ⟨by rw [hs2.out]; simp [ec]⟩
          have b1 : ((co : Int) == (c : Int)) = false := beq_eq_false_iff_ne.2 (by omega)
          clear hs2 hs3 ec
          go_wp2
          go_roundw
          case rel => exact ⟨k + 1, by omega, by go_num, hs4, hBc⟩
          case measure => simp [intOf]; omega
    · obtain rfl : k = D.length := by omega
      have hlt' : ¬ (D.length : Int) < (D.length : Int) := by omega
      have hm := hm2.out hno.out
      clear hno hm1 hm2 hst hcol hx hrowH hsu
      cases zb with
      | true =>
        go_wp2
        go_ret
        exact ⟨rfl, hB⟩
      | false =>
        go_wp2
        go_ret
        exact ⟨rfl, hB⟩
end Go.Proofs.Yteefieidfgpijaa.CF

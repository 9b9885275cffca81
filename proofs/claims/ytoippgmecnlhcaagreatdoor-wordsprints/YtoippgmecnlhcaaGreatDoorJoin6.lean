import Derived.Test.YtoippgmecnlhcaaGreatDoorJoin5
import Derived.Laws.IdiomStrings
namespace Go.Proofs.YtoippgmecnlhcaaGreatDoor
open Go.RowKit

set_option maxHeartbeats 2000000 in
theorem dateOf_any (n k d : Int) (h : D.At n k d) (w : World) (hM : Mon w) :
    Calls Tryz.prog 68 #[.int .i64 n] w fun e w' => e = .returned (.agg #[.int .i64 (1900 + k / 12), .int .i64 (k % 12 + 1), .int .i64 (d + 1)]) ∧ Below w.heap.size w w' := by
  obtain ⟨n0, n1⟩ := h.nn
  obtain ⟨y0, y1⟩ := h.year
  have hr := h.rest
  have k0 := h.k0
  have k1 := h.k1
  obtain ⟨Y, hY⟩ : ∃ Y, Y = 1900 + k / 12 := ⟨_, rfl⟩
  obtain ⟨m, hm⟩ : ∃ m, m = k % 12 + 1 := ⟨_, rfl⟩
  have dL : d < D.last Y m := by rw [hY, hm]; exact h.d1
  have d0 := h.d0
  rw [← hY] at y0 y1 hr ⊢
  rw [← hm] at hr ⊢
  have hg := D.guess n0 y1
  have Y0 : 1900 ≤ Y := by omega
  have Y1 : Y ≤ 2199 := by omega
  have m0 : 1 ≤ m := by omega
  have m1 : m ≤ 12 := by omega
  clear h hY hm k0 k1
  have e1 : n.tdiv 366 = n / 366 := Int.tdiv_eq_ediv_of_nonneg n0
  have e2 : wrap64 (1900 + n / 366) = 1900 + n / 366 := wrap64_id (by omega) (by omega)
  have hM0 := hM.alloc (.cells #[.int .i64 0, .int .i64 0, .int .i64 0] 144)
  obtain ⟨W0, hW0⟩ : ∃ W0, W0 = w.alloc (.cells #[.int .i64 0, .int .i64 0, .int .i64 0] 144) := ⟨_, rfl⟩
  have hB0 : Below w.heap.size w W0 := by rw [hW0]; exact (Below.refl _ _).alloc (Nat.le_refl _) _
  have hX := Box3.new w (.int .i64 0) (.int .i64 0) (.int .i64 0) 144
  rw [← hW0] at hX hM0
  obtain ⟨q0, q1, q2, f0, f1, f2⟩ := id hX
  go_enter Tryz.func68, Tryz.ntmps68
  go_wp2
  rw [← hW0]
  clear hW0
  go_loopw [3] (fun x wr => ∃ z : Int, x = .int .i64 z ∧ 1900 ≤ z ∧ z ≤ Y ∧ wr = W0) (fun x _ => (Y - intOf x).toNat)
  case atStart => exact ⟨_, rfl, by omega, hg, rfl⟩
  case round =>
    obtain ⟨z, rfl, z0, z1, rfl⟩ := hrel
    have e3 : wrap64 (z + 1) = z + 1 := wrap64_id (by omega) (by omega)
    have hS := yearStart_any (z + 1) (by omega) (by omega) wr
    by_cases hz : z = Y
    · subst hz
      have hS2 := yearStart_any z (by omega) (by omega) wr
      have t1 : ¬ D.ys (z + 1) ≤ n := by omega
      have by' := D.ys_bd z Y0 (by omega)
      have e4 : wrap64 (n - D.ys z) = n - D.ys z := wrap64_id (by omega) (by omega)
      have tok : True := trivial
      go_wp2_with (first | (go_at_call 90; have _u := tok; clear tok; refine hS.mono ?_; clear hS; rintro e wr ⟨rfl, rfl⟩) | (go_at_call 90; refine hS2.mono ?_; clear hS2; rintro e wr ⟨rfl, rfl⟩))
      obtain ⟨W1, hW1⟩ : ∃ W1, W1 = wr := ⟨_, rfl⟩
      go_loopw [4, 5] (fun v x wr => ∃ j : Int, x = .int .i64 j ∧ 1 ≤ j ∧ j ≤ m ∧ v = .int .i64 (n - D.ys z - D.ms z j) ∧ wr = W1) (fun _ x _ => (m - intOf x).toNat)
      case atStart => exact ⟨1, rfl, by omega, by omega, by rw [D.ms_1]; simp, hW1.symm⟩
      case round =>
        obtain ⟨j, rfl, j0, j1, rfl, hW2⟩ := hrel
        subst hW1
        subst hW2
        have hL := last_any z j wr hM0 _ rfl
        have hL2 := last_any z j wr hM0 _ rfl
        have bl := D.last_bd z j j0 (by omega)
        by_cases hj : j = m
        · subst hj
          have t2 : ¬ D.last z j ≤ n - D.ys z - D.ms z j := by omega
          have e5 : wrap64 (d + 1) = d + 1 := wrap64_id (by omega) (by omega)
          rw [hr] at *
          go_wp2_with (go_at_call 91; refine hL.mono ?_; clear hL; rintro e wr ⟨rfl, rfl⟩)
          exact bodyPost_ret (v := .agg #[.int .i64 z, .int .i64 j, .int .i64 (d + 1)]) (by simp [results, Tryz.results68, go_sem, q0, q1, q2]) rfl ⟨rfl, ((hB0.setCell (by simp) _).setCell (by simp) _).setCell (by simp) _⟩
        · have es := D.ms_succ z j j0 (by omega)
          have le := D.ms_le z (j + 1) m (by omega) (by omega) (by omega)
          have bj := D.ms_bd z j j0 (by omega)
          have t2 : D.last z j ≤ n - D.ys z - D.ms z j := by omega
          have e5 : wrap64 (n - D.ys z - D.ms z j - D.last z j) = n - D.ys z - D.ms z j - D.last z j := wrap64_id (by omega) (by omega)
          have e6 : wrap64 (j + 1) = j + 1 := wrap64_id (by omega) (by omega)
          go_wp2_with (first | (go_at_call 91; refine hL.mono ?_; clear hL; rintro e wr ⟨rfl, rfl⟩) | (go_at_call 91; refine hL2.mono ?_; clear hL2; rintro e wr ⟨rfl, rfl⟩))
          go_roundw
          case rel => exact ⟨j + 1, rfl, by omega, by omega, congrArg (Value.int .i64) (by omega), trivial⟩
          case measure => simp [intOf]; omega
    · have le := D.ys_le (y := z + 1) (z := Y) (by omega)
      have t1 : D.ys (z + 1) ≤ n := by omega
      go_wp2_with (go_at_call 90; refine hS.mono ?_; clear hS; rintro e wr ⟨rfl, rfl⟩)
      go_roundw
      case rel => exact ⟨z + 1, rfl, by omega, by omega, trivial⟩
      case measure => simp [intOf]; omega

end Go.Proofs.YtoippgmecnlhcaaGreatDoor


namespace Go.Proofs.YtoippgmecnlhcaaGreatDoor
open Go.RowKit

set_option maxHeartbeats 1000000 in
theorem number_any (y m d : Int) (w : World) (hM : Mon w) (v e : Int) (hv : Hid ((v, e) = D.num y m d)) :
    Calls Tryz.prog 94 #[.int .i64 y, .int .i64 m, .int .i64 d] w fun en w' => en = .returned (.tuple #[.int .i64 v, .int .i64 e]) ∧ Below w.heap.size w w' := by
  have hv := hv.out
  have hL := last_any y m w hM _ rfl
  unfold D.num at hv
  by_cases h1 : d < 1 ∨ D.last y m < d
  · rw [if_pos h1] at hv
    obtain ⟨rfl, rfl⟩ := Prod.mk.inj hv
    clear hv
    by_cases h2 : d < 1
    · clear h1 hL
      go_enter Tryz.func94, Tryz.ntmps94
      go_wp2
      exact bodyPost_ret (v := .tuple #[.int .i64 0, .int .i64 20]) (by simp [results, Tryz.results94, go_sem]) rfl ⟨rfl, Below.refl _ _⟩
    · have h3 : D.last y m < d := by omega
      generalize D.last y m = L at *
      clear h1
      go_enter Tryz.func94, Tryz.ntmps94
      go_wp2_with (go_at_call 91; refine hL.mono ?_; clear hL; rintro e w ⟨rfl, rfl⟩)
      exact bodyPost_ret (v := .tuple #[.int .i64 0, .int .i64 20]) (by simp [results, Tryz.results94, go_sem]) rfl ⟨rfl, Below.refl _ _⟩
  · rw [if_neg h1] at hv
    have h2 : ¬ d < 1 := by omega
    have h3 : d ≤ D.last y m := by omega
    by_cases h4 : y < 1900 ∨ 2199 < y
    · rw [if_pos h4] at hv
      obtain ⟨rfl, rfl⟩ := Prod.mk.inj hv
      have hY := isYear_no y (by omega) w
      generalize D.last y m = L at *
      clear h1 h4 hv
      go_enter Tryz.func94, Tryz.ntmps94
      go_wp2_with (first | (go_at_call 91; refine hL.mono ?_; clear hL; rintro e w ⟨rfl, rfl⟩) | (go_at_call 123; refine hY.mono ?_; clear hY; rintro e w ⟨rfl, rfl⟩))
      exact bodyPost_ret (v := .tuple #[.int .i64 0, .int .i64 21]) (by simp [results, Tryz.results94, go_sem]) rfl ⟨rfl, Below.refl _ _⟩
    · rw [if_neg h4] at hv
      obtain ⟨hv1, rfl⟩ := Prod.mk.inj hv
      have hY := isYear_yes y (by omega) (by omega) w
      have hm : 1 ≤ m ∧ m ≤ 12 := by
        apply Classical.byContradiction
        intro hn
        rw [D.last_no y m (by omega)] at h3
        omega
      have hl := D.last_bd y m hm.1 hm.2
      have hN := numberOf_any y m d (by omega) (by omega) hm.1 hm.2 (by omega) (by omega) w hM
      rw [← hv1] at hN
      generalize D.last y m = L at *
      clear h1 h4 hv hv1
      go_enter Tryz.func94, Tryz.ntmps94
      go_wp2_with (first | (go_at_call 91; refine hL.mono ?_; clear hL; rintro e w ⟨rfl, rfl⟩) | (go_at_call 123; refine hY.mono ?_; clear hY; rintro e w ⟨rfl, rfl⟩) | (go_at_call 124; refine hN.mono ?_; clear hN; rintro e w1 ⟨rfl, hb1⟩))
      exact bodyPost_ret (v := .tuple #[.int .i64 v, .int .i64 0]) (by simp [results, Tryz.results94, go_sem]) rfl ⟨rfl, hb1⟩



end Go.Proofs.YtoippgmecnlhcaaGreatDoor


namespace Go.Proofs.YtoippgmecnlhcaaGreatDoor
open Go.RowKit

/-- Ten bytes in a block. -/
def Txt (w : World) (b : Nat) (f : Nat → Int) : Prop := ∀ j, j < 10 → w.cell? ⟨b, j, none⟩ = some (.int .u8 (f j)) ∧ w.frozen? ⟨b, j, none⟩ = false
theorem Txt.set {w : World} {b : Nat} {f : Nat → Int} (h : Txt w b f) (i : Nat) (hi : i < 10) (v : Int) : Txt (w.setCell ⟨b, i, none⟩ (.int .u8 v)) b (fun j => if j = i then v else f j) := by
  intro j hj
  refine ⟨?_, by rw [World.frozen?_setCell]; exact (h j hj).2⟩
  by_cases e : j = i
  · subst e
    rw [World.cell?_setCell_same' _ _ _ (by rw [(h j hj).1]; rfl)]
    simp
  · rw [World.cell?_setCell_other _ _ _ _ (by simp)]
    simp only [e, if_false]
    exact (h j hj).1
theorem Txt.congr {w : World} {b : Nat} {f g : Nat → Int} (h : Txt w b f) (e : ∀ j, j < 10 → f j = g j) : Txt w b g := fun j hj => by rw [← e j hj]; exact h j hj
theorem Txt.later {w w' : World} {b : Nat} {f : Nat → Int} (h : Txt w b f) (hb : Below w.heap.size w w') : Txt w' b f := fun j hj =>
  have hl := World.block_lt_of_cell? _ _ (h j hj).1
  ⟨(hb.cell (p := ⟨b, j, none⟩) hl).trans (h j hj).1, (hb.frozen (p := ⟨b, j, none⟩) hl).trans (h j hj).2⟩

/-- digit k of a number, from the last one on -/
def dg (N k : Nat) : Int := 48 + ((N / 10 ^ k % 10 : Nat) : Int)

set_option maxHeartbeats 1000000 in
theorem putDigits_any (b off L cap N : Nat) (hL : off + L ≤ 10) (hN : N < 1000000) (f : Nat → Int) (w : World) (hT : Txt w b f) :
    Calls Tryz.prog 69 #[.slice (some ⟨b, off, none⟩) L cap, .int .i64 N] w fun e w' => (∃ v, e = .returned v) ∧ Txt w' b (fun j => if off ≤ j ∧ j < off + L then dg N (off + L - 1 - j) else f j) ∧ Below b w w' := by
  have e1 : wrap64 ((L : Int) - 1) = (L : Int) - 1 := wrap64_id (by omega) (by omega)
  go_enter Tryz.func69, Tryz.ntmps69
  go_wp2
  go_loopw [1, 4] (fun y x wr => ∃ (i M : Nat) (z : Int), x = .int .i64 z ∧ z = (i : Int) - 1 ∧ i ≤ L ∧ y = .int .i64 M ∧ Hid (M = N / 10 ^ (L - i)) ∧ Txt wr b (fun j => if off + i ≤ j ∧ j < off + L then dg N (off + L - 1 - j) else f j) ∧ Below b w wr) (fun _ x _ => (intOf x + 1).toNat)
  case atStart => exact ⟨L, N, _, rfl, rfl, Nat.le_refl _, rfl, by unfold Hid; simp, hT.congr (fun j _ => by rw [if_neg (by omega)]), Below.refl _ _⟩
  case round =>
    obtain ⟨i, M, z, rfl, hz, hi, rfl, hM, hTr, hbr⟩ := hrel
    cases i with
    | zero =>
      obtain rfl : z = -1 := by omega
      clear hz
      go_wp2
      go_end0
      exact ⟨⟨_, rfl⟩, hTr.congr (fun j _ => by simp), hbr⟩
    | succ i =>
      obtain rfl : z = i := by omega
      clear hz
      have hM2 : Hid (M = N / 10 ^ (L - 1 - i)) := by unfold Hid; rw [hM.out, show L - (i + 1) = L - 1 - i by omega]
      have hMb : M < 1000000 := by rw [hM2.out]; exact Nat.lt_of_le_of_lt (Nat.div_le_self _ _) hN
      have c0 : (i : Int) < L := by omega
      have c1 := hTr (off + i) (by omega)
      obtain ⟨R, hR⟩ : ∃ R : Int, Hid (R = (M : Int) % 10) := ⟨_, rfl⟩
      obtain ⟨M3, hM3⟩ : ∃ M3 : Nat, Hid (M3 = M / 10) := ⟨_, rfl⟩
      have em : (M : Int).tmod 10 = R := by rw [Int.tmod_eq_emod_of_nonneg (by omega)]; exact hR.out.symm
      have eq : (M : Int).tdiv 10 = (M3 : Int) := by have := hM3.out; rw [Int.tdiv_eq_ediv_of_nonneg (by omega)]; omega
      have r0 : 0 ≤ R := by have := hR.out; omega
      have r1 : R ≤ 9 := by have := hR.out; omega
      have m3 : M3 < 1000000 := by have := hM3.out; omega
      have hs := hTr.set (off + i) (by omega) (48 + R)
      obtain ⟨c2, c3⟩ := c1
      have hx : Hid (48 + R = dg N (off + L - 1 - (off + i))) := by
        unfold Hid dg
        rw [hR.out, hM2.out, show off + L - 1 - (off + i) = L - 1 - i by omega]
        simp
      have hM4 : Hid (M3 = N / 10 ^ (L - i)) := by
        unfold Hid
        rw [hM3.out, hM2.out, Nat.div_div_eq_div_mul, ← Nat.pow_succ, show (L - 1 - i).succ = L - i by omega]
      have e3 : wrap64 ((i : Int) - 1) = (i : Int) - 1 := wrap64_id (by omega) (by omega)
      have hTn : Hid (Txt (wr.setCell ⟨b, off + i, none⟩ (.int .u8 (48 + R))) b (fun j => if off + i ≤ j ∧ j < off + L then dg N (off + L - 1 - j) else f j)) := by
        refine hs.congr (fun j _ => ?_)
        by_cases e : j = off + i
        · subst e
          rw [if_pos rfl, if_pos (by omega)]
          exact hx.out
        · rw [if_neg e]
          by_cases e2 : off + i ≤ j ∧ j < off + L
          · rw [if_pos e2, if_pos (by omega)]
          · rw [if_neg e2, if_neg (by omega)]
      clear hT hTr hM hM2 hs hx hR hM3
      go_wp2
      exact ⟨⟨i, M3, _, rfl, rfl, by omega, rfl, hM4, hTn.out, hbr.setCell (Nat.le_refl _) _⟩, by simp [intOf]⟩

theorem fits_any (c a : Int) (w : World) : Calls Tryz.prog 122 #[.int .u8 c, .int .u8 a] w fun e w' => e = .returned (.bool (if a = 48 then decide (48 ≤ c ∧ c ≤ 57) else decide (c = a))) ∧ w' = w := by
  by_cases h : a = 48
  · subst h
    by_cases h1 : 48 ≤ c
    · go_enter Tryz.func122, Tryz.ntmps122
      go_wp2
      go_ret
      exact ⟨ret_bool (by simp), rfl⟩
    · go_enter Tryz.func122, Tryz.ntmps122
      go_wp2
      go_ret
      exact ⟨ret_bool (by simp; omega), rfl⟩
  · go_enter Tryz.func122, Tryz.ntmps122
    go_wp2
    go_ret
    exact ⟨ret_bool (by rw [Bool.eq_iff_iff]; simp), rfl⟩

/-- the value of digits, from the first one on -/
def dval (c : Nat → Int) : Nat → Int
  | 0 => 0
  | n + 1 => dval c n * 10 + c n

set_option maxHeartbeats 1000000 in
theorem digits_any (s : ByteArray) (hs : s.size ≤ 9) (c : Nat → Int) (hc : ∀ i (h : i < s.size), (s[i].toNat : Int) = 48 + c i ∧ 0 ≤ c i ∧ c i ≤ 9) (w : World) :
    Calls Tryz.prog 95 #[.string s] w fun e w' => e = .returned (.int .i64 (dval c s.size)) ∧ w' = w := by
  go_enter Tryz.func95, Tryz.ntmps95
  go_wp2
  go_loopw [3, 7] (fun y x wr => ∃ (i : Nat), x = .int .i64 i ∧ i ≤ s.size ∧ y = .int .i64 (dval c i) ∧ Hid (0 ≤ dval c i ∧ dval c i < 10 ^ i) ∧ wr = w) (fun _ x _ => s.size - (intOf x).toNat)
  case atStart => exact ⟨0, rfl, Nat.zero_le _, rfl, by unfold Hid; simp [dval], rfl⟩
  case round =>
    obtain ⟨i, rfl, hi, rfl, hb, rfl⟩ := hrel
    by_cases hlt : i = s.size
    · subst hlt
      go_wp2
      go_ret
      exact ⟨rfl, rfl⟩
    · have h1 : (i : Int) < s.size := by omega
      have h2 : i < s.size := by omega
      obtain ⟨hc1, hc2, hc3⟩ := hc i h2
      go_wp2
      have hd := hb.out
      have hp : (10 : Int) ^ i ≤ 10 ^ 9 := by
        have := Nat.pow_le_pow_right (n := 10) (by omega) (show i ≤ 9 by omega)
        exact_mod_cast this
      have h9 : (10 : Int) ^ 9 = 1000000000 := by decide
      have hp2 : (10 : Int) ^ (i + 1) = 10 ^ i * 10 := Int.pow_succ _ _
      refine ⟨⟨i + 1, by simp, by omega, congrArg (Value.int .i64) ?_, ?_, trivial⟩, by simp [intOf]; omega⟩
      · rw [wrap64_id (z := dval c i * 10) (by omega) (by omega), wrap64_id (by omega) (by omega)]
        simp only [dval]
        omega
      · unfold Hid
        simp only [dval]
        omega

end Go.Proofs.YtoippgmecnlhcaaGreatDoor

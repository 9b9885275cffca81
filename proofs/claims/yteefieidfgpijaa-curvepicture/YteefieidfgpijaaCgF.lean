import Derived.Test.YteefieidfgpijaaCgE
namespace Go.Proofs.Yteefieidfgpijaa.CF
open Go.RowKit
attribute [local go_sem] run_store_float

def SmP (most : Int) (w : World) (e : Ending) (w' : World) : Prop := ∃ r : Int, e = .returned (.int .i64 r) ∧ (-most ≤ r ∧ r ≤ most) ∧ w' = w
theorem small_any (n most : Int) (hn : -9223372036854775808 ≤ n ∧ n ≤ 9223372036854775807) (hm : 1 ≤ most ∧ most ≤ 100000) (w : World) : Calls Try.prog 8 #[.int .i64 n, .int .i64 most] w (SmP most w) := by
  by_cases h0 : n < 0
  · obtain ⟨r, hr⟩ : ∃ r, r = (-(n + 1)).tmod (2 * most + 1) := ⟨_, rfl⟩
    have hb : 0 ≤ r ∧ r < 2 * most + 1 := by
      rw [hr]
      exact ⟨Int.tmod_nonneg _ (by omega), Int.tmod_lt_of_pos _ (by omega)⟩
    have hr2 : (-(n + 1)).tmod (2 * most + 1) = r := hr.symm
    have hne : 2 * most + 1 ≠ 0 := by omega
    clear hr
    go_enter Try.func8, Try.ntmps8
    go_wp2
    go_ret
    exact ⟨r - most, rfl, by omega, rfl⟩
  · obtain ⟨r, hr⟩ : ∃ r, r = n.tmod (2 * most + 1) := ⟨_, rfl⟩
    have hb : 0 ≤ r ∧ r < 2 * most + 1 := by
      rw [hr]
      exact ⟨Int.tmod_nonneg _ (by omega), Int.tmod_lt_of_pos _ (by omega)⟩
    have hr2 : n.tmod (2 * most + 1) = r := hr.symm
    have hne : 2 * most + 1 ≠ 0 := by omega
    clear hr
    go_enter Try.func8, Try.ntmps8
    go_wp2
    go_ret
    exact ⟨r - most, rfl, by omega, rfl⟩
/-- Points with whole heights. -/
def WD (X Z : Nat → Int) (m : Nat) : Dots := (List.range m).map fun k => (X k, wholeN (Z k))
theorem WD_len (X Z : Nat → Int) (m : Nat) : (WD X Z m).length = m := by simp [WD]
theorem WD_get (X Z : Nat → Int) {m k : Nat} (h : k < m) : (WD X Z m).getD k (0, 0) = (X k, wholeN (Z k)) := by
  unfold WD
  rw [List.getD_eq_getElem?_getD, List.getElem?_map, List.getElem?_range h]
  rfl
theorem WD_succ (X Z : Nat → Int) (m : Nat) : WD X Z (m + 1) = WD X Z m ++ [(X m, wholeN (Z m))] := by
  unfold WD
  rw [List.range_succ, List.map_append]
  rfl
/-- In order, and small. -/
structure Snd (X Z : Nat → Int) (m : Nat) : Prop where
  rise : ∀ k, k + 1 < m → X k < X (k + 1)
  bdx : ∀ k, k < m → -100000 ≤ X k ∧ X k ≤ 100000
  bdz : ∀ k, k < m → (Z k).natAbs < 1000000
theorem WD_io {X Z : Nat → Int} {m : Nat} (h : Snd X Z m) : inO (WD X Z m) = true := by
  refine inO_true.2 fun k hk => ?_
  rw [WD_len] at hk
  obtain ⟨x1, x2, x3, x4⟩ := whole_parts (z := Z k) (by have := h.bdz k hk; omega)
  have hb := h.bdx k hk
  unfold gB
  rw [WD_get X Z hk]
  have e1 : bw (X k) = true := by unfold bw; exact decide_eq_true (by omega)
  have e2 : bf (wholeN (Z k)) = true := by unfold bf; exact decide_eq_true (by omega)
  by_cases h0 : k = 0
  · subst h0
    simp only [e1, e2]
    rfl
  · rw [WD_get X Z (k := k - 1) (by omega)]
    have hr := h.rise (k - 1) (by omega)
    rw [show k - 1 + 1 = k by omega] at hr
    simp only [e1, e2, decide_eq_true hr, Bool.or_true, Bool.and_self]
theorem WD_ok {X Z : Nat → Int} {m : Nat} (h : Snd X Z m) : Ok (WD X Z m) := by
  intro d hd
  unfold WD at hd
  rw [List.mem_map] at hd
  obtain ⟨k, hk, rfl⟩ := hd
  have hk2 := List.mem_range.1 hk
  have hb := h.bdx k hk2
  obtain ⟨x1, x2, x3, x4⟩ := whole_parts (z := Z k) (by have := h.bdz k hk2; omega)
  exact ⟨by show _ ≤ X k ∧ X k ≤ _; omega, x1⟩
/-- The places and heights of sound. -/
def stp (D : Dots) (k : Nat) : Int := (((D.getD k (0, 0)).1.tmod 1000).natAbs : Nat)
def sX (D : Dots) : Nat → Int
  | 0 => -1000
  | k + 1 => sX D k + 1 + stp D k
def sZ (D : Dots) (k : Nat) : Int := (((D.getD k (0, 0)).2 % 20001 : Nat) : Int) - 10000
theorem stp_b (D : Dots) (k : Nat) : 0 ≤ stp D k ∧ stp D k ≤ 999 := by
  unfold stp
  generalize (D.getD k (0, 0)).1 = x
  have h1 := Int.tmod_lt_of_pos x (show (0 : Int) < 1000 by decide)
  have h2 : -1000 < x.tmod 1000 := by
    have := Int.lt_tmod_of_pos x (show (0 : Int) < 1000 by decide)
    omega
  omega
theorem sX_b (D : Dots) : ∀ k : Nat, -1000 + (k : Int) ≤ sX D k ∧ sX D k ≤ -1000 + 1000 * (k : Int)
  | 0 => ⟨by show _ ≤ (-1000 : Int); omega, by show (-1000 : Int) ≤ _; omega⟩
  | k + 1 => by
    have h1 := sX_b D k
    have h2 := stp_b D k
    have e : sX D (k + 1) = sX D k + 1 + stp D k := rfl
    rw [e]
    omega
theorem snd_D (D : Dots) {m : Nat} (hm : m ≤ 64) : Snd (fun k => sX D (k + 1)) (sZ D) m := by
  refine ⟨fun k _ => ?_, fun k hk => ?_, fun k _ => ?_⟩
  · show sX D (k + 1) < sX D (k + 1 + 1)
    have h2 := stp_b D (k + 1)
    have e : sX D (k + 1 + 1) = sX D (k + 1) + 1 + stp D (k + 1) := rfl
    rw [e]
    omega
  · have h := sX_b D (k + 1)
    show _ ≤ sX D (k + 1) ∧ sX D (k + 1) ≤ _
    omega
  · unfold sZ
    omega
def SoP (D : Dots) (w : World) (e : Ending) (w' : World) : Prop := ∃ a c, e = .returned (.slice a (min D.length 64) c) ∧ w'.ownsRow w.heap.size 35 2 (.slice a (min D.length 64) c) (min D.length 64) (ptV (WD (fun k => sX D (k + 1)) (sZ D) (min D.length 64))) ∧ Below w.heap.size w w'
set_option maxRecDepth 8000 in
set_option maxHeartbeats 2000000 in
theorem sound_any (D : Dots) (hD : Ok D) (hl : D.length ≤ 8796093021952) (a : Option Addr) (c : Nat) (w : World) (h : RtAt w a D) : Calls Try.prog 15 #[.slice a D.length c] w (SoP D w) := by
  obtain ⟨i0, hi, hz0, hz1, hz2⟩ := info_parts infoP
  go_enter Try.func15, Try.ntmps15
  go_wp2_with fail
  go_loopw [3, 4, 5] (fun pv xv v wr => ∃ k : Nat, k ≤ min D.length 64 ∧ xv = .int .i64 (sX D k) ∧ v = .int .i64 (k : Int) ∧ wr.ownsRow w.heap.size 35 2 pv k (ptV (WD (fun k => sX D (k + 1)) (sZ D) k)) ∧ Below w.heap.size w wr) (fun _ _ v _ => min D.length 64 - (intOf v).toNat)
  case atStart => exact ⟨0, by omega, rfl, rfl, World.ownsRow_nil _ _ _ _, Below.refl _ _⟩
  case round =>
    obtain ⟨k, hk, rfl, rfl, ho, hB⟩ := hrel
    by_cases hlt : k < min D.length 64
    · have hlt1 : (k : Int) < (D.length : Int) := by omega
      have hlt2 : (k : Int) < 64 := by omega
      have hk0 : (0 : Int) ≤ (k : Int) := by omega
      obtain ⟨b, off, rfl, hc⟩ := (h.later hB).cells (k := k) (by omega)
      obtain ⟨s0, s1⟩ := hc k (by omega)
      have hd := hD.getD k
      have hxb : -1000 ≤ sX D k ∧ sX D k ≤ 63000 := by have := sX_b D k; omega
      have hsb := stp_b D k
      have hX1 : Hid (sX D (k + 1) = sX D k + 1 + stp D k) := ⟨rfl⟩
      have hW1 : Hid (WD (fun k => sX D (k + 1)) (sZ D) (k + 1) = WD (fun k => sX D (k + 1)) (sZ D) k ++ [(sX D (k + 1), wholeN (sZ D k))]) := ⟨WD_succ _ _ _⟩
      have hst : Hid (stp D k = (((D.getD k (0, 0)).1.tmod 1000).natAbs : Nat)) := ⟨rfl⟩
      have hsz : (((D.getD k (0, 0)).2 : Int).tmod 20001) - 10000 = sZ D k := by
        unfold sZ
        rw [Int.tmod_eq_emod_of_nonneg (by omega)]
        omega
      have hzz : -10000 ≤ sZ D k ∧ sZ D k ≤ 10000 := by unfold sZ; omega
      have hm2 : 0 ≤ (((D.getD k (0, 0)).2 : Int).tmod 20001) ∧ (((D.getD k (0, 0)).2 : Int).tmod 20001) ≤ 20000 := by omega
      have hcv := conv_f32 (sZ D k)
      have hmb := Int.tmod_lt_of_pos (D.getD k (0, 0)).1 (show (0 : Int) < 1000 by decide)
      have hmb2 := Int.lt_tmod_of_pos (D.getD k (0, 0)).1 (show (0 : Int) < 1000 by decide)
      obtain ⟨tm, htm⟩ : ∃ t, (D.getD k (0, 0)).1.tmod 1000 = t := ⟨_, rfl⟩
      rw [htm] at hst hmb hmb2
      generalize wholeN (sZ D k) = U at *
      generalize sZ D k = zz at *
      obtain ⟨x', hx'⟩ : ∃ x', x' = sX D (k + 1) := ⟨_, rfl⟩
      rw [← hx'] at hX1 hW1
      replace hx' := Hid.mk hx'
      generalize sX D k = x at *
      generalize stp D k = st at *
      obtain ⟨tz, htz⟩ : ∃ t, ((D.getD k (0, 0)).2 : Int).tmod 20001 = t := ⟨_, rfl⟩
      rw [htz] at hsz hm2
      generalize (D.getD k (0, 0)).1 = dx at *
      generalize (D.getD k (0, 0)).2 = dy at *
      clear hc hD h
      go_upto_if 24 with fail
      go_cut [6] (fun v wx => v = .int .i64 st ∧ wx = wr)
      case first =>
        by_cases hneg : tm < 0
        · have e : -tm = st := by rw [hst.out]; omega
          go_wp2
          go_meet
          exact ⟨rfl, rfl⟩
        · have e : Hid (tm = st) := ⟨by rw [hst.out]; omega⟩
          go_wp2
          go_meet
          exact ⟨by rw [e.out], rfl⟩
      case rest =>
        obtain ⟨rfl, hwc⟩ := hcut
        subst wc
        have hx1 : x + 1 + st = x' := hX1.out.symm
        have ho4 := ho.alloc (.cells #[.int .i64 x', .float .f32 U] 35)
        have hB4 : Below w.heap.size w (wr.alloc (.cells #[.int .i64 x', .float .f32 U] 35)) := hB.alloc hB.size _
        have hlv := Hid.mk (fun (j : Nat) hj => (ho.lt j hj).1)
        clear hX1 hst ho hB
        go_wp2_with (at_builtin; refine wpList_append_own _ rfl _ _ 27 rfl w.heap.size 35 i0 _ 2 16 Try.underlying27 hi hz0 hz1 hz2 rfl (by decide) _ k _ rfl ho4 ⟨wr.heap.size, 0, none⟩ 1 1 [.int .i64 x', .float .f32 U] rfl rfl (lit_at wr _ _) (by simp [Value.oneCell']) (by unfold maxLen; omega) (by omega) hB4.size ?_; intro v5 w5 hown5 hgrow5 _; have hB5 := hB4.grown hgrow5 hB4.size hlv.out)
        go_roundw
        case rel => exact ⟨k + 1, by omega, by rw [hx'.out], by go_num, by rw [hW1.out, ptV_snoc]; exact hown5, hB5⟩
        case measure => simp [intOf]; omega
    · have hke : k = min D.length 64 := by omega
      rw [hke] at ho
      obtain ⟨p, cp, rfl⟩ := own_lenW ho
      by_cases h1 : k < D.length
      · have h1' : (k : Int) < (D.length : Int) := by omega
        have h2' : ¬ (k : Int) < 64 := by omega
        clear hke hlt hk
        go_wp2
        go_ret
        exact ⟨_, _, rfl, ho, hB⟩
      · have h1' : ¬ (k : Int) < (D.length : Int) := by omega
        clear hke hlt hk
        go_wp2
        go_ret
        exact ⟨_, _, rfl, ho, hB⟩
end Go.Proofs.Yteefieidfgpijaa.CF

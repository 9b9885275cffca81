import Derived.Test.YteefieidfgpijaaJoin52
namespace Go.Proofs.Yteefieidfgpijaa.CF
open Go.RowKit

theorem WD_hgt (X Z : Nat → Int) {m k : Nat} (h : k < m) : hgt (WD X Z m) k = wholeN (Z k) := by
  unfold hgt
  rw [WD_get X Z h]
theorem lo_W {X Z : Nat → Int} {m : Nat} (h0 : 0 < m) : (∃ j, j < m ∧ loP (WD X Z m) m = wholeN (Z j)) ∧ (∃ j, j < m ∧ hiP (WD X Z m) m = wholeN (Z j)) := by
  constructor
  · obtain ⟨j, hj, e⟩ := loP_in (WD X Z m) m
    have hjm : j < m := by omega
    exact ⟨j, hjm, by rw [e, WD_hgt X Z hjm]⟩
  · obtain ⟨j, hj, e⟩ := hiP_in (WD X Z m) m
    have hjm : j < m := by omega
    exact ⟨j, hjm, by rw [e, WD_hgt X Z hjm]⟩
theorem WD_draws {X Z : Nat → Int} {m : Nat} (h : Snd X Z m) : Draws (WD X Z m) := by
  refine ⟨WD_ok h, WD_io h, ?_⟩
  rw [WD_len]
  by_cases h0 : 0 < m
  · obtain ⟨⟨i, hi, e1⟩, j, hj, e2⟩ := lo_W (X := X) (Z := Z) h0
    have b1 := h.bdz i hi
    have b2 := h.bdz j hj
    obtain ⟨x1, x2, x3, x4⟩ := whole_parts (z := Z j - Z i) (by omega)
    rw [e1, e2, sub_whole (by omega)]
    omega
  · obtain rfl : m = 0 := by omega
    have e : WD X Z 0 = [] := rfl
    rw [e]
    decide +kernel
theorem sub_self_z {l : Nat} (h1 : l < 4294967296) (h2 : l % 2147483648 < 2139095040) : subN l l = 0 ∨ subN l l = 2147483648 := by
  obtain ⟨a, b⟩ := sub_mod h1 h1 h2 h2 (Int.le_refl _)
  rw [Int.sub_self] at a
  have e : Ieee.single.nearest false (0 : Int).toNat (-149) = 0 := by
    show Ieee.single.nearest false 0 (-149) = 0
    rw [nearest_zero, wd_false]
  rw [e] at a
  rcases b with b | ⟨b, -⟩
  · exact .inl (by omega)
  · exact .inr b
/-- The least height has row 0. -/
theorem row_lo {D : Dots} (h : Draws D) (h0 : 0 < D.length) {n : Nat} (hn : n < 40) : ∃ k, k < D.length ∧ rowK D n k = 0 := by
  obtain ⟨j, hj, e⟩ := loP_in D D.length
  have hjl : j < D.length := by omega
  refine ⟨j, hjl, ?_⟩
  have hb := h.btw hjl
  unfold rowK
  rw [← e] at hb ⊢
  unfold rowN
  by_cases he : ordN (loP D D.length) = ordN (hiP D D.length)
  · rw [if_pos he]
  · rw [if_neg he]
    obtain ⟨p1, p2⟩ := sub_pos hb.g1 hb.l1 hb.gf hb.lf hb.yg he
    have := near_f (sv (hiP D D.length) - sv (loP D D.length)).toNat (-149)
    rw [← p1] at this
    exact zero_row (sub_self_z hb.l1 hb.lf) (by have := hb.df; omega) hn
theorem top_tab : ∀ n, n < 40 → partN (addN (mulN 1065353216 (wholeN ((n : Nat) : Int))) 1056964608) = n := by decide +kernel
theorem one_W : wholeN 1 = 1065353216 := by decide +kernel
/-- The greatest height has the uppermost row, where they are unlike. -/
theorem row_hi {X Z : Nat → Int} {m : Nat} (h : Snd X Z m) (hz : ∀ k, k < m → (Z k).natAbs ≤ 10000) (hu : ∃ i, i < m ∧ Z i ≠ Z 0) {n : Nat} (hn : n < 40) : ∃ k, k < m ∧ rowK (WD X Z m) n k = n := by
  obtain ⟨i, him, hi⟩ := hu
  have hd := WD_draws h
  obtain ⟨⟨a, ha, e1⟩, b, hb, e2⟩ := lo_W (X := X) (Z := Z) (m := m) (by omega)
  refine ⟨b, hb, ?_⟩
  have za := hz a ha
  have zb := hz b hb
  have w1 := hd.btw (k := i) (by rw [WD_len]; exact him)
  have w2 := hd.btw (k := 0) (by rw [WD_len]; omega)
  rw [WD_len, e1, e2] at w1 w2
  have l1 := w1.ly
  have l2 := w1.yg
  have l3 := w2.ly
  have l4 := w2.yg
  rw [WD_hgt X Z him] at l1 l2
  rw [WD_hgt X Z (show 0 < m by omega)] at l3 l4
  have zi := hz i him
  have z0 := hz 0 (by omega)
  rw [whole_le (by omega) (by omega)] at l1 l2 l3 l4
  have hlt : Z a < Z b := by omega
  have hne : ordN (wholeN (Z a)) ≠ ordN (wholeN (Z b)) := fun e => by
    have := (whole_le (x := Z b) (y := Z a) (by omega) (by omega)).1 (by omega)
    omega
  unfold rowK
  rw [WD_len, e1, e2, WD_hgt X Z hb]
  unfold rowN
  rw [if_neg hne, sub_whole (by omega)]
  obtain ⟨d, hdd⟩ : ∃ d : Nat, Z b - Z a = (d : Int) := ⟨(Z b - Z a).toNat, by omega⟩
  rw [hdd]
  obtain ⟨q1, q2, q3⟩ := quo_whole (S := (d : Int)) (n := d) (by omega) (by omega) (by omega)
  obtain ⟨q4, q5⟩ := q3 1 (by decide)
  have a1 := q4 (by omega)
  have a2 := q5 (by omega)
  rw [one_W] at a1 a2
  have e : divN (wholeN (d : Int)) (wholeN (d : Int)) = 1065353216 := by
    have e0 : ordN 1065353216 = 1065353216 := by decide
    rw [e0] at a1 a2
    generalize divN (wholeN (d : Int)) (wholeN (d : Int)) = v at *
    unfold ordN at a1 a2
    split at a1 <;> omega
  rw [e]
  exact top_tab n hn
theorem rowK_le {D : Dots} (h : Draws D) {n k : Nat} (hn : n < 40) (hk : k < D.length) : rowK D n k ≤ n := (h.btw hk).row_le hn
end Go.Proofs.Yteefieidfgpijaa.CF


namespace Go.Proofs.Yteefieidfgpijaa.CF
open Go.RowKit
attribute [local go_sem] run_store_float

theorem lineB_size (D : Dots) (n wide r : Nat) : (lineB D n wide r).size = wide := by
  show (lineL D n wide r).toArray.size = wide
  simp [lineL_len]
theorem lineB_at (D : Dots) (n wide r : Nat) {c : Nat} (hc : c < (lineB D n wide r).size) : ((((lineB D n wide r)[c]'hc).toNat : Int) == 42) = star D n wide D.length r c := by
  have hcw : c < wide := by rw [lineB_size] at hc; exact hc
  have e : (lineB D n wide r)[c]'hc = UInt8.ofNat (markN D n wide r c) := by
    show ((lineL D n wide r).toArray)[c]'hc = _
    have h1 := lineL_get D n wide r hcw
    rw [List.getElem?_eq_getElem (by rw [lineL_len]; exact hcw)] at h1
    exact Option.some.inj h1
  rw [e, UInt8.toNat_ofNat', Nat.mod_eq_of_lt (markN_lt D n wide r c)]
  unfold markN
  cases h : star D n wide D.length r c with
  | true => rfl
  | false =>
    rw [if_neg (by decide)]
    split <;> rfl
/-- Lines in memory. -/
def LnAt (w : World) (g off len : Nat) (D : Dots) (n wide : Nat) (ro : Nat → Nat) : Prop := ∀ i, i < len → w.cell? ⟨g, off + i, none⟩ = some (.string (lineB D n wide (ro i)))
set_option maxHeartbeats 1000000 in
theorem stars_any (D : Dots) (n wide c : Nat) (hc : c < wide) (g off len cap : Nat) (hl : len ≤ 1000) (ro : Nat → Nat) (w : World) (h : LnAt w g off len D n wide ro) : Calls Try.prog 18 #[.slice (some ⟨g, off, none⟩) len cap, .int .i64 (c : Int)] w fun e w' => e = .returned (.int .i64 (cnt (fun i => star D n wide D.length (ro i) c) len : Int)) ∧ w' = w := by
  go_enter Try.func18, Try.ntmps18
  go_wp2_with fail
  go_loopw [5, 6] (fun nv v wr => ∃ k : Nat, k ≤ len ∧ nv = .int .i64 (cnt (fun i => star D n wide D.length (ro i) c) k : Int) ∧ v = .int .i64 (k : Int) ∧ wr = w) (fun _ v _ => len - (intOf v).toNat)
  case atStart => exact ⟨0, by omega, rfl, rfl, rfl⟩
  case round =>
    obtain ⟨k, hk, rfl, rfl, hwr⟩ := hrel
    subst wr
    by_cases hlt : k < len
    · have hlt' : (k : Int) < (len : Int) := by omega
      have hk0 : (0 : Int) ≤ (k : Int) := by omega
      have s0 := h k hlt
      have hsz := lineB_size D n wide (ro k)
      have hcs : c < (lineB D n wide (ro k)).size := by omega
      have hat := lineB_at D n wide (ro k) hcs
      have hcn : Hid (cnt (fun i => star D n wide D.length (ro i) c) (k + 1) = cnt (fun i => star D n wide D.length (ro i) c) k + if star D n wide D.length (ro k) c = true then 1 else 0) := ⟨rfl⟩
      have hcl := cnt_le (fun i => star D n wide D.length (ro i) c) k
      generalize star D n wide D.length (ro k) c = bt at *
      generalize lineB D n wide (ro k) = s at *
      generalize hu : s[c]'hcs = u at *
      have hcI : (c : Int) < (s.size : Int) := by omega
      have hc0 : (0 : Int) ≤ (c : Int) := by omega
      obtain ⟨cn, hcne⟩ : ∃ z : Nat, z = cnt (fun i => star D n wide D.length (ro i) c) k := ⟨_, rfl⟩
      rw [← hcne] at hcn hcl ⊢
      replace hcne := Hid.mk hcne
      clear h
      cases bt with
      | true =>
        go_wp2
        go_roundw
        case rel => exact ⟨k + 1, by omega, by rw [hcn.out]; go_num, by go_num, trivial⟩
        case measure => simp [intOf]; omega
      | false =>
        go_wp2
        go_roundw
        case rel => exact ⟨k + 1, by omega, by rw [hcn.out]; rfl, by go_num, trivial⟩
        case measure => simp [intOf]; omega
    · obtain rfl : k = len := by omega
      have hlt' : ¬ (k : Int) < (k : Int) := by omega
      go_wp2
      go_ret
      exact ⟨rfl, rfl⟩
end Go.Proofs.Yteefieidfgpijaa.CF

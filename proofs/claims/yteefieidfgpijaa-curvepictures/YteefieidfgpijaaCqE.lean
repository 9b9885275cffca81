import Derived.Test.YteefieidfgpijaaCqD
import Derived.Test.YteefieidfgpijaaCrH
namespace Go.Proofs.Yteefieidfgpijaa.CF
open Go.RowKit

theorem loR_fin {D : Dots} (hD : Ok D) (hio : inO D = true) {k : Nat} (hk : k ≤ D.length) : (loR D k < 4294967296 ∧ loR D k % 2147483648 < 2139095040) ∧ (hiR D k < 4294967296 ∧ hiR D k % 2147483648 < 2139095040) := by
  have hj : ∀ j, j < D.length → hgt D j < 4294967296 ∧ hgt D j % 2147483648 < 2139095040 := fun j hj => ⟨(hD.getD j).2, (gB_parts (inO_true.1 hio j hj)).1.2⟩
  constructor
  · rcases loR_in D k with rfl | ⟨j1, a1, e1⟩
    · exact ⟨by show 0 < 4294967296; decide, by show 0 % 2147483648 < 2139095040; decide⟩
    · rw [e1]; exact hj j1 (by omega)
  · rcases hiR_in D k with rfl | ⟨j1, a1, e1⟩
    · exact ⟨by show 0 < 4294967296; decide, by show 0 % 2147483648 < 2139095040; decide⟩
    · rw [e1]; exact hj j1 (by omega)
theorem lo_ord (D : Dots) : ordN (loR D D.length) = ordN (loP D D.length) ∧ ordN (hiR D D.length) = ordN (hiP D D.length) := by
  cases h : D.length with
  | zero =>
    obtain rfl : D = [] := List.eq_nil_of_length_eq_zero h
    exact ⟨rfl, rfl⟩
  | succ k => exact ⟨(lo_same D k).symm, (hi_same D k).symm⟩
theorem lo_hi {D : Dots} : ordN (loP D D.length) ≤ ordN (hiP D D.length) := by
  cases h : D.length with
  | zero =>
    obtain rfl : D = [] := List.eq_nil_of_length_eq_zero h
    exact Int.le_refl _
  | succ k =>
    have h1 := loP_le D (k + 1) 0 (by omega)
    have h2 := hiP_le D (k + 1) 0 (by omega)
    omega
theorem dif_R {D : Dots} (hD : Ok D) (hio : inO D = true) : subN (hiR D D.length) (loR D D.length) % 2147483648 = subN (hiP D D.length) (loP D D.length) % 2147483648 := by
  obtain ⟨⟨l1, l2⟩, g1, g2⟩ := lo_fin0 hD hio
  obtain ⟨⟨l3, l4⟩, g3, g4⟩ := loR_fin hD hio (Nat.le_refl _)
  exact dif_same l1 g1 l3 g3 l2 g2 l4 g4 lo_hi (lo_ord D).1 (lo_ord D).2
theorem btw_R {D : Dots} (h : Draws D) {y : Nat} (hb : Btw y (loP D D.length) (hiP D D.length)) : Btw y (loR D D.length) (hiR D D.length) := by
  obtain ⟨⟨l3, l4⟩, g3, g4⟩ := loR_fin h.ok h.io (Nat.le_refl _)
  obtain ⟨e1, e2⟩ := lo_ord D
  exact ⟨hb.y1, l3, g3, hb.yf, l4, g4, by rw [e1]; exact hb.ly, by rw [e2]; exact hb.yg, by rw [dif_R h.ok h.io]; exact h.df⟩
theorem row_R {D : Dots} (h : Draws D) {y n : Nat} (hn : n < 40) (hb : Btw y (loP D D.length) (hiP D D.length)) : rowN y (loR D D.length) (hiR D D.length) n = rowN y (loP D D.length) (hiP D D.length) n := by
  obtain ⟨⟨l3, l4⟩, g3, g4⟩ := loR_fin h.ok h.io (Nat.le_refl _)
  obtain ⟨e1, e2⟩ := lo_ord D
  exact row_same hb.y1 hb.l1 hb.g1 l3 g3 hb.yf hb.lf hb.gf l4 g4 hb.ly hb.yg h.df e1 e2 hn
/-- A line as far as k. -/
def preB (D : Dots) (n wide r k : Nat) : ByteArray := ⟨((List.range k).map fun c => UInt8.ofNat (markN D n wide r c)).toArray⟩
theorem preB_size (D : Dots) (n wide r k : Nat) : (preB D n wide r k).size = k := by
  show (((List.range k).map fun c => UInt8.ofNat (markN D n wide r c)).toArray).size = k
  simp
theorem ba_ext {a b : ByteArray} (h : a.data.toList = b.data.toList) : a = b := by
  cases a; cases b
  simp only [ByteArray.mk.injEq]
  exact Array.ext' h
theorem preB_succ (D : Dots) (n wide r k : Nat) : preB D n wide r k ++ oneS (markN D n wide r k) = preB D n wide r (k + 1) := by
  apply ba_ext
  simp [preB, oneS, List.range_succ]
theorem preB_all (D : Dots) (n wide r : Nat) : preB D n wide r wide = lineB D n wide r := rfl
end Go.Proofs.Yteefieidfgpijaa.CF

import Derived.Test.YteefieidfgpijaaCpY
namespace Go.Proofs.Yteefieidfgpijaa.CF
open Go.RowKit

def rowK (D : Dots) (n k : Nat) : Nat := rowN (hgt D k) (loP D D.length) (hiP D D.length) n
def colK (D : Dots) (wide : Nat) (k : Nat) : Nat := (colN (pX D 0) (pX D (D.length - 1)) (wide : Int) (pX D k)).toNat
/-- A star stands there, by the first m points. -/
def star (D : Dots) (n wide m r c : Nat) : Bool := (List.range m).any fun k => rowK D n k == r && colK D wide k == c
theorem star_succ (D : Dots) (n wide m r c : Nat) : star D n wide (m + 1) r c = (star D n wide m r c || (rowK D n m == r && colK D wide m == c)) := by
  unfold star
  rw [List.range_succ, List.any_append]
  simp
/-- The row of height 0, where there is one. -/
def zerR (D : Dots) (n : Nat) : Option Nat := if 0 < D.length ∧ ordN (loP D D.length) ≤ 0 ∧ 0 ≤ ordN (hiP D D.length) then some (rowN 0 (loP D D.length) (hiP D D.length) n) else none
/-- P17.9: what stands at a row and a column. -/
def markN (D : Dots) (n wide r c : Nat) : Nat := if star D n wide D.length r c = true then 42 else if zerR D n = some r then 45 else 32
def base (wide k : Nat) : Nat → Nat := fun j => if j / 72 < k ∧ j % 72 < wide then 32 else 0
def dash (wide n : Nat) (z : Option Nat) : Nat → Nat := fun j => if z = some (j / 72) ∧ j % 72 < wide then 45 else base wide (n + 1) j
def starR (D : Dots) (n wide m : Nat) : Nat → Nat := fun j => if star D n wide m (j / 72) (j % 72) = true then 42 else dash wide n (zerR D n) j
theorem fill_base (wide k : Nat) (hw : wide ≤ 72) (j : Nat) : base wide (k + 1) j = fillR (base wide k) k wide 32 j := by
  unfold fillR base
  by_cases h1 : k * 72 ≤ j ∧ j < k * 72 + wide
  · rw [if_pos h1, if_pos (by omega)]
  · rw [if_neg h1]
    by_cases h2 : j / 72 < k ∧ j % 72 < wide
    · rw [if_pos h2, if_pos (by omega)]
    · rw [if_neg h2, if_neg (by omega)]
theorem fill_dash (wide n r : Nat) (hw : wide ≤ 72) (j : Nat) : dash wide n (some r) j = fillR (base wide (n + 1)) r wide 45 j := by
  unfold fillR dash
  by_cases h1 : r * 72 ≤ j ∧ j < r * 72 + wide
  · rw [if_pos h1, if_pos ⟨by rw [show j / 72 = r by omega], by omega⟩]
  · rw [if_neg h1, if_neg]
    rintro ⟨h2, h3⟩
    injection h2 with h2
    omega
theorem dash_none (wide n j : Nat) : dash wide n none j = base wide (n + 1) j := by
  unfold dash
  rw [if_neg (fun h => by cases h.1)]
theorem starR_zero (D : Dots) (n wide j : Nat) : starR D n wide 0 j = dash wide n (zerR D n) j := by
  unfold starR star
  simp
theorem starR_succ (D : Dots) (n wide m : Nat) (hc : colK D wide m < 72) (j : Nat) : starR D n wide (m + 1) j = if j = rowK D n m * 72 + colK D wide m then 42 else starR D n wide m j := by
  unfold starR
  rw [star_succ]
  by_cases h1 : j = rowK D n m * 72 + colK D wide m
  · rw [if_pos h1, if_pos]
    have e1 : rowK D n m = j / 72 := by omega
    have e2 : colK D wide m = j % 72 := by omega
    rw [e1, e2]
    simp
  · rw [if_neg h1]
    have e : (rowK D n m == j / 72 && colK D wide m == j % 72) = false := by
      by_cases e1 : rowK D n m = j / 72
      · by_cases e2 : colK D wide m = j % 72
        · omega
        · simp [e2]
      · simp [e1]
    rw [e, Bool.or_false]
/-- What the picture holds in the end. -/
theorem starR_mark (D : Dots) (n wide : Nat) (hw : wide ≤ 72) {r c : Nat} (hr : r < n + 1) (hc : c < wide) : starR D n wide D.length (r * 72 + c) = markN D n wide r c := by
  unfold starR markN dash base
  rw [show (r * 72 + c) / 72 = r by omega, show (r * 72 + c) % 72 = c by omega]
  split
  · rfl
  · by_cases h : zerR D n = some r
    · rw [if_pos ⟨h, hc⟩, if_pos h]
    · rw [if_neg (fun e => h e.1), if_neg h, if_pos ⟨hr, hc⟩]
/-- What is asked of the points of a picture. -/
structure Draws (D : Dots) : Prop where
  ok : Ok D
  io : inO D = true
  df : subN (hiP D D.length) (loP D D.length) % 2147483648 < 2139095040
theorem Draws.btw {D : Dots} (h : Draws D) {k : Nat} (hk : k < D.length) : Btw (hgt D k) (loP D D.length) (hiP D D.length) := by
  obtain ⟨⟨l1, l2⟩, g1, g2⟩ := lo_fin h.ok h.io (by omega) (Nat.le_refl _)
  exact ⟨(h.ok.getD k).2, l1, g1, (gB_parts (inO_true.1 h.io k hk)).1.2, l2, g2, loP_le D _ k hk, hiP_le D _ k hk, h.df⟩
theorem Draws.btw0 {D : Dots} (h : Draws D) (h0 : 0 < D.length) (h1 : ordN (loP D D.length) ≤ 0) (h2 : 0 ≤ ordN (hiP D D.length)) : Btw 0 (loP D D.length) (hiP D D.length) := by
  obtain ⟨⟨l1, l2⟩, g1, g2⟩ := lo_fin h.ok h.io h0 (Nat.le_refl _)
  have e0 : ordN 0 = 0 := rfl
  exact ⟨by decide, l1, g1, by decide, l2, g2, by rw [e0]; exact h1, by rw [e0]; exact h2, h.df⟩
theorem Btw.row_le {y l g n : Nat} (h : Btw y l g) (hn : n < 40) : rowN y l g n ≤ n := by
  by_cases h3 : ordN l = ordN g
  · have e : rowN y l g n = 0 := if_pos h3
    omega
  · exact (row_parts h.y1 h.l1 h.g1 h.yf h.lf h.gf h.ly h.yg h3 h.df hn).2.2.2.2.2
/-- The places rise. -/
theorem inO_mono {D : Dots} (h : inO D = true) : ∀ {i j : Nat}, i ≤ j → j < D.length → pX D i ≤ pX D j := by
  intro i j hij
  induction j with
  | zero => intro _; obtain rfl : i = 0 := by omega
            exact Int.le_refl _
  | succ j ih =>
    intro hj
    by_cases e : i = j + 1
    · subst e; exact Int.le_refl _
    · have h1 := ih (by omega) (by omega)
      have h2 := (gB_parts (inO_true.1 h (j + 1) hj)).2
      rw [Nat.add_sub_cancel] at h2
      unfold pX at *
      omega
theorem inO_lt {D : Dots} (h : inO D = true) {i j : Nat} (hij : i < j) (hj : j < D.length) : pX D i < pX D j := by
  have h1 := inO_mono h (i := i) (j := j - 1) (by omega) (by omega)
  have h2 := (gB_parts (inO_true.1 h j hj)).2
  unfold pX at *
  omega
theorem inO_bd {D : Dots} (h : inO D = true) {j : Nat} (hj : j < D.length) : -9999999999999 ≤ pX D j ∧ pX D j ≤ 9999999999999 := (gB_parts (inO_true.1 h j hj)).1.1
theorem colK_eq {D : Dots} (h : inO D = true) {wide k : Nat} (hk : k < D.length) (hw : 1 ≤ wide) : ((colK D wide k : Nat) : Int) = colN (pX D 0) (pX D (D.length - 1)) (wide : Int) (pX D k) ∧ colK D wide k < wide := by
  have hb := colN_b (x0 := pX D 0) (x1 := pX D (D.length - 1)) (wide := (wide : Int)) (x := pX D k) (inO_mono h (by omega) hk) (inO_mono h (by omega) (by omega)) (by omega)
  unfold colK
  generalize colN (pX D 0) (pX D (D.length - 1)) (wide : Int) (pX D k) = z at *
  omega
end Go.Proofs.Yteefieidfgpijaa.CF

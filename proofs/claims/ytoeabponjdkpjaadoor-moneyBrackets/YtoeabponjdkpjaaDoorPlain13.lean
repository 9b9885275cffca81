import Derived.Test.YtoeabponjdkpjaaDoorPlain10
/- THE PLAIN MATHEMATICS of layer 1, more: what a bracket table takes rises with x, no faster than x; a band cut in two. -/
namespace Go.Proofs.YtoeabponjdkpjaaDoor
namespace M

theorem top_mono {x y : Int} (h : x ≤ y) (l : List (Int × Int)) : top x l ≤ top y l := by
  cases l with
  | nil => exact h
  | cons z l => obtain ⟨f, r⟩ := z; simp only [top]; split <;> split <;> omega

theorem took_mono {x y : Int} (h : x ≤ y) : ∀ l : List (Int × Int), took x l ≤ took y l
  | [] => Nat.le_refl _
  | (f, r) :: l => by
    simp only [took]
    have h1 := top_mono h l
    have h2 : (top x l - f).toNat ≤ (top y l - f).toNat := by omega
    exact Nat.add_le_add (Nat.mul_le_mul_right _ h2) (took_mono h l)

theorem mul_part {A B C r : Nat} (h : A ≤ B + C) (hr : r ≤ 1000000) : A * r ≤ B * r + C * 1000000 := by
  have h1 : A * r ≤ (B + C) * r := Nat.mul_le_mul_right _ h
  have h2 : C * r ≤ C * 1000000 := Nat.mul_le_mul_left _ hr
  rw [Nat.add_mul] at h1
  omega

theorem rising_head {least f r : Int} {l : List (Int × Int)} (h : Rising least ((f, r) :: l)) : Rising f ((f, r) :: l) := ⟨Int.le_refl _, h.2⟩
theorem rising_less {least least' : Int} (hl : least' ≤ least) {l : List (Int × Int)} (h : Rising least l) : Rising least' l := by
  cases l with
  | nil => trivial
  | cons y l => obtain ⟨f, r⟩ := y; exact ⟨Int.le_trans hl h.1, h.2⟩

theorem took_lip {x y : Int} (h : x ≤ y) : ∀ (l : List (Int × Int)) (least : Int), Rising least l → took y l ≤ took x l + (y - (if x < least then least else x)).toNat * 1000000
  | [], _, _ => by simp [took]
  | [(f, r)], least, hr => by
    obtain ⟨h1, h2, h3, h4, -⟩ := hr
    simp only [took, top, Nat.add_zero]
    refine mul_part ?_ (by omega)
    split <;> omega
  | (f, r) :: (g, s) :: t, least, hr => by
    have ih := took_lip h ((g, s) :: t) g (rising_head hr.2.2.2.2)
    obtain ⟨h1, h2, h3, h4, h5, h6⟩ := hr
    have e1 : took y ((f, r) :: (g, s) :: t) = (top y ((g, s) :: t) - f).toNat * r.toNat + took y ((g, s) :: t) := rfl
    have e2 : took x ((f, r) :: (g, s) :: t) = (top x ((g, s) :: t) - f).toNat * r.toNat + took x ((g, s) :: t) := rfl
    rw [e1, e2]
    have p := mul_part (A := (top y ((g, s) :: t) - f).toNat) (B := (top x ((g, s) :: t) - f).toNat) (C := ((if g < y then g else y) - (if x < f then f else x)).toNat) (r := r.toNat) (by simp only [top]; split <;> split <;> split <;> omega) (by omega)
    have q : ((if g < y then g else y) - (if x < f then f else x)).toNat + (y - (if x < g then g else x)).toNat ≤ (y - (if x < least then least else x)).toNat := by split <;> split <;> split <;> split <;> omega
    have q2 := Nat.mul_le_mul_right 1000000 q
    rw [Nat.add_mul] at q2
    omega

/-- The next band's From, if there is one, lies above. -/
def under (at' : Int) : List (Int × Int) → Bool
  | [] => true
  | (g, _) :: _ => decide (at' < g)

/-- The band that the number lies in, cut in two there. -/
def cutL (at' : Int) : List (Int × Int) → List (Int × Int)
  | [] => []
  | (f, r) :: t => if decide (f < at') && under at' t then (f, r) :: (at', r) :: cutL at' t else (f, r) :: cutL at' t

theorem cutL_above {at' : Int} : ∀ {l : List (Int × Int)} {least : Int}, Rising least l → at' ≤ least → cutL at' l = l
  | [], _, _, _ => rfl
  | (f, r) :: t, least, h, ha => by
    have h1 : ¬ f < at' := by have := h.1; omega
    unfold cutL
    rw [cutL_above h.2.2.2.2 (by have := h.1; omega)]
    simp [h1]
theorem top_cut (at' x : Int) (l : List (Int × Int)) : top x (cutL at' l) = top x l := by
  cases l with
  | nil => rfl
  | cons y l => obtain ⟨f, r⟩ := y; unfold cutL; split <;> rfl

theorem cut_main {at' : Int} (ha : at' ≤ 9999999999999) (x : Int) : ∀ {l : List (Int × Int)} {least : Int}, Rising least l → took x (cutL at' l) = took x l ∧ Rising least (cutL at' l) ∧ (cutL at' l).length ≤ l.length + 1
  | [], _, _ => ⟨rfl, trivial, by simp [cutL]⟩
  | (f, r) :: t, least, h => by
    obtain ⟨h1, h2, h3, h4, h5⟩ := h
    have ih := cut_main ha x h5
    unfold cutL
    split
    · rename_i hc
      simp at hc
      have hct : cutL at' t = t ∧ Rising (at' + 1) t ∧ (top x t - f).toNat = (top x ((at', r) :: t) - f).toNat + (top x t - at').toNat := by
        cases t with
        | nil =>
          refine ⟨rfl, trivial, ?_⟩
          simp only [top]
          split <;> omega
        | cons y t =>
          obtain ⟨g, s⟩ := y
          have hg : at' < g := by simpa [under] using hc.2
          have hr : Rising (at' + 1) ((g, s) :: t) := ⟨by omega, h5.2⟩
          refine ⟨cutL_above hr (by omega), hr, ?_⟩
          simp only [top]
          split <;> split <;> omega
      rw [hct.1]
      refine ⟨?_, ⟨h1, h2, h3, h4, by omega, ha, h3, h4, hct.2.1⟩, by simp⟩
      simp only [took]
      rw [hct.2.2, Nat.add_mul]
      omega
    · refine ⟨?_, ⟨h1, h2, h3, h4, ih.2.1⟩, by simp; exact ih.2.2⟩
      simp only [took]
      rw [ih.1, top_cut]

theorem areB_of_rising : ∀ {l : List (Int × Int)} {least : Int}, Rising least l → areB least 9999999999999 l = true
  | [], _, _ => rfl
  | (f, r) :: l, least, h => by
    obtain ⟨h1, h2, h3, h4, h5⟩ := h
    rw [areB_cons_ok ⟨h1, h2⟩ ⟨h3, h4⟩]
    exact areB_of_rising h5
theorem areBands_of {r : Int} {t : List (Int × Int)} (h : Rising 0 ((0, r) :: t)) (hl : t.length ≤ 7) : areBands ((0, r) :: t) = true := by
  obtain ⟨h1, h2, h3, h4, h5⟩ := h
  unfold areBands
  rw [areB_cons_ok ⟨h1, by omega⟩ ⟨h3, h4⟩, areB_of_rising h5]
  simp
  omega

theorem rising_snoc {F r : Int} (hF : F ≤ 9999999999999) (h0 : 0 ≤ r) (h1 : r ≤ 1000000) : ∀ (l : List (Int × Int)) (least : Int), Rising least l → l ≠ [] → (l.getD (l.length - 1) (0, 0)).1 < F → Rising least (l ++ [(F, r)])
  | [(f, s)], least, h, _, hl => by
    simp at hl
    exact ⟨h.1, h.2.1, h.2.2.1, h.2.2.2.1, by omega, hF, h0, h1, trivial⟩
  | (f, s) :: y :: t, least, h, _, hl => by
    refine ⟨h.1, h.2.1, h.2.2.1, h.2.2.2.1, rising_snoc hF h0 h1 (y :: t) (f + 1) h.2.2.2.2 (by simp) ?_⟩
    simpa using hl

theorem rnd_half (p : Nat) : rndn false 4 p 1000000 = (p + 500000) / 1000000 := by
  unfold rndn outw
  by_cases h : 500000 ≤ p % 1000000
  · rw [if_pos (by simp; omega)]
    omega
  · rw [if_neg (by simp; omega)]
    omega

end M
end Go.Proofs.YtoeabponjdkpjaaDoor

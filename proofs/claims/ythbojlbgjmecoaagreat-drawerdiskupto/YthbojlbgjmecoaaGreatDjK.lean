import Derived.Test.YthbojlbgjmecoaaGreatDjI
import Derived.Test.YthbojlbgjmecoaaGreatDjJ
/- THE NEWEST FILE THAT CAN BE READ, BY NAMES IN ORDER. No program. -/
namespace Go.Proofs.YthbojlbgjmecoaaGreat.DJ

theorem genOf_pos {s : List Nat} (h : genOf s ≠ 0) : s = Nm (genOf s) ∧ 1 ≤ genOf s ∧ genOf s ≤ 99999999 := by
  obtain ⟨g, hg⟩ : ∃ g, genOf s = g := ⟨_, rfl⟩
  rw [hg] at h ⊢
  unfold genOf at hg
  split at hg
  · rename_i hc
    obtain ⟨h1, h2, h3⟩ := hc
    obtain ⟨a0, s, rfl, h1'⟩ := cons_of (n := 11) (l := s) (by omega)
    obtain ⟨a1, s, rfl, h1'⟩ := cons_of (n := 10) (l := s) (by omega)
    obtain ⟨a2, s, rfl, h1'⟩ := cons_of (n := 9) (l := s) (by omega)
    obtain ⟨a3, s, rfl, h1'⟩ := cons_of (n := 8) (l := s) (by omega)
    obtain ⟨d0, s, rfl, h1'⟩ := cons_of (n := 7) (l := s) (by omega)
    obtain ⟨d1, s, rfl, h1'⟩ := cons_of (n := 6) (l := s) (by omega)
    obtain ⟨d2, s, rfl, h1'⟩ := cons_of (n := 5) (l := s) (by omega)
    obtain ⟨d3, s, rfl, h1'⟩ := cons_of (n := 4) (l := s) (by omega)
    obtain ⟨d4, s, rfl, h1'⟩ := cons_of (n := 3) (l := s) (by omega)
    obtain ⟨d5, s, rfl, h1'⟩ := cons_of (n := 2) (l := s) (by omega)
    obtain ⟨d6, s, rfl, h1'⟩ := cons_of (n := 1) (l := s) (by omega)
    obtain ⟨d7, s, rfl, h1'⟩ := cons_of (n := 0) (l := s) (by omega)
    obtain rfl : s = [] := List.length_eq_zero_iff.mp (by simp only [List.length_cons] at h1; omega)
    simp only [List.take_succ_cons, List.take_zero, List.cons.injEq, and_true] at h2
    obtain ⟨rfl, rfl, rfl, rfl⟩ := h2
    simp only [List.drop_succ_cons, List.drop_zero, List.mem_cons, List.not_mem_nil, or_false, forall_eq_or_imp, forall_eq] at h3
    simp only [List.drop_succ_cons, List.drop_zero, List.foldl_cons, List.foldl_nil] at hg
    simp only [Nm, List.cons.injEq, and_true, true_and]
    omega
  · exact absurd hg.symm h
theorem ltB_same (p : List Nat) (a b : List Nat) : ltB (p ++ a) (p ++ b) = ltB a b := by
  induction p with
  | nil => rfl
  | cons x p ih => simp [ltB, ih]
theorem ltB_Nm {g h : Nat} (hg : g ≤ 99999999) (hh : h ≤ 99999999) (hl : ltB (Nm g) (Nm h) = true) : g < h := by
  simp only [Nm, ltB, if_true] at hl
  simp only [Nat.add_left_cancel_iff] at hl
  repeat (split at hl; rotate_left; (· simp only [decide_eq_true_eq] at hl; omega); skip)
  simp at hl
def goodF (f : Fl) : Bool := decide (genOf f.nm ≠ 0) && (whole f.dat 0).isSome
def lastGood (fs : List Fl) : Option Fl := fs.reverse.find? goodF
theorem lastGood_snoc (l : List Fl) (f : Fl) : lastGood (l ++ [f]) = if goodF f then some f else lastGood l := by
  unfold lastGood
  rw [List.reverse_append, List.reverse_cons, List.reverse_nil, List.nil_append, List.singleton_append, List.find?_cons]
  cases goodF f <;> rfl
theorem lastGood_mem {fs : List Fl} {f : Fl} (h : lastGood fs = some f) : f ∈ fs ∧ genOf f.nm ≠ 0 ∧ (whole f.dat 0).isSome := by
  unfold lastGood at h
  have h1 := List.mem_of_find?_eq_some h
  have h2 := List.find?_some h
  unfold goodF at h2
  rw [Bool.and_eq_true, decide_eq_true_eq] at h2
  exact ⟨List.mem_reverse.1 h1, h2⟩
theorem best_last (l : List Fl) : ∀ (k : Nat), k ≤ l.length → Srt l → best (l.take k) = lastGood (l.take k) := by
  intro k
  induction k with
  | zero => intro _ _; rfl
  | succ k ih =>
    intro hk hs
    have hlt : k < l.length := by omega
    rw [List.take_succ_eq_append_getElem hlt, lastGood_snoc]
    have hb : best (l.take k ++ [l[k]]) = better (best (l.take k)) l[k] := by unfold best; rw [List.foldl_append]; rfl
    rw [hb, ih (by omega) hs]
    unfold better
    by_cases hg : goodF l[k] = true
    · rw [if_pos hg]
      have hg' := hg
      unfold goodF at hg'
      rw [Bool.and_eq_true, decide_eq_true_eq] at hg'
      rw [if_pos]
      refine ⟨?_, hg'.2⟩
      cases hl : lastGood (l.take k) with
      | none => simpa using Nat.pos_of_ne_zero hg'.1
      | some a =>
        obtain ⟨ha, ha0, -⟩ := lastGood_mem hl
        obtain ⟨i, hi, e⟩ := List.mem_iff_getElem.1 ha
        rw [List.length_take] at hi
        rw [List.getElem_take] at e
        have hp := List.pairwise_iff_getElem.1 hs i k (by omega) hlt (by omega)
        rw [e] at hp
        obtain ⟨n1, -, n2⟩ := genOf_pos ha0
        obtain ⟨m1, -, m2⟩ := genOf_pos hg'.1
        rw [n1, m1] at hp
        simpa using ltB_Nm n2 m2 hp
    · rw [if_neg hg, if_neg]
      rintro ⟨h1, h2⟩
      apply hg
      unfold goodF
      rw [Bool.and_eq_true, decide_eq_true_eq]
      exact ⟨by omega, h2⟩
theorem best_eq {fs : List Fl} (h : Srt fs) : best fs = lastGood fs := by
  have := best_last fs fs.length (Nat.le_refl _) h
  rwa [List.take_length] at this

/-- Bytes in order, as the library orders texts. -/
def u8 (l : List Nat) : List UInt8 := l.map fun n => UInt8.ofNat n
theorem u8_le : ∀ {a b : List Nat}, (∀ x ∈ a, x < 256) → (∀ x ∈ b, x < 256) → ltB a b = true → u8 a ≤ u8 b
  | [], _, _, _, _ => List.nil_le _
  | _ :: _, [], _, _, h => by simp [ltB] at h
  | x :: a, y :: b, ha, hb, h => by
    simp only [ltB] at h
    have hx := ha x List.mem_cons_self
    have hy := hb y List.mem_cons_self
    show UInt8.ofNat x :: u8 a ≤ UInt8.ofNat y :: u8 b
    rw [List.cons_le_cons_iff]
    by_cases e : x = y
    · subst e
      rw [if_pos rfl] at h
      exact .inr ⟨rfl, u8_le (fun z hz => ha z (List.mem_cons_of_mem _ hz)) (fun z hz => hb z (List.mem_cons_of_mem _ hz)) h⟩
    · rw [if_neg e, decide_eq_true_eq] at h
      left
      rw [UInt8.lt_iff_toNat_lt, UInt8.toNat_ofNat', UInt8.toNat_ofNat']
      omega
theorem srt_u8 {fs : List Fl} (h : Srt fs) (hb : ∀ f ∈ fs, ∀ x ∈ f.nm, x < 256) : (fs.map fun f => u8 f.nm).Pairwise (fun x y => decide (x ≤ y) = true) := by
  refine List.pairwise_map.2 (List.Pairwise.imp_of_mem (fun {a b} ha hb' hab => ?_) h)
  rw [decide_eq_true_eq]
  exact u8_le (hb a ha) (hb b hb') hab
end Go.Proofs.YthbojlbgjmecoaaGreat.DJ

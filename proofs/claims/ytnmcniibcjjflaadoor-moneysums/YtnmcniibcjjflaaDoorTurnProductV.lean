import Derived.Test.YtnmcniibcjjflaaDoorTurnProduct
namespace Go.Proofs.YtnmcniibcjjflaaDoor
open Go.RowKit

theorem product_v (a b : Option Addr) (ca cb : Nat) (A B : List Nat) (hA : A.length ≤ 16) (hB : B.length ≤ 16) (dA : ∀ i, A.getD i 0 ≤ 9) (dB : ∀ i, B.getD i 0 ≤ 9) (w : World) (hDa : Dig w a A) (hDb : Dig w b B) :
    Calls Tryd.prog 66 #[.slice a A.length ca, .slice b B.length cb] w fun e w' => ∃ (ds : List Nat) (c : Option Addr), e = .returned (.slice c ds.length ds.length) ∧ Hid (M.val ds = M.val A * M.val B ∧ ds.length ≤ 100 ∧ ∀ i, ds.getD i 0 ≤ 1000000) ∧ Dig w' c ds ∧ Below w.heap.size w w' := by
  refine (product_any a b ca cb A B hA hB dA dB w hDa hDb).mono ?_
  rintro e w' ⟨f, rfl, hf, hrow, hb⟩
  refine ⟨(List.range (A.length + B.length + 1)).map f, some ⟨w.heap.size, 0, none⟩, by simp, ⟨by rw [M.val_range]; exact hf.out.1, by simp; omega, fun i => ?_⟩, .inr ⟨w.heap.size, rfl, hrow.lt, fun i hi => ?_⟩, hb⟩
  · by_cases h : i < A.length + B.length + 1
    · have := hf.out.2.1 i
      simp [List.getD_eq_getElem?_getD, h]
      omega
    · simp [List.getD_eq_getElem?_getD, List.getElem?_eq_none (l := List.range (A.length + B.length + 1)) (i := i) (by simp; omega)]
  · have h : i < A.length + B.length + 1 := by simpa using hi
    rw [hrow.cell h]
    simp [List.getD_eq_getElem?_getD, h]

theorem fval_top (f : Nat → Nat) (n : Nat) (x : Nat) (h : M.fval f (n + 1) = x) (hx : x < 10 ^ n) : f n = 0 := by
  simp only [M.fval] at h
  rcases Nat.eq_zero_or_pos (f n) with e | e
  · exact e
  · have := Nat.mul_le_mul_right (10 ^ n) e
    omega

theorem val_lt (l : List Nat) (h : ∀ i, l.getD i 0 ≤ 9) : M.val l < 10 ^ l.length := by
  induction l with
  | nil => simp [M.val]
  | cons d r ih =>
    have h0 := h 0
    have h1 := ih fun i => by have := h (i + 1); simpa using this
    simp at h0
    simp only [M.val, List.length_cons, Nat.pow_succ]
    omega

/-- The product as true digits. -/
theorem product_9 (a b : Option Addr) (ca cb : Nat) (A B : List Nat) (hA : A.length ≤ 16) (hB : B.length ≤ 16) (dA : ∀ i, A.getD i 0 ≤ 9) (dB : ∀ i, B.getD i 0 ≤ 9) (w : World) (hDa : Dig w a A) (hDb : Dig w b B) :
    Calls Tryd.prog 66 #[.slice a A.length ca, .slice b B.length cb] w fun e w' => ∃ (ds : List Nat) (c : Option Addr), e = .returned (.slice c ds.length ds.length) ∧ Hid (M.val ds = M.val A * M.val B ∧ ds.length ≤ 33 ∧ ∀ i, ds.getD i 0 ≤ 9) ∧ Dig w' c ds ∧ Below w.heap.size w w' := by
  refine (product_any a b ca cb A B hA hB dA dB w hDa hDb).mono ?_
  rintro e w' ⟨f, rfl, hf, hrow, hb⟩
  have hz := fval_top f (A.length + B.length) _ hf.out.1 (by rw [Nat.pow_add]; exact Nat.mul_lt_mul'' (val_lt A dA) (val_lt B dB))
  refine ⟨(List.range (A.length + B.length + 1)).map f, some ⟨w.heap.size, 0, none⟩, by simp, ⟨by rw [M.val_range]; exact hf.out.1, by simp; omega, fun i => ?_⟩, .inr ⟨w.heap.size, rfl, hrow.lt, fun i hi => ?_⟩, hb⟩
  · by_cases h : i < A.length + B.length + 1
    · have h9 : f i ≤ 9 := by
        by_cases e : i = A.length + B.length
        · rw [e, hz]; omega
        · exact hf.out.2.2 i (by omega)
      simp [List.getD_eq_getElem?_getD, h]
      omega
    · simp [List.getD_eq_getElem?_getD, List.getElem?_eq_none (l := List.range (A.length + B.length + 1)) (i := i) (by simp; omega)]
  · have h : i < A.length + B.length + 1 := by simpa using hi
    rw [hrow.cell h]
    simp [List.getD_eq_getElem?_getD, h]

theorem digs_nine (n i : Nat) : (M.digs n).getD i 0 ≤ 9 := by
  by_cases h : i < (M.digs n).length
  · have := M.digs_lt n _ (List.getElem_mem h)
    rw [List.getD_eq_getElem?_getD, List.getElem?_eq_getElem h]
    simp
    omega
  · rw [List.getD_eq_getElem?_getD, List.getElem?_eq_none (by omega)]
    simp

end Go.Proofs.YtnmcniibcjjflaaDoor

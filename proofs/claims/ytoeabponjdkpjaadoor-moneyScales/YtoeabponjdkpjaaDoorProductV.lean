import Derived.Test.YtoeabponjdkpjaaDoorProduct
namespace Go.Proofs.YtoeabponjdkpjaaDoor
open Go.RowKit

theorem product_v (a b : Option Addr) (ca cb : Nat) (A B : List Nat) (hA : A.length ≤ 16) (hB : B.length ≤ 16) (dA : ∀ i, A.getD i 0 ≤ 9) (dB : ∀ i, B.getD i 0 ≤ 9) (w : World) (hDa : Dig w a A) (hDb : Dig w b B) :
    Calls Tryd.prog 44 #[.slice a A.length ca, .slice b B.length cb] w fun e w' => ∃ (ds : List Nat) (c : Option Addr), e = .returned (.slice c ds.length ds.length) ∧ Hid (M.val ds = M.val A * M.val B ∧ ds.length ≤ 100 ∧ ∀ i, ds.getD i 0 ≤ 1000000) ∧ Dig w' c ds ∧ Below w.heap.size w w' := by
  refine (product_any a b ca cb A B hA hB dA dB w hDa hDb).mono ?_
  rintro e w' ⟨f, rfl, hf, hrow, hb⟩
  refine ⟨(List.range (A.length + B.length + 1)).map f, some ⟨w.heap.size, 0, none⟩, by simp, ⟨by rw [M.val_range]; exact hf.out.1, by simp; omega, fun i => ?_⟩, .inr ⟨w.heap.size, rfl, hrow.lt, fun i hi => ?_⟩, hb⟩
  · by_cases h : i < A.length + B.length + 1
    · have := hf.out.2 i
      simp [List.getD_eq_getElem?_getD, h]
      omega
    · simp [List.getD_eq_getElem?_getD, List.getElem?_eq_none (l := List.range (A.length + B.length + 1)) (i := i) (by simp; omega)]
  · have h : i < A.length + B.length + 1 := by simpa using hi
    rw [hrow.cell h]
    simp [List.getD_eq_getElem?_getD, h]

theorem digs_nine (n i : Nat) : (M.digs n).getD i 0 ≤ 9 := by
  by_cases h : i < (M.digs n).length
  · have := M.digs_lt n _ (List.getElem_mem h)
    rw [List.getD_eq_getElem?_getD, List.getElem?_eq_getElem h]
    simp
    omega
  · rw [List.getD_eq_getElem?_getD, List.getElem?_eq_none (by omega)]
    simp

end Go.Proofs.YtoeabponjdkpjaaDoor

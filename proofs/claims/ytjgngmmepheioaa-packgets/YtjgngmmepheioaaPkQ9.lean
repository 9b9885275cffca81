import Derived.Test.YtjgngmmepheioaaPkQ8
namespace Go.Proofs.Ytjgngmmepheioaa
open Go.RowKit

theorem encS_pos (s : List UInt8) : 0 < (encS s).length := by unfold encS; have := encN_pos s.length; simp; omega
theorem encI_pos (z : Int) : 0 < (encI z).length := encN_pos _
theorem encBd_pos (x : Int × Int) : 0 < (encBd x).length := by unfold encBd; have := encI_pos x.1; simp; omega
theorem encG_pos (x : List UInt8 × Int) : 0 < (encG x).length := by unfold encG; have := encS_pos x.1; simp; omega
theorem encT_pos (x : List UInt8 × List (Int × Int)) : 0 < (encT x).length := by unfold encT; have := encS_pos x.1; simp; omega
theorem encO_pos (x : List UInt8 × List (List UInt8)) : 0 < (encO x).length := by unfold encO; have := encS_pos x.1; simp; omega
theorem list_len {α : Type} {f : α → List UInt8} (hf : ∀ x, 0 < (f x).length) {l : List α} {n : Nat} (h : (encL f l).length ≤ n) : l.length ≤ n := Nat.le_trans (Nat.le_trans (len_le f hf l) (by unfold encL; simp)) h
theorem text_len {s : List UInt8} {n : Nat} (h : (encS s).length ≤ n) : s.length ≤ n := Nat.le_trans (by unfold encS; simp) h

end Go.Proofs.Ytjgngmmepheioaa

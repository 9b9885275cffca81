import Derived.Test.YtjgkjdalnjlefaaPkQ8
namespace Go.Proofs.Ytjgkjdalnjlefaa
open Go.RowKit

theorem encS_pos (s : List UInt8) : 0 < (encS s).length := by unfold encS; have := encN_pos s.length; simp; omega
theorem encI_pos (z : Int) : 0 < (encI z).length := encN_pos _
theorem encBd_pos (x : Int × Int) : 0 < (encBd x).length := by unfold encBd; have := encI_pos x.1; simp; omega
theorem encG_pos (x : List UInt8 × Int) : 0 < (encG x).length := by unfold encG; have := encS_pos x.1; simp; omega
theorem encT_pos (x : List UInt8 × List (Int × Int)) : 0 < (encT x).length := by unfold encT; have := encS_pos x.1; simp; omega
theorem encO_pos (x : List UInt8 × List (List UInt8)) : 0 < (encO x).length := by unfold encO; have := encS_pos x.1; simp; omega
theorem list_len {α : Type} {f : α → List UInt8} (hf : ∀ x, 0 < (f x).length) {l : List α} {n : Nat} (h : (encL f l).length ≤ n) : l.length ≤ n := Nat.le_trans (Nat.le_trans (len_le f hf l) (by unfold encL; simp)) h
theorem text_len {s : List UInt8} {n : Nat} (h : (encS s).length ≤ n) : s.length ≤ n := Nat.le_trans (by unfold encS; simp) h

set_option maxRecDepth 8000 in
set_option maxHeartbeats 1000000 in
theorem wtable_any (lo wb : Nat) (t : List UInt8 × List (Int × Int)) (a : Option Addr) (cap : Nat) (hz : t.1.length ≤ 9223372036854775807 ∧ t.2.length ≤ 9223372036854775807) (W : World) {acc : List UInt8} {b : Bool} (h : WS lo wb W acc b) (hR : RowR eBd W (fun b => b < lo) t.2 a) : Calls Try.prog 95 #[.pointer (some ⟨wb, 0, none⟩), .agg #[.string ⟨t.1.toArray⟩, .slice a t.2.length cap]] W (Wp lo wb acc b (encT t) True W) := by
  obtain ⟨s, l⟩ := t
  unfold encT
  dsimp only at *
  have hlt := h.lt
  have hB0 : Bk lo wb W _ := Bk.alloc W (Nat.le_trans h.lo (Nat.le_of_lt h.lt)) (.cells #[.string ⟨s.toArray⟩, .slice a l.length cap] 75)
  have hk1 := wtext_any lo wb s hz.1 (W.alloc (.cells #[.string ⟨s.toArray⟩, .slice a l.length cap] 75)) (h.alloc _)
  clear h
  go_enter Try.func95, Try.ntmps95
  go_wp2_with (first | (go_at_call 90; go_loud (refine hk1.mono ?_; clear hk1; rintro e w1 ⟨rfl, acc1, b1, hW1, hB1, hr1⟩; have hn := (hB1.new hlt (by decide)).2.1 1 (by simp); have hB01 := hB0.trans hB1; have hk2 := putBands lo wb l a cap hz.2 w1 hW1 (hR.fr hB01.bl.size (fun b hb _ => hB01.bl.block b hb)))) | (go_at_call 119; go_loud (refine hk2.mono ?_; clear hk2; rintro e w2 ⟨rfl, acc2, b2, hW2, hB2, hr2⟩)))
  have hfin : Wp lo wb acc b (encS s ++ encL encBd l) True W (.returned (.tuple #[])) w2 := ⟨rfl, acc2, b2, hW2, hB01.trans hB2, hr1.tr hr2⟩
  exact bodyPost_end (v := .tuple #[]) (by simp [results, Try.results95, go_sem]) rfl hfin

set_option maxRecDepth 8000 in
set_option maxHeartbeats 1000000 in
theorem woptions_any (lo wb : Nat) (t : List UInt8 × List (List UInt8)) (a : Option Addr) (cap : Nat) (hz : t.1.length ≤ 9223372036854775807 ∧ t.2.length ≤ 9223372036854775807 ∧ ∀ s ∈ t.2, s.length ≤ 9223372036854775807) (W : World) {acc : List UInt8} {b : Bool} (h : WS lo wb W acc b) (hR : RowR eS W (fun b => b < lo) t.2 a) : Calls Try.prog 93 #[.pointer (some ⟨wb, 0, none⟩), .agg #[.string ⟨t.1.toArray⟩, .slice a t.2.length cap]] W (Wp lo wb acc b (encO t) True W) := by
  obtain ⟨s, l⟩ := t
  unfold encO
  dsimp only at *
  have hlt := h.lt
  have hB0 : Bk lo wb W _ := Bk.alloc W (Nat.le_trans h.lo (Nat.le_of_lt h.lt)) (.cells #[.string ⟨s.toArray⟩, .slice a l.length cap] 105)
  have hk1 := wtext_any lo wb s hz.1 (W.alloc (.cells #[.string ⟨s.toArray⟩, .slice a l.length cap] 105)) (h.alloc _)
  clear h
  go_enter Try.func93, Try.ntmps93
  go_wp2_with (first | (go_at_call 90; go_loud (refine hk1.mono ?_; clear hk1; rintro e w1 ⟨rfl, acc1, b1, hW1, hB1, hr1⟩; have hn := (hB1.new hlt (by decide)).2.1 1 (by simp); have hB01 := hB0.trans hB1; have hk2 := putTexts lo wb l a cap hz.2 w1 hW1 (hR.fr hB01.bl.size (fun b hb _ => hB01.bl.block b hb)))) | (go_at_call 118; go_loud (refine hk2.mono ?_; clear hk2; rintro e w2 ⟨rfl, acc2, b2, hW2, hB2, hr2⟩)))
  have hfin : Wp lo wb acc b (encS s ++ encL encS l) True W (.returned (.tuple #[])) w2 := ⟨rfl, acc2, b2, hW2, hB01.trans hB2, hr1.tr hr2⟩
  exact bodyPost_end (v := .tuple #[]) (by simp [results, Try.results93, go_sem]) rfl hfin

end Go.Proofs.Ytjgkjdalnjlefaa

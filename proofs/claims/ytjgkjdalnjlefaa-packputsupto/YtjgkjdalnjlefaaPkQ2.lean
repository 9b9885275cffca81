import Derived.Test.YtjgkjdalnjlefaaPkQ
namespace Go.Proofs.Ytjgkjdalnjlefaa
open Go.RowKit

theorem Wr.imp_ok {a0 a1 x : List UInt8} {b0 b1 : Bool} {p : Prop} (h : Wr a0 b0 a1 b1 x (p ∧ True)) : Wr a0 b0 a1 b1 x p := ⟨fun h0 => ⟨(h.1 h0).1, (h.1 h0).2.1, (h.1 h0).2.2.1⟩, fun h0 hl hp => h.2 h0 hl ⟨hp, trivial⟩⟩
theorem strCells_of (s : List UInt8) : Go.Lib.strCells ⟨s.toArray⟩ = Go.Lib.byteCells s := rfl
set_option maxRecDepth 8000 in
set_option maxHeartbeats 4000000 in
theorem wraw_any (lo wb : Nat) (s : List UInt8) (W : World) {acc : List UInt8} {b : Bool} (h : WS lo wb W acc b) : Calls Try.prog 89 #[.pointer (some ⟨wb, 0, none⟩), .string ⟨s.toArray⟩] W (Wp lo wb acc b s True W) := by
  obtain ⟨i0, hi, hz0, hz1, hz2⟩ := info_parts infoU8
  have hlo := h.lo
  have hle := h.le
  have c1 := h.c1
  have f1 := h.fz 1
  obtain ⟨p0, cap0, c0, ho⟩ := h.own
  have hs := fun b2 => h.set1 b2
  have hB1 := fun b2 => Bk.set W hlo 1 (.bool b2)
  have hsz : (ByteArray.mk s.toArray).size = s.length := rfl
  cases b with
  | true =>
    have hfin : Wp lo wb acc true s True W (.returned (.tuple #[])) (W.setCell ⟨wb, 1, none⟩ (.bool true)) := ⟨rfl, acc, true, hs true, hB1 true, fun h => by (cases h), fun h => by (cases h)⟩
    have c1' := (hs true).c1
    clear h hs hB1 ho
    go_enter Try.func89, Try.ntmps89
    go_wp2
    exact bodyPost_end (v := .tuple #[]) (by simp [results, Try.results89, go_sem]) rfl hfin
  | false =>
    by_cases hfull : 131072 < acc.length + s.length
    · have hf' : (131072 - (acc.length : Int)) < (s.length : Int) := by omega
      have hfin : Wp lo wb acc false s True W (.returned (.tuple #[])) (W.setCell ⟨wb, 1, none⟩ (.bool true)) := ⟨rfl, acc, true, hs true, hB1 true, fun h => by (cases h), fun _ hl => by omega⟩
      have c1' := (hs true).c1
      clear h hs hB1 ho
      go_enter Try.func89, Try.ntmps89
      go_wp2
      exact bodyPost_end (v := .tuple #[]) (by simp [results, Try.results89, go_sem]) rfl hfin
    · have hf' : ¬ (131072 - (acc.length : Int)) < (s.length : Int) := by omega
      have hs1 := hs false
      have ho1 := ho.kept (gr_set W wb 1 (.bool false)) (own_ne ho)
      have c1' := hs1.c1
      have hwlt := h.lt
      clear h hs
      go_enter Try.func89, Try.ntmps89
      go_wp2_with (at_builtin; refine dbgM ?_)
      unfold Marker
      refine Go.Lib.wpList_append_own_string _ rfl _ _ 22 9 rfl (wb + 1) 5 i0 Try.underlying22 Try.underlying9 hi hz0 hz1 hz2 _ _ _ rfl ho1 _ rfl (by rw [hsz]; unfold maxLen; omega) (by rw [hsz]; omega) (by simp; omega) ?_
      intro v4 w4 hown4 hgrow4 _
      rw [hsz, strCells_of, ← Go.Lib.byteCells_append, ← List.length_append] at hown4
      obtain ⟨p4, cap4, rfl⟩ := own_slice hown4
      obtain ⟨hW4, hB4, ⟨u4, hu4⟩, hz4⟩ := hs1.push (acc2 := acc ++ s) ho1 hgrow4 hown4 (by rw [List.length_append]; omega)
      have hfin : Wp lo wb acc false s True W (.returned (.tuple #[])) (w4.setCell ⟨wb, 0, none⟩ (.slice p4 (acc ++ s).length cap4)) := ⟨rfl, _, false, hW4, (hB1 false).trans hB4, fun _ => ⟨rfl, rfl, trivial⟩, fun _ _ _ => rfl⟩
      rw [List.length_append] at hfin
      clear hW4 hB4 hown4 hgrow4 hB1 ho ho1 hs1
      go_wp2
      exact bodyPost_end (v := .tuple #[]) (by simp [results, Try.results89, go_sem]) rfl hfin

end Go.Proofs.Ytjgkjdalnjlefaa

import Derived.Test.YtjgkjdalnjlefaaPoB
namespace Go.Proofs.Ytjgkjdalnjlefaa
open Go.RowKit

def pk0 : Pk := ⟨[], 0, [], [], [], [], []⟩
theorem enc0 : encP pk0 = [76, 86, 89, 49, 0, 0, 0, 0, 0, 0, 0] := by
  simp [encP, pk0, encS, encI, encL, zig, encN_small]
theorem z15_eq : encP pk0 ++ sum4 (fnvB (encP pk0)) = [76, 86, 89, 49, 0, 0, 0, 0, 0, 0, 0, 107, 221, 142, 116] := by
  rw [enc0]
  kernel_rfl
theorem z15_read : rPack [76, 86, 89, 49, 0, 0, 0, 0, 0, 0, 0, 107, 221, 142, 116] 0 = .ok (pk0, 15) := by kernel_rfl
theorem z6_read : rPack [76, 86, 89, 49, 128, 0] 0 = .error (4, 71) := by kernel_rfl
theorem InB.of_own {W : World} {base n : Nat} {a : Option Addr} {cap : Nat} {l : List UInt8} (h : W.ownsRow base 5 1 (.slice a n cap) l.length (Go.Lib.byteCells l)) : InB W a cap l := by
  have h0 := h
  obtain ⟨_, ⟨e, hn⟩ | ⟨g, cp, cur, e, hb, hc, hle, _⟩⟩ := h0
  · injection e with e1 e2 e3
    subst e1 e3
    exact ⟨.inl (List.eq_nil_of_length_eq_zero hn), fun _ => rfl, by omega⟩
  · injection e with e1 e2 e3
    subst e1 e2 e3
    refine ⟨.inr ⟨g, 0, rfl, heap_lt hc, fun i hi => ?_⟩, fun h => by (cases h), by omega⟩
    rw [Nat.zero_add, h.cellAt i (by omega)]
    unfold Go.Lib.byteCells
    rw [List.getElem?_map, List.getElem?_eq_getElem hi]
    rfl
theorem InB.pre {W : World} {a : Option Addr} {cap : Nat} {l : List UInt8} (h : InB W a cap l) (n : Nat) : InB W a cap (l.take n) := by
  obtain ⟨h1, h2, h3⟩ := h
  refine ⟨?_, h2, by rw [List.length_take]; omega⟩
  rcases h1 with rfl | ⟨b, off, ha, hb, hc⟩
  · left; simp
  · right
    refine ⟨b, off, ha, hb, fun i hi => ?_⟩
    rw [List.length_take] at hi
    rw [hc i (by omega), List.getElem_take]
theorem InB.bel {W W' : World} {a : Option Addr} {cap n : Nat} {l : List UInt8} (h : InB W a cap l) (hB : Below n W W') (hn : W.heap.size ≤ n) : InB W' a cap l := by
  obtain ⟨h1, h2, h3⟩ := h
  refine ⟨?_, h2, h3⟩
  rcases h1 with rfl | ⟨b, off, ha, hb, hc⟩
  · exact .inl rfl
  · exact .inr ⟨b, off, ha, Nat.lt_of_lt_of_le hb hB.size, fun i hi => (bel_cell hB (Nat.lt_of_lt_of_le hb hn) _).trans (hc i hi)⟩
theorem InB.lit (W : World) (l : List UInt8) (cs : Array Value) (h : cs.toList = Go.Lib.byteCells l) : InB (W.alloc (.cells cs 5)) (some ⟨W.heap.size, 0, none⟩) l.length l := by
  refine ⟨.inr ⟨W.heap.size, 0, rfl, by simp, fun i hi => ?_⟩, fun h => by (cases h), Nat.le_refl _⟩
  have hb := (bx_new W cs 5).2.1 i (by rw [h]; unfold Go.Lib.byteCells; rw [List.length_map]; exact hi)
  rw [Nat.zero_add, hb, h]
  unfold Go.Lib.byteCells
  rw [List.getElem?_map, List.getElem?_eq_getElem hi]
  rfl
theorem Below.tr {n m : Nat} {W X Y : World} (h : Below n W X) (k : Below m X Y) (hm : n ≤ m) : Below n W Y := h.trans ⟨k.os, k.tape, k.output, k.size, fun b hb => k.block b (Nat.lt_of_lt_of_le hb hm)⟩
/-- The empty pack is written. -/
theorem put0 (W : World) : Calls Try.prog 15 #[.agg #[.string ⟨#[]⟩, .int .i64 0, .slice none 0 0, .slice none 0 0, .slice none 0 0, .slice none 0 0, .slice none 0 0]] W fun e W' => Below W.heap.size W W' ∧ ∃ g cap, e = .returned (.tuple #[.slice (some ⟨g, 0, none⟩) 15 cap, .int .i64 0]) ∧ InB W' (some ⟨g, 0, none⟩) cap [76, 86, 89, 49, 0, 0, 0, 0, 0, 0, 0, 107, 221, 142, 116] ∧ 15 ≤ cap := by
  refine (put_any pk0 [.string ⟨#[]⟩, .int .i64 0, .slice none 0 0, .slice none 0 0, .slice none 0 0, .slice none 0 0, .slice none 0 0] ⟨by decide, ⟨by decide, fun o h => by cases h⟩, ⟨by decide, fun o h => by cases h⟩, ⟨by decide, fun o h => by cases h⟩, ⟨by decide, fun o h => by cases h⟩, ⟨by decide, fun o h => by cases h⟩⟩ W ⟨none, 0, none, 0, none, 0, none, 0, none, 0, rfl, ⟨by decide, by decide⟩, .inl rfl, .inl rfl, .inl rfl, .inl rfl, .inl rfl⟩).mono ?_
  rintro e W' ⟨hB, acc, b, hr, h⟩
  rw [z15_eq] at hr
  have hb : b = false := hr.2 rfl (by decide) ⟨fun l hl => by simp [pk0] at hl, fun l hl => by simp [pk0] at hl⟩
  obtain ⟨-, hacc, -⟩ := hr.1 hb
  rw [List.nil_append] at hacc
  rcases h with ⟨h, -⟩ | ⟨-, pa, cap, rfl, ho, -⟩
  · rw [hb] at h; cases h
  · subst hacc
    have hi := InB.of_own ho
    obtain ⟨h1, h2, h3⟩ := hi
    rcases h1 with h1 | ⟨g, off, ha, hg, hc⟩
    · cases h1
    · have ho0 := ho
      obtain ⟨_, ⟨e, hn⟩ | ⟨g2, cp, cur, e, _⟩⟩ := ho0
      · cases hn
      · injection e with e1 e2 e3
        subst e1
        exact ⟨hB, g2, cap, rfl, InB.of_own ho, h3⟩
/-- What is written of it is read. -/
theorem get15 (a : Option Addr) (cap : Nat) (W : World) (h : InB W a cap [76, 86, 89, 49, 0, 0, 0, 0, 0, 0, 0, 107, 221, 142, 116]) : Calls Try.prog 7 #[.slice a 15 cap] W fun e W' => Below W.heap.size W W' ∧ ∃ a3 c3 a4 c4 a5 c5 a6 c6 a7 c7, e = .returned (.tuple #[.agg #[.string ⟨#[]⟩, .int .i64 0, .slice a3 0 c3, .slice a4 0 c4, .slice a5 0 c5, .slice a6 0 c6, .slice a7 0 c7], .int .i64 0, .int .i64 0]) := by
  refine (get_any a cap [76, 86, 89, 49, 0, 0, 0, 0, 0, 0, 0, 107, 221, 142, 116] W h).mono ?_
  rintro e W' ⟨hB, ⟨h1, -⟩ | ⟨-, ft, er, h1, -⟩ | ⟨-, p, a2, cs, h1, rfl, a3, c3, a4, c4, a5, c5, a6, c6, a7, c7, rfl, -⟩⟩
  · exact absurd h1 (by decide)
  · rw [z15_read] at h1; cases h1
  · rw [z15_read] at h1
    cases h1
    exact ⟨hB, a3, c3, a4, c4, a5, c5, a6, c6, a7, c7, rfl⟩
theorem get6 (a : Option Addr) (cap : Nat) (W : World) (h : InB W a cap [76, 86, 89, 49, 128, 0]) : Calls Try.prog 7 #[.slice a 6 cap] W fun e W' => Below W.heap.size W W' ∧ e = .returned (.tuple #[.agg #[.string ⟨#[]⟩, .int .i64 0, .slice none 0 0, .slice none 0 0, .slice none 0 0, .slice none 0 0, .slice none 0 0], .int .i64 4, .int .i64 71]) := by
  refine (get_any a cap [76, 86, 89, 49, 128, 0] W h).mono ?_
  rintro e W' ⟨hB, ⟨h1, -⟩ | ⟨-, ft, er, h1, -, -, rfl⟩ | ⟨-, p, a2, cs, h1, rfl, -⟩⟩
  · exact absurd h1 (by decide)
  · rw [z6_read] at h1
    cases h1
    exact ⟨hB, rfl⟩
  · rw [z6_read] at h1; cases h1
theorem sum0 (W : World) : Calls Try.prog 114 #[.slice none 0 0] W fun e W' => e = .returned (.int .u32 2166136261) ∧ W = W' := by
  have := sum_any none 0 [] (by decide) W ⟨fun n hn => by simp at hn, .inl rfl⟩
  rw [show ((fnv [] : Nat) : Int) = 2166136261 from by kernel_rfl] at this
  refine this.mono ?_
  rintro e W' ⟨rfl, rfl⟩
  exact ⟨rfl, rfl⟩
end Go.Proofs.Ytjgkjdalnjlefaa

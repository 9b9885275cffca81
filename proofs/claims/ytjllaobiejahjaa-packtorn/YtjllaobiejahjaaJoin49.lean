import Derived.Test.YtjllaobiejahjaaPoB
import Derived.Test.YtjllaobiejahjaaPzC
namespace Go.Proofs.Ytjllaobiejahjaa
open Go.RowKit

def pk0 : Pk := ⟨[], 0, [], [], [], [], []⟩
theorem enc0 : encP pk0 = [76, 86, 89, 49, 0, 0, 0, 0, 0, 0, 0] := by
  simp [encP, pk0, encS, encI, encL, zig, encN_small]
theorem z15_eq : encP pk0 ++ sum4 (fnvB (encP pk0)) = [76, 86, 89, 49, 0, 0, 0, 0, 0, 0, 0, 107, 221, 142, 116] := by
  rw [enc0]
  kernel_rfl
theorem z15_read : rPack [76, 86, 89, 49, 0, 0, 0, 0, 0, 0, 0, 107, 221, 142, 116] 0 = .ok (pk0, 15) := by kernel_rfl
theorem z6_read : rPack [76, 86, 89, 49, 128, 0] 0 = .error (4, 71) := by kernel_rfl
theorem InB.of_own {W : World} {base n : Nat} {a : Option Addr} {cap : Nat} {l : List UInt8} (h : W.ownsRow base 5 1 (.slice a n cap) l.length (Go.Lib.byteCells l)) : InB W a cap l := by
  have h0 := h
  obtain ⟨_, ⟨e, hn⟩ | ⟨g, cp, cur, e, hb, hc, hle, _⟩⟩ := h0
  · injection e with e1 e2 e3
    subst e1 e3
    exact ⟨.inl (List.eq_nil_of_length_eq_zero hn), fun _ => rfl, by omega⟩
  · injection e with e1 e2 e3
    subst e1 e2 e3
    refine ⟨.inr ⟨g, 0, rfl, heap_lt hc, fun i hi => ?_⟩, fun h => by (cases h), by omega⟩
    rw [Nat.zero_add, h.cellAt i (by omega)]
    unfold Go.Lib.byteCells
    rw [List.getElem?_map, List.getElem?_eq_getElem hi]
    rfl
theorem InB.pre {W : World} {a : Option Addr} {cap : Nat} {l : List UInt8} (h : InB W a cap l) (n : Nat) : InB W a cap (l.take n) := by
  obtain ⟨h1, h2, h3⟩ := h
  refine ⟨?_, h2, by rw [List.length_take]; omega⟩
  rcases h1 with rfl | ⟨b, off, ha, hb, hc⟩
  · left; simp
  · right
    refine ⟨b, off, ha, hb, fun i hi => ?_⟩
    rw [List.length_take] at hi
    rw [hc i (by omega), List.getElem_take]
theorem InB.bel {W W' : World} {a : Option Addr} {cap n : Nat} {l : List UInt8} (h : InB W a cap l) (hB : Below n W W') (hn : W.heap.size ≤ n) : InB W' a cap l := by
  obtain ⟨h1, h2, h3⟩ := h
  refine ⟨?_, h2, h3⟩
  rcases h1 with rfl | ⟨b, off, ha, hb, hc⟩
  · exact .inl rfl
  · exact .inr ⟨b, off, ha, Nat.lt_of_lt_of_le hb hB.size, fun i hi => (bel_cell hB (Nat.lt_of_lt_of_le hb hn) _).trans (hc i hi)⟩
theorem InB.lit (W : World) (l : List UInt8) (cs : Array Value) (h : cs.toList = Go.Lib.byteCells l) : InB (W.alloc (.cells cs 5)) (some ⟨W.heap.size, 0, none⟩) l.length l := by
  refine ⟨.inr ⟨W.heap.size, 0, rfl, by simp, fun i hi => ?_⟩, fun h => by (cases h), Nat.le_refl _⟩
  have hb := (bx_new W cs 5).2.1 i (by rw [h]; unfold Go.Lib.byteCells; rw [List.length_map]; exact hi)
  rw [Nat.zero_add, hb, h]
  unfold Go.Lib.byteCells
  rw [List.getElem?_map, List.getElem?_eq_getElem hi]
  rfl
theorem Below.tr {n m : Nat} {W X Y : World} (h : Below n W X) (k : Below m X Y) (hm : n ≤ m) : Below n W Y := h.trans ⟨k.os, k.tape, k.output, k.size, fun b hb => k.block b (Nat.lt_of_lt_of_le hb hm)⟩
/-- The empty pack is written. -/
theorem put0 (W : World) : Calls Try.prog 8 #[.agg #[.string ⟨#[]⟩, .int .i64 0, .slice none 0 0, .slice none 0 0, .slice none 0 0, .slice none 0 0, .slice none 0 0]] W fun e W' => Below W.heap.size W W' ∧ ∃ g cap, e = .returned (.tuple #[.slice (some ⟨g, 0, none⟩) 15 cap, .int .i64 0]) ∧ InB W' (some ⟨g, 0, none⟩) cap [76, 86, 89, 49, 0, 0, 0, 0, 0, 0, 0, 107, 221, 142, 116] ∧ 15 ≤ cap := by
  refine (put_any pk0 [.string ⟨#[]⟩, .int .i64 0, .slice none 0 0, .slice none 0 0, .slice none 0 0, .slice none 0 0, .slice none 0 0] ⟨by decide, ⟨by decide, fun o h => by cases h⟩, ⟨by decide, fun o h => by cases h⟩, ⟨by decide, fun o h => by cases h⟩, ⟨by decide, fun o h => by cases h⟩, ⟨by decide, fun o h => by cases h⟩⟩ W ⟨none, 0, none, 0, none, 0, none, 0, none, 0, rfl, ⟨by decide, by decide⟩, .inl rfl, .inl rfl, .inl rfl, .inl rfl, .inl rfl⟩).mono ?_
  rintro e W' ⟨hB, acc, b, hr, h⟩
  rw [z15_eq] at hr
  have hb : b = false := hr.2 rfl (by decide) ⟨fun l hl => by simp [pk0] at hl, fun l hl => by simp [pk0] at hl⟩
  obtain ⟨-, hacc, -⟩ := hr.1 hb
  rw [List.nil_append] at hacc
  rcases h with ⟨h, -⟩ | ⟨-, pa, cap, rfl, ho, -⟩
  · rw [hb] at h; cases h
  · subst hacc
    have hi := InB.of_own ho
    obtain ⟨h1, h2, h3⟩ := hi
    rcases h1 with h1 | ⟨g, off, ha, hg, hc⟩
    · cases h1
    · have ho0 := ho
      obtain ⟨_, ⟨e, hn⟩ | ⟨g2, cp, cur, e, _⟩⟩ := ho0
      · cases hn
      · injection e with e1 e2 e3
        subst e1
        exact ⟨hB, g2, cap, rfl, InB.of_own ho, h3⟩
/-- What is written of it is read. -/
theorem get15 (a : Option Addr) (cap : Nat) (W : World) (h : InB W a cap [76, 86, 89, 49, 0, 0, 0, 0, 0, 0, 0, 107, 221, 142, 116]) : Calls Try.prog 10 #[.slice a 15 cap] W fun e W' => Below W.heap.size W W' ∧ ∃ a3 c3 a4 c4 a5 c5 a6 c6 a7 c7, e = .returned (.tuple #[.agg #[.string ⟨#[]⟩, .int .i64 0, .slice a3 0 c3, .slice a4 0 c4, .slice a5 0 c5, .slice a6 0 c6, .slice a7 0 c7], .int .i64 0, .int .i64 0]) := by
  refine (get_any a cap [76, 86, 89, 49, 0, 0, 0, 0, 0, 0, 0, 107, 221, 142, 116] W h).mono ?_
  rintro e W' ⟨hB, ⟨h1, -⟩ | ⟨-, ft, er, h1, -⟩ | ⟨-, p, a2, cs, h1, rfl, a3, c3, a4, c4, a5, c5, a6, c6, a7, c7, rfl, -⟩⟩
  · exact absurd h1 (by decide)
  · rw [z15_read] at h1; cases h1
  · rw [z15_read] at h1
    cases h1
    exact ⟨hB, a3, c3, a4, c4, a5, c5, a6, c6, a7, c7, rfl⟩
theorem get6 (a : Option Addr) (cap : Nat) (W : World) (h : InB W a cap [76, 86, 89, 49, 128, 0]) : Calls Try.prog 10 #[.slice a 6 cap] W fun e W' => Below W.heap.size W W' ∧ e = .returned (.tuple #[.agg #[.string ⟨#[]⟩, .int .i64 0, .slice none 0 0, .slice none 0 0, .slice none 0 0, .slice none 0 0, .slice none 0 0], .int .i64 4, .int .i64 71]) := by
  refine (get_any a cap [76, 86, 89, 49, 128, 0] W h).mono ?_
  rintro e W' ⟨hB, ⟨h1, -⟩ | ⟨-, ft, er, h1, -, -, rfl⟩ | ⟨-, p, a2, cs, h1, rfl, -⟩⟩
  · exact absurd h1 (by decide)
  · rw [z6_read] at h1
    cases h1
    exact ⟨hB, rfl⟩
  · rw [z6_read] at h1; cases h1
theorem sum0 (W : World) : Calls Try.prog 13 #[.slice none 0 0] W fun e W' => e = .returned (.int .u32 2166136261) ∧ W = W' := by
  have := sum_any none 0 [] (by decide) W ⟨fun n hn => by simp at hn, .inl rfl⟩
  rw [show ((fnv [] : Nat) : Int) = 2166136261 from by kernel_rfl] at this
  refine this.mono ?_
  rintro e W' ⟨rfl, rfl⟩
  exact ⟨rfl, rfl⟩
set_option maxRecDepth 8000 in
set_option maxHeartbeats 1000000 in
theorem known_any (W : World) : Calls Try.prog 6 #[] W fun e W' => e = .returned (.bool true) ∧ Below W.heap.size W W' := by
  have hput := put0 W
  go_enter Try.func6, Try.ntmps6
  go_wp2_with (first | (go_at_call 8; go_loud (refine hput.mono ?_; clear hput; rintro e w1 ⟨hB1, g, cap, rfl, hI1, hcap⟩; have hc11 : (11 : Int) ≤ (cap : Int) := (by omega); have hBa : Below w1.heap.size w1 (w1.alloc (.cells #[.int .u8 76, .int .u8 86, .int .u8 89, .int .u8 49, .int .u8 0, .int .u8 0, .int .u8 0, .int .u8 0, .int .u8 0, .int .u8 0, .int .u8 0] 5)) := (Below.refl _ _).alloc (Nat.le_refl _) _; have hIa := hI1.bel hBa (Nat.le_refl _); have hB1a := Below.tr hB1 hBa hB1.size; have hs : Calls Try.prog 12 #[.slice (some ⟨g, 0, none⟩) 11 cap, .slice (some ⟨w1.heap.size, 0, none⟩) 11 11] (w1.alloc (.cells #[.int .u8 76, .int .u8 86, .int .u8 89, .int .u8 49, .int .u8 0, .int .u8 0, .int .u8 0, .int .u8 0, .int .u8 0, .int .u8 0, .int .u8 0] 5)) fun e W' => e = .returned (.bool true) ∧ W' = (w1.alloc (.cells #[.int .u8 76, .int .u8 86, .int .u8 89, .int .u8 49, .int .u8 0, .int .u8 0, .int .u8 0, .int .u8 0, .int .u8 0, .int .u8 0, .int .u8 0] 5)) := same_any (some ⟨g, 0, none⟩) (some ⟨w1.heap.size, 0, none⟩) cap 11 [76, 86, 89, 49, 0, 0, 0, 0, 0, 0, 0] [76, 86, 89, 49, 0, 0, 0, 0, 0, 0, 0] _ (hIa.pre 11) (InB.lit w1 [76, 86, 89, 49, 0, 0, 0, 0, 0, 0, 0] #[.int .u8 76, .int .u8 86, .int .u8 89, .int .u8 49, .int .u8 0, .int .u8 0, .int .u8 0, .int .u8 0, .int .u8 0, .int .u8 0, .int .u8 0] rfl); have hget := get15 _ _ _ hIa)) | (go_at_call 12; go_loud (refine hs.mono ?_; clear hs; rintro e w2 ⟨rfl, rfl⟩)) | (go_at_call 10; go_loud (refine hget.mono ?_; clear hget; rintro e w3 ⟨hB3, a3, c3, a4, c4, a5, c5, a6, c6, a7, c7, rfl⟩; have hB13 := Below.tr hB1a hB3 hB1a.size; have hBb : Below w3.heap.size w3 ((w3.alloc (.cells #[.string ⟨#[]⟩, .int .i64 0, .slice a3 0 c3, .slice a4 0 c4, .slice a5 0 c5, .slice a6 0 c6, .slice a7 0 c7] 28)).alloc (.cells #[.int .u8 76, .int .u8 86, .int .u8 89, .int .u8 49, .int .u8 128, .int .u8 0] 5)) := ((Below.refl _ _).alloc (Nat.le_refl _) _).alloc (by simp) _; have hB13b := Below.tr hB13 hBb hB13.size; have hbp := (bx_new w3 #[.string ⟨#[]⟩, .int .i64 0, .slice a3 0 c3, .slice a4 0 c4, .slice a5 0 c5, .slice a6 0 c6, .slice a7 0 c7] 28).kept (World.grownBy_alloc (w3.alloc (.cells #[.string ⟨#[]⟩, .int .i64 0, .slice a3 0 c3, .slice a4 0 c4, .slice a5 0 c5, .slice a6 0 c6, .slice a7 0 c7] 28)) (.cells #[.int .u8 76, .int .u8 86, .int .u8 89, .int .u8 49, .int .u8 128, .int .u8 0] 5) none) (by simp); have hs3 : (w3.alloc (.cells #[.string ⟨#[]⟩, .int .i64 0, .slice a3 0 c3, .slice a4 0 c4, .slice a5 0 c5, .slice a6 0 c6, .slice a7 0 c7] 28)).heap.size = w3.heap.size + 1 := (by simp); have hl3 := InB.lit (w3.alloc (.cells #[.string ⟨#[]⟩, .int .i64 0, .slice a3 0 c3, .slice a4 0 c4, .slice a5 0 c5, .slice a6 0 c6, .slice a7 0 c7] 28)) [76, 86, 89, 49, 128, 0] #[.int .u8 76, .int .u8 86, .int .u8 89, .int .u8 49, .int .u8 128, .int .u8 0] rfl; rw [hs3] at hl3; have hget2 : Calls Try.prog 10 #[.slice (some ⟨w3.heap.size + 1, 0, none⟩) 6 6] ((w3.alloc (.cells #[.string ⟨#[]⟩, .int .i64 0, .slice a3 0 c3, .slice a4 0 c4, .slice a5 0 c5, .slice a6 0 c6, .slice a7 0 c7] 28)).alloc (.cells #[.int .u8 76, .int .u8 86, .int .u8 89, .int .u8 49, .int .u8 128, .int .u8 0] 5)) _ := get6 (some ⟨w3.heap.size + 1, 0, none⟩) 6 _ hl3; clear hI1 hBa hIa hl3)) | (go_at_call 10; go_loud (refine hget2.mono ?_; clear hget2; rintro e w4 ⟨hB4, rfl⟩; have hB14 := Below.tr hB13b hB4 hB13b.size; have hB14q : Below W.heap.size W (w4.alloc (.cells #[.string ⟨#[]⟩, .int .i64 0, .slice none 0 0, .slice none 0 0, .slice none 0 0, .slice none 0 0, .slice none 0 0] 28)) := hB14.alloc hB14.size _; have hg4 : ((w3.alloc (.cells #[.string ⟨#[]⟩, .int .i64 0, .slice a3 0 c3, .slice a4 0 c4, .slice a5 0 c5, .slice a6 0 c6, .slice a7 0 c7] 28)).alloc (.cells #[.int .u8 76, .int .u8 86, .int .u8 89, .int .u8 49, .int .u8 128, .int .u8 0] 5)).grownBy w4 none := ⟨hB4.os, hB4.tape, hB4.output, hB4.size, fun k hk _ => hB4.block k hk⟩; have hbq := (hbp.kept hg4 (by simp)).kept (World.grownBy_alloc w4 (.cells #[.string ⟨#[]⟩, .int .i64 0, .slice none 0 0, .slice none 0 0, .slice none 0 0, .slice none 0 0, .slice none 0 0] 28) none) (by simp); have y0 : (w4.alloc (.cells #[.string ⟨#[]⟩, .int .i64 0, .slice none 0 0, .slice none 0 0, .slice none 0 0, .slice none 0 0, .slice none 0 0] 28)).cell? ⟨w3.heap.size, 0, none⟩ = some (.string ⟨#[]⟩) := hbq.2.1 0 (by simp); have y1 : (w4.alloc (.cells #[.string ⟨#[]⟩, .int .i64 0, .slice none 0 0, .slice none 0 0, .slice none 0 0, .slice none 0 0, .slice none 0 0] 28)).cell? ⟨w3.heap.size, 1, none⟩ = some (.int .i64 0) := hbq.2.1 1 (by simp); have y2 : (w4.alloc (.cells #[.string ⟨#[]⟩, .int .i64 0, .slice none 0 0, .slice none 0 0, .slice none 0 0, .slice none 0 0, .slice none 0 0] 28)).cell? ⟨w3.heap.size, 2, none⟩ = some (.slice a3 0 c3) := hbq.2.1 2 (by simp); have y3 : (w4.alloc (.cells #[.string ⟨#[]⟩, .int .i64 0, .slice none 0 0, .slice none 0 0, .slice none 0 0, .slice none 0 0, .slice none 0 0] 28)).cell? ⟨w3.heap.size, 3, none⟩ = some (.slice a4 0 c4) := hbq.2.1 3 (by simp); have y4 : (w4.alloc (.cells #[.string ⟨#[]⟩, .int .i64 0, .slice none 0 0, .slice none 0 0, .slice none 0 0, .slice none 0 0, .slice none 0 0] 28)).cell? ⟨w3.heap.size, 4, none⟩ = some (.slice a5 0 c5) := hbq.2.1 4 (by simp); have y5 : (w4.alloc (.cells #[.string ⟨#[]⟩, .int .i64 0, .slice none 0 0, .slice none 0 0, .slice none 0 0, .slice none 0 0, .slice none 0 0] 28)).cell? ⟨w3.heap.size, 5, none⟩ = some (.slice a6 0 c6) := hbq.2.1 5 (by simp); have y6 : (w4.alloc (.cells #[.string ⟨#[]⟩, .int .i64 0, .slice none 0 0, .slice none 0 0, .slice none 0 0, .slice none 0 0, .slice none 0 0] 28)).cell? ⟨w3.heap.size, 6, none⟩ = some (.slice a7 0 c7) := hbq.2.1 6 (by simp); have hbz := bx_new w4 #[.string ⟨#[]⟩, .int .i64 0, .slice none 0 0, .slice none 0 0, .slice none 0 0, .slice none 0 0, .slice none 0 0] 28; have hsp := samePack0 a3 a4 a5 a6 a7 c3 c4 c5 c6 c7 (w4.alloc (.cells #[.string ⟨#[]⟩, .int .i64 0, .slice none 0 0, .slice none 0 0, .slice none 0 0, .slice none 0 0, .slice none 0 0] 28)); clear hbp hg4)) | (go_at_call 11; go_loud (refine hsp.mono ?_; clear hsp; rintro e w5 ⟨rfl, hB5⟩; have hB15 := Below.tr hB14q hB5 hB14q.size; have z0 : w5.cell? ⟨w4.heap.size, 0, none⟩ = some (.string ⟨#[]⟩) := (bel_cell hB5 (by simp) 0).trans (hbz.2.1 0 (by simp)); have z1 : w5.cell? ⟨w4.heap.size, 1, none⟩ = some (.int .i64 0) := (bel_cell hB5 (by simp) 1).trans (hbz.2.1 1 (by simp)); have z2 : w5.cell? ⟨w4.heap.size, 2, none⟩ = some (.slice none 0 0) := (bel_cell hB5 (by simp) 2).trans (hbz.2.1 2 (by simp)); have z3 : w5.cell? ⟨w4.heap.size, 3, none⟩ = some (.slice none 0 0) := (bel_cell hB5 (by simp) 3).trans (hbz.2.1 3 (by simp)); have z4 : w5.cell? ⟨w4.heap.size, 4, none⟩ = some (.slice none 0 0) := (bel_cell hB5 (by simp) 4).trans (hbz.2.1 4 (by simp)); have z5 : w5.cell? ⟨w4.heap.size, 5, none⟩ = some (.slice none 0 0) := (bel_cell hB5 (by simp) 5).trans (hbz.2.1 5 (by simp)); have z6 : w5.cell? ⟨w4.heap.size, 6, none⟩ = some (.slice none 0 0) := (bel_cell hB5 (by simp) 6).trans (hbz.2.1 6 (by simp)); have hsp2 := samePack0 none none none none none 0 0 0 0 0 w5)) | (go_at_call 11; go_loud (refine hsp2.mono ?_; clear hsp2; rintro e w6 ⟨rfl, hB6⟩; have hB16 := Below.tr hB15 hB6 hB15.size; have hsm := sum0 w6)) | (go_at_call 13; go_loud (refine hsm.mono ?_; clear hsm; rintro e w7 ⟨rfl, rfl⟩)) | (go_at_call 9; refine (num_any _ _).mono ?_; rintro e w ⟨rfl, rfl⟩))
  go_ret
  exact ⟨rfl, hB16⟩
end Go.Proofs.Ytjllaobiejahjaa


namespace Go.Proofs.Ytjllaobiejahjaa
open Go.RowKit

theorem get_cases (a : Option Addr) (cap : Nat) (l : List UInt8) (W : World) (h : InB W a cap l) : Calls Try.prog 10 #[.slice a l.length cap] W fun e W' => Below W.heap.size W W' ∧ ((∃ ft er : Nat, ft ≤ l.length ∧ er ≠ 0 ∧ e = .returned (.tuple #[.agg #[.string ⟨#[]⟩, .int .i64 0, .slice none 0 0, .slice none 0 0, .slice none 0 0, .slice none 0 0, .slice none 0 0], .int .i64 (ft : Int), .int .i64 (er : Int)])) ∨ ∃ (p : Pk) (a3 : Option Addr) (c3 : Nat) (a4 : Option Addr) (c4 : Nat) (a5 : Option Addr) (c5 : Nat) (a6 : Option Addr) (c6 : Nat) (a7 : Option Addr) (c7 : Nat), e = .returned (.tuple #[.agg #[.string ⟨p.name.toArray⟩, .int .i64 p.year, .slice a3 p.opts.length c3, .slice a4 p.tabs.length c4, .slice a5 p.grps.length c5, .slice a6 p.lns.length c6, .slice a7 p.cks.length c7], .int .i64 0, .int .i64 0]) ∧ PkE W' (fun b => b < W'.heap.size) p [.string ⟨p.name.toArray⟩, .int .i64 p.year, .slice a3 p.opts.length c3, .slice a4 p.tabs.length c4, .slice a5 p.grps.length c5, .slice a6 p.lns.length c6, .slice a7 p.cks.length c7] ∧ Hid (l.length ≤ 131072 ∧ l = encP p ++ sum4 (fnvB (encP p)) ∧ okP p)) := by
  refine (get_any a cap l W h).mono ?_
  rintro e W' ⟨hB, ⟨h1, rfl⟩ | ⟨-, ft, er, h1, h2, h3, rfl⟩ | ⟨hl, p, a2, cs, h1, rfl, hE⟩⟩
  · exact ⟨hB, .inl ⟨0, 72, Nat.zero_le _, by decide, rfl⟩⟩
  · exact ⟨hB, .inl ⟨ft, er, h3, h2, rfl⟩⟩
  · have hE0 := hE
    obtain ⟨a3, c3, a4, c4, a5, c5, a6, c6, a7, c7, rfl, -⟩ := hE0
    exact ⟨hB, .inr ⟨p, a3, c3, a4, c4, a5, c5, a6, c6, a7, c7, rfl, pke_mo hE (fun b hb _ => hb), ⟨hl, rPack_sound h1⟩⟩⟩
end Go.Proofs.Ytjllaobiejahjaa


namespace Go.Proofs.Ytjllaobiejahjaa
open Go.RowKit

abbrev AnyB : Nat → Prop := fun _ => True
/-- What a comparison answers. -/
def SmP (q : Prop) (W : World) (e : Ending) (W' : World) : Prop := Below W.heap.size W W' ∧ ∃ r : Bool, e = .returned (.bool r) ∧ (r = true ↔ q)
theorem fo_bel {W W' : World} {n : Nat} {f : Fo} {a : Option Addr} (h : FoAt W AnyB f a) (hB : Below n W W') (hn : W.heap.size ≤ n) : FoAt W' AnyB f a := FoAt.fr hB.size (fun b _ hlt => hB.block b (Nat.lt_of_lt_of_le hlt hn)) f a h
theorem row_bel {α : Type} {D : Elt α} {W W' : World} {n : Nat} {xs : List α} {a : Option Addr} (h : RowR D W AnyB xs a) (hB : Below n W W') (hn : W.heap.size ≤ n) : RowR D W' AnyB xs a := h.fr hB.size (fun b _ hlt => hB.block b (Nat.lt_of_lt_of_le hlt hn))
theorem RowR.some {α : Type} {D : Elt α} {W : World} {S : Nat → Prop} {xs : List α} {a : Option Addr} (h : RowR D W S xs a) {i : Nat} (hi : i < xs.length) : ∃ g o, a = some ⟨g, o, none⟩ := by
  rcases h with h | ⟨g, o, _, e, _⟩
  · rw [h] at hi; simp at hi
  · exact ⟨g, o, e⟩
theorem toL_inj {f g : Fo} (h : toL f = toL g) : f = g := by rw [← ofL_toL f, h, ofL_toL]
theorem ex_ext {x y : Ex} (h0 : x.op = y.op) (h1 : x.num = y.num) (h2 : x.den = y.den) (h3 : x.mode = y.mode) (h4 : toL x.args = toL y.args) : x = y := by
  obtain ⟨_, _, _, _, _⟩ := x
  obtain ⟨_, _, _, _, _⟩ := y
  cases h0; cases h1; cases h2; cases h3
  cases toL_inj h4
  rfl
theorem list_all {α : Type} {l m : List α} (hl : l.length = m.length) (h : ∀ j (h1 : j < l.length) (h2 : j < m.length), l[j] = m[j]) : l = m := List.ext_getElem hl h
set_option maxRecDepth 8000 in
set_option maxHeartbeats 1000000 in
theorem sameExpr_any : ∀ (n : Nat) (x y : Ex) (a a2 : Option Addr) (c c2 : Nat) (W : World), deepE x ≤ n → SzE x → FoAt W AnyB x.args a → FoAt W AnyB y.args a2 → Calls Try.prog 19 #[.agg #[.int .i64 x.op, .int .i64 x.num, .int .i64 x.den, .int .i64 x.mode, .slice a x.args.len c], .agg #[.int .i64 y.op, .int .i64 y.num, .int .i64 y.den, .int .i64 y.mode, .slice a2 y.args.len c2]] W (SmP (x = y) W)
  | 0, x, y, a, a2, c, c2, W, hd, hz, hF, hG => by unfold deepE at hd; omega
  | n + 1, x, y, a, a2, c, c2, W, hd, hz, hF, hG => by
    have ih := sameExpr_any n
    have hB : Below W.heap.size W ((W.alloc (.cells #[.int .i64 x.op, .int .i64 x.num, .int .i64 x.den, .int .i64 x.mode, .slice a x.args.len c] 55)).alloc (.cells #[.int .i64 y.op, .int .i64 y.num, .int .i64 y.den, .int .i64 y.mode, .slice a2 y.args.len c2] 55)) := ((Below.refl _ _).alloc (Nat.le_refl _) _).alloc (by simp) _
    obtain ⟨Q, hQ⟩ : ∃ Q, SmP (x = y) W = Q := ⟨_, rfl⟩
    rw [hQ]
    have hQ := Hid.mk hQ
    have hno : ∀ W', x ≠ y → Below W.heap.size W W' → Q (.returned (.bool false)) W' := fun W' hne hb => by
      rw [← hQ.out]
      exact ⟨hb, false, rfl, by simp [hne]⟩
    by_cases h0 : x.op = y.op
    rotate_left
    · have e0 : (x.op != y.op) = true := by simp [h0]
      have hfin := hno ((W.alloc (.cells #[.int .i64 x.op, .int .i64 x.num, .int .i64 x.den, .int .i64 x.mode, .slice a x.args.len c] 55)).alloc (.cells #[.int .i64 y.op, .int .i64 y.num, .int .i64 y.den, .int .i64 y.mode, .slice a2 y.args.len c2] 55)) (fun e => h0 (by rw [e])) hB
      clear hno h0 ih hd hz hF hG
      go_enter Try.func19, Try.ntmps19
      go_wp2
      exact hfin
    have e0 : (x.op != y.op) = false := by simp [h0]
    by_cases h1 : x.num = y.num
    rotate_left
    · have e1 : (x.num != y.num) = true := by simp [h1]
      have hfin := hno ((W.alloc (.cells #[.int .i64 x.op, .int .i64 x.num, .int .i64 x.den, .int .i64 x.mode, .slice a x.args.len c] 55)).alloc (.cells #[.int .i64 y.op, .int .i64 y.num, .int .i64 y.den, .int .i64 y.mode, .slice a2 y.args.len c2] 55)) (fun e => h1 (by rw [e])) hB
      clear hno h1 ih hd hz hF hG h0
      go_enter Try.func19, Try.ntmps19
      go_wp2
      exact hfin
    have e1 : (x.num != y.num) = false := by simp [h1]
    by_cases h2 : x.den = y.den
    rotate_left
    · have e2 : (x.den != y.den) = true := by simp [h2]
      have hfin := hno ((W.alloc (.cells #[.int .i64 x.op, .int .i64 x.num, .int .i64 x.den, .int .i64 x.mode, .slice a x.args.len c] 55)).alloc (.cells #[.int .i64 y.op, .int .i64 y.num, .int .i64 y.den, .int .i64 y.mode, .slice a2 y.args.len c2] 55)) (fun e => h2 (by rw [e])) hB
      clear hno h2 ih hd hz hF hG h0 h1
      go_enter Try.func19, Try.ntmps19
      go_wp2
      exact hfin
    have e2 : (x.den != y.den) = false := by simp [h2]
    by_cases h3 : x.mode = y.mode
    rotate_left
    · have e3 : (x.mode != y.mode) = true := by simp [h3]
      have hfin := hno ((W.alloc (.cells #[.int .i64 x.op, .int .i64 x.num, .int .i64 x.den, .int .i64 x.mode, .slice a x.args.len c] 55)).alloc (.cells #[.int .i64 y.op, .int .i64 y.num, .int .i64 y.den, .int .i64 y.mode, .slice a2 y.args.len c2] 55)) (fun e => h3 (by rw [e])) hB
      clear hno h3 ih hd hz hF hG h0 h1 h2
      go_enter Try.func19, Try.ntmps19
      go_wp2
      exact hfin
    have e3 : (x.mode != y.mode) = false := by simp [h3]
    by_cases h4 : x.args.len = y.args.len
    rotate_left
    · have e4 : ((x.args.len : Int) != (y.args.len : Int)) = true := by simp; omega
      have hfin := hno ((W.alloc (.cells #[.int .i64 x.op, .int .i64 x.num, .int .i64 x.den, .int .i64 x.mode, .slice a x.args.len c] 55)).alloc (.cells #[.int .i64 y.op, .int .i64 y.num, .int .i64 y.den, .int .i64 y.mode, .slice a2 y.args.len c2] 55)) (fun e => h4 (by rw [e])) hB
      clear hno h4 ih hd hz hF hG h0 h1 h2 h3
      go_enter Try.func19, Try.ntmps19
      go_wp2
      exact hfin
    have e4 : ((x.args.len : Int) != (y.args.len : Int)) = false := by simp; omega
    have hxy : toL x.args = toL y.args → x = y := fun h => ex_ext h0 h1 h2 h3 h
    clear h0 h1 h2 h3
    have hl4 : (toL x.args).length = (toL y.args).length := by rw [toL_len, toL_len]; exact h4
    have h4' := Hid.mk h4
    clear h4
    have h4 := h4'
    clear h4'
    have hRx := row_of_fo hF
    have hRy := row_of_fo hG
    have hdx : ∀ z ∈ toL x.args, deepE z ≤ n ∧ SzE z := fun z hz2 => by
      have := deepF_toL _ _ hz2
      refine ⟨?_, toL_sz _ hz.2 z hz2⟩
      unfold deepE at hd ⊢
      unfold deepE at this
      omega
    have hxl := hz.1
    have hs1 : (W.alloc (.cells #[.int .i64 x.op, .int .i64 x.num, .int .i64 x.den, .int .i64 x.mode, .slice a x.args.len c] 55)).heap.size = W.heap.size + 1 := by simp
    have hsz : ((W.alloc (.cells #[.int .i64 x.op, .int .i64 x.num, .int .i64 x.den, .int .i64 x.mode, .slice a x.args.len c] 55)).alloc (.cells #[.int .i64 y.op, .int .i64 y.num, .int .i64 y.den, .int .i64 y.mode, .slice a2 y.args.len c2] 55)).heap.size = W.heap.size + 1 + 1 := by simp
    have hx1 := ((bx_new W #[.int .i64 x.op, .int .i64 x.num, .int .i64 x.den, .int .i64 x.mode, .slice a x.args.len c] 55).kept (World.grownBy_alloc (W.alloc (.cells #[.int .i64 x.op, .int .i64 x.num, .int .i64 x.den, .int .i64 x.mode, .slice a x.args.len c] 55)) (.cells #[.int .i64 y.op, .int .i64 y.num, .int .i64 y.den, .int .i64 y.mode, .slice a2 y.args.len c2] 55) none) (by simp)).2.1 4 (by simp)
    have hx2 := (bx_new (W.alloc (.cells #[.int .i64 x.op, .int .i64 x.num, .int .i64 x.den, .int .i64 x.mode, .slice a x.args.len c] 55)) #[.int .i64 y.op, .int .i64 y.num, .int .i64 y.den, .int .i64 y.mode, .slice a2 y.args.len c2] 55).2.1 4 (by simp)
    rw [hs1] at hx2
    have hF2 := row_bel hRx hB (Nat.le_refl _)
    have hG2 := row_bel hRy hB (Nat.le_refl _)
    clear hF hG hRx hRy hs1
    go_enter Try.func19, Try.ntmps19
    go_wp2
    go_loopw [5] (fun iv wr => ∃ i : Nat, iv = .int .i64 (i : Int) ∧ i ≤ x.args.len ∧ Below ((W.alloc (.cells #[.int .i64 x.op, .int .i64 x.num, .int .i64 x.den, .int .i64 x.mode, .slice a x.args.len c] 55)).alloc (.cells #[.int .i64 y.op, .int .i64 y.num, .int .i64 y.den, .int .i64 y.mode, .slice a2 y.args.len c2] 55)).heap.size ((W.alloc (.cells #[.int .i64 x.op, .int .i64 x.num, .int .i64 x.den, .int .i64 x.mode, .slice a x.args.len c] 55)).alloc (.cells #[.int .i64 y.op, .int .i64 y.num, .int .i64 y.den, .int .i64 y.mode, .slice a2 y.args.len c2] 55)) wr ∧ Hid (∀ j (h1 : j < (toL x.args).length) (h2 : j < (toL y.args).length), j < i → (toL x.args)[j] = (toL y.args)[j])) (fun iv _ => x.args.len - (intOf iv).toNat)
    case atStart => exact ⟨0, rfl, Nat.zero_le _, Below.refl _ _, ⟨fun j _ _ h => absurd h (Nat.not_lt_zero _)⟩⟩
    case round =>
      obtain ⟨i, rfl, hi, hBr, hall⟩ := hrel
      have q1 := (bel_cell hBr (show W.heap.size < ((W.alloc (.cells #[.int .i64 x.op, .int .i64 x.num, .int .i64 x.den, .int .i64 x.mode, .slice a x.args.len c] 55)).alloc (.cells #[.int .i64 y.op, .int .i64 y.num, .int .i64 y.den, .int .i64 y.mode, .slice a2 y.args.len c2] 55)).heap.size by rw [hsz]; omega) 4).trans hx1
      have q2 := (bel_cell hBr (show W.heap.size + 1 < ((W.alloc (.cells #[.int .i64 x.op, .int .i64 x.num, .int .i64 x.den, .int .i64 x.mode, .slice a x.args.len c] 55)).alloc (.cells #[.int .i64 y.op, .int .i64 y.num, .int .i64 y.den, .int .i64 y.mode, .slice a2 y.args.len c2] 55)).heap.size by rw [hsz]; omega) 4).trans hx2
      have hBW := Below.tr hB hBr (by rw [hsz]; omega)
      by_cases hlt : i < x.args.len
      · have hlt' : (i : Int) < (x.args.len : Int) := by omega
        have hlt2 : (i : Int) < (y.args.len : Int) := by have := h4.out; omega
        have hi0 : (0 : Int) ≤ (i : Int) := by omega
        have hix : i < (toL x.args).length := by rw [toL_len]; exact hlt
        have hiy : i < (toL y.args).length := by omega
        obtain ⟨g, o, rfl⟩ := hF2.some hix
        obtain ⟨g2, o2, rfl⟩ := hG2.some hiy
        have hBd : Below wr.heap.size wr wr.drew := (Below.refl _ _).drew
        have hFr := row_bel (row_bel hF2 hBr (Nat.le_refl _)) hBd (Nat.le_refl _)
        have hGr := row_bel (row_bel hG2 hBr (Nat.le_refl _)) hBd (Nat.le_refl _)
        obtain ⟨cx, -, -, ⟨a8, c8, rfl, -, hFx⟩, hcx⟩ := hFr.item hix
        obtain ⟨cy, -, -, ⟨a9, c9, rfl, -, hGy⟩, hcy⟩ := hGr.item hiy
        have hdi := hdx _ (List.getElem_mem hix)
        have hstep : (toL x.args)[i] = (toL y.args)[i] → ∀ j (h1 : j < (toL x.args).length) (h2 : j < (toL y.args).length), j < i + 1 → (toL x.args)[j] = (toL y.args)[j] := fun he j h1 h2 hj => by
          by_cases hji : j < i
          · exact hall.out j h1 h2 hji
          · obtain rfl : j = i := by omega
            exact he
        have hne : ¬ (toL x.args)[i] = (toL y.args)[i] → x ≠ y := fun h e => by subst e; exact h rfl
        have hstep := Hid.mk hstep
        have hne := Hid.mk hne
        generalize (toL x.args)[i] = xi at hcx hFx hdi hstep hne
        generalize (toL y.args)[i] = yi at hcy hGy hstep hne
        have hS0 : wr.drew.cell? ⟨W.heap.size, 4, none⟩ = some (.slice (some ⟨g, o, none⟩) x.args.len c) ∧ wr.drew.cell? ⟨W.heap.size + 1, 4, none⟩ = some (.slice (some ⟨g2, o2, none⟩) y.args.len c2) ∧ wr.drew.cell? ⟨g, o + i * 5, none⟩ = some (.int .i64 xi.op) ∧ wr.drew.cell? ⟨g, o + i * 5 + 1, none⟩ = some (.int .i64 xi.num) ∧ wr.drew.cell? ⟨g, o + i * 5 + 2, none⟩ = some (.int .i64 xi.den) ∧ wr.drew.cell? ⟨g, o + i * 5 + 3, none⟩ = some (.int .i64 xi.mode) ∧ wr.drew.cell? ⟨g, o + i * 5 + 4, none⟩ = some (.slice a8 xi.args.len c8) ∧ wr.drew.cell? ⟨g2, o2 + i * 5, none⟩ = some (.int .i64 yi.op) ∧ wr.drew.cell? ⟨g2, o2 + i * 5 + 1, none⟩ = some (.int .i64 yi.num) ∧ wr.drew.cell? ⟨g2, o2 + i * 5 + 2, none⟩ = some (.int .i64 yi.den) ∧ wr.drew.cell? ⟨g2, o2 + i * 5 + 3, none⟩ = some (.int .i64 yi.mode) ∧ wr.drew.cell? ⟨g2, o2 + i * 5 + 4, none⟩ = some (.slice a9 yi.args.len c9) := ⟨q1, q2, hcx 0 (by decide), hcx 1 (by decide), hcx 2 (by decide), hcx 3 (by decide), hcx 4 (by decide), hcy 0 (by decide), hcy 1 (by decide), hcy 2 (by decide), hcy 3 (by decide), hcy 4 (by decide)⟩
        have hg1 : g < wr.drew.heap.size := World.block_lt_of_cell? _ _ (hcx 0 (by decide))
        have hg2 : g2 < wr.drew.heap.size := World.block_lt_of_cell? _ _ (hcy 0 (by decide))
        have hw1 : W.heap.size + 1 < wr.drew.heap.size := by have := hBr.size; rw [hsz] at this; exact this
        have hcall := ih xi yi a8 a9 c8 c9 wr.drew hdi.1 hdi.2 hFx hGy
        have hkeep : ∀ X, Below wr.drew.heap.size wr.drew X → X.cell? ⟨W.heap.size, 4, none⟩ = some (.slice (some ⟨g, o, none⟩) x.args.len c) ∧ X.cell? ⟨W.heap.size + 1, 4, none⟩ = some (.slice (some ⟨g2, o2, none⟩) y.args.len c2) ∧ X.cell? ⟨g, o + i * 5, none⟩ = some (.int .i64 xi.op) ∧ X.cell? ⟨g, o + i * 5 + 1, none⟩ = some (.int .i64 xi.num) ∧ X.cell? ⟨g, o + i * 5 + 2, none⟩ = some (.int .i64 xi.den) ∧ X.cell? ⟨g, o + i * 5 + 3, none⟩ = some (.int .i64 xi.mode) ∧ X.cell? ⟨g, o + i * 5 + 4, none⟩ = some (.slice a8 xi.args.len c8) ∧ X.cell? ⟨g2, o2 + i * 5, none⟩ = some (.int .i64 yi.op) ∧ X.cell? ⟨g2, o2 + i * 5 + 1, none⟩ = some (.int .i64 yi.num) ∧ X.cell? ⟨g2, o2 + i * 5 + 2, none⟩ = some (.int .i64 yi.den) ∧ X.cell? ⟨g2, o2 + i * 5 + 3, none⟩ = some (.int .i64 yi.mode) ∧ X.cell? ⟨g2, o2 + i * 5 + 4, none⟩ = some (.slice a9 yi.args.len c9) := fun X hX => by
          have k := fun {b : Nat} (hb : b < wr.drew.heap.size) (j : Nat) => bel_cell hX hb j
          obtain ⟨s0, s1, s2, s3, s4, s5, s6, s7, s8, s9, s10, s11⟩ := hS0
          exact ⟨(k (by omega) _).trans s0, (k hw1 _).trans s1, (k hg1 _).trans s2, (k hg1 _).trans s3, (k hg1 _).trans s4, (k hg1 _).trans s5, (k hg1 _).trans s6, (k hg2 _).trans s7, (k hg2 _).trans s8, (k hg2 _).trans s9, (k hg2 _).trans s10, (k hg2 _).trans s11⟩
        clear hcx hcy hFr hGr hFx hGy hF2 hG2 hx1 hx2 hall hxy hdx
        go_wp2
        go_region_held3 (fun X => X.cell? ⟨W.heap.size, 4, none⟩ = some (.slice (some ⟨g, o, none⟩) x.args.len c) ∧ X.cell? ⟨W.heap.size + 1, 4, none⟩ = some (.slice (some ⟨g2, o2, none⟩) y.args.len c2) ∧ X.cell? ⟨g, o + i * 5, none⟩ = some (.int .i64 xi.op) ∧ X.cell? ⟨g, o + i * 5 + 1, none⟩ = some (.int .i64 xi.num) ∧ X.cell? ⟨g, o + i * 5 + 2, none⟩ = some (.int .i64 xi.den) ∧ X.cell? ⟨g, o + i * 5 + 3, none⟩ = some (.int .i64 xi.mode) ∧ X.cell? ⟨g, o + i * 5 + 4, none⟩ = some (.slice a8 xi.args.len c8) ∧ X.cell? ⟨g2, o2 + i * 5, none⟩ = some (.int .i64 yi.op) ∧ X.cell? ⟨g2, o2 + i * 5 + 1, none⟩ = some (.int .i64 yi.num) ∧ X.cell? ⟨g2, o2 + i * 5 + 2, none⟩ = some (.int .i64 yi.den) ∧ X.cell? ⟨g2, o2 + i * 5 + 3, none⟩ = some (.int .i64 yi.mode) ∧ X.cell? ⟨g2, o2 + i * 5 + 4, none⟩ = some (.slice a9 yi.args.len c9)) (assumption)
          (first | (go_at_call 19; refine hcall.mono ?_; rintro e w5 ⟨hB5, r, rfl, hr⟩; have hS5 := hkeep w5 hB5))
        have hB5 := Below.tr (Below.tr hBr hBd hBr.size) hB5 (by have := hBr.size; have := hBd.size; omega)
        cases r with
        | true =>
          have hst := Hid.mk (hstep.out (hr.1 rfl))
          clear hstep hne hr hkeep hS0 hno
          go_wp2
          go_roundw
          case rel => exact ⟨i + 1, by go_num, by omega, hB5, hst⟩
          case measure => simp [intOf]; omega
        | false =>
          have hfin := hno w5 (hne.out (fun h => by have := hr.2 h; cases this)) (Below.tr hB hB5 (by rw [hsz]; omega))
          clear hstep hne hr hkeep hS0 hno
          go_wp2
          exact hfin
      · have hlt' : ¬ (i : Int) < (x.args.len : Int) := by omega
        have hfin : Q (.returned (.bool true)) wr := by
          rw [← hQ.out]
          refine ⟨hBW, true, rfl, fun _ => hxy (list_all hl4 (fun j h1 h2 => hall.out j h1 h2 (by rw [toL_len] at h1; omega))), fun _ => rfl⟩
        clear hno hxy hall
        go_wp2
        exact hfin
end Go.Proofs.Ytjllaobiejahjaa


namespace Go.Proofs.Ytjllaobiejahjaa
open Go.RowKit

set_option maxRecDepth 8000 in
set_option maxHeartbeats 1000000 in
theorem sameLine_any (n1 n2 : List UInt8) (i1 i2 m1 m2 : Bool) (t1 t2 o1 o2 g1 g2 : Int) (l1 l2 : List Cl) (a a2 : Option Addr) (c c2 : Nat) (W : World) (hz : l1.length ≤ 9223372036854775807 ∧ ∀ x ∈ l1, SzC x) (hF : RowR eC W AnyB l1 a) (hG : RowR eC W AnyB l2 a2) : Calls Try.prog 18 #[.agg #[.string ⟨n1.toArray⟩, .bool i1, .bool m1, .int .i64 t1, .int .i64 o1, .int .i64 g1, .slice a l1.length c], .agg #[.string ⟨n2.toArray⟩, .bool i2, .bool m2, .int .i64 t2, .int .i64 o2, .int .i64 g2, .slice a2 l2.length c2]] W (SmP (Ln.mk n1 i1 m1 t1 o1 g1 l1 = Ln.mk n2 i2 m2 t2 o2 g2 l2) W) := by
  have hB : Below W.heap.size W ((W.alloc (.cells #[.string ⟨n1.toArray⟩, .bool i1, .bool m1, .int .i64 t1, .int .i64 o1, .int .i64 g1, .slice a l1.length c] 51)).alloc (.cells #[.string ⟨n2.toArray⟩, .bool i2, .bool m2, .int .i64 t2, .int .i64 o2, .int .i64 g2, .slice a2 l2.length c2] 51)) := ((Below.refl _ _).alloc (Nat.le_refl _) _).alloc (by simp) _
  obtain ⟨Q, hQ⟩ : ∃ Q, SmP (Ln.mk n1 i1 m1 t1 o1 g1 l1 = Ln.mk n2 i2 m2 t2 o2 g2 l2) W = Q := ⟨_, rfl⟩
  rw [hQ]
  have hQ := Hid.mk hQ
  have hno : ∀ W', ¬ (Ln.mk n1 i1 m1 t1 o1 g1 l1 = Ln.mk n2 i2 m2 t2 o2 g2 l2) → Below W.heap.size W W' → Q (.returned (.bool false)) W' := fun W' hne hb => by
    rw [← hQ.out]
    exact ⟨hb, false, rfl, by simp only [Bool.false_eq_true, false_iff]; exact hne⟩
  by_cases h_n : n1 = n2
  rotate_left
  · have e1 : (n1 == n2) = false := by simp [h_n]
    have e2 : (n1 != n2) = true := by simp [h_n]
    have hfin := hno _ (fun e => h_n (by cases e; rfl)) hB
    clear hno h_n hF hG hz
    go_enter Try.func18, Try.ntmps18
    go_wp2
    exact hfin
  subst h_n
  by_cases h_i : i1 = i2
  rotate_left
  · have e1 : (i1 == i2) = false := by simp [h_i]
    have e2 : (i1 != i2) = true := by simp [h_i]
    have hfin := hno _ (fun e => h_i (by cases e; rfl)) hB
    clear hno h_i hF hG hz
    go_enter Try.func18, Try.ntmps18
    go_wp2
    exact hfin
  subst h_i
  by_cases h_m : m1 = m2
  rotate_left
  · have e1 : (m1 == m2) = false := by simp [h_m]
    have e2 : (m1 != m2) = true := by simp [h_m]
    have hfin := hno _ (fun e => h_m (by cases e; rfl)) hB
    clear hno h_m hF hG hz
    go_enter Try.func18, Try.ntmps18
    go_wp2
    exact hfin
  subst h_m
  by_cases h_t : t1 = t2
  rotate_left
  · have e1 : (t1 == t2) = false := by simp [h_t]
    have e2 : (t1 != t2) = true := by simp [h_t]
    have hfin := hno _ (fun e => h_t (by cases e; rfl)) hB
    clear hno h_t hF hG hz
    go_enter Try.func18, Try.ntmps18
    go_wp2
    exact hfin
  subst h_t
  by_cases h_o : o1 = o2
  rotate_left
  · have e1 : (o1 == o2) = false := by simp [h_o]
    have e2 : (o1 != o2) = true := by simp [h_o]
    have hfin := hno _ (fun e => h_o (by cases e; rfl)) hB
    clear hno h_o hF hG hz
    go_enter Try.func18, Try.ntmps18
    go_wp2
    exact hfin
  subst h_o
  by_cases h_g : g1 = g2
  rotate_left
  · have e1 : (g1 == g2) = false := by simp [h_g]
    have e2 : (g1 != g2) = true := by simp [h_g]
    have hfin := hno _ (fun e => h_g (by cases e; rfl)) hB
    clear hno h_g hF hG hz
    go_enter Try.func18, Try.ntmps18
    go_wp2
    exact hfin
  subst h_g
  by_cases h4 : l1.length = l2.length
  rotate_left
  · have e4 : ((l1.length : Int) != (l2.length : Int)) = true := by simp; omega
    have hfin := hno _ (fun e => h4 (by cases e; rfl)) hB
    clear hno h4 hF hG hz
    go_enter Try.func18, Try.ntmps18
    go_wp2
    exact hfin
  have e4 : ((l1.length : Int) != (l2.length : Int)) = false := by simp; omega
  have hl4 := Hid.mk h4
  clear h4
  have hs1 : (W.alloc (.cells #[.string ⟨n1.toArray⟩, .bool i1, .bool m1, .int .i64 t1, .int .i64 o1, .int .i64 g1, .slice a l1.length c] 51)).heap.size = W.heap.size + 1 := by simp
  have hsz : ((W.alloc (.cells #[.string ⟨n1.toArray⟩, .bool i1, .bool m1, .int .i64 t1, .int .i64 o1, .int .i64 g1, .slice a l1.length c] 51)).alloc (.cells #[.string ⟨n1.toArray⟩, .bool i1, .bool m1, .int .i64 t1, .int .i64 o1, .int .i64 g1, .slice a2 l2.length c2] 51)).heap.size = W.heap.size + 1 + 1 := by simp
  have hx1 := ((bx_new W #[.string ⟨n1.toArray⟩, .bool i1, .bool m1, .int .i64 t1, .int .i64 o1, .int .i64 g1, .slice a l1.length c] 51).kept (World.grownBy_alloc (W.alloc (.cells #[.string ⟨n1.toArray⟩, .bool i1, .bool m1, .int .i64 t1, .int .i64 o1, .int .i64 g1, .slice a l1.length c] 51)) (.cells #[.string ⟨n1.toArray⟩, .bool i1, .bool m1, .int .i64 t1, .int .i64 o1, .int .i64 g1, .slice a2 l2.length c2] 51) none) (by simp)).2.1 6 (by simp)
  have hx2 := (bx_new (W.alloc (.cells #[.string ⟨n1.toArray⟩, .bool i1, .bool m1, .int .i64 t1, .int .i64 o1, .int .i64 g1, .slice a l1.length c] 51)) #[.string ⟨n1.toArray⟩, .bool i1, .bool m1, .int .i64 t1, .int .i64 o1, .int .i64 g1, .slice a2 l2.length c2] 51).2.1 6 (by simp)
  rw [hs1] at hx2
  have hF2 := row_bel hF hB (Nat.le_refl _)
  have hG2 := row_bel hG hB (Nat.le_refl _)
  have hzl := hz.1
  clear hF hG hs1
  go_enter Try.func18, Try.ntmps18
  go_wp2
  go_loopw [5] (fun iv wr => ∃ i : Nat, iv = .int .i64 (i : Int) ∧ i ≤ l1.length ∧ Below ((W.alloc (.cells #[.string ⟨n1.toArray⟩, .bool i1, .bool m1, .int .i64 t1, .int .i64 o1, .int .i64 g1, .slice a l1.length c] 51)).alloc (.cells #[.string ⟨n1.toArray⟩, .bool i1, .bool m1, .int .i64 t1, .int .i64 o1, .int .i64 g1, .slice a2 l2.length c2] 51)).heap.size ((W.alloc (.cells #[.string ⟨n1.toArray⟩, .bool i1, .bool m1, .int .i64 t1, .int .i64 o1, .int .i64 g1, .slice a l1.length c] 51)).alloc (.cells #[.string ⟨n1.toArray⟩, .bool i1, .bool m1, .int .i64 t1, .int .i64 o1, .int .i64 g1, .slice a2 l2.length c2] 51)) wr ∧ Hid (∀ j (h1 : j < l1.length) (h2 : j < l2.length), j < i → l1[j] = l2[j])) (fun iv _ => l1.length - (intOf iv).toNat)
  case atStart => exact ⟨0, rfl, Nat.zero_le _, Below.refl _ _, ⟨fun j _ _ h => absurd h (Nat.not_lt_zero _)⟩⟩
  case round =>
    obtain ⟨i, rfl, hi, hBr, hall⟩ := hrel
    have q1 := (bel_cell hBr (show W.heap.size < ((W.alloc (.cells #[.string ⟨n1.toArray⟩, .bool i1, .bool m1, .int .i64 t1, .int .i64 o1, .int .i64 g1, .slice a l1.length c] 51)).alloc (.cells #[.string ⟨n1.toArray⟩, .bool i1, .bool m1, .int .i64 t1, .int .i64 o1, .int .i64 g1, .slice a2 l2.length c2] 51)).heap.size by rw [hsz]; omega) 6).trans hx1
    have q2 := (bel_cell hBr (show W.heap.size + 1 < ((W.alloc (.cells #[.string ⟨n1.toArray⟩, .bool i1, .bool m1, .int .i64 t1, .int .i64 o1, .int .i64 g1, .slice a l1.length c] 51)).alloc (.cells #[.string ⟨n1.toArray⟩, .bool i1, .bool m1, .int .i64 t1, .int .i64 o1, .int .i64 g1, .slice a2 l2.length c2] 51)).heap.size by rw [hsz]; omega) 6).trans hx2
    have hBW := Below.tr hB hBr (by rw [hsz]; omega)
    by_cases hlt : i < l1.length
    · have hlt' : (i : Int) < (l1.length : Int) := by omega
      have hiy : i < l2.length := by have := hl4.out; omega
      have hlt2 : (i : Int) < (l2.length : Int) := by omega
      have hi0 : (0 : Int) ≤ (i : Int) := by omega
      obtain ⟨g, o, rfl⟩ := hF2.some hlt
      obtain ⟨g', o', rfl⟩ := hG2.some hiy
      have hFr := row_bel hF2 hBr (Nat.le_refl _)
      have hGr := row_bel hG2 hBr (Nat.le_refl _)
      obtain ⟨cx, -, -, ⟨a8, c8, b8, d8, rfl, -, -, hF8, hF8b⟩, hcx⟩ := hFr.item hlt
      obtain ⟨cy, -, -, ⟨a9, c9, b9, d9, rfl, -, -, hF9, hF9b⟩, hcy⟩ := hGr.item hiy
      have hzi := hz.2 _ (List.getElem_mem hlt)
      have hstep : l1[i] = l2[i] → ∀ j (h1 : j < l1.length) (h2 : j < l2.length), j < i + 1 → l1[j] = l2[j] := fun he j h1 h2 hj => by
        by_cases hji : j < i
        · exact hall.out j h1 h2 hji
        · obtain rfl : j = i := by omega
          exact he
      have hne : ¬ l1[i] = l2[i] → ¬ (Ln.mk n1 i1 m1 t1 o1 g1 l1 = Ln.mk n1 i1 m1 t1 o1 g1 l2) := fun h e => by cases e; exact h rfl
      have hstep := Hid.mk hstep
      have hne := Hid.mk hne
      generalize l1[i] = x at hcx hF8 hF8b hzi hstep hne
      generalize l2[i] = y at hcy hF9 hF9b hstep hne
      obtain ⟨xp, xu, xg, xb⟩ := x
      obtain ⟨yp, yu, yg, yb⟩ := y
      have kx0 : wr.cell? ⟨g, o + i * 12, none⟩ = some (.int .i64 xp) := hcx 0 (by decide)
      have kx1 : wr.cell? ⟨g, o + i * 12 + 1, none⟩ = some (.bool xu) := hcx 1 (by decide)
      have kx2 : wr.cell? ⟨g, o + i * 12 + 2, none⟩ = some (.int .i64 xg.op) := hcx 2 (by decide)
      have kx3 : wr.cell? ⟨g, o + i * 12 + 3, none⟩ = some (.int .i64 xg.num) := hcx 3 (by decide)
      have kx4 : wr.cell? ⟨g, o + i * 12 + 4, none⟩ = some (.int .i64 xg.den) := hcx 4 (by decide)
      have kx5 : wr.cell? ⟨g, o + i * 12 + 5, none⟩ = some (.int .i64 xg.mode) := hcx 5 (by decide)
      have kx6 : wr.cell? ⟨g, o + i * 12 + 6, none⟩ = some (.slice a8 xg.args.len c8) := hcx 6 (by decide)
      have kx7 : wr.cell? ⟨g, o + i * 12 + 7, none⟩ = some (.int .i64 xb.op) := hcx 7 (by decide)
      have kx8 : wr.cell? ⟨g, o + i * 12 + 8, none⟩ = some (.int .i64 xb.num) := hcx 8 (by decide)
      have kx9 : wr.cell? ⟨g, o + i * 12 + 9, none⟩ = some (.int .i64 xb.den) := hcx 9 (by decide)
      have kx10 : wr.cell? ⟨g, o + i * 12 + 10, none⟩ = some (.int .i64 xb.mode) := hcx 10 (by decide)
      have kx11 : wr.cell? ⟨g, o + i * 12 + 11, none⟩ = some (.slice b8 xb.args.len d8) := hcx 11 (by decide)
      have ky0 : wr.cell? ⟨g', o' + i * 12, none⟩ = some (.int .i64 yp) := hcy 0 (by decide)
      have ky1 : wr.cell? ⟨g', o' + i * 12 + 1, none⟩ = some (.bool yu) := hcy 1 (by decide)
      have ky2 : wr.cell? ⟨g', o' + i * 12 + 2, none⟩ = some (.int .i64 yg.op) := hcy 2 (by decide)
      have ky3 : wr.cell? ⟨g', o' + i * 12 + 3, none⟩ = some (.int .i64 yg.num) := hcy 3 (by decide)
      have ky4 : wr.cell? ⟨g', o' + i * 12 + 4, none⟩ = some (.int .i64 yg.den) := hcy 4 (by decide)
      have ky5 : wr.cell? ⟨g', o' + i * 12 + 5, none⟩ = some (.int .i64 yg.mode) := hcy 5 (by decide)
      have ky6 : wr.cell? ⟨g', o' + i * 12 + 6, none⟩ = some (.slice a9 yg.args.len c9) := hcy 6 (by decide)
      have ky7 : wr.cell? ⟨g', o' + i * 12 + 7, none⟩ = some (.int .i64 yb.op) := hcy 7 (by decide)
      have ky8 : wr.cell? ⟨g', o' + i * 12 + 8, none⟩ = some (.int .i64 yb.num) := hcy 8 (by decide)
      have ky9 : wr.cell? ⟨g', o' + i * 12 + 9, none⟩ = some (.int .i64 yb.den) := hcy 9 (by decide)
      have ky10 : wr.cell? ⟨g', o' + i * 12 + 10, none⟩ = some (.int .i64 yb.mode) := hcy 10 (by decide)
      have ky11 : wr.cell? ⟨g', o' + i * 12 + 11, none⟩ = some (.slice b9 yb.args.len d9) := hcy 11 (by decide)
      have hgs : g < wr.heap.size := World.block_lt_of_cell? _ _ kx0
      have hgs' : g' < wr.heap.size := World.block_lt_of_cell? _ _ ky0
      have hw1 : W.heap.size + 1 < wr.heap.size := World.block_lt_of_cell? _ _ q2
      have hw0 : W.heap.size < wr.heap.size := by omega
      clear hcx hcy hFr hGr hF2 hG2 hx1 hx2 hall
      have hBv := (hBr.alloc hBr.size (.cells #[.int .i64 xp, .bool xu, .int .i64 xg.op, .int .i64 xg.num, .int .i64 xg.den, .int .i64 xg.mode, .slice a8 xg.args.len c8, .int .i64 xb.op, .int .i64 xb.num, .int .i64 xb.den, .int .i64 xb.mode, .slice b8 xb.args.len d8] 57)).alloc (by have := hBr.size; simp at this ⊢; omega) (.cells #[.int .i64 yp, .bool yu, .int .i64 yg.op, .int .i64 yg.num, .int .i64 yg.den, .int .i64 yg.mode, .slice a9 yg.args.len c9, .int .i64 yb.op, .int .i64 yb.num, .int .i64 yb.den, .int .i64 yb.mode, .slice b9 yb.args.len d9] 57)
      have hnov := fun h => hno ((wr.alloc (.cells #[.int .i64 xp, .bool xu, .int .i64 xg.op, .int .i64 xg.num, .int .i64 xg.den, .int .i64 xg.mode, .slice a8 xg.args.len c8, .int .i64 xb.op, .int .i64 xb.num, .int .i64 xb.den, .int .i64 xb.mode, .slice b8 xb.args.len d8] 57)).alloc (.cells #[.int .i64 yp, .bool yu, .int .i64 yg.op, .int .i64 yg.num, .int .i64 yg.den, .int .i64 yg.mode, .slice a9 yg.args.len c9, .int .i64 yb.op, .int .i64 yb.num, .int .i64 yb.den, .int .i64 yb.mode, .slice b9 yb.args.len d9] 57)) h (Below.tr hB hBv (by rw [hsz]; omega))
      by_cases hp : xp = yp
      rotate_left
      · have e5 : (xp != yp) = true := by simp [hp]
        have hfin := hnov (hne.out (fun h => hp (by cases h; rfl)))
        clear hno hnov hne hstep hp hF8 hF8b hF9 hF9b hBv hzi
        go_wp2
        exact hfin
      have e5 : (xp != yp) = false := by simp [hp]
      by_cases hu : xu = yu
      rotate_left
      · have hfin := hnov (hne.out (fun h => hu (by cases h; rfl)))
        clear hno hnov hne hstep hp hF8 hF8b hF9 hF9b hBv hzi
        cases xu <;> cases yu
        · exact absurd rfl hu
        · go_wp2
          exact hfin
        · go_wp2
          exact hfin
        · exact absurd rfl hu
      subst hu
      have hsv : (wr.alloc (.cells #[.int .i64 xp, .bool xu, .int .i64 xg.op, .int .i64 xg.num, .int .i64 xg.den, .int .i64 xg.mode, .slice a8 xg.args.len c8, .int .i64 xb.op, .int .i64 xb.num, .int .i64 xb.den, .int .i64 xb.mode, .slice b8 xb.args.len d8] 57)).heap.size = wr.heap.size + 1 := by simp
      have hsv2 : ((wr.alloc (.cells #[.int .i64 xp, .bool xu, .int .i64 xg.op, .int .i64 xg.num, .int .i64 xg.den, .int .i64 xg.mode, .slice a8 xg.args.len c8, .int .i64 xb.op, .int .i64 xb.num, .int .i64 xb.den, .int .i64 xb.mode, .slice b8 xb.args.len d8] 57)).alloc (.cells #[.int .i64 yp, .bool xu, .int .i64 yg.op, .int .i64 yg.num, .int .i64 yg.den, .int .i64 yg.mode, .slice a9 yg.args.len c9, .int .i64 yb.op, .int .i64 yb.num, .int .i64 yb.den, .int .i64 yb.mode, .slice b9 yb.args.len d9] 57)).heap.size = wr.heap.size + 1 + 1 := by simp
      have hbx := (bx_new wr #[.int .i64 xp, .bool xu, .int .i64 xg.op, .int .i64 xg.num, .int .i64 xg.den, .int .i64 xg.mode, .slice a8 xg.args.len c8, .int .i64 xb.op, .int .i64 xb.num, .int .i64 xb.den, .int .i64 xb.mode, .slice b8 xb.args.len d8] 57).kept (World.grownBy_alloc (wr.alloc (.cells #[.int .i64 xp, .bool xu, .int .i64 xg.op, .int .i64 xg.num, .int .i64 xg.den, .int .i64 xg.mode, .slice a8 xg.args.len c8, .int .i64 xb.op, .int .i64 xb.num, .int .i64 xb.den, .int .i64 xb.mode, .slice b8 xb.args.len d8] 57)) (.cells #[.int .i64 yp, .bool xu, .int .i64 yg.op, .int .i64 yg.num, .int .i64 yg.den, .int .i64 yg.mode, .slice a9 yg.args.len c9, .int .i64 yb.op, .int .i64 yb.num, .int .i64 yb.den, .int .i64 yb.mode, .slice b9 yb.args.len d9] 57) none) (by simp)
      have hby := bx_new (wr.alloc (.cells #[.int .i64 xp, .bool xu, .int .i64 xg.op, .int .i64 xg.num, .int .i64 xg.den, .int .i64 xg.mode, .slice a8 xg.args.len c8, .int .i64 xb.op, .int .i64 xb.num, .int .i64 xb.den, .int .i64 xb.mode, .slice b8 xb.args.len d8] 57)) #[.int .i64 yp, .bool xu, .int .i64 yg.op, .int .i64 yg.num, .int .i64 yg.den, .int .i64 yg.mode, .slice a9 yg.args.len c9, .int .i64 yb.op, .int .i64 yb.num, .int .i64 yb.den, .int .i64 yb.mode, .slice b9 yb.args.len d9] 57
      rw [hsv] at hby
      have hBn : Below wr.heap.size wr ((wr.alloc (.cells #[.int .i64 xp, .bool xu, .int .i64 xg.op, .int .i64 xg.num, .int .i64 xg.den, .int .i64 xg.mode, .slice a8 xg.args.len c8, .int .i64 xb.op, .int .i64 xb.num, .int .i64 xb.den, .int .i64 xb.mode, .slice b8 xb.args.len d8] 57)).alloc (.cells #[.int .i64 yp, .bool xu, .int .i64 yg.op, .int .i64 yg.num, .int .i64 yg.den, .int .i64 yg.mode, .slice a9 yg.args.len c9, .int .i64 yb.op, .int .i64 yb.num, .int .i64 yb.den, .int .i64 yb.mode, .slice b9 yb.args.len d9] 57)) := ((Below.refl _ _).alloc (Nat.le_refl _) _).alloc (by simp) _
      have hc1 := sameExpr_any _ xg yg a8 a9 c8 c9 ((wr.alloc (.cells #[.int .i64 xp, .bool xu, .int .i64 xg.op, .int .i64 xg.num, .int .i64 xg.den, .int .i64 xg.mode, .slice a8 xg.args.len c8, .int .i64 xb.op, .int .i64 xb.num, .int .i64 xb.den, .int .i64 xb.mode, .slice b8 xb.args.len d8] 57)).alloc (.cells #[.int .i64 yp, .bool xu, .int .i64 yg.op, .int .i64 yg.num, .int .i64 yg.den, .int .i64 yg.mode, .slice a9 yg.args.len c9, .int .i64 yb.op, .int .i64 yb.num, .int .i64 yb.den, .int .i64 yb.mode, .slice b9 yb.args.len d9] 57)) (Nat.le_refl _) hzi.1 (fo_bel hF8 hBn (Nat.le_refl _)) (fo_bel hF9 hBn (Nat.le_refl _))
      have hF8b := fo_bel hF8b hBn (Nat.le_refl _)
      have hF9b := fo_bel hF9b hBn (Nat.le_refl _)
      have hcl : xg = yg → xb = yb → Cl.mk xp xu xg xb = Cl.mk yp xu yg yb := fun h3 h4 => by
        cases hp; cases h3; cases h4
        rfl
      have hcl := Hid.mk hcl
      clear hp hF8 hF9 hnov hBn hsv
      go_wp2_with (first | (go_at_call 19; go_loud (refine hc1.mono ?_; clear hc1; rintro e w5 ⟨hB5, r1, rfl, hr1⟩; have hBz := Below.tr hBv hB5 (by rw [hsv2]; have := hBr.size; omega); have zx0 : w5.cell? ⟨wr.heap.size, 0, none⟩ = some (.int .i64 xp) := (bel_cell hB5 (by rw [hsv2]; omega) 0).trans (hbx.2.1 0 (by simp)); have zx1 : w5.cell? ⟨wr.heap.size, 1, none⟩ = some (.bool xu) := (bel_cell hB5 (by rw [hsv2]; omega) 1).trans (hbx.2.1 1 (by simp)); have zx2 : w5.cell? ⟨wr.heap.size, 2, none⟩ = some (.int .i64 xg.op) := (bel_cell hB5 (by rw [hsv2]; omega) 2).trans (hbx.2.1 2 (by simp)); have zx3 : w5.cell? ⟨wr.heap.size, 3, none⟩ = some (.int .i64 xg.num) := (bel_cell hB5 (by rw [hsv2]; omega) 3).trans (hbx.2.1 3 (by simp)); have zx4 : w5.cell? ⟨wr.heap.size, 4, none⟩ = some (.int .i64 xg.den) := (bel_cell hB5 (by rw [hsv2]; omega) 4).trans (hbx.2.1 4 (by simp)); have zx5 : w5.cell? ⟨wr.heap.size, 5, none⟩ = some (.int .i64 xg.mode) := (bel_cell hB5 (by rw [hsv2]; omega) 5).trans (hbx.2.1 5 (by simp)); have zx6 : w5.cell? ⟨wr.heap.size, 6, none⟩ = some (.slice a8 xg.args.len c8) := (bel_cell hB5 (by rw [hsv2]; omega) 6).trans (hbx.2.1 6 (by simp)); have zx7 : w5.cell? ⟨wr.heap.size, 7, none⟩ = some (.int .i64 xb.op) := (bel_cell hB5 (by rw [hsv2]; omega) 7).trans (hbx.2.1 7 (by simp)); have zx8 : w5.cell? ⟨wr.heap.size, 8, none⟩ = some (.int .i64 xb.num) := (bel_cell hB5 (by rw [hsv2]; omega) 8).trans (hbx.2.1 8 (by simp)); have zx9 : w5.cell? ⟨wr.heap.size, 9, none⟩ = some (.int .i64 xb.den) := (bel_cell hB5 (by rw [hsv2]; omega) 9).trans (hbx.2.1 9 (by simp)); have zx10 : w5.cell? ⟨wr.heap.size, 10, none⟩ = some (.int .i64 xb.mode) := (bel_cell hB5 (by rw [hsv2]; omega) 10).trans (hbx.2.1 10 (by simp)); have zx11 : w5.cell? ⟨wr.heap.size, 11, none⟩ = some (.slice b8 xb.args.len d8) := (bel_cell hB5 (by rw [hsv2]; omega) 11).trans (hbx.2.1 11 (by simp)); have zy0 : w5.cell? ⟨wr.heap.size + 1, 0, none⟩ = some (.int .i64 yp) := (bel_cell hB5 (by rw [hsv2]; omega) 0).trans (hby.2.1 0 (by simp)); have zy1 : w5.cell? ⟨wr.heap.size + 1, 1, none⟩ = some (.bool xu) := (bel_cell hB5 (by rw [hsv2]; omega) 1).trans (hby.2.1 1 (by simp)); have zy2 : w5.cell? ⟨wr.heap.size + 1, 2, none⟩ = some (.int .i64 yg.op) := (bel_cell hB5 (by rw [hsv2]; omega) 2).trans (hby.2.1 2 (by simp)); have zy3 : w5.cell? ⟨wr.heap.size + 1, 3, none⟩ = some (.int .i64 yg.num) := (bel_cell hB5 (by rw [hsv2]; omega) 3).trans (hby.2.1 3 (by simp)); have zy4 : w5.cell? ⟨wr.heap.size + 1, 4, none⟩ = some (.int .i64 yg.den) := (bel_cell hB5 (by rw [hsv2]; omega) 4).trans (hby.2.1 4 (by simp)); have zy5 : w5.cell? ⟨wr.heap.size + 1, 5, none⟩ = some (.int .i64 yg.mode) := (bel_cell hB5 (by rw [hsv2]; omega) 5).trans (hby.2.1 5 (by simp)); have zy6 : w5.cell? ⟨wr.heap.size + 1, 6, none⟩ = some (.slice a9 yg.args.len c9) := (bel_cell hB5 (by rw [hsv2]; omega) 6).trans (hby.2.1 6 (by simp)); have zy7 : w5.cell? ⟨wr.heap.size + 1, 7, none⟩ = some (.int .i64 yb.op) := (bel_cell hB5 (by rw [hsv2]; omega) 7).trans (hby.2.1 7 (by simp)); have zy8 : w5.cell? ⟨wr.heap.size + 1, 8, none⟩ = some (.int .i64 yb.num) := (bel_cell hB5 (by rw [hsv2]; omega) 8).trans (hby.2.1 8 (by simp)); have zy9 : w5.cell? ⟨wr.heap.size + 1, 9, none⟩ = some (.int .i64 yb.den) := (bel_cell hB5 (by rw [hsv2]; omega) 9).trans (hby.2.1 9 (by simp)); have zy10 : w5.cell? ⟨wr.heap.size + 1, 10, none⟩ = some (.int .i64 yb.mode) := (bel_cell hB5 (by rw [hsv2]; omega) 10).trans (hby.2.1 10 (by simp)); have zy11 : w5.cell? ⟨wr.heap.size + 1, 11, none⟩ = some (.slice b9 yb.args.len d9) := (bel_cell hB5 (by rw [hsv2]; omega) 11).trans (hby.2.1 11 (by simp)); have hc2 := sameExpr_any _ xb yb b8 b9 d8 d9 w5 (Nat.le_refl _) hzi.2 (fo_bel hF8b hB5 (Nat.le_refl _)) (fo_bel hF9b hB5 (Nat.le_refl _)); clear hbx hby hF8b hF9b; cases r1)))
      · have hfin := hno w5 (hne.out (fun h => by have := hr1.2 (by cases h; rfl); cases this)) (Below.tr hB hBz (by rw [hsz]; omega))
        clear hno hne hstep hr1 hcl hc2
        go_wp2
        exact hfin
      · go_wp2
        rename_i x0 f0 hf0
        simp only [List.getElem?_cons_zero, Option.some.injEq] at hf0
        subst hf0
        go_wp2
        rename_i x0 f0 hf0
        simp only [List.getElem?_cons_zero, Option.some.injEq] at hf0
        subst hf0
        go_wp2_with (first | (go_at_call 19; go_loud (refine hc2.mono ?_; clear hc2; rintro e w6 ⟨hB6, r2, rfl, hr2⟩; have hBy := Below.tr hBz hB6 hBz.size; cases r2)))
        · have hfin := hno w6 (hne.out (fun h => by have := hr2.2 (by cases h; rfl); cases this)) (Below.tr hB hBy (by rw [hsz]; omega))
          clear hno hne hstep hr1 hcl hr2
          go_wp2
          exact hfin
        · have hst := Hid.mk (hstep.out (hcl.out (hr1.1 (by trivial)) (hr2.1 (by trivial))))
          clear hno hne hstep hr1 hcl hr2
          go_wp2
          go_roundw
          case rel => exact ⟨i + 1, by go_num, by omega, hBy, hst⟩
          case measure => simp [intOf]; omega
    · have hlt' : ¬ (i : Int) < (l1.length : Int) := by omega
      have hfin : Q (.returned (.bool true)) wr := by
        rw [← hQ.out]
        refine ⟨hBW, true, rfl, fun _ => ?_, fun _ => rfl⟩
        rw [list_all hl4.out (fun j h1 h2 => hall.out j h1 h2 (by omega))]
      clear hno hall
      go_wp2
      exact hfin
end Go.Proofs.Ytjllaobiejahjaa

import Derived.Test.YtjllaobiejahjaaTurnPoH
import Derived.Test.YtjllaobiejahjaaTurnPoS
namespace Go.Proofs.Ytjllaobiejahjaa
open Go.RowKit

def YnQ (W : World) (e : Ending) (W' : World) : Prop := Below W.heap.size W W' ∧ ∃ b : Bool, e = .returned (.bool b)
theorem pke_any {W : World} {p : Pk} {cs : List Value} (h : PkE W AnyB p cs) : PkE W (fun b => b < W.heap.size) p cs := pke_mo h (fun _ hb _ => hb)
theorem pke_bel {W W' : World} {n : Nat} {p : Pk} {cs : List Value} (h : PkE W AnyB p cs) (hB : Below n W W') (hn : W.heap.size ≤ n) : PkE W' AnyB p cs := pke_fr h hB.size (fun b _ hlt => hB.block b (Nat.lt_of_lt_of_le hlt hn))
/-- A pack that is written and read again. -/
theorem put_cases (p : Pk) (cs : List Value) (hsz : SzP p) (W : World) (hE : PkE W AnyB p cs) : Calls Try.prog 8 #[.agg cs.toArray] W fun e W' => Below W.heap.size W W' ∧ (e = .returned (.tuple #[.slice none 0 0, .int .i64 72]) ∨ ∃ a cap l, e = .returned (.tuple #[.slice a (List.length l) cap, .int .i64 0]) ∧ InB W' a cap l ∧ Hid (l.length ≤ 131072 ∧ l = encP p ++ sum4 (fnvB (encP p)) ∧ okP p)) := by
  refine (put_any p cs hsz W (pke_any hE)).mono ?_
  rintro e W' ⟨hB, acc, b, hr, h⟩
  refine ⟨hB, ?_⟩
  rcases h with ⟨-, rfl⟩ | ⟨hb, pa, cap, rfl, ho, hl⟩
  · exact .inl rfl
  · obtain ⟨-, hacc, hok⟩ := hr.1 hb
    rw [List.nil_append] at hacc
    exact .inr ⟨pa, cap, acc, rfl, InB.of_own ho, ⟨hl, hacc, hok⟩⟩
theorem get_back (p : Pk) (hr : RgP p) (a : Option Addr) (cap : Nat) (l : List UInt8) (W : World) (h : InB W a cap l) (hl : l.length ≤ 131072 ∧ l = encP p ++ sum4 (fnvB (encP p)) ∧ okP p) : Calls Try.prog 10 #[.slice a l.length cap] W fun e W' => Below W.heap.size W W' ∧ ∃ (a3 : Option Addr) (c3 : Nat) (a4 : Option Addr) (c4 : Nat) (a5 : Option Addr) (c5 : Nat) (a6 : Option Addr) (c6 : Nat) (a7 : Option Addr) (c7 : Nat), e = .returned (.tuple #[.agg #[.string ⟨p.name.toArray⟩, .int .i64 p.year, .slice a3 p.opts.length c3, .slice a4 p.tabs.length c4, .slice a5 p.grps.length c5, .slice a6 p.lns.length c6, .slice a7 p.cks.length c7], .int .i64 0, .int .i64 0]) ∧ PkE W' AnyB p [.string ⟨p.name.toArray⟩, .int .i64 p.year, .slice a3 p.opts.length c3, .slice a4 p.tabs.length c4, .slice a5 p.grps.length c5, .slice a6 p.lns.length c6, .slice a7 p.cks.length c7] := by
  obtain ⟨hl1, hl2, hok⟩ := hl
  have hc := cPack hr hok [] (by rw [List.append_nil, ← hl2]; omega)
  rw [List.append_nil, ← hl2, if_pos rfl] at hc
  refine (get_any a cap l W h).mono ?_
  rintro e W' ⟨hB, ⟨h1, rfl⟩ | ⟨-, ft, er, h1, -⟩ | ⟨-, q, a2, cs, h1, rfl, hE⟩⟩
  · omega
  · rw [hc] at h1; cases h1
  · rw [hc] at h1
    cases h1
    have hE0 := hE
    obtain ⟨a3, c3, a4, c4, a5, c5, a6, c6, a7, c7, rfl, -⟩ := hE0
    exact ⟨hB, a3, c3, a4, c4, a5, c5, a6, c6, a7, c7, rfl, pke_mo hE (fun _ _ _ => trivial)⟩
theorem same_pack (p q : Pk) (hz : SzP p) (a3 a4 a5 a6 a7 a3q a4q a5q a6q a7q : Option Addr) (c3 c4 c5 c6 c7 c3q c4q c5q c6q c7q : Nat) (W : World) (hE : PkE W AnyB p [.string ⟨p.name.toArray⟩, .int .i64 p.year, .slice a3 p.opts.length c3, .slice a4 p.tabs.length c4, .slice a5 p.grps.length c5, .slice a6 p.lns.length c6, .slice a7 p.cks.length c7]) (hF : PkE W AnyB q [.string ⟨q.name.toArray⟩, .int .i64 q.year, .slice a3q q.opts.length c3q, .slice a4q q.tabs.length c4q, .slice a5q q.grps.length c5q, .slice a6q q.lns.length c6q, .slice a7q q.cks.length c7q]) : Calls Try.prog 11 #[.agg #[.string ⟨p.name.toArray⟩, .int .i64 p.year, .slice a3 p.opts.length c3, .slice a4 p.tabs.length c4, .slice a5 p.grps.length c5, .slice a6 p.lns.length c6, .slice a7 p.cks.length c7], .agg #[.string ⟨q.name.toArray⟩, .int .i64 q.year, .slice a3q q.opts.length c3q, .slice a4q q.tabs.length c4q, .slice a5q q.grps.length c5q, .slice a6q q.lns.length c6q, .slice a7q q.cks.length c7q]] W (SmP (p = q) W) := by
  obtain ⟨_, _, _, _, _, _, _, _, _, _, e, -, h3, h4, h5, h6, h7⟩ := hE
  simp only [List.cons.injEq, Value.slice.injEq, and_true, true_and] at e
  obtain ⟨⟨rfl, -⟩, ⟨rfl, -⟩, ⟨rfl, -⟩, ⟨rfl, -⟩, ⟨rfl, -⟩⟩ := e
  obtain ⟨_, _, _, _, _, _, _, _, _, _, e, -, g3, g4, g5, g6, g7⟩ := hF
  simp only [List.cons.injEq, Value.slice.injEq, and_true, true_and] at e
  obtain ⟨⟨rfl, -⟩, ⟨rfl, -⟩, ⟨rfl, -⟩, ⟨rfl, -⟩, ⟨rfl, -⟩⟩ := e
  refine (samePack_any p.name q.name p.year q.year p.opts q.opts p.tabs q.tabs p.grps q.grps p.lns q.lns p.cks q.cks _ _ _ _ _ _ _ _ _ _ _ _ _ _ _ _ _ _ _ _ W ⟨⟨hz.opts.1, fun x hx => (hz.opts.2 x hx).2.1⟩, ⟨hz.tabs.1, fun x hx => (hz.tabs.2 x hx).2⟩, hz.grps.1⟩ ⟨⟨hz.lns.1, fun x hx => (hz.lns.2 x hx).2⟩, hz.cks.1, fun x hx => (hz.cks.2 x hx).2.2⟩ h3 g3 h4 g4 h5 g5 h6 g6 h7 g7).mono ?_
  rintro e W' ⟨hB, r, rfl, hr⟩
  refine ⟨hB, r, rfl, hr.trans ⟨fun h => ?_, fun h => ?_⟩⟩
  · obtain ⟨⟨h1, h2, h3, h4, h5⟩, h6, h7⟩ := h
    obtain ⟨_, _, _, _, _, _, _⟩ := p
    obtain ⟨_, _, _, _, _, _, _⟩ := q
    cases h1; cases h2; cases h3; cases h4; cases h5; cases h6; cases h7
    rfl
  · subst h
    exact ⟨⟨rfl, rfl, rfl, rfl, rfl⟩, rfl, rfl⟩
set_option maxRecDepth 8000 in
set_option maxHeartbeats 1000000 in
theorem round_walk (p : Pk) (a3 a4 a5 a6 a7 : Option Addr) (c3 c4 c5 c6 c7 : Nat) (hz : SzP p) (hr : RgP p) (W : World) (hE : PkE W AnyB p [.string ⟨p.name.toArray⟩, .int .i64 p.year, .slice a3 p.opts.length c3, .slice a4 p.tabs.length c4, .slice a5 p.grps.length c5, .slice a6 p.lns.length c6, .slice a7 p.cks.length c7]) (hsmall : ∀ X, PkE X AnyB p [.string ⟨p.name.toArray⟩, .int .i64 p.year, .slice a3 p.opts.length c3, .slice a4 p.tabs.length c4, .slice a5 p.grps.length c5, .slice a6 p.lns.length c6, .slice a7 p.cks.length c7] → Calls Try.prog 7 #[.agg #[.string ⟨p.name.toArray⟩, .int .i64 p.year, .slice a3 p.opts.length c3, .slice a4 p.tabs.length c4, .slice a5 p.grps.length c5, .slice a6 p.lns.length c6, .slice a7 p.cks.length c7]] X (YnQ X)) : Calls Try.prog 3 #[.agg #[.string ⟨p.name.toArray⟩, .int .i64 p.year, .slice a3 p.opts.length c3, .slice a4 p.tabs.length c4, .slice a5 p.grps.length c5, .slice a6 p.lns.length c6, .slice a7 p.cks.length c7]] W fun e W' => e = .returned (.bool true) ∧ Below W.heap.size W W' := by
  have hB0 : Below W.heap.size W (W.alloc (.cells #[.string ⟨p.name.toArray⟩, .int .i64 p.year, .slice a3 p.opts.length c3, .slice a4 p.tabs.length c4, .slice a5 p.grps.length c5, .slice a6 p.lns.length c6, .slice a7 p.cks.length c7] 28)) := (Below.refl _ _).alloc (Nat.le_refl _) _
  have hsz : (W.alloc (.cells #[.string ⟨p.name.toArray⟩, .int .i64 p.year, .slice a3 p.opts.length c3, .slice a4 p.tabs.length c4, .slice a5 p.grps.length c5, .slice a6 p.lns.length c6, .slice a7 p.cks.length c7] 28)).heap.size = W.heap.size + 1 := by simp
  have hbx := (bx_new W #[.string ⟨p.name.toArray⟩, .int .i64 p.year, .slice a3 p.opts.length c3, .slice a4 p.tabs.length c4, .slice a5 p.grps.length c5, .slice a6 p.lns.length c6, .slice a7 p.cks.length c7] 28).2.1
  have hkn := known_any (W.alloc (.cells #[.string ⟨p.name.toArray⟩, .int .i64 p.year, .slice a3 p.opts.length c3, .slice a4 p.tabs.length c4, .slice a5 p.grps.length c5, .slice a6 p.lns.length c6, .slice a7 p.cks.length c7] 28))
  have hE1 := pke_bel hE hB0 (Nat.le_refl _)
  clear hE
  go_enter Try.func3, Try.ntmps3
  go_wp2_with (first | (go_at_call 6; go_loud (refine hkn.mono ?_; clear hkn; rintro e w1 ⟨rfl, hB1⟩; have q0 : w1.cell? ⟨W.heap.size, 0, none⟩ = some (.string ⟨p.name.toArray⟩) := (bel_cell hB1 (by rw [hsz]; omega) 0).trans (hbx 0 (by simp)); have q1 : w1.cell? ⟨W.heap.size, 1, none⟩ = some (.int .i64 p.year) := (bel_cell hB1 (by rw [hsz]; omega) 1).trans (hbx 1 (by simp)); have q2 : w1.cell? ⟨W.heap.size, 2, none⟩ = some (.slice a3 p.opts.length c3) := (bel_cell hB1 (by rw [hsz]; omega) 2).trans (hbx 2 (by simp)); have q3 : w1.cell? ⟨W.heap.size, 3, none⟩ = some (.slice a4 p.tabs.length c4) := (bel_cell hB1 (by rw [hsz]; omega) 3).trans (hbx 3 (by simp)); have q4 : w1.cell? ⟨W.heap.size, 4, none⟩ = some (.slice a5 p.grps.length c5) := (bel_cell hB1 (by rw [hsz]; omega) 4).trans (hbx 4 (by simp)); have q5 : w1.cell? ⟨W.heap.size, 5, none⟩ = some (.slice a6 p.lns.length c6) := (bel_cell hB1 (by rw [hsz]; omega) 5).trans (hbx 5 (by simp)); have q6 : w1.cell? ⟨W.heap.size, 6, none⟩ = some (.slice a7 p.cks.length c7) := (bel_cell hB1 (by rw [hsz]; omega) 6).trans (hbx 6 (by simp)); have hE2 := pke_bel hE1 hB1 (Nat.le_refl _); have hs := hsmall w1 hE2)) | (go_at_call 7; go_loud (refine hs.mono ?_; clear hs; rintro e w2 ⟨hB2, r, rfl⟩; have hB12 := Below.tr hB1 hB2 hB1.size; have u0 : w2.cell? ⟨W.heap.size, 0, none⟩ = some (.string ⟨p.name.toArray⟩) := (bel_cell hB12 (by rw [hsz]; omega) 0).trans (hbx 0 (by simp)); have u1 : w2.cell? ⟨W.heap.size, 1, none⟩ = some (.int .i64 p.year) := (bel_cell hB12 (by rw [hsz]; omega) 1).trans (hbx 1 (by simp)); have u2 : w2.cell? ⟨W.heap.size, 2, none⟩ = some (.slice a3 p.opts.length c3) := (bel_cell hB12 (by rw [hsz]; omega) 2).trans (hbx 2 (by simp)); have u3 : w2.cell? ⟨W.heap.size, 3, none⟩ = some (.slice a4 p.tabs.length c4) := (bel_cell hB12 (by rw [hsz]; omega) 3).trans (hbx 3 (by simp)); have u4 : w2.cell? ⟨W.heap.size, 4, none⟩ = some (.slice a5 p.grps.length c5) := (bel_cell hB12 (by rw [hsz]; omega) 4).trans (hbx 4 (by simp)); have u5 : w2.cell? ⟨W.heap.size, 5, none⟩ = some (.slice a6 p.lns.length c6) := (bel_cell hB12 (by rw [hsz]; omega) 5).trans (hbx 5 (by simp)); have u6 : w2.cell? ⟨W.heap.size, 6, none⟩ = some (.slice a7 p.cks.length c7) := (bel_cell hB12 (by rw [hsz]; omega) 6).trans (hbx 6 (by simp)); have hE3 := pke_bel hE2 hB2 (Nat.le_refl _); have hput := put_cases p _ hz w2 hE3; clear q0 q1 q2 q3 q4 q5 q6; cases r)))
  · have hfin := Below.tr hB0 hB12 (by rw [hsz]; omega)
    go_wp2
    go_ret
    exact ⟨rfl, hfin⟩
  · go_wp2_with (first | (go_at_call 8; go_loud (refine hput.mono ?_; clear hput; rintro e w3 ⟨hB3, rfl | ⟨a, cap, l, rfl, hI, hl⟩⟩)))
    · have hfin := Below.tr hB0 (Below.tr hB12 hB3 hB12.size) (by rw [hsz]; omega)
      clear hE1 hE2 hE3
      go_wp2_with ((go_at_call 9; refine (num_any _ _).mono ?_; rintro e w ⟨rfl, rfl⟩))
      go_ret
      exact ⟨rfl, hfin⟩
    · have hB13 := Below.tr hB12 hB3 hB12.size
      have hE4 := pke_bel hE3 hB3 (Nat.le_refl _)
      have hget := get_back p hr a cap l w3 hI hl.out
      have hl131 : (l.length : Int) ≤ 131072 := by have := hl.out.1; omega
      clear hE1 hE2 hE3 u0 u1 u2 u3 u4 u5 u6
      go_wp2_with (first | (go_at_call 10; go_loud (refine hget.mono ?_; clear hget; rintro e w4 ⟨hB4, a3q, c3q, a4q, c4q, a5q, c5q, a6q, c6q, a7q, c7q, rfl, hEq⟩; have hB14 := Below.tr hB13 hB4 hB13.size; have hBn : Below w4.heap.size w4 (w4.alloc (.cells #[.string ⟨p.name.toArray⟩, .int .i64 p.year, .slice a3q p.opts.length c3q, .slice a4q p.tabs.length c4q, .slice a5q p.grps.length c5q, .slice a6q p.lns.length c6q, .slice a7q p.cks.length c7q] 28)) := (Below.refl _ _).alloc (Nat.le_refl _) _; have hB15 := Below.tr hB14 hBn hB14.size; have v0 : (w4.alloc (.cells #[.string ⟨p.name.toArray⟩, .int .i64 p.year, .slice a3q p.opts.length c3q, .slice a4q p.tabs.length c4q, .slice a5q p.grps.length c5q, .slice a6q p.lns.length c6q, .slice a7q p.cks.length c7q] 28)).cell? ⟨W.heap.size, 0, none⟩ = some (.string ⟨p.name.toArray⟩) := (bel_cell hB15 (by rw [hsz]; omega) 0).trans (hbx 0 (by simp)); have v1 : (w4.alloc (.cells #[.string ⟨p.name.toArray⟩, .int .i64 p.year, .slice a3q p.opts.length c3q, .slice a4q p.tabs.length c4q, .slice a5q p.grps.length c5q, .slice a6q p.lns.length c6q, .slice a7q p.cks.length c7q] 28)).cell? ⟨W.heap.size, 1, none⟩ = some (.int .i64 p.year) := (bel_cell hB15 (by rw [hsz]; omega) 1).trans (hbx 1 (by simp)); have v2 : (w4.alloc (.cells #[.string ⟨p.name.toArray⟩, .int .i64 p.year, .slice a3q p.opts.length c3q, .slice a4q p.tabs.length c4q, .slice a5q p.grps.length c5q, .slice a6q p.lns.length c6q, .slice a7q p.cks.length c7q] 28)).cell? ⟨W.heap.size, 2, none⟩ = some (.slice a3 p.opts.length c3) := (bel_cell hB15 (by rw [hsz]; omega) 2).trans (hbx 2 (by simp)); have v3 : (w4.alloc (.cells #[.string ⟨p.name.toArray⟩, .int .i64 p.year, .slice a3q p.opts.length c3q, .slice a4q p.tabs.length c4q, .slice a5q p.grps.length c5q, .slice a6q p.lns.length c6q, .slice a7q p.cks.length c7q] 28)).cell? ⟨W.heap.size, 3, none⟩ = some (.slice a4 p.tabs.length c4) := (bel_cell hB15 (by rw [hsz]; omega) 3).trans (hbx 3 (by simp)); have v4 : (w4.alloc (.cells #[.string ⟨p.name.toArray⟩, .int .i64 p.year, .slice a3q p.opts.length c3q, .slice a4q p.tabs.length c4q, .slice a5q p.grps.length c5q, .slice a6q p.lns.length c6q, .slice a7q p.cks.length c7q] 28)).cell? ⟨W.heap.size, 4, none⟩ = some (.slice a5 p.grps.length c5) := (bel_cell hB15 (by rw [hsz]; omega) 4).trans (hbx 4 (by simp)); have v5 : (w4.alloc (.cells #[.string ⟨p.name.toArray⟩, .int .i64 p.year, .slice a3q p.opts.length c3q, .slice a4q p.tabs.length c4q, .slice a5q p.grps.length c5q, .slice a6q p.lns.length c6q, .slice a7q p.cks.length c7q] 28)).cell? ⟨W.heap.size, 5, none⟩ = some (.slice a6 p.lns.length c6) := (bel_cell hB15 (by rw [hsz]; omega) 5).trans (hbx 5 (by simp)); have v6 : (w4.alloc (.cells #[.string ⟨p.name.toArray⟩, .int .i64 p.year, .slice a3q p.opts.length c3q, .slice a4q p.tabs.length c4q, .slice a5q p.grps.length c5q, .slice a6q p.lns.length c6q, .slice a7q p.cks.length c7q] 28)).cell? ⟨W.heap.size, 6, none⟩ = some (.slice a7 p.cks.length c7) := (bel_cell hB15 (by rw [hsz]; omega) 6).trans (hbx 6 (by simp)); have hbq := (bx_new w4 #[.string ⟨p.name.toArray⟩, .int .i64 p.year, .slice a3q p.opts.length c3q, .slice a4q p.tabs.length c4q, .slice a5q p.grps.length c5q, .slice a6q p.lns.length c6q, .slice a7q p.cks.length c7q] 28).2.1; have hE5 := pke_bel (pke_bel hE4 hB4 (Nat.le_refl _)) hBn (Nat.le_refl _); have hsp := same_pack p p hz a3 a4 a5 a6 a7 a3q a4q a5q a6q a7q c3 c4 c5 c6 c7 c3q c4q c5q c6q c7q _ hE5 (pke_bel hEq hBn (Nat.le_refl _)); clear hE4 hE5 hEq)) | (go_at_call 11; go_loud (refine hsp.mono ?_; clear hsp; rintro e w6 ⟨hB6, r6, rfl, hr6⟩; have hr6 : r6 = true := hr6.2 (by trivial); subst hr6; have hB16 := Below.tr hB15 hB6 hB15.size)) | (go_at_call 9; refine (num_any _ _).mono ?_; rintro e w ⟨rfl, rfl⟩))
      have hfin := Below.tr hB0 hB16 (by rw [hsz]; omega)
      go_ret
      exact ⟨rfl, hfin⟩
end Go.Proofs.Ytjllaobiejahjaa

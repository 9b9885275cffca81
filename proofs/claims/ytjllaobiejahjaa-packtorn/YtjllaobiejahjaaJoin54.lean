import Derived.Test.YtjllaobiejahjaaJoin53
import Derived.Test.YtjllaobiejahjaaPzF
import Derived.Laws.AppendOwnNone
namespace Go.Proofs.Ytjllaobiejahjaa
open Go.RowKit

/-- What has bytes. -/
def Has (p : Pk) : Prop := ((encP p ++ sum4 (fnvB (encP p))).length ≤ 131072 ∧ okP p)
theorem put_has (p : Pk) (cs : List Value) (hsz : SzP p) (W : World) (hE : PkE W AnyB p cs) : Calls Try.prog 8 #[.agg cs.toArray] W fun e W' => Below W.heap.size W W' ∧ ((e = .returned (.tuple #[.slice none 0 0, .int .i64 72]) ∧ Hid (¬ Has p)) ∨ ∃ a cap l, e = .returned (.tuple #[.slice a (List.length l) cap, .int .i64 0]) ∧ InB W' a cap l ∧ Hid (l = encP p ++ sum4 (fnvB (encP p)) ∧ Has p)) := by
  refine (put_any p cs hsz W (pke_any hE)).mono ?_
  rintro e W' ⟨hB, acc, b, hr, h⟩
  refine ⟨hB, ?_⟩
  rcases h with ⟨hb, rfl⟩ | ⟨hb, pa, cap, rfl, ho, hl⟩
  · refine .inl ⟨rfl, ⟨fun hh => ?_⟩⟩
    have := hr.2 rfl (by simpa using hh.1) hh.2
    rw [hb] at this
    cases this
  · obtain ⟨-, hacc, hok⟩ := hr.1 hb
    rw [List.nil_append] at hacc
    exact .inr ⟨pa, cap, acc, rfl, InB.of_own ho, ⟨hacc, by rw [← hacc]; exact hl, hok⟩⟩
theorem enc_inj {p q : Pk} (hp : RgP p) (hq : RgP q) (h1 : Has p) (h2 : Has q) (h : encP p ++ sum4 (fnvB (encP p)) = encP q ++ sum4 (fnvB (encP q))) : p = q := by
  have k1 := cPack hp h1.2 [] (by rw [List.append_nil]; have := h1.1; omega)
  have k2 := cPack hq h2.2 [] (by rw [List.append_nil]; have := h2.1; omega)
  rw [List.append_nil, if_pos rfl] at k1 k2
  rw [h, k2] at k1
  injection k1 with k1
  injection k1 with k1
  exact k1.symm
theorem same_dec {p q : Pk} (hp : RgP p) (hq : RgP q) (h1 : Has p) (h2 : Has q) (r : Bool) (hr : r = true ↔ p = q) : ((encP p ++ sum4 (fnvB (encP p))) == (encP q ++ sum4 (fnvB (encP q)))) = r := by
  by_cases h : p = q
  · rw [hr.2 h, h]
    simp
  · have : r = false := by cases r with
      | true => exact absurd (hr.1 rfl) h
      | false => rfl
    rw [this]
    simp only [beq_eq_false_iff_ne, ne_eq]
    exact fun e => h (enc_inj hp hq h1 h2 e)
set_option maxRecDepth 8000 in
set_option maxHeartbeats 2000000 in
theorem unlike_walk (p q : Pk) (a3 a4 a5 a6 a7 a3q a4q a5q a6q a7q : Option Addr) (c3 c4 c5 c6 c7 c3q c4q c5q c6q c7q : Nat) (hzp : SzP p) (hrp : RgP p) (hzq : SzP q) (hrq : RgP q) (W : World) (hE : PkE W AnyB p [.string ⟨p.name.toArray⟩, .int .i64 p.year, .slice a3 p.opts.length c3, .slice a4 p.tabs.length c4, .slice a5 p.grps.length c5, .slice a6 p.lns.length c6, .slice a7 p.cks.length c7]) (hF : PkE W AnyB q [.string ⟨q.name.toArray⟩, .int .i64 q.year, .slice a3q q.opts.length c3q, .slice a4q q.tabs.length c4q, .slice a5q q.grps.length c5q, .slice a6q q.lns.length c6q, .slice a7q q.cks.length c7q]) (hsp : ∀ X, PkE X AnyB p [.string ⟨p.name.toArray⟩, .int .i64 p.year, .slice a3 p.opts.length c3, .slice a4 p.tabs.length c4, .slice a5 p.grps.length c5, .slice a6 p.lns.length c6, .slice a7 p.cks.length c7] → Calls Try.prog 7 #[.agg #[.string ⟨p.name.toArray⟩, .int .i64 p.year, .slice a3 p.opts.length c3, .slice a4 p.tabs.length c4, .slice a5 p.grps.length c5, .slice a6 p.lns.length c6, .slice a7 p.cks.length c7]] X (YnQ X)) (hsq : ∀ X, PkE X AnyB q [.string ⟨q.name.toArray⟩, .int .i64 q.year, .slice a3q q.opts.length c3q, .slice a4q q.tabs.length c4q, .slice a5q q.grps.length c5q, .slice a6q q.lns.length c6q, .slice a7q q.cks.length c7q] → Calls Try.prog 7 #[.agg #[.string ⟨q.name.toArray⟩, .int .i64 q.year, .slice a3q q.opts.length c3q, .slice a4q q.tabs.length c4q, .slice a5q q.grps.length c5q, .slice a6q q.lns.length c6q, .slice a7q q.cks.length c7q]] X (YnQ X)) : Calls Try.prog 4 #[.agg #[.string ⟨p.name.toArray⟩, .int .i64 p.year, .slice a3 p.opts.length c3, .slice a4 p.tabs.length c4, .slice a5 p.grps.length c5, .slice a6 p.lns.length c6, .slice a7 p.cks.length c7], .agg #[.string ⟨q.name.toArray⟩, .int .i64 q.year, .slice a3q q.opts.length c3q, .slice a4q q.tabs.length c4q, .slice a5q q.grps.length c5q, .slice a6q q.lns.length c6q, .slice a7q q.cks.length c7q]] W fun e W' => e = .returned (.bool true) ∧ Below W.heap.size W W' := by
  have hB0 : Below W.heap.size W ((W.alloc (.cells #[.string ⟨p.name.toArray⟩, .int .i64 p.year, .slice a3 p.opts.length c3, .slice a4 p.tabs.length c4, .slice a5 p.grps.length c5, .slice a6 p.lns.length c6, .slice a7 p.cks.length c7] 28)).alloc (.cells #[.string ⟨q.name.toArray⟩, .int .i64 q.year, .slice a3q q.opts.length c3q, .slice a4q q.tabs.length c4q, .slice a5q q.grps.length c5q, .slice a6q q.lns.length c6q, .slice a7q q.cks.length c7q] 28)) := ((Below.refl _ _).alloc (Nat.le_refl _) _).alloc (by simp) _
  have hs1 : (W.alloc (.cells #[.string ⟨p.name.toArray⟩, .int .i64 p.year, .slice a3 p.opts.length c3, .slice a4 p.tabs.length c4, .slice a5 p.grps.length c5, .slice a6 p.lns.length c6, .slice a7 p.cks.length c7] 28)).heap.size = W.heap.size + 1 := by simp
  have hsz : ((W.alloc (.cells #[.string ⟨p.name.toArray⟩, .int .i64 p.year, .slice a3 p.opts.length c3, .slice a4 p.tabs.length c4, .slice a5 p.grps.length c5, .slice a6 p.lns.length c6, .slice a7 p.cks.length c7] 28)).alloc (.cells #[.string ⟨q.name.toArray⟩, .int .i64 q.year, .slice a3q q.opts.length c3q, .slice a4q q.tabs.length c4q, .slice a5q q.grps.length c5q, .slice a6q q.lns.length c6q, .slice a7q q.cks.length c7q] 28)).heap.size = W.heap.size + 1 + 1 := by simp
  have hbp := ((bx_new W #[.string ⟨p.name.toArray⟩, .int .i64 p.year, .slice a3 p.opts.length c3, .slice a4 p.tabs.length c4, .slice a5 p.grps.length c5, .slice a6 p.lns.length c6, .slice a7 p.cks.length c7] 28).kept (World.grownBy_alloc (W.alloc (.cells #[.string ⟨p.name.toArray⟩, .int .i64 p.year, .slice a3 p.opts.length c3, .slice a4 p.tabs.length c4, .slice a5 p.grps.length c5, .slice a6 p.lns.length c6, .slice a7 p.cks.length c7] 28)) (.cells #[.string ⟨q.name.toArray⟩, .int .i64 q.year, .slice a3q q.opts.length c3q, .slice a4q q.tabs.length c4q, .slice a5q q.grps.length c5q, .slice a6q q.lns.length c6q, .slice a7q q.cks.length c7q] 28) none) (by simp)).2.1
  have hbq := (bx_new (W.alloc (.cells #[.string ⟨p.name.toArray⟩, .int .i64 p.year, .slice a3 p.opts.length c3, .slice a4 p.tabs.length c4, .slice a5 p.grps.length c5, .slice a6 p.lns.length c6, .slice a7 p.cks.length c7] 28)) #[.string ⟨q.name.toArray⟩, .int .i64 q.year, .slice a3q q.opts.length c3q, .slice a4q q.tabs.length c4q, .slice a5q q.grps.length c5q, .slice a6q q.lns.length c6q, .slice a7q q.cks.length c7q] 28).2.1
  rw [hs1] at hbq
  have hkn := known_any ((W.alloc (.cells #[.string ⟨p.name.toArray⟩, .int .i64 p.year, .slice a3 p.opts.length c3, .slice a4 p.tabs.length c4, .slice a5 p.grps.length c5, .slice a6 p.lns.length c6, .slice a7 p.cks.length c7] 28)).alloc (.cells #[.string ⟨q.name.toArray⟩, .int .i64 q.year, .slice a3q q.opts.length c3q, .slice a4q q.tabs.length c4q, .slice a5q q.grps.length c5q, .slice a6q q.lns.length c6q, .slice a7q q.cks.length c7q] 28))
  have hE1 := pke_bel hE hB0 (Nat.le_refl _)
  have hF1 := pke_bel hF hB0 (Nat.le_refl _)
  obtain ⟨R, hR⟩ : ∃ R : Ending → World → Prop, (fun e W' => e = .returned (.bool true) ∧ Below W.heap.size W W') = R := ⟨_, rfl⟩
  rw [hR]
  have hdone : Hid (∀ X, Below ((W.alloc (.cells #[.string ⟨p.name.toArray⟩, .int .i64 p.year, .slice a3 p.opts.length c3, .slice a4 p.tabs.length c4, .slice a5 p.grps.length c5, .slice a6 p.lns.length c6, .slice a7 p.cks.length c7] 28)).alloc (.cells #[.string ⟨q.name.toArray⟩, .int .i64 q.year, .slice a3q q.opts.length c3q, .slice a4q q.tabs.length c4q, .slice a5q q.grps.length c5q, .slice a6q q.lns.length c6q, .slice a7q q.cks.length c7q] 28)).heap.size ((W.alloc (.cells #[.string ⟨p.name.toArray⟩, .int .i64 p.year, .slice a3 p.opts.length c3, .slice a4 p.tabs.length c4, .slice a5 p.grps.length c5, .slice a6 p.lns.length c6, .slice a7 p.cks.length c7] 28)).alloc (.cells #[.string ⟨q.name.toArray⟩, .int .i64 q.year, .slice a3q q.opts.length c3q, .slice a4q q.tabs.length c4q, .slice a5q q.grps.length c5q, .slice a6q q.lns.length c6q, .slice a7q q.cks.length c7q] 28)) X → R (.returned (.bool true)) X) := ⟨fun X hX => by
    rw [← hR]
    exact ⟨rfl, Below.tr hB0 hX (by rw [hsz]; omega)⟩⟩
  clear hE hF hs1 hR
  go_enter Try.func4, Try.ntmps4
  go_wp2_with (first | (go_at_call 6; go_loud (refine hkn.mono ?_; clear hkn; rintro e w1 ⟨rfl, hB1⟩; have up0 : w1.cell? ⟨W.heap.size, 0, none⟩ = some (.string ⟨p.name.toArray⟩) := (bel_cell hB1 (by rw [hsz]; omega) 0).trans (hbp 0 (by simp)); have up1 : w1.cell? ⟨W.heap.size, 1, none⟩ = some (.int .i64 p.year) := (bel_cell hB1 (by rw [hsz]; omega) 1).trans (hbp 1 (by simp)); have up2 : w1.cell? ⟨W.heap.size, 2, none⟩ = some (.slice a3 p.opts.length c3) := (bel_cell hB1 (by rw [hsz]; omega) 2).trans (hbp 2 (by simp)); have up3 : w1.cell? ⟨W.heap.size, 3, none⟩ = some (.slice a4 p.tabs.length c4) := (bel_cell hB1 (by rw [hsz]; omega) 3).trans (hbp 3 (by simp)); have up4 : w1.cell? ⟨W.heap.size, 4, none⟩ = some (.slice a5 p.grps.length c5) := (bel_cell hB1 (by rw [hsz]; omega) 4).trans (hbp 4 (by simp)); have up5 : w1.cell? ⟨W.heap.size, 5, none⟩ = some (.slice a6 p.lns.length c6) := (bel_cell hB1 (by rw [hsz]; omega) 5).trans (hbp 5 (by simp)); have up6 : w1.cell? ⟨W.heap.size, 6, none⟩ = some (.slice a7 p.cks.length c7) := (bel_cell hB1 (by rw [hsz]; omega) 6).trans (hbp 6 (by simp)); have uq0 : w1.cell? ⟨W.heap.size + 1, 0, none⟩ = some (.string ⟨q.name.toArray⟩) := (bel_cell hB1 (by rw [hsz]; omega) 0).trans (hbq 0 (by simp)); have uq1 : w1.cell? ⟨W.heap.size + 1, 1, none⟩ = some (.int .i64 q.year) := (bel_cell hB1 (by rw [hsz]; omega) 1).trans (hbq 1 (by simp)); have uq2 : w1.cell? ⟨W.heap.size + 1, 2, none⟩ = some (.slice a3q q.opts.length c3q) := (bel_cell hB1 (by rw [hsz]; omega) 2).trans (hbq 2 (by simp)); have uq3 : w1.cell? ⟨W.heap.size + 1, 3, none⟩ = some (.slice a4q q.tabs.length c4q) := (bel_cell hB1 (by rw [hsz]; omega) 3).trans (hbq 3 (by simp)); have uq4 : w1.cell? ⟨W.heap.size + 1, 4, none⟩ = some (.slice a5q q.grps.length c5q) := (bel_cell hB1 (by rw [hsz]; omega) 4).trans (hbq 4 (by simp)); have uq5 : w1.cell? ⟨W.heap.size + 1, 5, none⟩ = some (.slice a6q q.lns.length c6q) := (bel_cell hB1 (by rw [hsz]; omega) 5).trans (hbq 5 (by simp)); have uq6 : w1.cell? ⟨W.heap.size + 1, 6, none⟩ = some (.slice a7q q.cks.length c7q) := (bel_cell hB1 (by rw [hsz]; omega) 6).trans (hbq 6 (by simp)); have hE2 := pke_bel hE1 hB1 (Nat.le_refl _); have hF2 := pke_bel hF1 hB1 (Nat.le_refl _); have hs := hsp w1 hE2)) | (go_at_call 7; go_loud (refine hs.mono ?_; clear hs; rintro e w2 ⟨hB2, r, rfl⟩; have hB12 := Below.tr hB1 hB2 hB1.size; clear up0 up1 up2 up3 up4 up5 up6 uq0 uq1 uq2 uq3 uq4 uq5 uq6; have up0 : w2.cell? ⟨W.heap.size, 0, none⟩ = some (.string ⟨p.name.toArray⟩) := (bel_cell hB12 (by rw [hsz]; omega) 0).trans (hbp 0 (by simp)); have up1 : w2.cell? ⟨W.heap.size, 1, none⟩ = some (.int .i64 p.year) := (bel_cell hB12 (by rw [hsz]; omega) 1).trans (hbp 1 (by simp)); have up2 : w2.cell? ⟨W.heap.size, 2, none⟩ = some (.slice a3 p.opts.length c3) := (bel_cell hB12 (by rw [hsz]; omega) 2).trans (hbp 2 (by simp)); have up3 : w2.cell? ⟨W.heap.size, 3, none⟩ = some (.slice a4 p.tabs.length c4) := (bel_cell hB12 (by rw [hsz]; omega) 3).trans (hbp 3 (by simp)); have up4 : w2.cell? ⟨W.heap.size, 4, none⟩ = some (.slice a5 p.grps.length c5) := (bel_cell hB12 (by rw [hsz]; omega) 4).trans (hbp 4 (by simp)); have up5 : w2.cell? ⟨W.heap.size, 5, none⟩ = some (.slice a6 p.lns.length c6) := (bel_cell hB12 (by rw [hsz]; omega) 5).trans (hbp 5 (by simp)); have up6 : w2.cell? ⟨W.heap.size, 6, none⟩ = some (.slice a7 p.cks.length c7) := (bel_cell hB12 (by rw [hsz]; omega) 6).trans (hbp 6 (by simp)); have uq0 : w2.cell? ⟨W.heap.size + 1, 0, none⟩ = some (.string ⟨q.name.toArray⟩) := (bel_cell hB12 (by rw [hsz]; omega) 0).trans (hbq 0 (by simp)); have uq1 : w2.cell? ⟨W.heap.size + 1, 1, none⟩ = some (.int .i64 q.year) := (bel_cell hB12 (by rw [hsz]; omega) 1).trans (hbq 1 (by simp)); have uq2 : w2.cell? ⟨W.heap.size + 1, 2, none⟩ = some (.slice a3q q.opts.length c3q) := (bel_cell hB12 (by rw [hsz]; omega) 2).trans (hbq 2 (by simp)); have uq3 : w2.cell? ⟨W.heap.size + 1, 3, none⟩ = some (.slice a4q q.tabs.length c4q) := (bel_cell hB12 (by rw [hsz]; omega) 3).trans (hbq 3 (by simp)); have uq4 : w2.cell? ⟨W.heap.size + 1, 4, none⟩ = some (.slice a5q q.grps.length c5q) := (bel_cell hB12 (by rw [hsz]; omega) 4).trans (hbq 4 (by simp)); have uq5 : w2.cell? ⟨W.heap.size + 1, 5, none⟩ = some (.slice a6q q.lns.length c6q) := (bel_cell hB12 (by rw [hsz]; omega) 5).trans (hbq 5 (by simp)); have uq6 : w2.cell? ⟨W.heap.size + 1, 6, none⟩ = some (.slice a7q q.cks.length c7q) := (bel_cell hB12 (by rw [hsz]; omega) 6).trans (hbq 6 (by simp)); have hE3 := pke_bel hE2 hB2 (Nat.le_refl _); have hF3 := pke_bel hF2 hB2 (Nat.le_refl _); have hs2 := hsq w2 hF3; cases r)))
  · have hfin := hdone.out w2 hB12
    go_wp2
    exact hfin
  · go_wp2_with (first | (go_at_call 7; go_loud (refine hs2.mono ?_; clear hs2; rintro e w3 ⟨hB3, r, rfl⟩; have hB13 := Below.tr hB12 hB3 hB12.size; clear up0 up1 up2 up3 up4 up5 up6 uq0 uq1 uq2 uq3 uq4 uq5 uq6; have up0 : w3.cell? ⟨W.heap.size, 0, none⟩ = some (.string ⟨p.name.toArray⟩) := (bel_cell hB13 (by rw [hsz]; omega) 0).trans (hbp 0 (by simp)); have up1 : w3.cell? ⟨W.heap.size, 1, none⟩ = some (.int .i64 p.year) := (bel_cell hB13 (by rw [hsz]; omega) 1).trans (hbp 1 (by simp)); have up2 : w3.cell? ⟨W.heap.size, 2, none⟩ = some (.slice a3 p.opts.length c3) := (bel_cell hB13 (by rw [hsz]; omega) 2).trans (hbp 2 (by simp)); have up3 : w3.cell? ⟨W.heap.size, 3, none⟩ = some (.slice a4 p.tabs.length c4) := (bel_cell hB13 (by rw [hsz]; omega) 3).trans (hbp 3 (by simp)); have up4 : w3.cell? ⟨W.heap.size, 4, none⟩ = some (.slice a5 p.grps.length c5) := (bel_cell hB13 (by rw [hsz]; omega) 4).trans (hbp 4 (by simp)); have up5 : w3.cell? ⟨W.heap.size, 5, none⟩ = some (.slice a6 p.lns.length c6) := (bel_cell hB13 (by rw [hsz]; omega) 5).trans (hbp 5 (by simp)); have up6 : w3.cell? ⟨W.heap.size, 6, none⟩ = some (.slice a7 p.cks.length c7) := (bel_cell hB13 (by rw [hsz]; omega) 6).trans (hbp 6 (by simp)); have uq0 : w3.cell? ⟨W.heap.size + 1, 0, none⟩ = some (.string ⟨q.name.toArray⟩) := (bel_cell hB13 (by rw [hsz]; omega) 0).trans (hbq 0 (by simp)); have uq1 : w3.cell? ⟨W.heap.size + 1, 1, none⟩ = some (.int .i64 q.year) := (bel_cell hB13 (by rw [hsz]; omega) 1).trans (hbq 1 (by simp)); have uq2 : w3.cell? ⟨W.heap.size + 1, 2, none⟩ = some (.slice a3q q.opts.length c3q) := (bel_cell hB13 (by rw [hsz]; omega) 2).trans (hbq 2 (by simp)); have uq3 : w3.cell? ⟨W.heap.size + 1, 3, none⟩ = some (.slice a4q q.tabs.length c4q) := (bel_cell hB13 (by rw [hsz]; omega) 3).trans (hbq 3 (by simp)); have uq4 : w3.cell? ⟨W.heap.size + 1, 4, none⟩ = some (.slice a5q q.grps.length c5q) := (bel_cell hB13 (by rw [hsz]; omega) 4).trans (hbq 4 (by simp)); have uq5 : w3.cell? ⟨W.heap.size + 1, 5, none⟩ = some (.slice a6q q.lns.length c6q) := (bel_cell hB13 (by rw [hsz]; omega) 5).trans (hbq 5 (by simp)); have uq6 : w3.cell? ⟨W.heap.size + 1, 6, none⟩ = some (.slice a7q q.cks.length c7q) := (bel_cell hB13 (by rw [hsz]; omega) 6).trans (hbq 6 (by simp)); have hE4 := pke_bel hE3 hB3 (Nat.le_refl _); have hF4 := pke_bel hF3 hB3 (Nat.le_refl _); have hput := put_has p _ hzp w3 hE4; cases r)))
    · have hfin := hdone.out w3 hB13
      go_wp2
      exact hfin
    · clear hE1 hE2 hE3 hF1 hF2 hF3
      go_wp2_with (first | (go_at_call 8; go_loud (refine hput.mono ?_; clear hput; rintro e w4 ⟨hB4, hput4⟩; have hB14 := Below.tr hB13 hB4 hB13.size; clear up0 up1 up2 up3 up4 up5 up6 uq0 uq1 uq2 uq3 uq4 uq5 uq6; have up0 : w4.cell? ⟨W.heap.size, 0, none⟩ = some (.string ⟨p.name.toArray⟩) := (bel_cell hB14 (by rw [hsz]; omega) 0).trans (hbp 0 (by simp)); have up1 : w4.cell? ⟨W.heap.size, 1, none⟩ = some (.int .i64 p.year) := (bel_cell hB14 (by rw [hsz]; omega) 1).trans (hbp 1 (by simp)); have up2 : w4.cell? ⟨W.heap.size, 2, none⟩ = some (.slice a3 p.opts.length c3) := (bel_cell hB14 (by rw [hsz]; omega) 2).trans (hbp 2 (by simp)); have up3 : w4.cell? ⟨W.heap.size, 3, none⟩ = some (.slice a4 p.tabs.length c4) := (bel_cell hB14 (by rw [hsz]; omega) 3).trans (hbp 3 (by simp)); have up4 : w4.cell? ⟨W.heap.size, 4, none⟩ = some (.slice a5 p.grps.length c5) := (bel_cell hB14 (by rw [hsz]; omega) 4).trans (hbp 4 (by simp)); have up5 : w4.cell? ⟨W.heap.size, 5, none⟩ = some (.slice a6 p.lns.length c6) := (bel_cell hB14 (by rw [hsz]; omega) 5).trans (hbp 5 (by simp)); have up6 : w4.cell? ⟨W.heap.size, 6, none⟩ = some (.slice a7 p.cks.length c7) := (bel_cell hB14 (by rw [hsz]; omega) 6).trans (hbp 6 (by simp)); have uq0 : w4.cell? ⟨W.heap.size + 1, 0, none⟩ = some (.string ⟨q.name.toArray⟩) := (bel_cell hB14 (by rw [hsz]; omega) 0).trans (hbq 0 (by simp)); have uq1 : w4.cell? ⟨W.heap.size + 1, 1, none⟩ = some (.int .i64 q.year) := (bel_cell hB14 (by rw [hsz]; omega) 1).trans (hbq 1 (by simp)); have uq2 : w4.cell? ⟨W.heap.size + 1, 2, none⟩ = some (.slice a3q q.opts.length c3q) := (bel_cell hB14 (by rw [hsz]; omega) 2).trans (hbq 2 (by simp)); have uq3 : w4.cell? ⟨W.heap.size + 1, 3, none⟩ = some (.slice a4q q.tabs.length c4q) := (bel_cell hB14 (by rw [hsz]; omega) 3).trans (hbq 3 (by simp)); have uq4 : w4.cell? ⟨W.heap.size + 1, 4, none⟩ = some (.slice a5q q.grps.length c5q) := (bel_cell hB14 (by rw [hsz]; omega) 4).trans (hbq 4 (by simp)); have uq5 : w4.cell? ⟨W.heap.size + 1, 5, none⟩ = some (.slice a6q q.lns.length c6q) := (bel_cell hB14 (by rw [hsz]; omega) 5).trans (hbq 5 (by simp)); have uq6 : w4.cell? ⟨W.heap.size + 1, 6, none⟩ = some (.slice a7q q.cks.length c7q) := (bel_cell hB14 (by rw [hsz]; omega) 6).trans (hbq 6 (by simp)); have hE5 := pke_bel hE4 hB4 (Nat.le_refl _); have hF5 := pke_bel hF4 hB4 (Nat.le_refl _); have hput2 := put_has q _ hzq w4 hF5; clear hE4 hF4; rcases hput4 with ⟨rfl, hn1⟩ | ⟨b1, e1, l1, rfl, hI1, hl1⟩)))
      · go_wp2_with (first | (go_at_call 8; go_loud (refine hput2.mono ?_; clear hput2; rintro e w5 ⟨hB5, hput5⟩; have hB15 := Below.tr hB14 hB5 hB14.size; clear up0 up1 up2 up3 up4 up5 up6 uq0 uq1 uq2 uq3 uq4 uq5 uq6; have up0 : w5.cell? ⟨W.heap.size, 0, none⟩ = some (.string ⟨p.name.toArray⟩) := (bel_cell hB15 (by rw [hsz]; omega) 0).trans (hbp 0 (by simp)); have up1 : w5.cell? ⟨W.heap.size, 1, none⟩ = some (.int .i64 p.year) := (bel_cell hB15 (by rw [hsz]; omega) 1).trans (hbp 1 (by simp)); have up2 : w5.cell? ⟨W.heap.size, 2, none⟩ = some (.slice a3 p.opts.length c3) := (bel_cell hB15 (by rw [hsz]; omega) 2).trans (hbp 2 (by simp)); have up3 : w5.cell? ⟨W.heap.size, 3, none⟩ = some (.slice a4 p.tabs.length c4) := (bel_cell hB15 (by rw [hsz]; omega) 3).trans (hbp 3 (by simp)); have up4 : w5.cell? ⟨W.heap.size, 4, none⟩ = some (.slice a5 p.grps.length c5) := (bel_cell hB15 (by rw [hsz]; omega) 4).trans (hbp 4 (by simp)); have up5 : w5.cell? ⟨W.heap.size, 5, none⟩ = some (.slice a6 p.lns.length c6) := (bel_cell hB15 (by rw [hsz]; omega) 5).trans (hbp 5 (by simp)); have up6 : w5.cell? ⟨W.heap.size, 6, none⟩ = some (.slice a7 p.cks.length c7) := (bel_cell hB15 (by rw [hsz]; omega) 6).trans (hbp 6 (by simp)); have uq0 : w5.cell? ⟨W.heap.size + 1, 0, none⟩ = some (.string ⟨q.name.toArray⟩) := (bel_cell hB15 (by rw [hsz]; omega) 0).trans (hbq 0 (by simp)); have uq1 : w5.cell? ⟨W.heap.size + 1, 1, none⟩ = some (.int .i64 q.year) := (bel_cell hB15 (by rw [hsz]; omega) 1).trans (hbq 1 (by simp)); have uq2 : w5.cell? ⟨W.heap.size + 1, 2, none⟩ = some (.slice a3q q.opts.length c3q) := (bel_cell hB15 (by rw [hsz]; omega) 2).trans (hbq 2 (by simp)); have uq3 : w5.cell? ⟨W.heap.size + 1, 3, none⟩ = some (.slice a4q q.tabs.length c4q) := (bel_cell hB15 (by rw [hsz]; omega) 3).trans (hbq 3 (by simp)); have uq4 : w5.cell? ⟨W.heap.size + 1, 4, none⟩ = some (.slice a5q q.grps.length c5q) := (bel_cell hB15 (by rw [hsz]; omega) 4).trans (hbq 4 (by simp)); have uq5 : w5.cell? ⟨W.heap.size + 1, 5, none⟩ = some (.slice a6q q.lns.length c6q) := (bel_cell hB15 (by rw [hsz]; omega) 5).trans (hbq 5 (by simp)); have uq6 : w5.cell? ⟨W.heap.size + 1, 6, none⟩ = some (.slice a7q q.cks.length c7q) := (bel_cell hB15 (by rw [hsz]; omega) 6).trans (hbq 6 (by simp)); have hE6 := pke_bel hE5 hB5 (Nat.le_refl _); have hF6 := pke_bel hF5 hB5 (Nat.le_refl _); have hcmp := same_pack p q hzp a3 a4 a5 a6 a7 a3q a4q a5q a6q a7q c3 c4 c5 c6 c7 c3q c4q c5q c6q c7q w5 hE6 hF6; clear hE5 hF5; rcases hput5 with ⟨rfl, hn2⟩ | ⟨b2, e2, l2, rfl, hI2, hl2⟩)) | (go_at_call 9; refine (num_any _ _).mono ?_; rintro e w ⟨rfl, rfl⟩))
        · go_wp2_with (first | (go_at_call 11; go_loud (refine hcmp.mono ?_; clear hcmp; rintro e w6 ⟨hB6, r6, rfl, hr6⟩; have hfin := hdone.out w6 (Below.tr hB15 hB6 hB15.size); clear hr6; cases r6)) | (go_at_call 9; refine (num_any _ _).mono ?_; rintro e w ⟨rfl, rfl⟩))
          · go_wp2_with ((go_at_call 9; refine (num_any _ _).mono ?_; rintro e w ⟨rfl, rfl⟩))
            exact hfin
          · go_wp2_with ((go_at_call 9; refine (num_any _ _).mono ?_; rintro e w ⟨rfl, rfl⟩))
            exact hfin
        · have hpq : p ≠ q := fun h => by subst h; exact hn1.out hl2.out.2
          go_wp2_with (first | (go_at_call 11; go_loud (refine hcmp.mono ?_; clear hcmp; rintro e w6 ⟨hB6, r6, rfl, hr6⟩; have hfin := hdone.out w6 (Below.tr hB15 hB6 hB15.size); obtain rfl : r6 = false := (by cases r6 with | true => exact absurd (hr6.1 rfl) hpq | false => rfl); clear hr6)) | (go_at_call 9; refine (num_any _ _).mono ?_; rintro e w ⟨rfl, rfl⟩))
          exact hfin
      · go_wp2_with (first | (go_at_call 8; go_loud (refine hput2.mono ?_; clear hput2; rintro e w5 ⟨hB5, hput5⟩; have hB15 := Below.tr hB14 hB5 hB14.size; clear up0 up1 up2 up3 up4 up5 up6 uq0 uq1 uq2 uq3 uq4 uq5 uq6; have up0 : w5.cell? ⟨W.heap.size, 0, none⟩ = some (.string ⟨p.name.toArray⟩) := (bel_cell hB15 (by rw [hsz]; omega) 0).trans (hbp 0 (by simp)); have up1 : w5.cell? ⟨W.heap.size, 1, none⟩ = some (.int .i64 p.year) := (bel_cell hB15 (by rw [hsz]; omega) 1).trans (hbp 1 (by simp)); have up2 : w5.cell? ⟨W.heap.size, 2, none⟩ = some (.slice a3 p.opts.length c3) := (bel_cell hB15 (by rw [hsz]; omega) 2).trans (hbp 2 (by simp)); have up3 : w5.cell? ⟨W.heap.size, 3, none⟩ = some (.slice a4 p.tabs.length c4) := (bel_cell hB15 (by rw [hsz]; omega) 3).trans (hbp 3 (by simp)); have up4 : w5.cell? ⟨W.heap.size, 4, none⟩ = some (.slice a5 p.grps.length c5) := (bel_cell hB15 (by rw [hsz]; omega) 4).trans (hbp 4 (by simp)); have up5 : w5.cell? ⟨W.heap.size, 5, none⟩ = some (.slice a6 p.lns.length c6) := (bel_cell hB15 (by rw [hsz]; omega) 5).trans (hbp 5 (by simp)); have up6 : w5.cell? ⟨W.heap.size, 6, none⟩ = some (.slice a7 p.cks.length c7) := (bel_cell hB15 (by rw [hsz]; omega) 6).trans (hbp 6 (by simp)); have uq0 : w5.cell? ⟨W.heap.size + 1, 0, none⟩ = some (.string ⟨q.name.toArray⟩) := (bel_cell hB15 (by rw [hsz]; omega) 0).trans (hbq 0 (by simp)); have uq1 : w5.cell? ⟨W.heap.size + 1, 1, none⟩ = some (.int .i64 q.year) := (bel_cell hB15 (by rw [hsz]; omega) 1).trans (hbq 1 (by simp)); have uq2 : w5.cell? ⟨W.heap.size + 1, 2, none⟩ = some (.slice a3q q.opts.length c3q) := (bel_cell hB15 (by rw [hsz]; omega) 2).trans (hbq 2 (by simp)); have uq3 : w5.cell? ⟨W.heap.size + 1, 3, none⟩ = some (.slice a4q q.tabs.length c4q) := (bel_cell hB15 (by rw [hsz]; omega) 3).trans (hbq 3 (by simp)); have uq4 : w5.cell? ⟨W.heap.size + 1, 4, none⟩ = some (.slice a5q q.grps.length c5q) := (bel_cell hB15 (by rw [hsz]; omega) 4).trans (hbq 4 (by simp)); have uq5 : w5.cell? ⟨W.heap.size + 1, 5, none⟩ = some (.slice a6q q.lns.length c6q) := (bel_cell hB15 (by rw [hsz]; omega) 5).trans (hbq 5 (by simp)); have uq6 : w5.cell? ⟨W.heap.size + 1, 6, none⟩ = some (.slice a7q q.cks.length c7q) := (bel_cell hB15 (by rw [hsz]; omega) 6).trans (hbq 6 (by simp)); have hE6 := pke_bel hE5 hB5 (Nat.le_refl _); have hF6 := pke_bel hF5 hB5 (Nat.le_refl _); have hcmp := same_pack p q hzp a3 a4 a5 a6 a7 a3q a4q a5q a6q a7q c3 c4 c5 c6 c7 c3q c4q c5q c6q c7q w5 hE6 hF6; clear hE5 hF5; rcases hput5 with ⟨rfl, hn2⟩ | ⟨b2, e2, l2, rfl, hI2, hl2⟩)) | (go_at_call 9; refine (num_any _ _).mono ?_; rintro e w ⟨rfl, rfl⟩))
        · have hpq : p ≠ q := fun h => by subst h; exact hn2.out hl1.out.2
          go_wp2_with (first | (go_at_call 11; go_loud (refine hcmp.mono ?_; clear hcmp; rintro e w6 ⟨hB6, r6, rfl, hr6⟩; have hfin := hdone.out w6 (Below.tr hB15 hB6 hB15.size); obtain rfl : r6 = false := (by cases r6 with | true => exact absurd (hr6.1 rfl) hpq | false => rfl); clear hr6)) | (go_at_call 9; refine (num_any _ _).mono ?_; rintro e w ⟨rfl, rfl⟩))
          exact hfin
        · have hBd : Below w5.heap.size w5 w5.drew := (Below.refl _ _).drew
          have hI1b := (hI1.bel hB5 (Nat.le_refl _)).bel hBd (Nat.le_refl _)
          have hI2b := hI2.bel hBd (Nat.le_refl _)
          have hsame := same_any b1 b2 e1 e2 l1 l2 w5.drew hI1b hI2b
          have hcmp2 := same_pack p q hzp a3 a4 a5 a6 a7 a3q a4q a5q a6q a7q c3 c4 c5 c6 c7 c3q c4q c5q c6q c7q w5.drew (pke_bel hE6 hBd (Nat.le_refl _)) (pke_bel hF6 hBd (Nat.le_refl _))
          have hdec := Hid.mk (fun r hr => by have h := same_dec hrp hrq hl1.out.2 hl2.out.2 r hr; rw [← hl1.out.1, ← hl2.out.1] at h; exact h)
          have hS0 : w5.drew.cell? ⟨W.heap.size, 0, none⟩ = some (.string ⟨p.name.toArray⟩) ∧ w5.drew.cell? ⟨W.heap.size, 1, none⟩ = some (.int .i64 p.year) ∧ w5.drew.cell? ⟨W.heap.size, 2, none⟩ = some (.slice a3 p.opts.length c3) ∧ w5.drew.cell? ⟨W.heap.size, 3, none⟩ = some (.slice a4 p.tabs.length c4) ∧ w5.drew.cell? ⟨W.heap.size, 4, none⟩ = some (.slice a5 p.grps.length c5) ∧ w5.drew.cell? ⟨W.heap.size, 5, none⟩ = some (.slice a6 p.lns.length c6) ∧ w5.drew.cell? ⟨W.heap.size, 6, none⟩ = some (.slice a7 p.cks.length c7) ∧ w5.drew.cell? ⟨W.heap.size + 1, 0, none⟩ = some (.string ⟨q.name.toArray⟩) ∧ w5.drew.cell? ⟨W.heap.size + 1, 1, none⟩ = some (.int .i64 q.year) ∧ w5.drew.cell? ⟨W.heap.size + 1, 2, none⟩ = some (.slice a3q q.opts.length c3q) ∧ w5.drew.cell? ⟨W.heap.size + 1, 3, none⟩ = some (.slice a4q q.tabs.length c4q) ∧ w5.drew.cell? ⟨W.heap.size + 1, 4, none⟩ = some (.slice a5q q.grps.length c5q) ∧ w5.drew.cell? ⟨W.heap.size + 1, 5, none⟩ = some (.slice a6q q.lns.length c6q) ∧ w5.drew.cell? ⟨W.heap.size + 1, 6, none⟩ = some (.slice a7q q.cks.length c7q) := ⟨up0, up1, up2, up3, up4, up5, up6, uq0, uq1, uq2, uq3, uq4, uq5, uq6⟩
          have hw1 : W.heap.size + 1 < w5.drew.heap.size := World.block_lt_of_cell? _ _ uq0
          have hkeep : ∀ X, Below w5.drew.heap.size w5.drew X → X.cell? ⟨W.heap.size, 0, none⟩ = some (.string ⟨p.name.toArray⟩) ∧ X.cell? ⟨W.heap.size, 1, none⟩ = some (.int .i64 p.year) ∧ X.cell? ⟨W.heap.size, 2, none⟩ = some (.slice a3 p.opts.length c3) ∧ X.cell? ⟨W.heap.size, 3, none⟩ = some (.slice a4 p.tabs.length c4) ∧ X.cell? ⟨W.heap.size, 4, none⟩ = some (.slice a5 p.grps.length c5) ∧ X.cell? ⟨W.heap.size, 5, none⟩ = some (.slice a6 p.lns.length c6) ∧ X.cell? ⟨W.heap.size, 6, none⟩ = some (.slice a7 p.cks.length c7) ∧ X.cell? ⟨W.heap.size + 1, 0, none⟩ = some (.string ⟨q.name.toArray⟩) ∧ X.cell? ⟨W.heap.size + 1, 1, none⟩ = some (.int .i64 q.year) ∧ X.cell? ⟨W.heap.size + 1, 2, none⟩ = some (.slice a3q q.opts.length c3q) ∧ X.cell? ⟨W.heap.size + 1, 3, none⟩ = some (.slice a4q q.tabs.length c4q) ∧ X.cell? ⟨W.heap.size + 1, 4, none⟩ = some (.slice a5q q.grps.length c5q) ∧ X.cell? ⟨W.heap.size + 1, 5, none⟩ = some (.slice a6q q.lns.length c6q) ∧ X.cell? ⟨W.heap.size + 1, 6, none⟩ = some (.slice a7q q.cks.length c7q) := fun X hX => by
            have kk := fun {b : Nat} (hb : b < w5.drew.heap.size) (j : Nat) => bel_cell hX hb j
            exact ⟨(kk (by omega) _).trans up0, (kk (by omega) _).trans up1, (kk (by omega) _).trans up2, (kk (by omega) _).trans up3, (kk (by omega) _).trans up4, (kk (by omega) _).trans up5, (kk (by omega) _).trans up6, (kk hw1 _).trans uq0, (kk hw1 _).trans uq1, (kk hw1 _).trans uq2, (kk hw1 _).trans uq3, (kk hw1 _).trans uq4, (kk hw1 _).trans uq5, (kk hw1 _).trans uq6⟩
          have hB15d := Below.tr hB15 hBd hB15.size
          clear hI1 hI1b hI2 hI2b hl1 hl2 hcmp hE6 hF6
          go_wp2_with ((go_at_call 9; refine (num_any _ _).mono ?_; rintro e w ⟨rfl, rfl⟩))
          go_region_held3 (fun X => X.cell? ⟨W.heap.size, 0, none⟩ = some (.string ⟨p.name.toArray⟩) ∧ X.cell? ⟨W.heap.size, 1, none⟩ = some (.int .i64 p.year) ∧ X.cell? ⟨W.heap.size, 2, none⟩ = some (.slice a3 p.opts.length c3) ∧ X.cell? ⟨W.heap.size, 3, none⟩ = some (.slice a4 p.tabs.length c4) ∧ X.cell? ⟨W.heap.size, 4, none⟩ = some (.slice a5 p.grps.length c5) ∧ X.cell? ⟨W.heap.size, 5, none⟩ = some (.slice a6 p.lns.length c6) ∧ X.cell? ⟨W.heap.size, 6, none⟩ = some (.slice a7 p.cks.length c7) ∧ X.cell? ⟨W.heap.size + 1, 0, none⟩ = some (.string ⟨q.name.toArray⟩) ∧ X.cell? ⟨W.heap.size + 1, 1, none⟩ = some (.int .i64 q.year) ∧ X.cell? ⟨W.heap.size + 1, 2, none⟩ = some (.slice a3q q.opts.length c3q) ∧ X.cell? ⟨W.heap.size + 1, 3, none⟩ = some (.slice a4q q.tabs.length c4q) ∧ X.cell? ⟨W.heap.size + 1, 4, none⟩ = some (.slice a5q q.grps.length c5q) ∧ X.cell? ⟨W.heap.size + 1, 5, none⟩ = some (.slice a6q q.lns.length c6q) ∧ X.cell? ⟨W.heap.size + 1, 6, none⟩ = some (.slice a7q q.cks.length c7q)) (assumption)
            (first | (go_at_call 12; refine hsame.mono ?_; clear hsame; rintro e w ⟨rfl, rfl⟩; have hS1 := hS0) | (go_at_call 11; refine hcmp2.mono ?_; clear hcmp2; rintro e w6 ⟨hB6, r6, rfl, hr6⟩; have hfin := hdone.out w6 (Below.tr hB15d hB6 hB15d.size); have hd := hdec.out r6 hr6; clear hr6; have hS6 := hkeep w6 hB6))
          clear hkeep hS0 hdec
          go_wp2
          exact hfin
end Go.Proofs.Ytjllaobiejahjaa


namespace Go.Proofs.Ytjllaobiejahjaa
open Go.RowKit

/-- Bytes are laid behind a row of one's own. -/
theorem wpList_cat (w : World) {ops : Array Oper} {rest : List Oper} {o : Oper} {a : Act} {Q : Exit → Act → World → Prop} (hgd : o.guard = none) (s x : Operand)
    (ho : o.op = .call { callee := .builtin .append, args := #[s, x], argTypes := #[31, 31] }) (base : Nat) (hbase : base ≤ w.heap.size) (v : Value) (l : List UInt8) (hs : a.eval s = v) (hown : w.ownsRow base 5 1 v l.length (Go.Lib.byteCells l)) (ad : Option Addr) (cap : Nat) (m : List UInt8) (hx : a.eval x = .slice ad m.length cap) (hI : InB w ad cap m) (hlen : l.length + m.length ≤ 1000000)
    (h : ∀ p c w', w'.ownsRow base 5 1 (.slice p (l.length + m.length) c) (l ++ m).length (Go.Lib.byteCells (l ++ m)) → Below base w w' → wpList Try.prog ops Q rest (a.put o.dst (.slice p (l.length + m.length) c)) w') : wpList Try.prog ops Q (o :: rest) a w := by
  obtain ⟨i0, hi, hz0, hz1, hz2⟩ := info_parts infoU8
  obtain ⟨hI1, hI2, hI3⟩ := hI
  cases ad with
  | none =>
    have hc := hI2 rfl
    subst hc
    have hm : m = [] := List.eq_nil_of_length_eq_zero (by omega)
    subst hm
    refine wpList_plain hgd fun K hK => ?_
    have hr := run_append_owned_none (P := Try.prog) (w := w) base 31 o.type 5 i0 1 Try.underlying31 hi v l.length _ hown
    unfold Oper.wp execOp
    simp only [List.length_nil] at hx
    simp only [ho, resolve, invoke, builtin, Sem.run_bind, Sem.run_pure, Result.andThen_ok, List.map_toArray, List.map_cons, List.map_nil, hs, hx, hr]
    obtain ⟨p, c, rfl⟩ := own_slice hown
    refine hK _ _ (h p c w ?_ (Below.refl _ _))
    rw [List.append_nil]
    exact hown
  | some ad =>
    refine wpList_append_own (P := Try.prog) w hgd s x 31 ho base 5 i0 (.int .u8 0) 1 1 Try.underlying31 hi hz0 hz1 hz2 rfl (by decide) v l.length (Go.Lib.byteCells l) hs hown ad m.length cap (Go.Lib.byteCells m) hx (by simp [Go.Lib.byteCells]) (fun j u hj => ?_) (fun u hu => ?_) (by unfold maxLen; omega) (by omega) hbase ?_
    · have hjl : j < m.length := by
        have := (List.getElem?_eq_some_iff.1 hj).1
        simpa [Go.Lib.byteCells] using this
      rcases hI1 with rfl | ⟨b, off, ha, _, hc⟩
      · simp at hjl
      · cases ha
        rw [Go.WideShapes.add_plain, hc j hjl, ← hj]
        unfold Go.Lib.byteCells
        rw [List.getElem?_map, List.getElem?_eq_getElem hjl]
        rfl
    · unfold Go.Lib.byteCells at hu
      obtain ⟨n, -, rfl⟩ := List.mem_map.1 hu
      rfl
    · intro v' w' hown' hgrow _
      rw [← Go.Lib.byteCells_append, ← List.length_append] at hown'
      obtain ⟨p, c, rfl⟩ := own_slice hown'
      rw [List.length_append]
      exact h p c w' (by rw [← List.length_append]; exact hown') ((Below.refl _ _).grown hgrow hbase (fun j hj => (hown.lt j hj).1))
theorem get_torn (p : Pk) (a : Option Addr) (cap : Nat) (l : List UInt8) (W : World) (i : Nat) (x : UInt8) (hl : l = encP p ++ sum4 (fnvB (encP p))) (hi : i < l.length) (hx : x ≠ l[i]) (h : InB W a cap (l.set i x)) : Calls Try.prog 10 #[.slice a l.length cap] W fun e W' => Below W.heap.size W W' ∧ ∃ ft er : Nat, er ≠ 0 ∧ e = .returned (.tuple #[.agg #[.string ⟨#[]⟩, .int .i64 0, .slice none 0 0, .slice none 0 0, .slice none 0 0, .slice none 0 0, .slice none 0 0], .int .i64 (ft : Int), .int .i64 (er : Int)]) := by
  have hg := get_any a cap (l.set i x) W h
  rw [List.length_set] at hg
  refine hg.mono ?_
  rintro e W' ⟨hB, ⟨h1, rfl⟩ | ⟨-, ft, er, h1, h2, -, rfl⟩ | ⟨-, q, a2, cs, h1, rfl, -⟩⟩
  · exact ⟨hB, 0, 72, by decide, rfl⟩
  · exact ⟨hB, ft, er, h2, rfl⟩
  · subst hl
    exact absurd h1 (torn_one hi hx q a2)
theorem get_cut (p : Pk) (hr : RgP p) (a : Option Addr) (cap : Nat) (l : List UInt8) (W : World) (i : Nat) (hl : l = encP p ++ sum4 (fnvB (encP p)) ∧ Has p) (hi : i < l.length) (h : InB W a cap (l.take i)) : Calls Try.prog 10 #[.slice a i cap] W fun e W' => Below W.heap.size W W' ∧ e = .returned (.tuple #[.agg #[.string ⟨#[]⟩, .int .i64 0, .slice none 0 0, .slice none 0 0, .slice none 0 0, .slice none 0 0, .slice none 0 0], .int .i64 (i : Int), .int .i64 70]) := by
  obtain ⟨h1, h2, h3⟩ := hl
  have ht := tPack hr h3 (l := l.take i) (u := l.drop i) (fun e => by have := congrArg List.length e; rw [List.length_drop] at this; simp at this; omega) (by rw [List.take_append_drop]; exact h1.symm) (by omega)
  have hlen : (l.take i).length = i := by rw [List.length_take]; omega
  have hl131 : l.length ≤ 131072 := by rw [h1]; exact h2
  rw [hlen] at ht
  have hg := get_any a cap (l.take i) W h
  rw [hlen] at hg
  refine hg.mono ?_
  rintro e W' ⟨hB, ⟨g1, rfl⟩ | ⟨-, ft, er, g1, g2, -, rfl⟩ | ⟨-, q, a2, cs, g1, rfl, -⟩⟩
  · omega
  · rw [ht] at g1
    cases g1
    exact ⟨hB, rfl⟩
  · rw [ht] at g1; cases g1
theorem get_more (p : Pk) (hr : RgP p) (a : Option Addr) (cap : Nat) (l m : List UInt8) (W : World) (hl : l = encP p ++ sum4 (fnvB (encP p)) ∧ Has p) (hm : m.length ≤ 262144) (h : InB W a cap (l ++ m)) : Calls Try.prog 10 #[.slice a (l.length + m.length) cap] W fun e W' => Below W.heap.size W W' ∧ ∃ (s0 : ByteArray) (y0 : Int) (b3 : Option Addr) (n3 d3 : Nat) (b4 : Option Addr) (n4 d4 : Nat) (b5 : Option Addr) (n5 d5 : Nat) (b6 : Option Addr) (n6 d6 : Nat) (b7 : Option Addr) (n7 d7 : Nat) (ft er : Nat), e = .returned (.tuple #[.agg #[.string s0, .int .i64 y0, .slice b3 n3 d3, .slice b4 n4 d4, .slice b5 n5 d5, .slice b6 n6 d6, .slice b7 n7 d7], .int .i64 (ft : Int), .int .i64 (er : Int)]) ∧ Hid ((((m.length : Int) == 0) = true ∧ er = 0) ∨ (((m.length : Int) == 0) = false ∧ ((er = 73 ∧ ft = l.length) ∨ (er = 72 ∧ ft = 0 ∧ (131072 : Int) < (l.length : Int) + (m.length : Int))))) := by
  obtain ⟨h1, h2, h3⟩ := hl
  have hl131 : l.length ≤ 131072 := by rw [h1]; exact h2
  have hlen : (encP p).length + 4 = l.length := by rw [h1, List.length_append]; rfl
  have hc := cPack hr h3 m (by rw [← List.append_assoc, ← h1, List.length_append]; omega)
  rw [← List.append_assoc, ← h1, hlen] at hc
  have hg := get_any a cap (l ++ m) W h
  rw [List.length_append] at hg
  refine hg.mono ?_
  rintro e W' ⟨hB, ⟨g1, rfl⟩ | ⟨-, ft, er, g1, g2, -, rfl⟩ | ⟨-, q, a2, cs, g1, rfl, a3, c3, a4, c4, a5, c5, a6, c6, a7, c7, rfl, -⟩⟩
  · rw [List.length_append] at g1
    refine ⟨hB, _, _, _, _, _, _, _, _, _, _, _, _, _, _, _, _, _, 0, 72, rfl, ⟨.inr ⟨beq_eq_false_iff_ne.2 (by omega), .inr ⟨rfl, rfl, by omega⟩⟩⟩⟩
  · rw [hc] at g1
    by_cases hm0 : m = []
    · rw [if_pos hm0] at g1; cases g1
    · rw [if_neg hm0] at g1
      cases g1
      exact ⟨hB, _, _, _, _, _, _, _, _, _, _, _, _, _, _, _, _, _, _, _, rfl, ⟨.inr ⟨beq_eq_false_iff_ne.2 (by have := List.length_pos_iff.2 hm0; omega), .inl ⟨rfl, rfl⟩⟩⟩⟩
  · rw [hc] at g1
    by_cases hm0 : m = []
    · exact ⟨hB, _, _, _, _, _, _, _, _, _, _, _, _, _, _, _, _, _, 0, 0, rfl, ⟨.inl ⟨by rw [hm0]; rfl, rfl⟩⟩⟩
    · rw [if_neg hm0] at g1; cases g1
end Go.Proofs.Ytjllaobiejahjaa

import Derived.Test.YtmklkcefbabhbaaGreatJoin21
/- A check. -/
namespace Go.Proofs.YtmklkcefbabhbaaGreat.R6
open Go.RowKit

set_option maxRecDepth 20000 in
set_option maxHeartbeats 4000000 in
theorem oneCheck_any (p : Pk) (a3 a4 a5 a6 a7 : Option Addr) (c3 c4 c5 c6 c7 : Nat) (k : Ck) (a : Option Addr) (c : Nat) (all : Sn) (b : Option Addr) (d : Nat) (W : World) (hA : RowR eS W AnyB all b) (hl : all.length ≤ 9223372036854775807) : Calls Tryz.prog 28 #[.agg #[.string ⟨p.name.toArray⟩, .int .i64 p.year, .slice a3 p.opts.length c3, .slice a4 p.tabs.length c4, .slice a5 p.grps.length c5, .slice a6 p.lns.length c6, .slice a7 p.cks.length c7], .agg #[.string ⟨k.name.toArray⟩, .bool k.hard, .int .i64 k.group, .int .i64 k.when_.op, .int .i64 k.when_.num, .int .i64 k.when_.den, .int .i64 k.when_.mode, .slice a k.when_.args.len c, .string ⟨k.text.toArray⟩], .slice b all.length d] W (Lk (.int .i64 (ckE p all k : Int)) W) := by
  obtain ⟨X, hXe⟩ : ∃ X, (W.alloc (.cells #[.string ⟨p.name.toArray⟩, .int .i64 p.year, .slice a3 p.opts.length c3, .slice a4 p.tabs.length c4, .slice a5 p.grps.length c5, .slice a6 p.lns.length c6, .slice a7 p.cks.length c7] 28)).alloc (.cells #[.string ⟨k.name.toArray⟩, .bool k.hard, .int .i64 k.group, .int .i64 k.when_.op, .int .i64 k.when_.num, .int .i64 k.when_.den, .int .i64 k.when_.mode, .slice a k.when_.args.len c, .string ⟨k.text.toArray⟩] 63) = X := ⟨_, rfl⟩
  have hb0 : Below W.heap.size W X := by rw [← hXe]; exact ((Below.refl _ _).alloc (Nat.le_refl _) _).alloc (by simp) _
  have hXl : W.heap.size + 1 < X.heap.size := by rw [← hXe]; simp
  have hBx : Hid (∀ w, Below X.heap.size X w → w.cell? ⟨W.heap.size, 0, none⟩ = some (.string ⟨p.name.toArray⟩) ∧ w.cell? ⟨W.heap.size, 1, none⟩ = some (.int .i64 p.year) ∧ w.cell? ⟨W.heap.size, 2, none⟩ = some (.slice a3 p.opts.length c3) ∧ w.cell? ⟨W.heap.size, 3, none⟩ = some (.slice a4 p.tabs.length c4) ∧ w.cell? ⟨W.heap.size, 4, none⟩ = some (.slice a5 p.grps.length c5) ∧ w.cell? ⟨W.heap.size, 5, none⟩ = some (.slice a6 p.lns.length c6) ∧ w.cell? ⟨W.heap.size, 6, none⟩ = some (.slice a7 p.cks.length c7) ∧ w.cell? ⟨W.heap.size + 1, 0, none⟩ = some (.string ⟨k.name.toArray⟩) ∧ w.cell? ⟨W.heap.size + 1, 1, none⟩ = some (.bool k.hard) ∧ w.cell? ⟨W.heap.size + 1, 2, none⟩ = some (.int .i64 k.group) ∧ w.cell? ⟨W.heap.size + 1, 3, none⟩ = some (.int .i64 k.when_.op) ∧ w.cell? ⟨W.heap.size + 1, 4, none⟩ = some (.int .i64 k.when_.num) ∧ w.cell? ⟨W.heap.size + 1, 5, none⟩ = some (.int .i64 k.when_.den) ∧ w.cell? ⟨W.heap.size + 1, 6, none⟩ = some (.int .i64 k.when_.mode) ∧ w.cell? ⟨W.heap.size + 1, 7, none⟩ = some (.slice a k.when_.args.len c) ∧ w.cell? ⟨W.heap.size + 1, 8, none⟩ = some (.string ⟨k.text.toArray⟩)) := ⟨fun w hw => ⟨(bel_cell hw (by omega) 0).trans (by rw [← hXe]; simp), (bel_cell hw (by omega) 1).trans (by rw [← hXe]; simp), (bel_cell hw (by omega) 2).trans (by rw [← hXe]; simp), (bel_cell hw (by omega) 3).trans (by rw [← hXe]; simp), (bel_cell hw (by omega) 4).trans (by rw [← hXe]; simp), (bel_cell hw (by omega) 5).trans (by rw [← hXe]; simp), (bel_cell hw (by omega) 6).trans (by rw [← hXe]; simp), (bel_cell hw hXl 0).trans (by rw [← hXe, show W.heap.size + 1 = (W.alloc (.cells #[.string ⟨p.name.toArray⟩, .int .i64 p.year, .slice a3 p.opts.length c3, .slice a4 p.tabs.length c4, .slice a5 p.grps.length c5, .slice a6 p.lns.length c6, .slice a7 p.cks.length c7] 28)).heap.size by simp]; simp), (bel_cell hw hXl 1).trans (by rw [← hXe, show W.heap.size + 1 = (W.alloc (.cells #[.string ⟨p.name.toArray⟩, .int .i64 p.year, .slice a3 p.opts.length c3, .slice a4 p.tabs.length c4, .slice a5 p.grps.length c5, .slice a6 p.lns.length c6, .slice a7 p.cks.length c7] 28)).heap.size by simp]; simp), (bel_cell hw hXl 2).trans (by rw [← hXe, show W.heap.size + 1 = (W.alloc (.cells #[.string ⟨p.name.toArray⟩, .int .i64 p.year, .slice a3 p.opts.length c3, .slice a4 p.tabs.length c4, .slice a5 p.grps.length c5, .slice a6 p.lns.length c6, .slice a7 p.cks.length c7] 28)).heap.size by simp]; simp), (bel_cell hw hXl 3).trans (by rw [← hXe, show W.heap.size + 1 = (W.alloc (.cells #[.string ⟨p.name.toArray⟩, .int .i64 p.year, .slice a3 p.opts.length c3, .slice a4 p.tabs.length c4, .slice a5 p.grps.length c5, .slice a6 p.lns.length c6, .slice a7 p.cks.length c7] 28)).heap.size by simp]; simp), (bel_cell hw hXl 4).trans (by rw [← hXe, show W.heap.size + 1 = (W.alloc (.cells #[.string ⟨p.name.toArray⟩, .int .i64 p.year, .slice a3 p.opts.length c3, .slice a4 p.tabs.length c4, .slice a5 p.grps.length c5, .slice a6 p.lns.length c6, .slice a7 p.cks.length c7] 28)).heap.size by simp]; simp), (bel_cell hw hXl 5).trans (by rw [← hXe, show W.heap.size + 1 = (W.alloc (.cells #[.string ⟨p.name.toArray⟩, .int .i64 p.year, .slice a3 p.opts.length c3, .slice a4 p.tabs.length c4, .slice a5 p.grps.length c5, .slice a6 p.lns.length c6, .slice a7 p.cks.length c7] 28)).heap.size by simp]; simp), (bel_cell hw hXl 6).trans (by rw [← hXe, show W.heap.size + 1 = (W.alloc (.cells #[.string ⟨p.name.toArray⟩, .int .i64 p.year, .slice a3 p.opts.length c3, .slice a4 p.tabs.length c4, .slice a5 p.grps.length c5, .slice a6 p.lns.length c6, .slice a7 p.cks.length c7] 28)).heap.size by simp]; simp), (bel_cell hw hXl 7).trans (by rw [← hXe, show W.heap.size + 1 = (W.alloc (.cells #[.string ⟨p.name.toArray⟩, .int .i64 p.year, .slice a3 p.opts.length c3, .slice a4 p.tabs.length c4, .slice a5 p.grps.length c5, .slice a6 p.lns.length c6, .slice a7 p.cks.length c7] 28)).heap.size by simp]; simp), (bel_cell hw hXl 8).trans (by rw [← hXe, show W.heap.size + 1 = (W.alloc (.cells #[.string ⟨p.name.toArray⟩, .int .i64 p.year, .slice a3 p.opts.length c3, .slice a4 p.tabs.length c4, .slice a5 p.grps.length c5, .slice a6 p.lns.length c6, .slice a7 p.cks.length c7] 28)).heap.size by simp]; simp)⟩⟩
  obtain ⟨x0, x1, x2, x3, x4, x5, x6, y0, y1, y2, y3, y4, y5, y6, y7, y8⟩ := hBx.out X (Below.refl _ _)
  have hlk := look_any all b d k.name X (row_bel hA hb0 (Nat.le_refl _)) hl
  have hgr := group_any p a3 a4 a5 a6 a7 c3 c4 c5 c6 c7 k.group X
  clear hA
  obtain ⟨R, hR⟩ : ∃ R, ckE p all k = R := ⟨_, rfl⟩
  rw [hR]
  unfold ckE at hR
  obtain ⟨E, hE⟩ : ∃ E, lkN all k.name = E := ⟨_, rfl⟩
  rw [hE] at hlk hR
  by_cases h0 : E = 0
  rotate_left
  · have h0' : ((E : Int) != 0) = true := by simp; omega
    rw [if_pos h0] at hR
    obtain rfl := hR
    clear hE h0 hgr
    go_enter Tryz.func28, Tryz.ntmps28
    go_wp2_with (go_at_call 26; refine hlk.mono ?_; rintro e w1 ⟨rfl, hw⟩; subst w1)
    go_ret
    exact ⟨rfl, hb0⟩
  subst h0
  rw [if_neg (by simp)] at hR
  clear hE
  cases hig : inG p k.group with
  | false =>
    rw [hig] at hgr hR
    rw [if_pos rfl] at hR
    obtain rfl := hR
    clear hig
    go_enter Tryz.func28, Tryz.ntmps28
    go_wp2_with (first | (go_at_call 26; refine hlk.mono ?_; rintro e w1 ⟨rfl, hw⟩; subst w1) | (go_at_call 63; refine hgr.mono ?_; rintro e w2 ⟨rfl, hb2⟩; obtain ⟨x0, x1, x2, x3, x4, x5, x6, y0, y1, y2, y3, y4, y5, y6, y7, y8⟩ := hBx.out _ hb2))
    go_ret
    exact ⟨rfl, belT hb0 hb2⟩
  | true =>
    rw [hig] at hgr hR
    rw [if_neg (by simp)] at hR
    clear hig
    by_cases t1 : k.text.length < 1
    · have g0 : (k.text.length : Int) < 1 := by omega
      rw [if_neg (by unfold txB; simp; omega)] at hR
      obtain rfl := hR
      go_enter Tryz.func28, Tryz.ntmps28
      go_wp2_with (first | (go_at_call 26; refine hlk.mono ?_; rintro e w1 ⟨rfl, hw⟩; subst w1) | (go_at_call 63; refine hgr.mono ?_; rintro e w2 ⟨rfl, hb2⟩; obtain ⟨x0, x1, x2, x3, x4, x5, x6, y0, y1, y2, y3, y4, y5, y6, y7, y8⟩ := hBx.out _ hb2))
      go_ret
      exact ⟨rfl, belT hb0 hb2⟩
    by_cases t40 : 40 < k.text.length
    · have g0 : ¬ (k.text.length : Int) < 1 := by omega
      have g1 : (40 : Int) < (k.text.length : Int) := by omega
      rw [if_neg (by unfold txB; simp; omega)] at hR
      obtain rfl := hR
      go_enter Tryz.func28, Tryz.ntmps28
      go_wp2_with (first | (go_at_call 26; refine hlk.mono ?_; rintro e w1 ⟨rfl, hw⟩; subst w1) | (go_at_call 63; refine hgr.mono ?_; rintro e w2 ⟨rfl, hb2⟩; obtain ⟨x0, x1, x2, x3, x4, x5, x6, y0, y1, y2, y3, y4, y5, y6, y7, y8⟩ := hBx.out _ hb2))
      go_ret
      exact ⟨rfl, belT hb0 hb2⟩
    have g0 : ¬ (k.text.length : Int) < 1 := by omega
    have g1 : ¬ (40 : Int) < (k.text.length : Int) := by omega
    have hRA : Hid (R = if k.text.all shwB then 0 else 61) := ⟨by rw [← hR]; unfold txB; rw [decide_eq_true (by omega), decide_eq_true (by omega), Bool.true_and, Bool.true_and]⟩
    clear hR
    have hxx := Hid.mk (fun i hi => index_any k.text i hi)
    go_enter Tryz.func28, Tryz.ntmps28
    go_wp2_with (first | (go_at_call 26; refine hlk.mono ?_; rintro e w1 ⟨rfl, hw⟩; subst w1) | (go_at_call 63; refine hgr.mono ?_; rintro e w2 ⟨rfl, hb2⟩; obtain ⟨x0, x1, x2, x3, x4, x5, x6, y0, y1, y2, y3, y4, y5, y6, y7, y8⟩ := hBx.out _ hb2))
    clear hgr hlk
    have hbX2 := hb2
    go_loopw [8] (fun iv wr => ∃ i : Nat, iv = .int .i64 (i : Int) ∧ i ≤ k.text.length ∧ Below X.heap.size X wr ∧ Hid (∀ j (h : j < k.text.length), j < i → shwB (k.text[j]) = true)) (fun iv _ => k.text.length - (intOf iv).toNat)
    case atStart => exact ⟨0, rfl, Nat.zero_le _, hbX2, ⟨fun j _ h => by omega⟩⟩
    case round =>
      clear x0 x1 x2 x3 x4 x5 x6 y0 y1 y2 y3 y4 y5 y6 y7 y8 hb2 hbX2
      obtain ⟨i, rfl, hi, hbw, hall⟩ := hrel
      obtain ⟨x0, x1, x2, x3, x4, x5, x6, y0, y1, y2, y3, y4, y5, y6, y7, y8⟩ := hBx.out _ hbw
      by_cases hlt : i < k.text.length
      · have hlt' : (i : Int) < (k.text.length : Int) := by omega
        have hi0 : (0 : Int) ≤ (i : Int) := by omega
        have hci := hxx.out i hlt
        have hst : Hid (shwB k.text[i] = true → ∀ j (h : j < k.text.length), j < i + 1 → shwB k.text[j] = true) := ⟨fun he j h hj => by
          by_cases hji : j < i
          · exact hall.out j h hji
          · obtain rfl : j = i := by omega
            exact he⟩
        have hno : Hid (shwB k.text[i] = false → R = 61) := ⟨fun he => by
          rw [hRA.out]
          cases hq : k.text.all shwB with
          | false => rfl
          | true =>
            have := List.all_eq_true.1 hq _ (List.getElem_mem hlt)
            rw [he] at this
            cases this⟩
        generalize k.text[i] = b at hci hst hno
        have hb := b.toNat_lt
        by_cases q0 : b.toNat < 32
        · have u0 : (b.toNat : Int) < 32 := by omega
          obtain rfl := hno.out (by unfold shwB; simp; omega)
          clear hst hno hall hRA q0
          go_wp2
          go_ret
          exact ⟨rfl, belT hb0 hbw⟩
        by_cases q1 : 126 < b.toNat
        · have u0 : ¬ (b.toNat : Int) < 32 := by omega
          have u1 : (126 : Int) < (b.toNat : Int) := by omega
          obtain rfl := hno.out (by unfold shwB; simp; omega)
          clear hst hno hall hRA q0 q1
          go_wp2
          go_ret
          exact ⟨rfl, belT hb0 hbw⟩
        · have u0 : ¬ (b.toNat : Int) < 32 := by omega
          have u1 : ¬ (126 : Int) < (b.toNat : Int) := by omega
          have hn2 := Hid.mk (hst.out (by unfold shwB; simp; omega))
          clear hst hno hall hRA q0 q1
          go_wp2
          exact ⟨⟨i + 1, rfl, hlt, hbw, hn2⟩, by simp only [intOf]; omega⟩
      · have hlt' : ¬ (i : Int) < (k.text.length : Int) := by omega
        obtain rfl : R = 0 := by
          rw [hRA.out, if_pos (List.all_eq_true.2 (fun a ha => by
            obtain ⟨j, hj, rfl⟩ := List.mem_iff_getElem.1 ha
            exact hall.out j hj (by omega)))]
        clear hall hRA
        go_wp2
        go_ret
        exact ⟨rfl, belT hb0 hbw⟩

end Go.Proofs.YtmklkcefbabhbaaGreat.R6


/- Clauses. -/
namespace Go.Proofs.YtmklkcefbabhbaaGreat.R6
open Go.RowKit

theorem all_pri {l : List Cl} {k : Nat} (hk : k ≤ l.length) (z : Int) : ((l.take k).drop 1).all (fun a => decide (a.pri ≠ z)) = true ↔ ∀ j (h : j < l.length), 1 ≤ j → j < k → (l[j]).pri ≠ z := by
  rw [List.all_eq_true]
  constructor
  · intro h j hj h1 h2
    have := h l[j] (List.mem_iff_getElem.2 ⟨j - 1, by rw [List.length_drop, List.length_take]; omega, by rw [List.getElem_drop, List.getElem_take]; congr 1; omega⟩)
    simpa using this
  · intro h x hx
    obtain ⟨j, hj, rfl⟩ := List.mem_iff_getElem.1 hx
    rw [List.length_drop, List.length_take] at hj
    rw [List.getElem_drop, List.getElem_take]
    simpa using h (1 + j) (by omega) (by omega) (by omega)
set_option maxRecDepth 20000 in
set_option maxHeartbeats 4000000 in
theorem clause_any (l : Ln) (a : Option Addr) (c k : Nat) (hk : k < l.cls.length) (hl : l.cls.length ≤ 1000000) (W : World) (hR : RowR eC W AnyB l.cls a) : Calls Tryz.prog 64 #[.agg #[.string ⟨l.name.toArray⟩, .bool l.input, .bool l.must, .int .i64 l.type, .int .i64 l.opts, .int .i64 l.group, .slice a l.cls.length c], .int .i64 (k : Int)] W (Lk (.bool (clB l.cls k l.cls[k])) W) := by
  obtain ⟨X, hXe⟩ : ∃ X, W.alloc (.cells #[.string ⟨l.name.toArray⟩, .bool l.input, .bool l.must, .int .i64 l.type, .int .i64 l.opts, .int .i64 l.group, .slice a l.cls.length c] 55) = X := ⟨_, rfl⟩
  have hb0 : Below W.heap.size W X := by rw [← hXe]; exact (Below.refl _ _).alloc (Nat.le_refl _) _
  have hXl : W.heap.size < X.heap.size := by rw [← hXe]; simp
  have hBx : Hid (∀ w, Below X.heap.size X w → w.cell? ⟨W.heap.size, 0, none⟩ = some (.string ⟨l.name.toArray⟩) ∧ w.cell? ⟨W.heap.size, 1, none⟩ = some (.bool l.input) ∧ w.cell? ⟨W.heap.size, 2, none⟩ = some (.bool l.must) ∧ w.cell? ⟨W.heap.size, 3, none⟩ = some (.int .i64 l.type) ∧ w.cell? ⟨W.heap.size, 4, none⟩ = some (.int .i64 l.opts) ∧ w.cell? ⟨W.heap.size, 5, none⟩ = some (.int .i64 l.group) ∧ w.cell? ⟨W.heap.size, 6, none⟩ = some (.slice a l.cls.length c)) := ⟨fun w hw => ⟨(bel_cell hw hXl 0).trans (by rw [← hXe]; simp), (bel_cell hw hXl 1).trans (by rw [← hXe]; simp), (bel_cell hw hXl 2).trans (by rw [← hXe]; simp), (bel_cell hw hXl 3).trans (by rw [← hXe]; simp), (bel_cell hw hXl 4).trans (by rw [← hXe]; simp), (bel_cell hw hXl 5).trans (by rw [← hXe]; simp), (bel_cell hw hXl 6).trans (by rw [← hXe]; simp)⟩⟩
  obtain ⟨x0, x1, x2, x3, x4, x5, x6⟩ := hBx.out X (Below.refl _ _)
  have hRX := row_bel hR hb0 (Nat.le_refl _)
  obtain ⟨ge, oe, rfl⟩ := hRX.some hk
  obtain ⟨cs, -, -, ⟨a1, c1, a2, c2, rfl, -⟩, hcs⟩ := hRX.item hk
  have hgl : ge < X.heap.size := by
    rcases hRX with h | ⟨g, o', cs, e, -, hg, -⟩
    · rw [h] at hk
      simp at hk
    · simp only [Option.some.injEq, Addr.mk.injEq] at e
      omega
  have hkX : Hid (∀ j (h : j < l.cls.length), X.cell? ⟨ge, oe + j * 12, none⟩ = some (.int .i64 (l.cls[j]).pri)) := ⟨fun j h => by
    obtain ⟨cs, -, -, ⟨_, _, _, _, rfl, -⟩, hcs⟩ := hRX.item h
    exact hcs 0 (by decide)⟩
  have k0 : X.cell? ⟨ge, oe + k * 12, none⟩ = some (.int .i64 l.cls[k].pri) := hcs 0 (by decide)
  have k1 : X.cell? ⟨ge, oe + k * 12 + 1, none⟩ = some (.bool l.cls[k].guarded) := hcs 1 (by decide)
  have k2 : X.cell? ⟨ge, oe + k * 12 + 2, none⟩ = some (.int .i64 l.cls[k].guard.op) := hcs 2 (by decide)
  have k3 : X.cell? ⟨ge, oe + k * 12 + 3, none⟩ = some (.int .i64 l.cls[k].guard.num) := hcs 3 (by decide)
  have k4 : X.cell? ⟨ge, oe + k * 12 + 4, none⟩ = some (.int .i64 l.cls[k].guard.den) := hcs 4 (by decide)
  have k5 : X.cell? ⟨ge, oe + k * 12 + 5, none⟩ = some (.int .i64 l.cls[k].guard.mode) := hcs 5 (by decide)
  have k6 : X.cell? ⟨ge, oe + k * 12 + 6, none⟩ = some (.slice a1 l.cls[k].guard.args.len c1) := hcs 6 (by decide)
  have k7 : X.cell? ⟨ge, oe + k * 12 + 7, none⟩ = some (.int .i64 l.cls[k].body.op) := hcs 7 (by decide)
  have k8 : X.cell? ⟨ge, oe + k * 12 + 8, none⟩ = some (.int .i64 l.cls[k].body.num) := hcs 8 (by decide)
  have k9 : X.cell? ⟨ge, oe + k * 12 + 9, none⟩ = some (.int .i64 l.cls[k].body.den) := hcs 9 (by decide)
  have k10 : X.cell? ⟨ge, oe + k * 12 + 10, none⟩ = some (.int .i64 l.cls[k].body.mode) := hcs 10 (by decide)
  have k11 : X.cell? ⟨ge, oe + k * 12 + 11, none⟩ = some (.slice a2 l.cls[k].body.args.len c2) := hcs 11 (by decide)
  have hlk : (k : Int) < (l.cls.length : Int) := by omega
  have hk0 : (0 : Int) ≤ (k : Int) := by omega
  clear hcs hR
  obtain ⟨Y, hYe⟩ : ∃ Y, X.alloc (.cells #[.int .i64 l.cls[k].pri, .bool l.cls[k].guarded, .int .i64 l.cls[k].guard.op, .int .i64 l.cls[k].guard.num, .int .i64 l.cls[k].guard.den, .int .i64 l.cls[k].guard.mode, .slice a1 l.cls[k].guard.args.len c1, .int .i64 l.cls[k].body.op, .int .i64 l.cls[k].body.num, .int .i64 l.cls[k].body.den, .int .i64 l.cls[k].body.mode, .slice a2 l.cls[k].body.args.len c2] 61) = Y := ⟨_, rfl⟩
  have hbY : Below X.heap.size X Y := by rw [← hYe]; exact (Below.refl _ _).alloc (Nat.le_refl _) _
  have hYl : X.heap.size < Y.heap.size := by rw [← hYe]; simp
  have hBy : Hid (∀ w, Below Y.heap.size Y w → w.cell? ⟨X.heap.size, 0, none⟩ = some (.int .i64 l.cls[k].pri) ∧ w.cell? ⟨X.heap.size, 1, none⟩ = some (.bool l.cls[k].guarded) ∧ w.cell? ⟨X.heap.size, 2, none⟩ = some (.int .i64 l.cls[k].guard.op) ∧ w.cell? ⟨X.heap.size, 3, none⟩ = some (.int .i64 l.cls[k].guard.num) ∧ w.cell? ⟨X.heap.size, 4, none⟩ = some (.int .i64 l.cls[k].guard.den) ∧ w.cell? ⟨X.heap.size, 5, none⟩ = some (.int .i64 l.cls[k].guard.mode) ∧ w.cell? ⟨X.heap.size, 6, none⟩ = some (.slice a1 l.cls[k].guard.args.len c1)) := ⟨fun w hw => ⟨(bel_cell hw hYl 0).trans (by rw [← hYe]; simp), (bel_cell hw hYl 1).trans (by rw [← hYe]; simp), (bel_cell hw hYl 2).trans (by rw [← hYe]; simp), (bel_cell hw hYl 3).trans (by rw [← hYe]; simp), (bel_cell hw hYl 4).trans (by rw [← hYe]; simp), (bel_cell hw hYl 5).trans (by rw [← hYe]; simp), (bel_cell hw hYl 6).trans (by rw [← hYe]; simp)⟩⟩
  obtain ⟨y0, y1, y2, y3, y4, y5, y6⟩ := hBy.out Y (Below.refl _ _)
  have hbWY := belT hb0 hbY
  obtain ⟨R, hRr⟩ : ∃ R, clB l.cls k l.cls[k] = R := ⟨_, rfl⟩
  rw [hRr]
  have hzc := zero_any (l.cls[k]).guard a1 c1 Y
  have hci : Hid (∀ z, l.cls[k].pri = z → ((((l.cls.take k).drop 1).all (fun a => decide (a.pri ≠ z))) = true ↔ ∀ j (h : j < l.cls.length), 1 ≤ j → j < k → (l.cls[j]).pri ≠ z)) := ⟨fun z _ => all_pri (by omega) z⟩
  have hRh : Hid (clB l.cls k l.cls[k] = R) := ⟨hRr⟩
  unfold clB at hRr
  generalize l.cls[k] = q at *
  by_cases hz : k = 0
  · have e0 : ((k : Int) == 0) = true := by simp; omega
    rw [if_pos hz] at hRr
    clear hz hkX
    by_cases hp : q.pri = 0
    rotate_left
    · have p0 : (q.pri == 0) = false := by simp; omega
      obtain rfl : R = false := by rw [← hRr]; simp [hp]
      clear hRr hRh hci hp hzc
      go_enter Tryz.func64, Tryz.ntmps64
      go_wp2
      go_ret
      exact ⟨rfl, hbWY⟩
    have p0 : (q.pri == 0) = true := by simp; omega
    rw [decide_eq_true hp, Bool.true_and] at hRr
    cases hg : q.guarded with
    | true =>
      obtain rfl : R = false := by rw [← hRr]; simp [hg]
      rw [hg] at y1 k1 hYe
      clear hRr hRh hci hp hzc hg
      go_enter Tryz.func64, Tryz.ntmps64
      go_wp2
      go_ret
      exact ⟨rfl, hbWY⟩
    | false =>
      obtain rfl : R = zrB q.guard := by rw [← hRr]; simp [hg]
      rw [hg] at y1 k1 hYe
      clear hRr hRh hci hp hg
      go_enter Tryz.func64, Tryz.ntmps64
      go_wp2_with (go_at_call 89; refine hzc.mono ?_; rintro e w1 ⟨rfl, hb1⟩)
      go_ret
      exact ⟨rfl, belT hbWY hb1⟩
  · have e0 : ((k : Int) == 0) = false := by simp; omega
    rw [if_neg hz] at hRr
    clear hzc
    cases hg : q.guarded with
    | false =>
      obtain rfl : R = false := by rw [← hRr]; simp [hg]
      rw [hg] at y1 k1 hYe
      clear hRr hRh hci hg hkX
      go_enter Tryz.func64, Tryz.ntmps64
      go_wp2
      go_ret
      exact ⟨rfl, hbWY⟩
    | true =>
      rw [hg] at y1 k1 hYe hRr
      by_cases hp1 : q.pri < 1
      · obtain rfl : R = false := by rw [← hRr]; simp; omega
        clear hRr hRh hci hg hkX
        go_enter Tryz.func64, Tryz.ntmps64
        go_wp2
        go_ret
        exact ⟨rfl, hbWY⟩
      by_cases hp9 : 9 < q.pri
      · obtain rfl : R = false := by rw [← hRr]; simp; omega
        clear hRr hRh hci hg hkX
        go_enter Tryz.func64, Tryz.ntmps64
        go_wp2
        go_ret
        exact ⟨rfl, hbWY⟩
      have hRA : Hid (R = ((l.cls.take k).drop 1).all (fun a => decide (a.pri ≠ q.pri))) := ⟨by rw [← hRr, decide_eq_true (by omega), decide_eq_true (by omega), Bool.true_and, Bool.true_and, Bool.true_and]⟩
      have hcj := Hid.mk (hci.out q.pri rfl)
      clear hRr hRh hci hg
      have hsY : Hid (∀ w, Below Y.heap.size Y w → w.cell? ⟨W.heap.size, 6, none⟩ = some (.slice (some ⟨ge, oe, none⟩) l.cls.length c) ∧ w.cell? ⟨X.heap.size, 0, none⟩ = some (.int .i64 q.pri) ∧ ∀ j (h : j < l.cls.length), w.cell? ⟨ge, oe + j * 12, none⟩ = some (.int .i64 (l.cls[j]).pri)) := ⟨fun w hw => ⟨(hBx.out w (belT hbY hw)).2.2.2.2.2.2, (hBy.out w hw).1, fun j h => (bel_cell (belT hbY hw) hgl _).trans (hkX.out j h)⟩⟩
      clear hkX
      go_enter Tryz.func64, Tryz.ntmps64

      go_wp2
      go_loopw [6] (fun iv wr => ∃ i : Nat, iv = .int .i64 (i : Int) ∧ 1 ≤ i ∧ i ≤ k ∧ Below Y.heap.size Y wr ∧ Hid (∀ j (h : j < l.cls.length), 1 ≤ j → j < i → (l.cls[j]).pri ≠ q.pri)) (fun iv _ => k - (intOf iv).toNat)
      case atStart => exact ⟨1, rfl, Nat.le_refl _, by omega, Below.refl _ _, ⟨fun j _ h1 h2 => by omega⟩⟩
      case round =>
        clear y0 y1 y2 y3 y4 y5 y6 x0 x1 x2 x3 x4 x5 x6
        obtain ⟨i, rfl, hi1, hi, hbw, hall⟩ := hrel
        obtain ⟨s6, s0, sp⟩ := hsY.out _ hbw
        by_cases hlt : i < k
        · have hlt' : (i : Int) < (k : Int) := by omega
          have hi0 : (0 : Int) ≤ (i : Int) := by omega
          have hil : (i : Int) < (l.cls.length : Int) := by omega
          have hil' : i < l.cls.length := by omega
          have si := sp i hil'
          have hnx : Hid (l.cls[i].pri ≠ q.pri → ∀ j (h : j < l.cls.length), 1 ≤ j → j < i + 1 → (l.cls[j]).pri ≠ q.pri) := ⟨fun he j h h1 h2 => by
            by_cases hji : j < i
            · exact hall.out j h h1 hji
            · obtain rfl : j = i := by omega
              exact he⟩
          have hno : Hid (l.cls[i].pri = q.pri → R = false) := ⟨fun he => by
            rw [hRA.out]
            cases hq : ((l.cls.take k).drop 1).all (fun a => decide (a.pri ≠ q.pri)) with
            | false => rfl
            | true => exact absurd he (hcj.out.1 hq i hil' hi1 hlt)⟩
          generalize (l.cls[i]).pri = z at si hnx hno
          clear sp hall
          have hbq := Hid.mk (fun n => belT hbw (drew_below wr n))
          by_cases he : z = q.pri
          · obtain rfl := hno.out he
            have ez : (z == q.pri) = true := by simp; omega
            clear he hnx hno hRA hcj
            go_upto_region 9 with fail
            go_quiet (fail)
            have hbn := hbq.out nq
            clear hbq
            go_wp2
            go_ret
            exact ⟨rfl, belT hbWY hbn⟩
          · have ez : (z == q.pri) = false := by simp; omega
            have hn2 := Hid.mk (hnx.out he)
            clear he hnx hno hRA hcj
            go_upto_region 9 with fail
            go_quiet (fail)
            have hbn := hbq.out nq
            clear hbq
            go_wp2
            exact ⟨⟨i + 1, rfl, by omega, hlt, hbn, hn2⟩, by simp only [intOf]; omega⟩
        · have hlt' : ¬ (i : Int) < (k : Int) := by omega
          obtain rfl : R = true := by
            rw [hRA.out]
            exact hcj.out.2 (fun j h h1 h2 => hall.out j h h1 (by omega))
          clear hall hRA hcj
          go_wp2
          go_ret
          exact ⟨rfl, belT hbWY hbw⟩

end Go.Proofs.YtmklkcefbabhbaaGreat.R6

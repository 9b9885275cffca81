import Derived.Test.YthnmjafoplfikaaGreatDoorTurnYL1
namespace Go.Proofs.YthnmjafoplfikaaGreatDoor
open Go.RowKit

set_option maxRecDepth 20000 in
theorem lineKind_any (l : Ln) (al : Option Addr) (cl : Nat) (W : World) : Calls Tryz.prog 115 #[.agg #[.string ⟨l.name.toArray⟩, .bool l.input, .bool l.must, .int .i64 l.type, .int .i64 l.opts, .int .i64 l.group, .slice al l.cls.length cl]] W (Lk (.agg #[.int .i64 (lineK l).1, .int .i64 (lineK l).2]) W) := by
  obtain ⟨k, hk⟩ : ∃ k, k = lineK l := ⟨_, rfl⟩
  have hB : ∀ W', Below (W.alloc (.cells #[.string ⟨l.name.toArray⟩, .bool l.input, .bool l.must, .int .i64 l.type, .int .i64 l.opts, .int .i64 l.group, .slice al l.cls.length cl] 78)).heap.size (W.alloc (.cells #[.string ⟨l.name.toArray⟩, .bool l.input, .bool l.must, .int .i64 l.type, .int .i64 l.opts, .int .i64 l.group, .slice al l.cls.length cl] 78)) W' → Below W.heap.size W W' := fun W' h => Below.tr ((Below.refl _ _).alloc (Nat.le_refl _) _) h (by simp)
  rw [← hk]
  by_cases h : l.type = 5
  · have h' : (l.type == 5) = true := by simp [h]
    rw [lineK, if_pos h] at hk
    subst hk
    have hfin := hB ((W.alloc (.cells #[.string ⟨l.name.toArray⟩, .bool l.input, .bool l.must, .int .i64 l.type, .int .i64 l.opts, .int .i64 l.group, .slice al l.cls.length cl] 78)).alloc (.cells #[.int .i64 5, .int .i64 l.opts] 163)) ((Below.refl _ _).alloc (Nat.le_refl _) _)
    clear hB
    rw [h] at hfin ⊢
    clear h h'
    go_enter Tryz.func115, Tryz.ntmps115
    go_wp2
    exact bodyPost_ret (v := .agg #[.int .i64 5, .int .i64 l.opts]) (by simp [results, Tryz.results115, go_sem]) rfl ⟨rfl, hfin⟩
  · have h' : (l.type == 5) = false := by simp [h]
    rw [lineK, if_neg h] at hk
    subst hk
    clear h
    go_enter Tryz.func115, Tryz.ntmps115
    go_wp2_with (go_at_call 114; refine (plain_any _ _).mono ?_; rintro e w1 ⟨rfl, rfl⟩)
    exact bodyPost_ret (v := .agg #[.int .i64 l.type, .int .i64 (-1)]) (by simp [results, Tryz.results115, go_sem]) rfl ⟨rfl, hB _ (((Below.refl _ _).alloc (Nat.le_refl _) _).alloc (by simp) _)⟩
set_option maxRecDepth 20000 in
set_option maxHeartbeats 1000000 in
theorem hasOption_any (p : Pk) (a3 a4 a5 a6 a7 : Option Addr) (c3 c4 c5 c6 c7 : Nat) (t n : Int) (W : World) (hR : RowR eO W AnyB p.opts a3) : Calls Tryz.prog 30 #[.agg #[.string ⟨p.name.toArray⟩, .int .i64 p.year, .slice a3 p.opts.length c3, .slice a4 p.tabs.length c4, .slice a5 p.grps.length c5, .slice a6 p.lns.length c6, .slice a7 p.cks.length c7], .int .i64 t, .int .i64 n] W (Lk (.bool (match at? p.opts t with | some o => (at? o.2 n).isSome | none => false)) W) := by
  obtain ⟨r, hr⟩ : ∃ r, r = (match at? p.opts t with | some o => (at? o.2 n).isSome | none => false) := ⟨_, rfl⟩
  obtain ⟨W1, hW1⟩ : ∃ W1, W1 = W.alloc (.cells #[.string ⟨p.name.toArray⟩, .int .i64 p.year, .slice a3 p.opts.length c3, .slice a4 p.tabs.length c4, .slice a5 p.grps.length c5, .slice a6 p.lns.length c6, .slice a7 p.cks.length c7] 28) := ⟨_, rfl⟩
  have hB0 : Below W.heap.size W W1 := by rw [hW1]; exact (Below.refl _ _).alloc (Nat.le_refl _) _
  have hs1 : W1.heap.size = W.heap.size + 1 := by rw [hW1]; simp
  have hp := (bx_new W #[.string ⟨p.name.toArray⟩, .int .i64 p.year, .slice a3 p.opts.length c3, .slice a4 p.tabs.length c4, .slice a5 p.grps.length c5, .slice a6 p.lns.length c6, .slice a7 p.cks.length c7] 28)
  rw [← hW1] at hp
  have hB : ∀ W', Below W1.heap.size W1 W' → Below W.heap.size W W' := fun W' h => Below.tr hB0 h (by omega)
  rw [← hr]
  by_cases hin : 0 ≤ t ∧ t < p.opts.length
  · have hh : ∀ X, Calls Tryz.prog 25 #[.slice a3 p.opts.length c3, .int .i64 t] X (Lk (.bool true) X) := fun X => by
      have := has_opt a3 p.opts.length c3 t X
      rwa [decide_eq_true hin.1, decide_eq_true hin.2] at this
    obtain ⟨i, rfl⟩ := Int.eq_ofNat_of_zero_le hin.1
    have hi : i < p.opts.length := by omega
    rw [at?_some hin.1 hin.2] at hr
    simp only [Int.toNat_natCast] at hr
    have hR1 := row_bel hR hB0 (Nat.le_refl _)
    obtain ⟨g, o, rfl⟩ := hR1.some hi
    have hC : ∀ w1, Below W1.heap.size W1 w1 → w1.cell? ⟨W.heap.size, 2, none⟩ = some (.slice (some ⟨g, o, none⟩) p.opts.length c3) ∧ ∃ a cap, w1.cell? ⟨g, o + i * 2 + 1, none⟩ = some (.slice a (p.opts[i]).2.length cap) := fun w1 h1 => by
      obtain ⟨cs, -, -, ⟨a, cap, rfl, -⟩, hc⟩ := (row_bel hR1 h1 (Nat.le_refl _)).item hi
      exact ⟨(bel_cell h1 (by omega) 2).trans (hp.2.1 2 (by simp)), a, cap, hc 1 (by decide)⟩
    have hi0 : (0 : Int) ≤ (i : Int) := hin.1
    have hi1 : (i : Int) < (p.opts.length : Int) := hin.2
    have hh2 : ∀ a cap X, Calls Tryz.prog 69 #[.slice a (p.opts[i]).2.length cap, .int .i64 n] X (Lk (.bool r) X) := fun a cap X => by
      have := has_str a (p.opts[i]).2.length cap n X
      rwa [← at?_is, ← hr] at this
    generalize (p.opts[i]).2.length = m at hC hh2
    have hr' := Hid.mk hr
    have hB := Hid.mk hB
    have hsz := Hid.mk hs1
    have c2 := (hC W1 (Below.refl _ _)).1
    subst hW1
    clear hr hin hR hR1 hp hB0 hs1 hr'
    go_enter Tryz.func30, Tryz.ntmps30
    go_wp2_with (first | (go_at_call 25; refine (hh _).mono ?_; clear hh; rintro e w1 ⟨rfl, hb1⟩; obtain ⟨k1, a8, c8, k2⟩ := hC w1 hb1) | (go_at_call 69; refine (hh2 _ _ _).mono ?_; clear hh2; rintro e w2 ⟨rfl, hb2⟩))
    go_ret
    exact ⟨rfl, hB.out _ (hb1.trans ⟨hb2.os, hb2.tape, hb2.output, hb2.size, fun b hb => hb2.block b (Nat.lt_of_lt_of_le hb hb1.size)⟩)⟩
  · have hh : ∀ X, Calls Tryz.prog 25 #[.slice a3 p.opts.length c3, .int .i64 t] X (Lk (.bool false) X) := fun X => by
      have := has_opt a3 p.opts.length c3 t X
      rwa [← at?_is, at?_none hin] at this
    rw [at?_none hin] at hr
    subst hr
    subst hW1
    clear hin hR hp hB0
    go_enter Tryz.func30, Tryz.ntmps30
    go_wp2_with (go_at_call 25; refine (hh _).mono ?_; clear hh; rintro e w1 ⟨rfl, hb1⟩)
    go_ret
    exact ⟨rfl, hB _ hb1⟩
end Go.Proofs.YthnmjafoplfikaaGreatDoor

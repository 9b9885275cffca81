import Derived.Test.YthnmjafoplfikaaGreatDoorTurnYL2
namespace Go.Proofs.YthnmjafoplfikaaGreatDoor
open Go.RowKit

theorem bthr {n : Nat} {W X Y : World} (h : Below n W X) (k : Below X.heap.size X Y) (hn : n ≤ W.heap.size) : Below n W Y := Below.tr h k (Nat.le_trans hn h.size)
set_option maxRecDepth 20000 in
set_option maxHeartbeats 1000000 in
theorem findsGroup_any (p : Pk) (g : Int) (x : Ex) (a3 a4 a5 a6 a7 : Option Addr) (c3 c4 c5 c6 c7 : Nat) (ax : Option Addr) (cx : Nat) (W : World) : Calls Tryz.prog 94 #[.agg #[.string ⟨p.name.toArray⟩, .int .i64 p.year, .slice a3 p.opts.length c3, .slice a4 p.tabs.length c4, .slice a5 p.grps.length c5, .slice a6 p.lns.length c6, .slice a7 p.cks.length c7, .int .i64 g], .agg #[.int .i64 x.op, .int .i64 x.num, .int .i64 x.den, .int .i64 x.mode, .slice ax x.args.len cx]] W (Lk (.bool ((at? p.grps x.num).isSome)) W) := by
  have hB0 : Below W.heap.size W ((W.alloc (.cells #[.string ⟨p.name.toArray⟩, .int .i64 p.year, .slice a3 p.opts.length c3, .slice a4 p.tabs.length c4, .slice a5 p.grps.length c5, .slice a6 p.lns.length c6, .slice a7 p.cks.length c7, .int .i64 g] 159)).alloc (.cells #[.int .i64 x.op, .int .i64 x.num, .int .i64 x.den, .int .i64 x.mode, .slice ax x.args.len cx] 73)) := ((Below.refl _ _).alloc (Nat.le_refl _) _).alloc (by simp) _
  rw [at?_is]
  obtain ⟨r, hr⟩ : ∃ r, r = (Value.bool (decide (0 ≤ x.num) && decide (x.num < p.grps.length))) := ⟨_, rfl⟩
  have hh := has_grp a5 p.grps.length c5 x.num ((W.alloc (.cells #[.string ⟨p.name.toArray⟩, .int .i64 p.year, .slice a3 p.opts.length c3, .slice a4 p.tabs.length c4, .slice a5 p.grps.length c5, .slice a6 p.lns.length c6, .slice a7 p.cks.length c7, .int .i64 g] 159)).alloc (.cells #[.int .i64 x.op, .int .i64 x.num, .int .i64 x.den, .int .i64 x.mode, .slice ax x.args.len cx] 73))
  rw [← hr] at hh ⊢
  clear hr
  go_enter Tryz.func94, Tryz.ntmps94
  go_wp2_with (go_at_call 70; refine hh.mono ?_; clear hh; rintro e w1 ⟨rfl, hb1⟩)
  go_ret
  exact ⟨rfl, bthr hB0 hb1 (Nat.le_refl _)⟩
set_option maxRecDepth 20000 in
set_option maxHeartbeats 1000000 in
theorem findsTable_any (p : Pk) (g : Int) (x : Ex) (a3 a4 a5 a6 a7 : Option Addr) (c3 c4 c5 c6 c7 : Nat) (ax : Option Addr) (cx : Nat) (W : World) : Calls Tryz.prog 95 #[.agg #[.string ⟨p.name.toArray⟩, .int .i64 p.year, .slice a3 p.opts.length c3, .slice a4 p.tabs.length c4, .slice a5 p.grps.length c5, .slice a6 p.lns.length c6, .slice a7 p.cks.length c7, .int .i64 g], .agg #[.int .i64 x.op, .int .i64 x.num, .int .i64 x.den, .int .i64 x.mode, .slice ax x.args.len cx]] W (Lk (.bool ((at? p.tabs x.num).isSome)) W) := by
  have hB0 : Below W.heap.size W ((W.alloc (.cells #[.string ⟨p.name.toArray⟩, .int .i64 p.year, .slice a3 p.opts.length c3, .slice a4 p.tabs.length c4, .slice a5 p.grps.length c5, .slice a6 p.lns.length c6, .slice a7 p.cks.length c7, .int .i64 g] 159)).alloc (.cells #[.int .i64 x.op, .int .i64 x.num, .int .i64 x.den, .int .i64 x.mode, .slice ax x.args.len cx] 73)) := ((Below.refl _ _).alloc (Nat.le_refl _) _).alloc (by simp) _
  rw [at?_is]
  obtain ⟨r, hr⟩ : ∃ r, r = (Value.bool (decide (0 ≤ x.num) && decide (x.num < p.tabs.length))) := ⟨_, rfl⟩
  have hh := has_tab a4 p.tabs.length c4 x.num ((W.alloc (.cells #[.string ⟨p.name.toArray⟩, .int .i64 p.year, .slice a3 p.opts.length c3, .slice a4 p.tabs.length c4, .slice a5 p.grps.length c5, .slice a6 p.lns.length c6, .slice a7 p.cks.length c7, .int .i64 g] 159)).alloc (.cells #[.int .i64 x.op, .int .i64 x.num, .int .i64 x.den, .int .i64 x.mode, .slice ax x.args.len cx] 73))
  rw [← hr] at hh ⊢
  clear hr
  go_enter Tryz.func95, Tryz.ntmps95
  go_wp2_with (go_at_call 123; refine hh.mono ?_; clear hh; rintro e w1 ⟨rfl, hb1⟩)
  go_ret
  exact ⟨rfl, bthr hB0 hb1 (Nat.le_refl _)⟩
set_option maxRecDepth 20000 in
set_option maxHeartbeats 1000000 in
theorem findsOption_any (p : Pk) (g : Int) (x : Ex) (a3 a4 a5 a6 a7 : Option Addr) (c3 c4 c5 c6 c7 : Nat) (ax : Option Addr) (cx : Nat) (W : World) (hR : RowR eO W AnyB p.opts a3) : Calls Tryz.prog 89 #[.agg #[.string ⟨p.name.toArray⟩, .int .i64 p.year, .slice a3 p.opts.length c3, .slice a4 p.tabs.length c4, .slice a5 p.grps.length c5, .slice a6 p.lns.length c6, .slice a7 p.cks.length c7, .int .i64 g], .agg #[.int .i64 x.op, .int .i64 x.num, .int .i64 x.den, .int .i64 x.mode, .slice ax x.args.len cx]] W (Lk (.bool (findB p g x .opt)) W) := by
  have hB0 : Below W.heap.size W ((W.alloc (.cells #[.string ⟨p.name.toArray⟩, .int .i64 p.year, .slice a3 p.opts.length c3, .slice a4 p.tabs.length c4, .slice a5 p.grps.length c5, .slice a6 p.lns.length c6, .slice a7 p.cks.length c7, .int .i64 g] 159)).alloc (.cells #[.int .i64 x.op, .int .i64 x.num, .int .i64 x.den, .int .i64 x.mode, .slice ax x.args.len cx] 73)) := ((Below.refl _ _).alloc (Nat.le_refl _) _).alloc (by simp) _
  obtain ⟨r, hr⟩ : ∃ r, r = (Value.bool (findB p g x .opt)) := ⟨_, rfl⟩
  have hh := hasOption_any p a3 a4 a5 a6 a7 c3 c4 c5 c6 c7 x.den x.num ((W.alloc (.cells #[.string ⟨p.name.toArray⟩, .int .i64 p.year, .slice a3 p.opts.length c3, .slice a4 p.tabs.length c4, .slice a5 p.grps.length c5, .slice a6 p.lns.length c6, .slice a7 p.cks.length c7, .int .i64 g] 159)).alloc (.cells #[.int .i64 x.op, .int .i64 x.num, .int .i64 x.den, .int .i64 x.mode, .slice ax x.args.len cx] 73)) (row_bel hR hB0 (Nat.le_refl _))
  have hh : Calls Tryz.prog 30 #[.agg #[.string ⟨p.name.toArray⟩, .int .i64 p.year, .slice a3 p.opts.length c3, .slice a4 p.tabs.length c4, .slice a5 p.grps.length c5, .slice a6 p.lns.length c6, .slice a7 p.cks.length c7], .int .i64 x.den, .int .i64 x.num] ((W.alloc (.cells #[.string ⟨p.name.toArray⟩, .int .i64 p.year, .slice a3 p.opts.length c3, .slice a4 p.tabs.length c4, .slice a5 p.grps.length c5, .slice a6 p.lns.length c6, .slice a7 p.cks.length c7, .int .i64 g] 159)).alloc (.cells #[.int .i64 x.op, .int .i64 x.num, .int .i64 x.den, .int .i64 x.mode, .slice ax x.args.len cx] 73)) (Lk r ((W.alloc (.cells #[.string ⟨p.name.toArray⟩, .int .i64 p.year, .slice a3 p.opts.length c3, .slice a4 p.tabs.length c4, .slice a5 p.grps.length c5, .slice a6 p.lns.length c6, .slice a7 p.cks.length c7, .int .i64 g] 159)).alloc (.cells #[.int .i64 x.op, .int .i64 x.num, .int .i64 x.den, .int .i64 x.mode, .slice ax x.args.len cx] 73))) := by rw [hr]; exact hh
  rw [← hr]
  clear hr hR
  go_enter Tryz.func89, Tryz.ntmps89
  go_wp2_with (go_at_call 30; refine hh.mono ?_; clear hh; rintro e w1 ⟨rfl, hb1⟩)
  go_ret
  exact ⟨rfl, bthr hB0 hb1 (Nat.le_refl _)⟩
set_option maxRecDepth 20000 in
set_option maxHeartbeats 2000000 in
theorem findsLine_any (p : Pk) (g : Int) (x : Ex) (a3 a4 a5 a6 a7 : Option Addr) (c3 c4 c5 c6 c7 : Nat) (ax : Option Addr) (cx : Nat) (W : World) (hR : RowR eL W AnyB p.lns a6) : Calls Tryz.prog 91 #[.agg #[.string ⟨p.name.toArray⟩, .int .i64 p.year, .slice a3 p.opts.length c3, .slice a4 p.tabs.length c4, .slice a5 p.grps.length c5, .slice a6 p.lns.length c6, .slice a7 p.cks.length c7, .int .i64 g], .agg #[.int .i64 x.op, .int .i64 x.num, .int .i64 x.den, .int .i64 x.mode, .slice ax x.args.len cx]] W (Lk (.bool (findB p g x .line)) W) := by
  obtain ⟨r, hr⟩ : ∃ r, r = findB p g x .line := ⟨_, rfl⟩
  obtain ⟨W2, hW2⟩ : ∃ W2, W2 = ((W.alloc (.cells #[.string ⟨p.name.toArray⟩, .int .i64 p.year, .slice a3 p.opts.length c3, .slice a4 p.tabs.length c4, .slice a5 p.grps.length c5, .slice a6 p.lns.length c6, .slice a7 p.cks.length c7, .int .i64 g] 159)).alloc (.cells #[.int .i64 x.op, .int .i64 x.num, .int .i64 x.den, .int .i64 x.mode, .slice ax x.args.len cx] 73)) := ⟨_, rfl⟩
  have hB0 : Below W.heap.size W W2 := by rw [hW2]; exact ((Below.refl _ _).alloc (Nat.le_refl _) _).alloc (by simp) _
  have hs2 : W2.heap.size = W.heap.size + 1 + 1 := by rw [hW2]; simp
  have hps := (bx_new W #[.string ⟨p.name.toArray⟩, .int .i64 p.year, .slice a3 p.opts.length c3, .slice a4 p.tabs.length c4, .slice a5 p.grps.length c5, .slice a6 p.lns.length c6, .slice a7 p.cks.length c7, .int .i64 g] 159).kept (World.grownBy_alloc (W.alloc (.cells #[.string ⟨p.name.toArray⟩, .int .i64 p.year, .slice a3 p.opts.length c3, .slice a4 p.tabs.length c4, .slice a5 p.grps.length c5, .slice a6 p.lns.length c6, .slice a7 p.cks.length c7, .int .i64 g] 159)) (.cells #[.int .i64 x.op, .int .i64 x.num, .int .i64 x.den, .int .i64 x.mode, .slice ax x.args.len cx] 73) none) (by simp)
  have hpx := bx_new (W.alloc (.cells #[.string ⟨p.name.toArray⟩, .int .i64 p.year, .slice a3 p.opts.length c3, .slice a4 p.tabs.length c4, .slice a5 p.grps.length c5, .slice a6 p.lns.length c6, .slice a7 p.cks.length c7, .int .i64 g] 159)) #[.int .i64 x.op, .int .i64 x.num, .int .i64 x.den, .int .i64 x.mode, .slice ax x.args.len cx] 73
  rw [show (W.alloc (.cells #[.string ⟨p.name.toArray⟩, .int .i64 p.year, .slice a3 p.opts.length c3, .slice a4 p.tabs.length c4, .slice a5 p.grps.length c5, .slice a6 p.lns.length c6, .slice a7 p.cks.length c7, .int .i64 g] 159)).heap.size = W.heap.size + 1 by simp] at hpx
  rw [← hW2] at hps hpx
  rw [← hr]
  by_cases hin : 0 ≤ x.num ∧ x.num < p.lns.length
  · have hh : ∀ X, Calls Tryz.prog 27 #[.slice a6 p.lns.length c6, .int .i64 x.num] X (Lk (.bool true) X) := fun X => by
      have := has_lns a6 p.lns.length c6 x.num X
      rwa [decide_eq_true hin.1, decide_eq_true hin.2] at this
    obtain ⟨i, hi'⟩ := Int.eq_ofNat_of_zero_le hin.1
    have hi : i < p.lns.length := by omega
    unfold findB at hr
    rw [at?_some hin.1 hin.2] at hr
    simp only [hi', Int.toNat_natCast] at hr
    have hR1 := row_bel hR hB0 (Nat.le_refl _)
    obtain ⟨gl, o, rfl⟩ := hR1.some hi
    have hC : ∀ w1, Below W2.heap.size W2 w1 → (w1.cell? ⟨W.heap.size, 5, none⟩ = some (.slice (some ⟨gl, o, none⟩) p.lns.length c6) ∧ w1.cell? ⟨W.heap.size, 7, none⟩ = some (.int .i64 g) ∧ w1.cell? ⟨W.heap.size + 1, 1, none⟩ = some (.int .i64 (i : Int)) ∧ W.heap.size < w1.heap.size) ∧ ∃ al cl, w1.cell? ⟨gl, o + i * 7, none⟩ = some (.string ⟨(p.lns[i]).name.toArray⟩) ∧ w1.cell? ⟨gl, o + i * 7 + 1, none⟩ = some (.bool (p.lns[i]).input) ∧ w1.cell? ⟨gl, o + i * 7 + 2, none⟩ = some (.bool (p.lns[i]).must) ∧ w1.cell? ⟨gl, o + i * 7 + 3, none⟩ = some (.int .i64 (p.lns[i]).type) ∧ w1.cell? ⟨gl, o + i * 7 + 4, none⟩ = some (.int .i64 (p.lns[i]).opts) ∧ w1.cell? ⟨gl, o + i * 7 + 5, none⟩ = some (.int .i64 (p.lns[i]).group) ∧ w1.cell? ⟨gl, o + i * 7 + 6, none⟩ = some (.slice al (p.lns[i]).cls.length cl) := fun w1 h1 => by
      obtain ⟨cs, -, -, ⟨al, cl, rfl, -⟩, hc⟩ := (row_bel hR1 h1 (Nat.le_refl _)).item hi
      refine ⟨⟨(bel_cell h1 (by omega) 5).trans (hps.2.1 5 (by simp)), (bel_cell h1 (by omega) 7).trans (hps.2.1 7 (by simp)), (bel_cell h1 (by omega) 1).trans (by rw [← hi']; exact hpx.2.1 1 (by simp)), by have := h1.size; omega⟩, al, cl, hc 0 (by decide), hc 1 (by decide), hc 2 (by decide), hc 3 (by decide), hc 4 (by decide), hc 5 (by decide), hc 6 (by decide)⟩
    have hi0 : (0 : Int) ≤ (i : Int) := by omega
    have hi1 : (i : Int) < (p.lns.length : Int) := by omega
    have hfin : ∀ w1 W', Below W2.heap.size W2 w1 → Below w1.heap.size w1 W' → Lk (.bool r) W (.returned (.bool r)) W' := fun w1 W' h1 h2 => ⟨rfl, bthr (bthr hB0 h1 (Nat.le_refl _)) h2 (Nat.le_refl _)⟩
    generalize p.lns[i] = l at hC hr
    clear hin
    rw [hi'] at hh hW2 ⊢
    subst hW2
    clear hi' hR hR1 hps hpx hB0 hs2 hi
    have hfin := Hid.mk hfin
    have go : ∀ _tok : True, True := fun _ => trivial
    by_cases h1 : 1 ≤ l.type
    · by_cases h5 : l.type ≤ 5
      · have hk : isK l.type = true := by simp [isK, h1, h5]
        rw [hk, Bool.true_and] at hr
        by_cases hg : l.group = -1
        · have hg' : (l.group == -1) = true := by simp [hg]
          have hg'' : (l.group != -1) = false := by simp [hg]
          replace hr : r = true := by rw [hr]; simp [hg]
          clear hg
          subst hr
          have hkc : ∀ X : World, Calls Tryz.prog 28 #[.int .i64 l.type] X fun e W' => e = .returned (.bool true) ∧ X = W' := fun X => by
            have := isKind_any l.type X
            rwa [hk] at this
          clear go hk
          go_enter Tryz.func91, Tryz.ntmps91
          go_wp2_with (first | (go_at_call 27; refine (hh _).mono ?_; clear hh; rintro e w1 ⟨rfl, hb1⟩; obtain ⟨⟨k5, k7, kx, klt⟩, al, cl, k0, k1, k2, k3, k4, k55, k6⟩ := hC w1 hb1; have k77 := (bel_cell ((Below.refl w1.heap.size w1).alloc (Nat.le_refl _) (.cells #[.string ⟨l.name.toArray⟩, .bool l.input, .bool l.must, .int .i64 l.type, .int .i64 l.opts, .int .i64 l.group, .slice al l.cls.length cl] 78)) klt 7).trans k7; have hf := hfin.out w1 (w1.alloc (.cells #[.string ⟨l.name.toArray⟩, .bool l.input, .bool l.must, .int .i64 l.type, .int .i64 l.opts, .int .i64 l.group, .slice al l.cls.length cl] 78)) hb1 ((Below.refl _ _).alloc (Nat.le_refl _) _)) | (go_at_call 28; refine (hkc _).mono ?_; clear hkc; rintro e w2 ⟨rfl, rfl⟩))
          go_ret
          exact hf
        · have hg' : (l.group == -1) = false := by simp [hg]
          have hg'' : (l.group != -1) = true := by simp [hg]
          by_cases hq : l.group = g
          · have hq' : (l.group == g) = true := by simp [hq]
            replace hr : r = true := by rw [hr]; simp [hq]
            clear hq hg
            subst hr
            have hkc : ∀ X : World, Calls Tryz.prog 28 #[.int .i64 l.type] X fun e W' => e = .returned (.bool true) ∧ X = W' := fun X => by
              have := isKind_any l.type X
              rwa [hk] at this
            clear go hk
            go_enter Tryz.func91, Tryz.ntmps91
            go_wp2_with (first | (go_at_call 27; refine (hh _).mono ?_; clear hh; rintro e w1 ⟨rfl, hb1⟩; obtain ⟨⟨k5, k7, kx, klt⟩, al, cl, k0, k1, k2, k3, k4, k55, k6⟩ := hC w1 hb1; have k77 := (bel_cell ((Below.refl w1.heap.size w1).alloc (Nat.le_refl _) (.cells #[.string ⟨l.name.toArray⟩, .bool l.input, .bool l.must, .int .i64 l.type, .int .i64 l.opts, .int .i64 l.group, .slice al l.cls.length cl] 78)) klt 7).trans k7; have hf := hfin.out w1 (w1.alloc (.cells #[.string ⟨l.name.toArray⟩, .bool l.input, .bool l.must, .int .i64 l.type, .int .i64 l.opts, .int .i64 l.group, .slice al l.cls.length cl] 78)) hb1 ((Below.refl _ _).alloc (Nat.le_refl _) _)) | (go_at_call 28; refine (hkc _).mono ?_; clear hkc; rintro e w2 ⟨rfl, rfl⟩))
            go_ret
            exact hf
          · have hq' : (l.group == g) = false := by simp [hq]
            replace hr : r = false := by rw [hr]; simp [hq, hg]
            clear hg hq
            subst hr
            have hkc : ∀ X : World, Calls Tryz.prog 28 #[.int .i64 l.type] X fun e W' => e = .returned (.bool true) ∧ X = W' := fun X => by
              have := isKind_any l.type X
              rwa [hk] at this
            clear go hk
            go_enter Tryz.func91, Tryz.ntmps91
            go_wp2_with (first | (go_at_call 27; refine (hh _).mono ?_; clear hh; rintro e w1 ⟨rfl, hb1⟩; obtain ⟨⟨k5, k7, kx, klt⟩, al, cl, k0, k1, k2, k3, k4, k55, k6⟩ := hC w1 hb1; have k77 := (bel_cell ((Below.refl w1.heap.size w1).alloc (Nat.le_refl _) (.cells #[.string ⟨l.name.toArray⟩, .bool l.input, .bool l.must, .int .i64 l.type, .int .i64 l.opts, .int .i64 l.group, .slice al l.cls.length cl] 78)) klt 7).trans k7; have hf := hfin.out w1 (w1.alloc (.cells #[.string ⟨l.name.toArray⟩, .bool l.input, .bool l.must, .int .i64 l.type, .int .i64 l.opts, .int .i64 l.group, .slice al l.cls.length cl] 78)) hb1 ((Below.refl _ _).alloc (Nat.le_refl _) _)) | (go_at_call 28; refine (hkc _).mono ?_; clear hkc; rintro e w2 ⟨rfl, rfl⟩))
            go_ret
            exact hf
      · have hk : isK l.type = false := by simp [isK, h5]
        replace hr : r = false := by rw [hr, hk]; rfl
        subst hr
        have hkc : ∀ X : World, Calls Tryz.prog 28 #[.int .i64 l.type] X fun e W' => e = .returned (.bool false) ∧ X = W' := fun X => by
          have := isKind_any l.type X
          rwa [hk] at this
        clear go hk
        go_enter Tryz.func91, Tryz.ntmps91
        go_wp2_with (first | (go_at_call 27; refine (hh _).mono ?_; clear hh; rintro e w1 ⟨rfl, hb1⟩; obtain ⟨⟨k5, k7, kx, klt⟩, al, cl, k0, k1, k2, k3, k4, k55, k6⟩ := hC w1 hb1; have k77 := (bel_cell ((Below.refl w1.heap.size w1).alloc (Nat.le_refl _) (.cells #[.string ⟨l.name.toArray⟩, .bool l.input, .bool l.must, .int .i64 l.type, .int .i64 l.opts, .int .i64 l.group, .slice al l.cls.length cl] 78)) klt 7).trans k7; have hf := hfin.out w1 (w1.alloc (.cells #[.string ⟨l.name.toArray⟩, .bool l.input, .bool l.must, .int .i64 l.type, .int .i64 l.opts, .int .i64 l.group, .slice al l.cls.length cl] 78)) hb1 ((Below.refl _ _).alloc (Nat.le_refl _) _)) | (go_at_call 28; refine (hkc _).mono ?_; clear hkc; rintro e w2 ⟨rfl, rfl⟩))
        go_ret
        exact hf
    · have hk : isK l.type = false := by simp [isK, h1]
      replace hr : r = false := by rw [hr, hk]; rfl
      subst hr
      have hkc : ∀ X : World, Calls Tryz.prog 28 #[.int .i64 l.type] X fun e W' => e = .returned (.bool false) ∧ X = W' := fun X => by
        have := isKind_any l.type X
        rwa [hk] at this
      clear go hk
      go_enter Tryz.func91, Tryz.ntmps91
      go_wp2_with (first | (go_at_call 27; refine (hh _).mono ?_; clear hh; rintro e w1 ⟨rfl, hb1⟩; obtain ⟨⟨k5, k7, kx, klt⟩, al, cl, k0, k1, k2, k3, k4, k55, k6⟩ := hC w1 hb1; have k77 := (bel_cell ((Below.refl w1.heap.size w1).alloc (Nat.le_refl _) (.cells #[.string ⟨l.name.toArray⟩, .bool l.input, .bool l.must, .int .i64 l.type, .int .i64 l.opts, .int .i64 l.group, .slice al l.cls.length cl] 78)) klt 7).trans k7; have hf := hfin.out w1 (w1.alloc (.cells #[.string ⟨l.name.toArray⟩, .bool l.input, .bool l.must, .int .i64 l.type, .int .i64 l.opts, .int .i64 l.group, .slice al l.cls.length cl] 78)) hb1 ((Below.refl _ _).alloc (Nat.le_refl _) _)) | (go_at_call 28; refine (hkc _).mono ?_; clear hkc; rintro e w2 ⟨rfl, rfl⟩))
      go_ret
      exact hf
  · have hh : ∀ X, Calls Tryz.prog 27 #[.slice a6 p.lns.length c6, .int .i64 x.num] X (Lk (.bool false) X) := fun X => by
      have := has_lns a6 p.lns.length c6 x.num X
      rwa [← at?_is, at?_none hin] at this
    unfold findB at hr
    rw [at?_none hin] at hr
    simp only at hr
    subst hr
    have hfin : ∀ W', Below W2.heap.size W2 W' → Lk (.bool false) W (.returned (.bool false)) W' := fun W' h => ⟨rfl, bthr hB0 h (Nat.le_refl _)⟩
    subst hW2
    clear hin hR hps hpx hB0
    go_enter Tryz.func91, Tryz.ntmps91
    go_wp2_with (go_at_call 27; refine (hh _).mono ?_; clear hh; rintro e w1 ⟨rfl, hb1⟩)
    go_ret
    exact hfin _ hb1
set_option maxRecDepth 20000 in
set_option maxHeartbeats 2000000 in
theorem findsColumn_any (p : Pk) (g : Int) (x : Ex) (a3 a4 a5 a6 a7 : Option Addr) (c3 c4 c5 c6 c7 : Nat) (ax : Option Addr) (cx : Nat) (W : World) (hR : RowR eL W AnyB p.lns a6) : Calls Tryz.prog 93 #[.agg #[.string ⟨p.name.toArray⟩, .int .i64 p.year, .slice a3 p.opts.length c3, .slice a4 p.tabs.length c4, .slice a5 p.grps.length c5, .slice a6 p.lns.length c6, .slice a7 p.cks.length c7, .int .i64 g], .agg #[.int .i64 x.op, .int .i64 x.num, .int .i64 x.den, .int .i64 x.mode, .slice ax x.args.len cx]] W (Lk (.bool (findB p g x .col)) W) := by
  obtain ⟨r, hr⟩ : ∃ r, r = findB p g x .col := ⟨_, rfl⟩
  obtain ⟨W2, hW2⟩ : ∃ W2, W2 = ((W.alloc (.cells #[.string ⟨p.name.toArray⟩, .int .i64 p.year, .slice a3 p.opts.length c3, .slice a4 p.tabs.length c4, .slice a5 p.grps.length c5, .slice a6 p.lns.length c6, .slice a7 p.cks.length c7, .int .i64 g] 159)).alloc (.cells #[.int .i64 x.op, .int .i64 x.num, .int .i64 x.den, .int .i64 x.mode, .slice ax x.args.len cx] 73)) := ⟨_, rfl⟩
  have hB0 : Below W.heap.size W W2 := by rw [hW2]; exact ((Below.refl _ _).alloc (Nat.le_refl _) _).alloc (by simp) _
  have hs2 : W2.heap.size = W.heap.size + 1 + 1 := by rw [hW2]; simp
  have hps := (bx_new W #[.string ⟨p.name.toArray⟩, .int .i64 p.year, .slice a3 p.opts.length c3, .slice a4 p.tabs.length c4, .slice a5 p.grps.length c5, .slice a6 p.lns.length c6, .slice a7 p.cks.length c7, .int .i64 g] 159).kept (World.grownBy_alloc (W.alloc (.cells #[.string ⟨p.name.toArray⟩, .int .i64 p.year, .slice a3 p.opts.length c3, .slice a4 p.tabs.length c4, .slice a5 p.grps.length c5, .slice a6 p.lns.length c6, .slice a7 p.cks.length c7, .int .i64 g] 159)) (.cells #[.int .i64 x.op, .int .i64 x.num, .int .i64 x.den, .int .i64 x.mode, .slice ax x.args.len cx] 73) none) (by simp)
  have hpx := bx_new (W.alloc (.cells #[.string ⟨p.name.toArray⟩, .int .i64 p.year, .slice a3 p.opts.length c3, .slice a4 p.tabs.length c4, .slice a5 p.grps.length c5, .slice a6 p.lns.length c6, .slice a7 p.cks.length c7, .int .i64 g] 159)) #[.int .i64 x.op, .int .i64 x.num, .int .i64 x.den, .int .i64 x.mode, .slice ax x.args.len cx] 73
  rw [show (W.alloc (.cells #[.string ⟨p.name.toArray⟩, .int .i64 p.year, .slice a3 p.opts.length c3, .slice a4 p.tabs.length c4, .slice a5 p.grps.length c5, .slice a6 p.lns.length c6, .slice a7 p.cks.length c7, .int .i64 g] 159)).heap.size = W.heap.size + 1 by simp] at hpx
  rw [← hW2] at hps hpx
  rw [← hr]
  by_cases hin : 0 ≤ x.num ∧ x.num < p.lns.length
  · have hh : ∀ X, Calls Tryz.prog 27 #[.slice a6 p.lns.length c6, .int .i64 x.num] X (Lk (.bool true) X) := fun X => by
      have := has_lns a6 p.lns.length c6 x.num X
      rwa [decide_eq_true hin.1, decide_eq_true hin.2] at this
    obtain ⟨i, hi'⟩ := Int.eq_ofNat_of_zero_le hin.1
    have hi : i < p.lns.length := by omega
    unfold findB at hr
    rw [at?_some hin.1 hin.2] at hr
    simp only [hi', Int.toNat_natCast] at hr
    have hR1 := row_bel hR hB0 (Nat.le_refl _)
    obtain ⟨gl, o, rfl⟩ := hR1.some hi
    have hC : ∀ w1, Below W2.heap.size W2 w1 → (w1.cell? ⟨W.heap.size, 5, none⟩ = some (.slice (some ⟨gl, o, none⟩) p.lns.length c6) ∧ w1.cell? ⟨W.heap.size, 7, none⟩ = some (.int .i64 g) ∧ w1.cell? ⟨W.heap.size + 1, 1, none⟩ = some (.int .i64 (i : Int)) ∧ W.heap.size < w1.heap.size) ∧ ∃ al cl, w1.cell? ⟨gl, o + i * 7, none⟩ = some (.string ⟨(p.lns[i]).name.toArray⟩) ∧ w1.cell? ⟨gl, o + i * 7 + 1, none⟩ = some (.bool (p.lns[i]).input) ∧ w1.cell? ⟨gl, o + i * 7 + 2, none⟩ = some (.bool (p.lns[i]).must) ∧ w1.cell? ⟨gl, o + i * 7 + 3, none⟩ = some (.int .i64 (p.lns[i]).type) ∧ w1.cell? ⟨gl, o + i * 7 + 4, none⟩ = some (.int .i64 (p.lns[i]).opts) ∧ w1.cell? ⟨gl, o + i * 7 + 5, none⟩ = some (.int .i64 (p.lns[i]).group) ∧ w1.cell? ⟨gl, o + i * 7 + 6, none⟩ = some (.slice al (p.lns[i]).cls.length cl) := fun w1 h1 => by
      obtain ⟨cs, -, -, ⟨al, cl, rfl, -⟩, hc⟩ := (row_bel hR1 h1 (Nat.le_refl _)).item hi
      refine ⟨⟨(bel_cell h1 (by omega) 5).trans (hps.2.1 5 (by simp)), (bel_cell h1 (by omega) 7).trans (hps.2.1 7 (by simp)), (bel_cell h1 (by omega) 1).trans (by rw [← hi']; exact hpx.2.1 1 (by simp)), by have := h1.size; omega⟩, al, cl, hc 0 (by decide), hc 1 (by decide), hc 2 (by decide), hc 3 (by decide), hc 4 (by decide), hc 5 (by decide), hc 6 (by decide)⟩
    have hi0 : (0 : Int) ≤ (i : Int) := by omega
    have hi1 : (i : Int) < (p.lns.length : Int) := by omega
    have hfin : ∀ w1 W', Below W2.heap.size W2 w1 → Below w1.heap.size w1 W' → Lk (.bool r) W (.returned (.bool r)) W' := fun w1 W' h1 h2 => ⟨rfl, bthr (bthr hB0 h1 (Nat.le_refl _)) h2 (Nat.le_refl _)⟩
    generalize p.lns[i] = l at hC hr
    clear hin
    rw [hi'] at hh hW2 ⊢
    subst hW2
    clear hi' hR hR1 hps hpx hB0 hs2 hi
    have hfin := Hid.mk hfin
    have go : ∀ _tok : True, True := fun _ => trivial
    by_cases h1 : 1 ≤ l.type
    · by_cases h5 : l.type ≤ 5
      · have hk : isK l.type = true := by simp [isK, h1, h5]
        rw [hk, Bool.true_and] at hr
        by_cases hg : l.group = -1
        · have hg' : (l.group == -1) = true := by simp [hg]
          have hg'' : (l.group != -1) = false := by simp [hg]
          replace hr : r = false := by rw [hr]; simp [hg]
          clear hg
          subst hr
          have hkc : ∀ X : World, Calls Tryz.prog 28 #[.int .i64 l.type] X fun e W' => e = .returned (.bool true) ∧ X = W' := fun X => by
            have := isKind_any l.type X
            rwa [hk] at this
          clear go hk
          go_enter Tryz.func93, Tryz.ntmps93
          go_wp2_with (first | (go_at_call 27; refine (hh _).mono ?_; clear hh; rintro e w1 ⟨rfl, hb1⟩; obtain ⟨⟨k5, k7, kx, klt⟩, al, cl, k0, k1, k2, k3, k4, k55, k6⟩ := hC w1 hb1; have k77 := (bel_cell ((Below.refl w1.heap.size w1).alloc (Nat.le_refl _) (.cells #[.string ⟨l.name.toArray⟩, .bool l.input, .bool l.must, .int .i64 l.type, .int .i64 l.opts, .int .i64 l.group, .slice al l.cls.length cl] 78)) klt 7).trans k7; have hf := hfin.out w1 (w1.alloc (.cells #[.string ⟨l.name.toArray⟩, .bool l.input, .bool l.must, .int .i64 l.type, .int .i64 l.opts, .int .i64 l.group, .slice al l.cls.length cl] 78)) hb1 ((Below.refl _ _).alloc (Nat.le_refl _) _)) | (go_at_call 28; refine (hkc _).mono ?_; clear hkc; rintro e w2 ⟨rfl, rfl⟩))
          go_ret
          exact hf
        · have hg' : (l.group == -1) = false := by simp [hg]
          have hg'' : (l.group != -1) = true := by simp [hg]
          replace hr : r = true := by rw [hr]; simp [hg]
          clear hg
          subst hr
          have hkc : ∀ X : World, Calls Tryz.prog 28 #[.int .i64 l.type] X fun e W' => e = .returned (.bool true) ∧ X = W' := fun X => by
            have := isKind_any l.type X
            rwa [hk] at this
          clear go hk
          go_enter Tryz.func93, Tryz.ntmps93
          go_wp2_with (first | (go_at_call 27; refine (hh _).mono ?_; clear hh; rintro e w1 ⟨rfl, hb1⟩; obtain ⟨⟨k5, k7, kx, klt⟩, al, cl, k0, k1, k2, k3, k4, k55, k6⟩ := hC w1 hb1; have k77 := (bel_cell ((Below.refl w1.heap.size w1).alloc (Nat.le_refl _) (.cells #[.string ⟨l.name.toArray⟩, .bool l.input, .bool l.must, .int .i64 l.type, .int .i64 l.opts, .int .i64 l.group, .slice al l.cls.length cl] 78)) klt 7).trans k7; have hf := hfin.out w1 (w1.alloc (.cells #[.string ⟨l.name.toArray⟩, .bool l.input, .bool l.must, .int .i64 l.type, .int .i64 l.opts, .int .i64 l.group, .slice al l.cls.length cl] 78)) hb1 ((Below.refl _ _).alloc (Nat.le_refl _) _)) | (go_at_call 28; refine (hkc _).mono ?_; clear hkc; rintro e w2 ⟨rfl, rfl⟩))
          go_ret
          exact hf
      · have hk : isK l.type = false := by simp [isK, h5]
        replace hr : r = false := by rw [hr, hk]; rfl
        subst hr
        have hkc : ∀ X : World, Calls Tryz.prog 28 #[.int .i64 l.type] X fun e W' => e = .returned (.bool false) ∧ X = W' := fun X => by
          have := isKind_any l.type X
          rwa [hk] at this
        clear go hk
        go_enter Tryz.func93, Tryz.ntmps93
        go_wp2_with (first | (go_at_call 27; refine (hh _).mono ?_; clear hh; rintro e w1 ⟨rfl, hb1⟩; obtain ⟨⟨k5, k7, kx, klt⟩, al, cl, k0, k1, k2, k3, k4, k55, k6⟩ := hC w1 hb1; have k77 := (bel_cell ((Below.refl w1.heap.size w1).alloc (Nat.le_refl _) (.cells #[.string ⟨l.name.toArray⟩, .bool l.input, .bool l.must, .int .i64 l.type, .int .i64 l.opts, .int .i64 l.group, .slice al l.cls.length cl] 78)) klt 7).trans k7; have hf := hfin.out w1 (w1.alloc (.cells #[.string ⟨l.name.toArray⟩, .bool l.input, .bool l.must, .int .i64 l.type, .int .i64 l.opts, .int .i64 l.group, .slice al l.cls.length cl] 78)) hb1 ((Below.refl _ _).alloc (Nat.le_refl _) _)) | (go_at_call 28; refine (hkc _).mono ?_; clear hkc; rintro e w2 ⟨rfl, rfl⟩))
        go_ret
        exact hf
    · have hk : isK l.type = false := by simp [isK, h1]
      replace hr : r = false := by rw [hr, hk]; rfl
      subst hr
      have hkc : ∀ X : World, Calls Tryz.prog 28 #[.int .i64 l.type] X fun e W' => e = .returned (.bool false) ∧ X = W' := fun X => by
        have := isKind_any l.type X
        rwa [hk] at this
      clear go hk
      go_enter Tryz.func93, Tryz.ntmps93
      go_wp2_with (first | (go_at_call 27; refine (hh _).mono ?_; clear hh; rintro e w1 ⟨rfl, hb1⟩; obtain ⟨⟨k5, k7, kx, klt⟩, al, cl, k0, k1, k2, k3, k4, k55, k6⟩ := hC w1 hb1; have k77 := (bel_cell ((Below.refl w1.heap.size w1).alloc (Nat.le_refl _) (.cells #[.string ⟨l.name.toArray⟩, .bool l.input, .bool l.must, .int .i64 l.type, .int .i64 l.opts, .int .i64 l.group, .slice al l.cls.length cl] 78)) klt 7).trans k7; have hf := hfin.out w1 (w1.alloc (.cells #[.string ⟨l.name.toArray⟩, .bool l.input, .bool l.must, .int .i64 l.type, .int .i64 l.opts, .int .i64 l.group, .slice al l.cls.length cl] 78)) hb1 ((Below.refl _ _).alloc (Nat.le_refl _) _)) | (go_at_call 28; refine (hkc _).mono ?_; clear hkc; rintro e w2 ⟨rfl, rfl⟩))
      go_ret
      exact hf
  · have hh : ∀ X, Calls Tryz.prog 27 #[.slice a6 p.lns.length c6, .int .i64 x.num] X (Lk (.bool false) X) := fun X => by
      have := has_lns a6 p.lns.length c6 x.num X
      rwa [← at?_is, at?_none hin] at this
    unfold findB at hr
    rw [at?_none hin] at hr
    simp only at hr
    subst hr
    have hfin : ∀ W', Below W2.heap.size W2 W' → Lk (.bool false) W (.returned (.bool false)) W' := fun W' h => ⟨rfl, bthr hB0 h (Nat.le_refl _)⟩
    subst hW2
    clear hin hR hps hpx hB0
    go_enter Tryz.func93, Tryz.ntmps93
    go_wp2_with (go_at_call 27; refine (hh _).mono ?_; clear hh; rintro e w1 ⟨rfl, hb1⟩)
    go_ret
    exact hfin _ hb1
end Go.Proofs.YthnmjafoplfikaaGreatDoor

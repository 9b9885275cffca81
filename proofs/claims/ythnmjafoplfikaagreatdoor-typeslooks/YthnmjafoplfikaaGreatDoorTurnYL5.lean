import Derived.Test.YthnmjafoplfikaaGreatDoorTurnYL4
namespace Go.Proofs.YthnmjafoplfikaaGreatDoor
open Go.RowKit

set_option maxRecDepth 20000 in
theorem holds_any (s : Int × Int) (n : Int) (W : World) : Calls Tryz.prog 129 #[.agg #[.int .i64 s.1, .int .i64 s.2], .int .i64 n] W (Lk (.bool (spanIn s n)) W) := by
  have hB : Below W.heap.size W (W.alloc (.cells #[.int .i64 s.1, .int .i64 s.2] 169)) := (Below.refl _ _).alloc (Nat.le_refl _) _
  unfold spanIn
  by_cases h0 : s.1 ≤ n
  · rw [decide_eq_true h0, Bool.true_and]
    go_enter Tryz.func129, Tryz.ntmps129
    go_wp2
    go_ret
    exact ⟨rfl, hB⟩
  · rw [decide_eq_false h0, Bool.false_and]
    have h0' : n < s.1 := by omega
    go_enter Tryz.func129, Tryz.ntmps129
    go_wp2
    go_ret
    exact ⟨rfl, hB⟩
set_option maxRecDepth 20000 in
set_option maxHeartbeats 2000000 in
theorem takes_any (o : Opr) (fv tv : Value) (x : Ex) (ax : Option Addr) (cx : Nat) (W : World) (hF : FoAt W AnyB x.args ax) (hl : x.args.len ≤ 9223372036854775807) : Calls Tryz.prog 116 #[.agg #[.int .i64 o.num.1, .int .i64 o.num.2, .int .i64 o.den.1, .int .i64 o.den.2, .int .i64 o.mode.1, .int .i64 o.mode.2, .int .i64 o.least, .int .i64 o.most, .int .i64 o.only, .int .i64 o.n1.1, .int .i64 o.n1.2, .int .i64 o.n2.1, .int .i64 o.n2.2, fv, tv], .agg #[.int .i64 x.op, .int .i64 x.num, .int .i64 x.den, .int .i64 x.mode, .slice ax x.args.len cx]] W (Lk (.bool (takesB o x)) W) := by
  have hR := row_of_fo hF
  clear hF
  obtain ⟨r, hr⟩ : ∃ r, r = takesB o x := ⟨_, rfl⟩
  obtain ⟨W2, hW2⟩ : ∃ W2, W2 = ((W.alloc (.cells #[.int .i64 o.num.1, .int .i64 o.num.2, .int .i64 o.den.1, .int .i64 o.den.2, .int .i64 o.mode.1, .int .i64 o.mode.2, .int .i64 o.least, .int .i64 o.most, .int .i64 o.only, .int .i64 o.n1.1, .int .i64 o.n1.2, .int .i64 o.n2.1, .int .i64 o.n2.2, fv, tv] 179)).alloc (.cells #[.int .i64 x.op, .int .i64 x.num, .int .i64 x.den, .int .i64 x.mode, .slice ax x.args.len cx] 73)) := ⟨_, rfl⟩
  have hB0 : Below W.heap.size W W2 := by rw [hW2]; exact ((Below.refl _ _).alloc (Nat.le_refl _) _).alloc (by simp) _
  have hs2 : W2.heap.size = W.heap.size + 1 + 1 := by rw [hW2]; simp
  have hpo := (bx_new W #[.int .i64 o.num.1, .int .i64 o.num.2, .int .i64 o.den.1, .int .i64 o.den.2, .int .i64 o.mode.1, .int .i64 o.mode.2, .int .i64 o.least, .int .i64 o.most, .int .i64 o.only, .int .i64 o.n1.1, .int .i64 o.n1.2, .int .i64 o.n2.1, .int .i64 o.n2.2, fv, tv] 179).kept (World.grownBy_alloc (W.alloc (.cells #[.int .i64 o.num.1, .int .i64 o.num.2, .int .i64 o.den.1, .int .i64 o.den.2, .int .i64 o.mode.1, .int .i64 o.mode.2, .int .i64 o.least, .int .i64 o.most, .int .i64 o.only, .int .i64 o.n1.1, .int .i64 o.n1.2, .int .i64 o.n2.1, .int .i64 o.n2.2, fv, tv] 179)) (.cells #[.int .i64 x.op, .int .i64 x.num, .int .i64 x.den, .int .i64 x.mode, .slice ax x.args.len cx] 73) none) (by simp)
  have hpx := bx_new (W.alloc (.cells #[.int .i64 o.num.1, .int .i64 o.num.2, .int .i64 o.den.1, .int .i64 o.den.2, .int .i64 o.mode.1, .int .i64 o.mode.2, .int .i64 o.least, .int .i64 o.most, .int .i64 o.only, .int .i64 o.n1.1, .int .i64 o.n1.2, .int .i64 o.n2.1, .int .i64 o.n2.2, fv, tv] 179)) #[.int .i64 x.op, .int .i64 x.num, .int .i64 x.den, .int .i64 x.mode, .slice ax x.args.len cx] 73
  rw [show (W.alloc (.cells #[.int .i64 o.num.1, .int .i64 o.num.2, .int .i64 o.den.1, .int .i64 o.den.2, .int .i64 o.mode.1, .int .i64 o.mode.2, .int .i64 o.least, .int .i64 o.most, .int .i64 o.only, .int .i64 o.n1.1, .int .i64 o.n1.2, .int .i64 o.n2.1, .int .i64 o.n2.2, fv, tv] 179)).heap.size = W.heap.size + 1 by simp] at hpx
  rw [← hW2] at hpo hpx
  have hR2 := row_bel hR hB0 (Nat.le_refl _)
  rw [← hr]
  have hC : ∀ w1, Below W2.heap.size W2 w1 → (w1.cell? ⟨W.heap.size, 2, none⟩ = some (.int .i64 o.den.1) ∧ w1.cell? ⟨W.heap.size, 3, none⟩ = some (.int .i64 o.den.2) ∧ w1.cell? ⟨W.heap.size, 4, none⟩ = some (.int .i64 o.mode.1) ∧ w1.cell? ⟨W.heap.size, 5, none⟩ = some (.int .i64 o.mode.2) ∧ w1.cell? ⟨W.heap.size, 6, none⟩ = some (.int .i64 o.least) ∧ w1.cell? ⟨W.heap.size, 7, none⟩ = some (.int .i64 o.most) ∧ w1.cell? ⟨W.heap.size, 8, none⟩ = some (.int .i64 o.only)) ∧ w1.cell? ⟨W.heap.size + 1, 2, none⟩ = some (.int .i64 x.den) ∧ w1.cell? ⟨W.heap.size + 1, 3, none⟩ = some (.int .i64 x.mode) ∧ w1.cell? ⟨W.heap.size + 1, 4, none⟩ = some (.slice ax x.args.len cx) := fun w1 h1 => by
    have k := fun j hj => (bel_cell h1 (show W.heap.size < W2.heap.size by omega) j).trans (hpo.2.1 j hj)
    have k' := fun j hj => (bel_cell h1 (show W.heap.size + 1 < W2.heap.size by omega) j).trans (hpx.2.1 j hj)
    exact ⟨⟨k 2 (by simp), k 3 (by simp), k 4 (by simp), k 5 (by simp), k 6 (by simp), k 7 (by simp), k 8 (by simp)⟩, k' 2 (by simp), k' 3 (by simp), k' 4 (by simp)⟩
  have hfin : ∀ b W', r = b → Below W2.heap.size W2 W' → Lk (.bool r) W (.returned (.bool b)) W' := fun b W' e h => ⟨by rw [e], bthr hB0 h (Nat.le_refl _)⟩
  unfold takesB at hr
  subst hW2
  clear hB0 hs2 hpo hpx hR
  have hh1 := holds_any o.num x.num
  have hh2 := holds_any o.den x.den
  have hh3 := holds_any o.mode x.mode
  cases h1 : spanIn o.num x.num with
  | false =>
    rw [h1] at hh1 hr
    simp only [Bool.false_and] at hr
    have hf := fun W' => hfin false W' hr
    clear hh2 hh3 hfin h1
    go_enter Tryz.func116, Tryz.ntmps116
    go_wp2_with (go_at_call 129; refine (hh1 _).mono ?_; clear hh1; rintro e w1 ⟨rfl, hb1⟩)
    go_ret
    exact hf _ hb1
  | true =>
  rw [h1] at hh1 hr
  simp only [Bool.true_and] at hr
  cases h2 : spanIn o.den x.den with
  | false =>
    rw [h2] at hh2 hr
    simp only [Bool.false_and] at hr
    have hf := fun W' => hfin false W' hr
    clear hh3 hfin h1 h2
    go_enter Tryz.func116, Tryz.ntmps116
    go_wp2_with (first | (go_at_call 129; refine (hh1 _).mono ?_; clear hh1; rintro e w1 ⟨rfl, hb1⟩; obtain ⟨⟨p2, p3, p4, p5, p6, p7, p8⟩, p9, p10, p11⟩ := hC w1 hb1) | (go_at_call 129; refine (hh2 _).mono ?_; clear hh2; rintro e w2 ⟨rfl, hb2⟩; have hb3 := bthr hb1 hb2 (Nat.le_refl _)))
    go_ret
    exact hf _ hb3
  | true =>
  rw [h2] at hh2 hr
  simp only [Bool.true_and] at hr
  cases h3 : spanIn o.mode x.mode with
  | false =>
    rw [h3] at hh3 hr
    simp only [Bool.false_and] at hr
    have hf := fun W' => hfin false W' hr
    clear hfin h1 h2 h3
    go_enter Tryz.func116, Tryz.ntmps116
    go_wp2_with (first | (go_at_call 129; refine (hh1 _).mono ?_; clear hh1; rintro e w1 ⟨rfl, hb1⟩; obtain ⟨⟨p2, p3, p4, p5, p6, p7, p8⟩, p9, p10, p11⟩ := hC w1 hb1) | (go_at_call 129; refine (hh2 _).mono ?_; clear hh2; rintro e w2 ⟨rfl, hb2⟩; have hb3 := bthr hb1 hb2 (Nat.le_refl _); obtain ⟨⟨r2, r3, r4, r5, r6, r7, r8⟩, r9, r10, r11⟩ := hC w2 hb3) | (go_at_call 129; refine (hh3 _).mono ?_; clear hh3; rintro e w3 ⟨rfl, hb4⟩; have hb5 := bthr hb3 hb4 (Nat.le_refl _)))
    go_ret
    exact hf _ hb5
  | true =>
  rw [h3] at hh3 hr
  simp only [Bool.true_and] at hr
  clear h1 h2 h3
  by_cases h4 : o.least ≤ x.args.len
  rotate_left
  · have h4' : (x.args.len : Int) < o.least := by omega
    rw [decide_eq_false h4] at hr
    simp only [Bool.false_and] at hr
    have hf := fun W' => hfin false W' hr
    clear hfin h4
    go_enter Tryz.func116, Tryz.ntmps116
    go_wp2_with (first | (go_at_call 129; refine (hh1 _).mono ?_; clear hh1; rintro e w1 ⟨rfl, hb1⟩; obtain ⟨⟨p2, p3, p4, p5, p6, p7, p8⟩, p9, p10, p11⟩ := hC w1 hb1) | (go_at_call 129; refine (hh2 _).mono ?_; clear hh2; rintro e w2 ⟨rfl, hb2⟩; have hb3 := bthr hb1 hb2 (Nat.le_refl _); obtain ⟨⟨r2, r3, r4, r5, r6, r7, r8⟩, r9, r10, r11⟩ := hC w2 hb3) | (go_at_call 129; refine (hh3 _).mono ?_; clear hh3; rintro e w3 ⟨rfl, hb4⟩; have hb5 := bthr hb3 hb4 (Nat.le_refl _); obtain ⟨⟨s2, s3, s4, s5, s6, s7, s8⟩, s9, s10, s11⟩ := hC w3 hb5))
    go_ret
    exact hf _ hb5
  have h4' : ¬ (x.args.len : Int) < o.least := by omega
  rw [decide_eq_true h4] at hr
  simp only [Bool.true_and] at hr
  by_cases h5 : (x.args.len : Int) ≤ o.most
  rotate_left
  · have h5' : o.most < (x.args.len : Int) := by omega
    rw [decide_eq_false h5] at hr
    simp only [Bool.false_and] at hr
    have hf := fun W' => hfin false W' hr
    clear hfin h4 h5
    go_enter Tryz.func116, Tryz.ntmps116
    go_wp2_with (first | (go_at_call 129; refine (hh1 _).mono ?_; clear hh1; rintro e w1 ⟨rfl, hb1⟩; obtain ⟨⟨p2, p3, p4, p5, p6, p7, p8⟩, p9, p10, p11⟩ := hC w1 hb1) | (go_at_call 129; refine (hh2 _).mono ?_; clear hh2; rintro e w2 ⟨rfl, hb2⟩; have hb3 := bthr hb1 hb2 (Nat.le_refl _); obtain ⟨⟨r2, r3, r4, r5, r6, r7, r8⟩, r9, r10, r11⟩ := hC w2 hb3) | (go_at_call 129; refine (hh3 _).mono ?_; clear hh3; rintro e w3 ⟨rfl, hb4⟩; have hb5 := bthr hb3 hb4 (Nat.le_refl _); obtain ⟨⟨s2, s3, s4, s5, s6, s7, s8⟩, s9, s10, s11⟩ := hC w3 hb5))
    go_ret
    exact hf _ hb5
  have h5' : ¬ o.most < (x.args.len : Int) := by omega
  rw [decide_eq_true h5] at hr
  simp only [Bool.true_and] at hr
  clear h4 h5
  have h4b : decide ((x.args.len : Int) < o.least) = false := decide_eq_false h4'
  have h5b : decide (o.most < (x.args.len : Int)) = false := decide_eq_false h5'
  have hxl : (toL x.args).length = x.args.len := toL_len _
  have hfin := Hid.mk hfin
  have hrH := Hid.mk hr
  clear hr
  have hxl := Hid.mk hxl
  go_enter Tryz.func116, Tryz.ntmps116
  go_wp2_with (first | (go_at_call 129; refine (hh1 _).mono ?_; clear hh1; rintro e w1 ⟨rfl, hb1⟩; obtain ⟨⟨p2, p3, p4, p5, p6, p7, p8⟩, p9, p10, p11⟩ := hC w1 hb1) | (go_at_call 129; refine (hh2 _).mono ?_; clear hh2; rintro e w2 ⟨rfl, hb2⟩; have hb3 := bthr hb1 hb2 (Nat.le_refl _); obtain ⟨⟨r2, r3, r4, r5, r6, r7, r8⟩, r9, r10, r11⟩ := hC w2 hb3) | (go_at_call 129; refine (hh3 _).mono ?_; clear hh3; rintro e w3 ⟨rfl, hb4⟩; have hb5 := bthr hb3 hb4 (Nat.le_refl _); obtain ⟨⟨s2, s3, s4, s5, s6, s7, s8⟩, s9, s10, s11⟩ := hC w3 hb5))
  have hR3 := row_bel hR2 hb5 (Nat.le_refl _)
  have hlt3 : W.heap.size < w3.heap.size := World.block_lt_of_cell? _ _ s8
  clear hR2 hC hb1 hb2 hb3 hb4 p2 p3 p4 p5 p6 p7 p8 p9 p10 p11 r2 r3 r4 r5 r6 r7 r8 r9 r10 r11 s2 s3 s4 s5 s6 s7 s9 s10 s11
  go_loopw [46] (fun iv wr => ∃ i : Nat, iv = .int .i64 (i : Int) ∧ i ≤ x.args.len ∧ Below w3.heap.size w3 wr ∧ Hid (∀ j (h : j < (toL x.args).length), j < i → (decide (o.only = 0) || decide ((toL x.args)[j].op = o.only)) = true)) (fun iv _ => x.args.len - (intOf iv).toNat)
  case atStart => exact ⟨0, rfl, Nat.zero_le _, Below.refl _ _, ⟨fun j _ h => absurd h (Nat.not_lt_zero _)⟩⟩
  case round =>
    obtain ⟨i, rfl, hi, hBr, hall⟩ := hrel
    have q8 := (bel_cell hBr hlt3 8).trans s8
    have hltr := Nat.lt_of_lt_of_le hlt3 hBr.size
    by_cases hlt : i < x.args.len
    · have hlt' : (i : Int) < (x.args.len : Int) := by omega
      have hi0 : (0 : Int) ≤ (i : Int) := by omega
      have hix : i < (toL x.args).length := by rw [hxl.out]; exact hlt
      obtain ⟨gx, ox, hga⟩ := hR3.some hix
      have hRr := row_bel hR3 hBr (Nat.le_refl _)
      rw [hga] at hRr
      obtain ⟨cs, -, -, ⟨a8, c8, rfl, -⟩, hcs⟩ := hRr.item hix
      have kx : wr.cell? ⟨gx, ox + i * 5, none⟩ = some (.int .i64 ((toL x.args)[i]).op) ∧ wr.cell? ⟨gx, ox + i * 5 + 1, none⟩ = some (.int .i64 ((toL x.args)[i]).num) ∧ wr.cell? ⟨gx, ox + i * 5 + 2, none⟩ = some (.int .i64 ((toL x.args)[i]).den) ∧ wr.cell? ⟨gx, ox + i * 5 + 3, none⟩ = some (.int .i64 ((toL x.args)[i]).mode) ∧ wr.cell? ⟨gx, ox + i * 5 + 4, none⟩ = some (.slice a8 ((toL x.args)[i]).args.len c8) := ⟨hcs 0 (by decide), hcs 1 (by decide), hcs 2 (by decide), hcs 3 (by decide), hcs 4 (by decide)⟩
      have hstep : (decide (o.only = 0) || decide ((toL x.args)[i].op = o.only)) = true → ∀ j (h : j < (toL x.args).length), j < i + 1 → (decide (o.only = 0) || decide ((toL x.args)[j].op = o.only)) = true := fun he j h hj => by
        by_cases hji : j < i
        · exact hall.out j h hji
        · obtain rfl : j = i := by omega
          exact he
      have hno : (decide (o.only = 0) || decide ((toL x.args)[i].op = o.only)) = false → r = false := fun he => by
        rw [hrH.out]
        cases hq : (toL x.args).all (fun a => decide (o.only = 0) || decide (a.op = o.only)) with
        | false => rfl
        | true =>
          have := List.all_eq_true.1 hq _ (List.getElem_mem hix)
          rw [he] at this
          cases this
      have hal : Below w3.heap.size w3 (wr.alloc (.cells #[.int .i64 ((toL x.args)[i]).op, .int .i64 ((toL x.args)[i]).num, .int .i64 ((toL x.args)[i]).den, .int .i64 ((toL x.args)[i]).mode, .slice a8 ((toL x.args)[i]).args.len c8] 73)) := hBr.alloc hBr.size _
      have hstep := Hid.mk hstep
      have hno := Hid.mk hno
      generalize (toL x.args)[i] = y at kx hstep hno hal
      obtain ⟨k0, k1, k2, k3, k4⟩ := kx
      have q88 := (bel_cell ((Below.refl wr.heap.size wr).alloc (Nat.le_refl _) (.cells #[.int .i64 y.op, .int .i64 y.num, .int .i64 y.den, .int .i64 y.mode, .slice a8 y.args.len c8] 73)) hltr 8).trans q8
      subst hga
      clear hcs hRr hR3 hall
      by_cases h0 : o.only = 0
      · have h0' : (o.only != 0) = false := by simp [h0]
        have hst := Hid.mk (hstep.out (by simp [h0]))
        clear h0 hstep hno
        go_wp2
        go_roundw
        case rel => exact ⟨i + 1, by go_num, by omega, hal, hst⟩
        case measure => simp [intOf]; omega
      · have h0' : (o.only != 0) = true := by simp [h0]
        by_cases h1 : y.op = o.only
        · have h1' : (y.op != o.only) = false := by simp [h1]
          have hst := Hid.mk (hstep.out (by simp [h1]))
          clear h0 h1 hstep hno
          go_wp2
          go_roundw
          case rel => exact ⟨i + 1, by go_num, by omega, hal, hst⟩
          case measure => simp [intOf]; omega
        · have h1' : (y.op != o.only) = true := by simp [h1]
          have hf := hfin.out false _ (hno.out (by simp [h0, h1])) (bthr hb5 hal (Nat.le_refl _))
          clear h0 h1 hstep hno
          go_wp2
          go_ret
          exact hf
    · have hlt' : ¬ (i : Int) < (x.args.len : Int) := by omega
      have hf := hfin.out true wr (by
        rw [hrH.out, List.all_eq_true]
        intro a ha
        obtain ⟨j, hj, rfl⟩ := List.mem_iff_getElem.1 ha
        exact hall.out j hj (by rw [hxl.out] at hj; omega)) (bthr hb5 hBr (Nat.le_refl _))
      clear hall
      go_wp2
      go_ret
      exact hf
end Go.Proofs.YthnmjafoplfikaaGreatDoor

import Derived.Test.YthnmjafoplfikaaGreatDoorTurnYB
namespace Go.Proofs.YthnmjafoplfikaaGreatDoor
open Go.RowKit

/-- What a comparison answers. -/
def SmP (q : Prop) (W : World) (e : Ending) (W' : World) : Prop := Below W.heap.size W W' ∧ ∃ r : Bool, e = .returned (.bool r) ∧ (r = true ↔ q)
set_option maxRecDepth 8000 in
set_option maxHeartbeats 1000000 in
theorem sameExpr_any : ∀ (n : Nat) (x y : Ex) (a a2 : Option Addr) (c c2 : Nat) (W : World), deepE x ≤ n → SzE x → FoAt W AnyB x.args a → FoAt W AnyB y.args a2 → Calls Tryz.prog 38 #[.agg #[.int .i64 x.op, .int .i64 x.num, .int .i64 x.den, .int .i64 x.mode, .slice a x.args.len c], .agg #[.int .i64 y.op, .int .i64 y.num, .int .i64 y.den, .int .i64 y.mode, .slice a2 y.args.len c2]] W (SmP (x = y) W)
  | 0, x, y, a, a2, c, c2, W, hd, hz, hF, hG => by unfold deepE at hd; omega
  | n + 1, x, y, a, a2, c, c2, W, hd, hz, hF, hG => by
    have ih := sameExpr_any n
    have hB : Below W.heap.size W ((W.alloc (.cells #[.int .i64 x.op, .int .i64 x.num, .int .i64 x.den, .int .i64 x.mode, .slice a x.args.len c] 73)).alloc (.cells #[.int .i64 y.op, .int .i64 y.num, .int .i64 y.den, .int .i64 y.mode, .slice a2 y.args.len c2] 73)) := ((Below.refl _ _).alloc (Nat.le_refl _) _).alloc (by simp) _
    obtain ⟨Q, hQ⟩ : ∃ Q, SmP (x = y) W = Q := ⟨_, rfl⟩
    rw [hQ]
    have hQ := Hid.mk hQ
    have hno : ∀ W', x ≠ y → Below W.heap.size W W' → Q (.returned (.bool false)) W' := fun W' hne hb => by
      rw [← hQ.out]
      exact ⟨hb, false, rfl, by simp [hne]⟩
    by_cases h0 : x.op = y.op
    rotate_left
    · have e0 : (x.op != y.op) = true := by simp [h0]
      have hfin := hno ((W.alloc (.cells #[.int .i64 x.op, .int .i64 x.num, .int .i64 x.den, .int .i64 x.mode, .slice a x.args.len c] 73)).alloc (.cells #[.int .i64 y.op, .int .i64 y.num, .int .i64 y.den, .int .i64 y.mode, .slice a2 y.args.len c2] 73)) (fun e => h0 (by rw [e])) hB
      clear hno h0 ih hd hz hF hG
      go_enter Tryz.func38, Tryz.ntmps38
      go_wp2
      exact hfin
    have e0 : (x.op != y.op) = false := by simp [h0]
    by_cases h1 : x.num = y.num
    rotate_left
    · have e1 : (x.num != y.num) = true := by simp [h1]
      have hfin := hno ((W.alloc (.cells #[.int .i64 x.op, .int .i64 x.num, .int .i64 x.den, .int .i64 x.mode, .slice a x.args.len c] 73)).alloc (.cells #[.int .i64 y.op, .int .i64 y.num, .int .i64 y.den, .int .i64 y.mode, .slice a2 y.args.len c2] 73)) (fun e => h1 (by rw [e])) hB
      clear hno h1 ih hd hz hF hG h0
      go_enter Tryz.func38, Tryz.ntmps38
      go_wp2
      exact hfin
    have e1 : (x.num != y.num) = false := by simp [h1]
    by_cases h2 : x.den = y.den
    rotate_left
    · have e2 : (x.den != y.den) = true := by simp [h2]
      have hfin := hno ((W.alloc (.cells #[.int .i64 x.op, .int .i64 x.num, .int .i64 x.den, .int .i64 x.mode, .slice a x.args.len c] 73)).alloc (.cells #[.int .i64 y.op, .int .i64 y.num, .int .i64 y.den, .int .i64 y.mode, .slice a2 y.args.len c2] 73)) (fun e => h2 (by rw [e])) hB
      clear hno h2 ih hd hz hF hG h0 h1
      go_enter Tryz.func38, Tryz.ntmps38
      go_wp2
      exact hfin
    have e2 : (x.den != y.den) = false := by simp [h2]
    by_cases h3 : x.mode = y.mode
    rotate_left
    · have e3 : (x.mode != y.mode) = true := by simp [h3]
      have hfin := hno ((W.alloc (.cells #[.int .i64 x.op, .int .i64 x.num, .int .i64 x.den, .int .i64 x.mode, .slice a x.args.len c] 73)).alloc (.cells #[.int .i64 y.op, .int .i64 y.num, .int .i64 y.den, .int .i64 y.mode, .slice a2 y.args.len c2] 73)) (fun e => h3 (by rw [e])) hB
      clear hno h3 ih hd hz hF hG h0 h1 h2
      go_enter Tryz.func38, Tryz.ntmps38
      go_wp2
      exact hfin
    have e3 : (x.mode != y.mode) = false := by simp [h3]
    by_cases h4 : x.args.len = y.args.len
    rotate_left
    · have e4 : ((x.args.len : Int) != (y.args.len : Int)) = true := by simp; omega
      have hfin := hno ((W.alloc (.cells #[.int .i64 x.op, .int .i64 x.num, .int .i64 x.den, .int .i64 x.mode, .slice a x.args.len c] 73)).alloc (.cells #[.int .i64 y.op, .int .i64 y.num, .int .i64 y.den, .int .i64 y.mode, .slice a2 y.args.len c2] 73)) (fun e => h4 (by rw [e])) hB
      clear hno h4 ih hd hz hF hG h0 h1 h2 h3
      go_enter Tryz.func38, Tryz.ntmps38
      go_wp2
      exact hfin
    have e4 : ((x.args.len : Int) != (y.args.len : Int)) = false := by simp; omega
    have hxy : toL x.args = toL y.args → x = y := fun h => ex_ext h0 h1 h2 h3 h
    clear h0 h1 h2 h3
    have hl4 : (toL x.args).length = (toL y.args).length := by rw [toL_len, toL_len]; exact h4
    have h4' := Hid.mk h4
    clear h4
    have h4 := h4'
    clear h4'
    have hRx := row_of_fo hF
    have hRy := row_of_fo hG
    have hdx : ∀ z ∈ toL x.args, deepE z ≤ n ∧ SzE z := fun z hz2 => by
      have := deepF_toL _ _ hz2
      refine ⟨?_, toL_sz _ hz.2 z hz2⟩
      unfold deepE at hd ⊢
      unfold deepE at this
      omega
    have hxl := hz.1
    have hs1 : (W.alloc (.cells #[.int .i64 x.op, .int .i64 x.num, .int .i64 x.den, .int .i64 x.mode, .slice a x.args.len c] 73)).heap.size = W.heap.size + 1 := by simp
    have hsz : ((W.alloc (.cells #[.int .i64 x.op, .int .i64 x.num, .int .i64 x.den, .int .i64 x.mode, .slice a x.args.len c] 73)).alloc (.cells #[.int .i64 y.op, .int .i64 y.num, .int .i64 y.den, .int .i64 y.mode, .slice a2 y.args.len c2] 73)).heap.size = W.heap.size + 1 + 1 := by simp
    have hx1 := ((bx_new W #[.int .i64 x.op, .int .i64 x.num, .int .i64 x.den, .int .i64 x.mode, .slice a x.args.len c] 73).kept (World.grownBy_alloc (W.alloc (.cells #[.int .i64 x.op, .int .i64 x.num, .int .i64 x.den, .int .i64 x.mode, .slice a x.args.len c] 73)) (.cells #[.int .i64 y.op, .int .i64 y.num, .int .i64 y.den, .int .i64 y.mode, .slice a2 y.args.len c2] 73) none) (by simp)).2.1 4 (by simp)
    have hx2 := (bx_new (W.alloc (.cells #[.int .i64 x.op, .int .i64 x.num, .int .i64 x.den, .int .i64 x.mode, .slice a x.args.len c] 73)) #[.int .i64 y.op, .int .i64 y.num, .int .i64 y.den, .int .i64 y.mode, .slice a2 y.args.len c2] 73).2.1 4 (by simp)
    rw [hs1] at hx2
    have hF2 := row_bel hRx hB (Nat.le_refl _)
    have hG2 := row_bel hRy hB (Nat.le_refl _)
    clear hF hG hRx hRy hs1
    go_enter Tryz.func38, Tryz.ntmps38
    go_wp2
    go_loopw [5] (fun iv wr => ∃ i : Nat, iv = .int .i64 (i : Int) ∧ i ≤ x.args.len ∧ Below ((W.alloc (.cells #[.int .i64 x.op, .int .i64 x.num, .int .i64 x.den, .int .i64 x.mode, .slice a x.args.len c] 73)).alloc (.cells #[.int .i64 y.op, .int .i64 y.num, .int .i64 y.den, .int .i64 y.mode, .slice a2 y.args.len c2] 73)).heap.size ((W.alloc (.cells #[.int .i64 x.op, .int .i64 x.num, .int .i64 x.den, .int .i64 x.mode, .slice a x.args.len c] 73)).alloc (.cells #[.int .i64 y.op, .int .i64 y.num, .int .i64 y.den, .int .i64 y.mode, .slice a2 y.args.len c2] 73)) wr ∧ Hid (∀ j (h1 : j < (toL x.args).length) (h2 : j < (toL y.args).length), j < i → (toL x.args)[j] = (toL y.args)[j])) (fun iv _ => x.args.len - (intOf iv).toNat)
    case atStart => exact ⟨0, rfl, Nat.zero_le _, Below.refl _ _, ⟨fun j _ _ h => absurd h (Nat.not_lt_zero _)⟩⟩
    case round =>
      obtain ⟨i, rfl, hi, hBr, hall⟩ := hrel
      have q1 := (bel_cell hBr (show W.heap.size < ((W.alloc (.cells #[.int .i64 x.op, .int .i64 x.num, .int .i64 x.den, .int .i64 x.mode, .slice a x.args.len c] 73)).alloc (.cells #[.int .i64 y.op, .int .i64 y.num, .int .i64 y.den, .int .i64 y.mode, .slice a2 y.args.len c2] 73)).heap.size by rw [hsz]; omega) 4).trans hx1
      have q2 := (bel_cell hBr (show W.heap.size + 1 < ((W.alloc (.cells #[.int .i64 x.op, .int .i64 x.num, .int .i64 x.den, .int .i64 x.mode, .slice a x.args.len c] 73)).alloc (.cells #[.int .i64 y.op, .int .i64 y.num, .int .i64 y.den, .int .i64 y.mode, .slice a2 y.args.len c2] 73)).heap.size by rw [hsz]; omega) 4).trans hx2
      have hBW := Below.tr hB hBr (by rw [hsz]; omega)
      by_cases hlt : i < x.args.len
      · have hlt' : (i : Int) < (x.args.len : Int) := by omega
        have hlt2 : (i : Int) < (y.args.len : Int) := by have := h4.out; omega
        have hi0 : (0 : Int) ≤ (i : Int) := by omega
        have hix : i < (toL x.args).length := by rw [toL_len]; exact hlt
        have hiy : i < (toL y.args).length := by omega
        obtain ⟨g, o, rfl⟩ := hF2.some hix
        obtain ⟨g2, o2, rfl⟩ := hG2.some hiy
        have hBd : Below wr.heap.size wr wr.drew := (Below.refl _ _).drew
        have hFr := row_bel (row_bel hF2 hBr (Nat.le_refl _)) hBd (Nat.le_refl _)
        have hGr := row_bel (row_bel hG2 hBr (Nat.le_refl _)) hBd (Nat.le_refl _)
        obtain ⟨cx, -, -, ⟨a8, c8, rfl, -, hFx⟩, hcx⟩ := hFr.item hix
        obtain ⟨cy, -, -, ⟨a9, c9, rfl, -, hGy⟩, hcy⟩ := hGr.item hiy
        have hdi := hdx _ (List.getElem_mem hix)
        have hstep : (toL x.args)[i] = (toL y.args)[i] → ∀ j (h1 : j < (toL x.args).length) (h2 : j < (toL y.args).length), j < i + 1 → (toL x.args)[j] = (toL y.args)[j] := fun he j h1 h2 hj => by
          by_cases hji : j < i
          · exact hall.out j h1 h2 hji
          · obtain rfl : j = i := by omega
            exact he
        have hne : ¬ (toL x.args)[i] = (toL y.args)[i] → x ≠ y := fun h e => by subst e; exact h rfl
        have hstep := Hid.mk hstep
        have hne := Hid.mk hne
        generalize (toL x.args)[i] = xi at hcx hFx hdi hstep hne
        generalize (toL y.args)[i] = yi at hcy hGy hstep hne
        have hS0 : wr.drew.cell? ⟨W.heap.size, 4, none⟩ = some (.slice (some ⟨g, o, none⟩) x.args.len c) ∧ wr.drew.cell? ⟨W.heap.size + 1, 4, none⟩ = some (.slice (some ⟨g2, o2, none⟩) y.args.len c2) ∧ wr.drew.cell? ⟨g, o + i * 5, none⟩ = some (.int .i64 xi.op) ∧ wr.drew.cell? ⟨g, o + i * 5 + 1, none⟩ = some (.int .i64 xi.num) ∧ wr.drew.cell? ⟨g, o + i * 5 + 2, none⟩ = some (.int .i64 xi.den) ∧ wr.drew.cell? ⟨g, o + i * 5 + 3, none⟩ = some (.int .i64 xi.mode) ∧ wr.drew.cell? ⟨g, o + i * 5 + 4, none⟩ = some (.slice a8 xi.args.len c8) ∧ wr.drew.cell? ⟨g2, o2 + i * 5, none⟩ = some (.int .i64 yi.op) ∧ wr.drew.cell? ⟨g2, o2 + i * 5 + 1, none⟩ = some (.int .i64 yi.num) ∧ wr.drew.cell? ⟨g2, o2 + i * 5 + 2, none⟩ = some (.int .i64 yi.den) ∧ wr.drew.cell? ⟨g2, o2 + i * 5 + 3, none⟩ = some (.int .i64 yi.mode) ∧ wr.drew.cell? ⟨g2, o2 + i * 5 + 4, none⟩ = some (.slice a9 yi.args.len c9) := ⟨q1, q2, hcx 0 (by decide), hcx 1 (by decide), hcx 2 (by decide), hcx 3 (by decide), hcx 4 (by decide), hcy 0 (by decide), hcy 1 (by decide), hcy 2 (by decide), hcy 3 (by decide), hcy 4 (by decide)⟩
        have hg1 : g < wr.drew.heap.size := World.block_lt_of_cell? _ _ (hcx 0 (by decide))
        have hg2 : g2 < wr.drew.heap.size := World.block_lt_of_cell? _ _ (hcy 0 (by decide))
        have hw1 : W.heap.size + 1 < wr.drew.heap.size := by have := hBr.size; rw [hsz] at this; exact this
        have hcall := ih xi yi a8 a9 c8 c9 wr.drew hdi.1 hdi.2 hFx hGy
        have hkeep : ∀ X, Below wr.drew.heap.size wr.drew X → X.cell? ⟨W.heap.size, 4, none⟩ = some (.slice (some ⟨g, o, none⟩) x.args.len c) ∧ X.cell? ⟨W.heap.size + 1, 4, none⟩ = some (.slice (some ⟨g2, o2, none⟩) y.args.len c2) ∧ X.cell? ⟨g, o + i * 5, none⟩ = some (.int .i64 xi.op) ∧ X.cell? ⟨g, o + i * 5 + 1, none⟩ = some (.int .i64 xi.num) ∧ X.cell? ⟨g, o + i * 5 + 2, none⟩ = some (.int .i64 xi.den) ∧ X.cell? ⟨g, o + i * 5 + 3, none⟩ = some (.int .i64 xi.mode) ∧ X.cell? ⟨g, o + i * 5 + 4, none⟩ = some (.slice a8 xi.args.len c8) ∧ X.cell? ⟨g2, o2 + i * 5, none⟩ = some (.int .i64 yi.op) ∧ X.cell? ⟨g2, o2 + i * 5 + 1, none⟩ = some (.int .i64 yi.num) ∧ X.cell? ⟨g2, o2 + i * 5 + 2, none⟩ = some (.int .i64 yi.den) ∧ X.cell? ⟨g2, o2 + i * 5 + 3, none⟩ = some (.int .i64 yi.mode) ∧ X.cell? ⟨g2, o2 + i * 5 + 4, none⟩ = some (.slice a9 yi.args.len c9) := fun X hX => by
          have k := fun {b : Nat} (hb : b < wr.drew.heap.size) (j : Nat) => bel_cell hX hb j
          obtain ⟨s0, s1, s2, s3, s4, s5, s6, s7, s8, s9, s10, s11⟩ := hS0
          exact ⟨(k (by omega) _).trans s0, (k hw1 _).trans s1, (k hg1 _).trans s2, (k hg1 _).trans s3, (k hg1 _).trans s4, (k hg1 _).trans s5, (k hg1 _).trans s6, (k hg2 _).trans s7, (k hg2 _).trans s8, (k hg2 _).trans s9, (k hg2 _).trans s10, (k hg2 _).trans s11⟩
        clear hcx hcy hFr hGr hFx hGy hF2 hG2 hx1 hx2 hall hxy hdx
        go_wp2
        go_region_held3 (fun X => X.cell? ⟨W.heap.size, 4, none⟩ = some (.slice (some ⟨g, o, none⟩) x.args.len c) ∧ X.cell? ⟨W.heap.size + 1, 4, none⟩ = some (.slice (some ⟨g2, o2, none⟩) y.args.len c2) ∧ X.cell? ⟨g, o + i * 5, none⟩ = some (.int .i64 xi.op) ∧ X.cell? ⟨g, o + i * 5 + 1, none⟩ = some (.int .i64 xi.num) ∧ X.cell? ⟨g, o + i * 5 + 2, none⟩ = some (.int .i64 xi.den) ∧ X.cell? ⟨g, o + i * 5 + 3, none⟩ = some (.int .i64 xi.mode) ∧ X.cell? ⟨g, o + i * 5 + 4, none⟩ = some (.slice a8 xi.args.len c8) ∧ X.cell? ⟨g2, o2 + i * 5, none⟩ = some (.int .i64 yi.op) ∧ X.cell? ⟨g2, o2 + i * 5 + 1, none⟩ = some (.int .i64 yi.num) ∧ X.cell? ⟨g2, o2 + i * 5 + 2, none⟩ = some (.int .i64 yi.den) ∧ X.cell? ⟨g2, o2 + i * 5 + 3, none⟩ = some (.int .i64 yi.mode) ∧ X.cell? ⟨g2, o2 + i * 5 + 4, none⟩ = some (.slice a9 yi.args.len c9)) (assumption)
          (first | (go_at_call 38; refine hcall.mono ?_; rintro e w5 ⟨hB5, r, rfl, hr⟩; have hS5 := hkeep w5 hB5))
        have hB5 := Below.tr (Below.tr hBr hBd hBr.size) hB5 (by have := hBr.size; have := hBd.size; omega)
        cases r with
        | true =>
          have hst := Hid.mk (hstep.out (hr.1 rfl))
          clear hstep hne hr hkeep hS0 hno
          go_wp2
          go_roundw
          case rel => exact ⟨i + 1, by go_num, by omega, hB5, hst⟩
          case measure => simp [intOf]; omega
        | false =>
          have hfin := hno w5 (hne.out (fun h => by have := hr.2 h; cases this)) (Below.tr hB hB5 (by rw [hsz]; omega))
          clear hstep hne hr hkeep hS0 hno
          go_wp2
          exact hfin
      · have hlt' : ¬ (i : Int) < (x.args.len : Int) := by omega
        have hfin : Q (.returned (.bool true)) wr := by
          rw [← hQ.out]
          refine ⟨hBW, true, rfl, fun _ => hxy (list_all hl4 (fun j h1 h2 => hall.out j h1 h2 (by rw [toL_len] at h1; omega))), fun _ => rfl⟩
        clear hno hxy hall
        go_wp2
        exact hfin
end Go.Proofs.YthnmjafoplfikaaGreatDoor

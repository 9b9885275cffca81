import Derived.Test.YtmklkcefbabhbaaGreatJoin21
/- Numbers within bounds, a line and its kind. -/
namespace Go.Proofs.YtmklkcefbabhbaaGreat.R6
open Go.RowKit

set_option maxRecDepth 20000 in
set_option maxHeartbeats 1000000 in
theorem within_any (n lo hi : Int) (W : World) : Calls Tryz.prog 108 #[.int .i64 n, .int .i64 lo, .int .i64 hi] W fun e W' => e = .returned (.bool (wi n lo hi)) ∧ W' = W := by
  unfold wi
  by_cases h1 : lo ≤ n
  · by_cases h2 : n ≤ hi
    · rw [decide_eq_true h1, decide_eq_true h2]
      go_enter Tryz.func108, Tryz.ntmps108
      go_wp2
      go_ret
      exact ⟨rfl, rfl⟩
    · rw [decide_eq_true h1, decide_eq_false h2]
      go_enter Tryz.func108, Tryz.ntmps108
      go_wp2
      go_ret
      exact ⟨rfl, rfl⟩
  · rw [decide_eq_false h1]
    go_enter Tryz.func108, Tryz.ntmps108
    go_wp2
    go_ret
    exact ⟨rfl, rfl⟩

def kdV (k : Kd) : Value := .agg #[.int .i64 k.1, .int .i64 k.2]
set_option maxRecDepth 20000 in
set_option maxHeartbeats 1000000 in
theorem of_any (l : Ln) (a : Option Addr) (c : Nat) (W : World) : Calls Tryz.prog 32 #[.agg #[.string ⟨l.name.toArray⟩, .bool l.input, .bool l.must, .int .i64 l.type, .int .i64 l.opts, .int .i64 l.group, .slice a l.cls.length c]] W (Lk (kdV (lineK l)) W) := by
  unfold kdV
  have hB : Below W.heap.size W (W.alloc (.cells #[.string ⟨l.name.toArray⟩, .bool l.input, .bool l.must, .int .i64 l.type, .int .i64 l.opts, .int .i64 l.group, .slice a l.cls.length c] 55)) := (Below.refl _ _).alloc (Nat.le_refl _) _
  unfold lineK
  by_cases h : l.type = 5
  · have h' : (l.type == 5) = true := by simp [h]
    rw [if_pos h]
    clear h
    go_enter Tryz.func32, Tryz.ntmps32
    go_wp2
    exact bodyPost_ret (v := .agg #[.int .i64 5, .int .i64 l.opts]) (by simp [results, Tryz.results32, go_sem]) rfl ⟨rfl, hB.alloc (by simp) _⟩
  · have h' : (l.type == 5) = false := by simp [h]
    rw [if_neg h]
    clear h
    go_enter Tryz.func32, Tryz.ntmps32
    go_wp2
    exact bodyPost_ret (v := .agg #[.int .i64 l.type, .int .i64 (-1)]) (by simp [results, Tryz.results32, go_sem]) rfl ⟨rfl, hB.alloc (by simp) _⟩

/-- What 'line' answers. -/
def LnP (p : Pk) (n : Int) (W : World) (e : Ending) (W' : World) : Prop := Below W.heap.size W W' ∧ match lnO p n with
  | some l => ∃ a c, e = .returned (.tuple #[.agg #[.string ⟨l.name.toArray⟩, .bool l.input, .bool l.must, .int .i64 l.type, .int .i64 l.opts, .int .i64 l.group, .slice a l.cls.length c], .bool (isK l.type)])
  | none => e = .returned (.tuple #[.agg #[.string ⟨#[]⟩, .bool false, .bool false, .int .i64 0, .int .i64 0, .int .i64 0, .slice none 0 0], .bool false])
set_option maxRecDepth 20000 in
set_option maxHeartbeats 1000000 in
theorem line_any (p : Pk) (a3 a4 a5 a6 a7 : Option Addr) (c3 c4 c5 c6 c7 : Nat) (n : Int) (W : World) (hL : RowR eL W AnyB p.lns a6) : Calls Tryz.prog 105 #[.agg #[.string ⟨p.name.toArray⟩, .int .i64 p.year, .slice a3 p.opts.length c3, .slice a4 p.tabs.length c4, .slice a5 p.grps.length c5, .slice a6 p.lns.length c6, .slice a7 p.cks.length c7], .int .i64 n] W (LnP p n W) := by
  have hb0 : Below W.heap.size W ((W.alloc (.cells #[.string ⟨p.name.toArray⟩, .int .i64 p.year, .slice a3 p.opts.length c3, .slice a4 p.tabs.length c4, .slice a5 p.grps.length c5, .slice a6 p.lns.length c6, .slice a7 p.cks.length c7] 28)).alloc (.cells #[.string ⟨#[]⟩, .bool false, .bool false, .int .i64 0, .int .i64 0, .int .i64 0, .slice none 0 0] 55)) := ((Below.refl _ _).alloc (Nat.le_refl _) _).alloc (by simp) _
  have hsz : ((W.alloc (.cells #[.string ⟨p.name.toArray⟩, .int .i64 p.year, .slice a3 p.opts.length c3, .slice a4 p.tabs.length c4, .slice a5 p.grps.length c5, .slice a6 p.lns.length c6, .slice a7 p.cks.length c7] 28)).alloc (.cells #[.string ⟨#[]⟩, .bool false, .bool false, .int .i64 0, .int .i64 0, .int .i64 0, .slice none 0 0] 55)).heap.size = W.heap.size + 2 := by simp
  have hRX := row_bel hL hb0 (Nat.le_refl _)
  unfold LnP lnO
  by_cases h0 : n < 0
  · have hn : at? p.lns n = none := by unfold at?; rw [if_neg (by omega)]
    rw [hn]
    clear hRX hL
    go_enter Tryz.func105, Tryz.ntmps105
    go_wp2
    exact bodyPost_ret (v := .tuple #[.agg #[.string ⟨#[]⟩, .bool false, .bool false, .int .i64 0, .int .i64 0, .int .i64 0, .slice none 0 0], .bool false]) (by simp [results, Tryz.results105, go_sem]) rfl ⟨hb0, rfl⟩
  by_cases h1 : (p.lns.length : Int) ≤ n
  · have hn : at? p.lns n = none := by unfold at?; rw [if_pos (by omega)]; exact List.getElem?_eq_none (by omega)
    rw [hn]
    clear hRX hL
    go_enter Tryz.func105, Tryz.ntmps105
    go_wp2
    exact bodyPost_ret (v := .tuple #[.agg #[.string ⟨#[]⟩, .bool false, .bool false, .int .i64 0, .int .i64 0, .int .i64 0, .slice none 0 0], .bool false]) (by simp [results, Tryz.results105, go_sem]) rfl ⟨hb0, rfl⟩
  obtain ⟨i, rfl⟩ := Int.eq_ofNat_of_zero_le (show 0 ≤ n by omega)
  have hlt : i < p.lns.length := by omega
  have hn : at? p.lns (i : Int) = some p.lns[i] := by unfold at?; rw [if_pos (by omega), Int.toNat_natCast]; exact List.getElem?_eq_getElem hlt
  rw [hn]
  clear hn
  have hlt' : (i : Int) < (p.lns.length : Int) := by omega
  have hi0 : (0 : Int) ≤ (i : Int) := by omega
  obtain ⟨ge, oe, rfl⟩ := hRX.some hlt
  obtain ⟨cs, -, -, ⟨a, c, rfl, -⟩, hcs⟩ := hRX.item hlt
  have k0 : ((W.alloc (.cells #[.string ⟨p.name.toArray⟩, .int .i64 p.year, .slice a3 p.opts.length c3, .slice a4 p.tabs.length c4, .slice a5 p.grps.length c5, .slice (some ⟨ge, oe, none⟩) p.lns.length c6, .slice a7 p.cks.length c7] 28)).alloc (.cells #[.string ⟨#[]⟩, .bool false, .bool false, .int .i64 0, .int .i64 0, .int .i64 0, .slice none 0 0] 55)).cell? ⟨ge, oe + i * 7, none⟩ = some (.string ⟨p.lns[i].name.toArray⟩) := hcs 0 (by decide)
  have k1 : ((W.alloc (.cells #[.string ⟨p.name.toArray⟩, .int .i64 p.year, .slice a3 p.opts.length c3, .slice a4 p.tabs.length c4, .slice a5 p.grps.length c5, .slice (some ⟨ge, oe, none⟩) p.lns.length c6, .slice a7 p.cks.length c7] 28)).alloc (.cells #[.string ⟨#[]⟩, .bool false, .bool false, .int .i64 0, .int .i64 0, .int .i64 0, .slice none 0 0] 55)).cell? ⟨ge, oe + i * 7 + 1, none⟩ = some (.bool p.lns[i].input) := hcs 1 (by decide)
  have k2 : ((W.alloc (.cells #[.string ⟨p.name.toArray⟩, .int .i64 p.year, .slice a3 p.opts.length c3, .slice a4 p.tabs.length c4, .slice a5 p.grps.length c5, .slice (some ⟨ge, oe, none⟩) p.lns.length c6, .slice a7 p.cks.length c7] 28)).alloc (.cells #[.string ⟨#[]⟩, .bool false, .bool false, .int .i64 0, .int .i64 0, .int .i64 0, .slice none 0 0] 55)).cell? ⟨ge, oe + i * 7 + 2, none⟩ = some (.bool p.lns[i].must) := hcs 2 (by decide)
  have k3 : ((W.alloc (.cells #[.string ⟨p.name.toArray⟩, .int .i64 p.year, .slice a3 p.opts.length c3, .slice a4 p.tabs.length c4, .slice a5 p.grps.length c5, .slice (some ⟨ge, oe, none⟩) p.lns.length c6, .slice a7 p.cks.length c7] 28)).alloc (.cells #[.string ⟨#[]⟩, .bool false, .bool false, .int .i64 0, .int .i64 0, .int .i64 0, .slice none 0 0] 55)).cell? ⟨ge, oe + i * 7 + 3, none⟩ = some (.int .i64 p.lns[i].type) := hcs 3 (by decide)
  have k4 : ((W.alloc (.cells #[.string ⟨p.name.toArray⟩, .int .i64 p.year, .slice a3 p.opts.length c3, .slice a4 p.tabs.length c4, .slice a5 p.grps.length c5, .slice (some ⟨ge, oe, none⟩) p.lns.length c6, .slice a7 p.cks.length c7] 28)).alloc (.cells #[.string ⟨#[]⟩, .bool false, .bool false, .int .i64 0, .int .i64 0, .int .i64 0, .slice none 0 0] 55)).cell? ⟨ge, oe + i * 7 + 4, none⟩ = some (.int .i64 p.lns[i].opts) := hcs 4 (by decide)
  have k5 : ((W.alloc (.cells #[.string ⟨p.name.toArray⟩, .int .i64 p.year, .slice a3 p.opts.length c3, .slice a4 p.tabs.length c4, .slice a5 p.grps.length c5, .slice (some ⟨ge, oe, none⟩) p.lns.length c6, .slice a7 p.cks.length c7] 28)).alloc (.cells #[.string ⟨#[]⟩, .bool false, .bool false, .int .i64 0, .int .i64 0, .int .i64 0, .slice none 0 0] 55)).cell? ⟨ge, oe + i * 7 + 5, none⟩ = some (.int .i64 p.lns[i].group) := hcs 5 (by decide)
  have k6 : ((W.alloc (.cells #[.string ⟨p.name.toArray⟩, .int .i64 p.year, .slice a3 p.opts.length c3, .slice a4 p.tabs.length c4, .slice a5 p.grps.length c5, .slice (some ⟨ge, oe, none⟩) p.lns.length c6, .slice a7 p.cks.length c7] 28)).alloc (.cells #[.string ⟨#[]⟩, .bool false, .bool false, .int .i64 0, .int .i64 0, .int .i64 0, .slice none 0 0] 55)).cell? ⟨ge, oe + i * 7 + 6, none⟩ = some (.slice a p.lns[i].cls.length c) := hcs 6 (by decide)
  clear hcs hRX hL
  generalize p.lns[i] = l at *
  by_cases q0 : l.type < 1
  · have g0 : ¬ (1 : Int) ≤ l.type := by omega
    have hkH : Hid (isK l.type = false) := ⟨by unfold isK; simp; omega⟩
    go_enter Tryz.func105, Tryz.ntmps105
    go_upto_region 4 with fail
    clear k0 k1 k2 k3 k4 k5 k6
    go_region
    all_goals go_wp2
    all_goals exact bodyPost_ret (v := .tuple #[.agg #[.string ⟨l.name.toArray⟩, .bool l.input, .bool l.must, .int .i64 l.type, .int .i64 l.opts, .int .i64 l.group, .slice a l.cls.length c], .bool false]) (by simp [results, Tryz.results105, go_sem]) rfl ⟨((((Below.refl _ _).alloc (Nat.le_refl _) _).alloc (by simp) _).alloc (by simp; omega) _).drew, a, c, by rw [hkH.out]⟩
  by_cases q1 : 5 < l.type
  · have g0 : (1 : Int) ≤ l.type := by omega
    have g1 : ¬ l.type ≤ 5 := by omega
    have hkH : Hid (isK l.type = false) := ⟨by unfold isK; simp; omega⟩
    go_enter Tryz.func105, Tryz.ntmps105
    go_upto_region 4 with fail
    clear k0 k1 k2 k3 k4 k5 k6
    go_region
    all_goals go_wp2
    all_goals exact bodyPost_ret (v := .tuple #[.agg #[.string ⟨l.name.toArray⟩, .bool l.input, .bool l.must, .int .i64 l.type, .int .i64 l.opts, .int .i64 l.group, .slice a l.cls.length c], .bool false]) (by simp [results, Tryz.results105, go_sem]) rfl ⟨((((Below.refl _ _).alloc (Nat.le_refl _) _).alloc (by simp) _).alloc (by simp; omega) _).drew, a, c, by rw [hkH.out]⟩
  have g0 : (1 : Int) ≤ l.type := by omega
  have g1 : l.type ≤ 5 := by omega
  have hkH : Hid (isK l.type = true) := ⟨by unfold isK; simp; omega⟩
  go_enter Tryz.func105, Tryz.ntmps105
  go_upto_region 4 with fail
  clear k0 k1 k2 k3 k4 k5 k6
  go_region
  all_goals go_wp2
  all_goals exact bodyPost_ret (v := .tuple #[.agg #[.string ⟨l.name.toArray⟩, .bool l.input, .bool l.must, .int .i64 l.type, .int .i64 l.opts, .int .i64 l.group, .slice a l.cls.length c], .bool true]) (by simp [results, Tryz.results105, go_sem]) rfl ⟨((((Below.refl _ _).alloc (Nat.le_refl _) _).alloc (by simp) _).alloc (by simp; omega) _).drew, a, c, by rw [hkH.out]⟩

end Go.Proofs.YtmklkcefbabhbaaGreat.R6


/- The numbers of an expression. -/
namespace Go.Proofs.YtmklkcefbabhbaaGreat.R6
open Go.RowKit

set_option maxRecDepth 20000 in
set_option maxHeartbeats 4000000 in
theorem nu_n_24 (num den mode : Int) (args : Fo) (a : Option Addr) (c : Nat) (hm : ¬ (1 : Int) ≤ mode) (W : World) : Calls Tryz.prog 104 #[.agg #[.int .i64 24, .int .i64 num, .int .i64 den, .int .i64 mode, .slice a args.len c]] W (Lk (.bool (nuB ⟨24, num, den, mode, args⟩)) W) := by
  have hB : Below W.heap.size W (W.alloc (.cells #[.int .i64 24, .int .i64 num, .int .i64 den, .int .i64 mode, .slice a args.len c] 59)) := (Below.refl _ _).alloc (Nat.le_refl _) _
  have hnu : nuB ⟨24, num, den, mode, args⟩ = ((true) && (den == 0) && (mode == 0)) := by
    rfl
  rw [hnu]
  clear hnu
  cases hD : (den == 0) with
  | false =>
    go_enter Tryz.func104, Tryz.ntmps104
    go_wp2
    go_ret
    exact ⟨rfl, hB⟩
  | true =>
    go_enter Tryz.func104, Tryz.ntmps104
    go_wp2
    go_ret
    exact ⟨rfl, hB⟩
set_option maxRecDepth 20000 in
set_option maxHeartbeats 4000000 in
theorem nu_n_16 (num den mode : Int) (args : Fo) (a : Option Addr) (c : Nat) (hm : ¬ (1 : Int) ≤ mode) (W : World) : Calls Tryz.prog 104 #[.agg #[.int .i64 16, .int .i64 num, .int .i64 den, .int .i64 mode, .slice a args.len c]] W (Lk (.bool (nuB ⟨16, num, den, mode, args⟩)) W) := by
  have hB : Below W.heap.size W (W.alloc (.cells #[.int .i64 16, .int .i64 num, .int .i64 den, .int .i64 mode, .slice a args.len c] 59)) := (Below.refl _ _).alloc (Nat.le_refl _) _
  have hnu : nuB ⟨16, num, den, mode, args⟩ = ((wi num (-1000000000) 1000000000) && (wi den 1 1000000000) && (false)) := by
    rw [show (false) = wi mode 1 5 by unfold wi; simp; try omega]
    rfl
  rw [hnu]
  clear hnu
  cases hN : (wi num (-1000000000) 1000000000) with
  | false =>
    cases hD : (wi den 1 1000000000) with
    | false =>
      have hwn : ∀ W, Calls Tryz.prog 108 #[.int .i64 num, .int .i64 (-1000000000), .int .i64 1000000000] W fun e W' => e = .returned (.bool false) ∧ W' = W := fun W => by
        have := within_any num (-1000000000) 1000000000 W
        rw [hN] at this
        exact this
      have hwd : ∀ W, Calls Tryz.prog 108 #[.int .i64 den, .int .i64 1, .int .i64 1000000000] W fun e W' => e = .returned (.bool false) ∧ W' = W := fun W => by
        have := within_any den 1 1000000000 W
        rw [hD] at this
        exact this
      go_enter Tryz.func104, Tryz.ntmps104
      go_wp2_with (first | (go_at_call 108; with_reducible refine (hwn _).mono ?_; rintro e w1 ⟨rfl, hw⟩; subst w1) | (go_at_call 108; with_reducible refine (hwd _).mono ?_; rintro e w1 ⟨rfl, hw⟩; subst w1))
      go_ret
      exact ⟨rfl, hB⟩
    | true =>
      have hwn : ∀ W, Calls Tryz.prog 108 #[.int .i64 num, .int .i64 (-1000000000), .int .i64 1000000000] W fun e W' => e = .returned (.bool false) ∧ W' = W := fun W => by
        have := within_any num (-1000000000) 1000000000 W
        rw [hN] at this
        exact this
      have hwd : ∀ W, Calls Tryz.prog 108 #[.int .i64 den, .int .i64 1, .int .i64 1000000000] W fun e W' => e = .returned (.bool true) ∧ W' = W := fun W => by
        have := within_any den 1 1000000000 W
        rw [hD] at this
        exact this
      go_enter Tryz.func104, Tryz.ntmps104
      go_wp2_with (first | (go_at_call 108; with_reducible refine (hwn _).mono ?_; rintro e w1 ⟨rfl, hw⟩; subst w1) | (go_at_call 108; with_reducible refine (hwd _).mono ?_; rintro e w1 ⟨rfl, hw⟩; subst w1))
      go_ret
      exact ⟨rfl, hB⟩
  | true =>
    cases hD : (wi den 1 1000000000) with
    | false =>
      have hwn : ∀ W, Calls Tryz.prog 108 #[.int .i64 num, .int .i64 (-1000000000), .int .i64 1000000000] W fun e W' => e = .returned (.bool true) ∧ W' = W := fun W => by
        have := within_any num (-1000000000) 1000000000 W
        rw [hN] at this
        exact this
      have hwd : ∀ W, Calls Tryz.prog 108 #[.int .i64 den, .int .i64 1, .int .i64 1000000000] W fun e W' => e = .returned (.bool false) ∧ W' = W := fun W => by
        have := within_any den 1 1000000000 W
        rw [hD] at this
        exact this
      go_enter Tryz.func104, Tryz.ntmps104
      go_wp2_with (first | (go_at_call 108; with_reducible refine (hwn _).mono ?_; rintro e w1 ⟨rfl, hw⟩; subst w1) | (go_at_call 108; with_reducible refine (hwd _).mono ?_; rintro e w1 ⟨rfl, hw⟩; subst w1))
      go_ret
      exact ⟨rfl, hB⟩
    | true =>
      have hwn : ∀ W, Calls Tryz.prog 108 #[.int .i64 num, .int .i64 (-1000000000), .int .i64 1000000000] W fun e W' => e = .returned (.bool true) ∧ W' = W := fun W => by
        have := within_any num (-1000000000) 1000000000 W
        rw [hN] at this
        exact this
      have hwd : ∀ W, Calls Tryz.prog 108 #[.int .i64 den, .int .i64 1, .int .i64 1000000000] W fun e W' => e = .returned (.bool true) ∧ W' = W := fun W => by
        have := within_any den 1 1000000000 W
        rw [hD] at this
        exact this
      go_enter Tryz.func104, Tryz.ntmps104
      go_wp2_with (first | (go_at_call 108; with_reducible refine (hwn _).mono ?_; rintro e w1 ⟨rfl, hw⟩; subst w1) | (go_at_call 108; with_reducible refine (hwd _).mono ?_; rintro e w1 ⟨rfl, hw⟩; subst w1))
      go_ret
      exact ⟨rfl, hB⟩
set_option maxRecDepth 20000 in
set_option maxHeartbeats 4000000 in
theorem nu_n_18 (num den mode : Int) (args : Fo) (a : Option Addr) (c : Nat) (hm : ¬ (1 : Int) ≤ mode) (W : World) : Calls Tryz.prog 104 #[.agg #[.int .i64 18, .int .i64 num, .int .i64 den, .int .i64 mode, .slice a args.len c]] W (Lk (.bool (nuB ⟨18, num, den, mode, args⟩)) W) := by
  have hB : Below W.heap.size W (W.alloc (.cells #[.int .i64 18, .int .i64 num, .int .i64 den, .int .i64 mode, .slice a args.len c] 59)) := (Below.refl _ _).alloc (Nat.le_refl _) _
  have hnu : nuB ⟨18, num, den, mode, args⟩ = ((num == 0) && (den == 0) && (false)) := by
    rw [show (false) = wi mode 1 5 by unfold wi; simp; try omega]
    rfl
  rw [hnu]
  clear hnu
  cases hN : (num == 0) with
  | false =>
    go_enter Tryz.func104, Tryz.ntmps104
    go_wp2
    go_ret
    exact ⟨rfl, hB⟩
  | true =>
    cases hD : (den == 0) with
    | false =>
      go_enter Tryz.func104, Tryz.ntmps104
      go_wp2
      go_ret
      exact ⟨rfl, hB⟩
    | true =>
      go_enter Tryz.func104, Tryz.ntmps104
      go_wp2
      go_ret
      exact ⟨rfl, hB⟩
set_option maxRecDepth 20000 in
set_option maxHeartbeats 4000000 in
theorem nu_n_23 (num den mode : Int) (args : Fo) (a : Option Addr) (c : Nat) (hm : ¬ (1 : Int) ≤ mode) (W : World) : Calls Tryz.prog 104 #[.agg #[.int .i64 23, .int .i64 num, .int .i64 den, .int .i64 mode, .slice a args.len c]] W (Lk (.bool (nuB ⟨23, num, den, mode, args⟩)) W) := by
  have hB : Below W.heap.size W (W.alloc (.cells #[.int .i64 23, .int .i64 num, .int .i64 den, .int .i64 mode, .slice a args.len c] 59)) := (Below.refl _ _).alloc (Nat.le_refl _) _
  have hnu : nuB ⟨23, num, den, mode, args⟩ = ((wi num 1 9999999999999) && (den == 0) && (false)) := by
    rw [show (false) = wi mode 1 5 by unfold wi; simp; try omega]
    rfl
  rw [hnu]
  clear hnu
  cases hN : (wi num 1 9999999999999) with
  | false =>
    have hwn : ∀ W, Calls Tryz.prog 108 #[.int .i64 num, .int .i64 1, .int .i64 9999999999999] W fun e W' => e = .returned (.bool false) ∧ W' = W := fun W => by
      have := within_any num 1 9999999999999 W
      rw [hN] at this
      exact this
    go_enter Tryz.func104, Tryz.ntmps104
    go_wp2_with (first | (go_at_call 108; with_reducible refine (hwn _).mono ?_; rintro e w1 ⟨rfl, hw⟩; subst w1))
    go_ret
    exact ⟨rfl, hB⟩
  | true =>
    cases hD : (den == 0) with
    | false =>
      have hwn : ∀ W, Calls Tryz.prog 108 #[.int .i64 num, .int .i64 1, .int .i64 9999999999999] W fun e W' => e = .returned (.bool true) ∧ W' = W := fun W => by
        have := within_any num 1 9999999999999 W
        rw [hN] at this
        exact this
      go_enter Tryz.func104, Tryz.ntmps104
      go_wp2_with (first | (go_at_call 108; with_reducible refine (hwn _).mono ?_; rintro e w1 ⟨rfl, hw⟩; subst w1))
      go_ret
      exact ⟨rfl, hB⟩
    | true =>
      have hwn : ∀ W, Calls Tryz.prog 108 #[.int .i64 num, .int .i64 1, .int .i64 9999999999999] W fun e W' => e = .returned (.bool true) ∧ W' = W := fun W => by
        have := within_any num 1 9999999999999 W
        rw [hN] at this
        exact this
      go_enter Tryz.func104, Tryz.ntmps104
      go_wp2_with (first | (go_at_call 108; with_reducible refine (hwn _).mono ?_; rintro e w1 ⟨rfl, hw⟩; subst w1))
      go_ret
      exact ⟨rfl, hB⟩
set_option maxRecDepth 20000 in
set_option maxHeartbeats 4000000 in
theorem nu_n_x (op : Int) (c1 : ¬ op = 1) (c2 : ¬ op = 2) (c3 : ¬ op = 3) (c4 : ¬ op = 4) (c5 : ¬ op = 5) (c6 : ¬ op = 6) (c7 : ¬ op = 7) (c8 : ¬ op = 8) (c9 : ¬ op = 9) (c10 : ¬ op = 10) (c11 : ¬ op = 11) (c12 : ¬ op = 12) (c24 : ¬ op = 24) (c16 : ¬ op = 16) (c18 : ¬ op = 18) (c23 : ¬ op = 23) (num den mode : Int) (args : Fo) (a : Option Addr) (c : Nat) (hm : ¬ (1 : Int) ≤ mode) (W : World) : Calls Tryz.prog 104 #[.agg #[.int .i64 op, .int .i64 num, .int .i64 den, .int .i64 mode, .slice a args.len c]] W (Lk (.bool (nuB ⟨op, num, den, mode, args⟩)) W) := by
  have hB : Below W.heap.size W (W.alloc (.cells #[.int .i64 op, .int .i64 num, .int .i64 den, .int .i64 mode, .slice a args.len c] 59)) := (Below.refl _ _).alloc (Nat.le_refl _) _
  have hnu : nuB ⟨op, num, den, mode, args⟩ = ((num == 0) && (den == 0) && (mode == 0)) := by
    unfold nuB
    simp only
    rw [if_neg (by omega), if_neg (by omega), if_neg (by omega), if_neg (by omega), if_neg (by omega), if_neg (by omega), if_neg (by omega), if_neg (by omega), if_neg (by omega), if_neg (by omega)]
    rfl
  rw [hnu]
  clear hnu
  have e1 : (op == 1) = false := by simp; omega
  have e2 : (op == 2) = false := by simp; omega
  have e3 : (op == 3) = false := by simp; omega
  have e4 : (op == 4) = false := by simp; omega
  have e5 : (op == 5) = false := by simp; omega
  have e6 : (op == 6) = false := by simp; omega
  have e7 : (op == 7) = false := by simp; omega
  have e8 : (op == 8) = false := by simp; omega
  have e9 : (op == 9) = false := by simp; omega
  have e10 : (op == 10) = false := by simp; omega
  have e11 : (op == 11) = false := by simp; omega
  have e12 : (op == 12) = false := by simp; omega
  have e24 : (op == 24) = false := by simp; omega
  have e16 : (op == 16) = false := by simp; omega
  have e18 : (op == 18) = false := by simp; omega
  have e23 : (op == 23) = false := by simp; omega
  clear c1 c2 c3 c4 c5 c6 c7 c8 c9 c10 c11 c12 c24 c16 c18 c23
  cases hN : (num == 0) with
  | false =>
    go_enter Tryz.func104, Tryz.ntmps104
    go_wp2
    go_ret
    exact ⟨rfl, hB⟩
  | true =>
    cases hD : (den == 0) with
    | false =>
      go_enter Tryz.func104, Tryz.ntmps104
      go_wp2
      go_ret
      exact ⟨rfl, hB⟩
    | true =>
      go_enter Tryz.func104, Tryz.ntmps104
      go_wp2
      go_ret
      exact ⟨rfl, hB⟩
end Go.Proofs.YtmklkcefbabhbaaGreat.R6

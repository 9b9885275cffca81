import Derived.Test.YtigjnodkpkkdmaaJoin53
import Derived.BigQuiet
namespace Go.Proofs.Ytigjnodkpkkdmaa
open Go.RowKit Go.Shelf

theorem eqValN (d : Nat) (x y x' y' : Int) (h : ¬ (x = x' ∧ y = y')) (w : World) : (Op.equalIn (d + 2) 37 (.agg #[.int .i64 x, .int .i64 y]) (.agg #[.int .i64 x', .int .i64 y'])).run Try.prog w = .ok false w := by
  have hS : Try.prog.underlying 37 = some (.struct (Try.prog.fieldsOf 37)) := by kernel_rfl
  have hp : Try.prog.stoodInHeld 37 = false := by kernel_rfl
  rw [show d + 2 = (d + 1) + 1 from rfl, run_equalIn_agg w (d + 1) 37 _ _ hS hp]
  by_cases hx : x = x'
  · subst hx
    have hy : ¬ y = y' := fun e => h ⟨rfl, e⟩
    simp only [Program.fieldsOf, Try.underlying37]
    go_simp
  · simp only [Program.fieldsOf, Try.underlying37]
    go_simp

theorem tnat (q l : Nat) (hq : q < l) (hl : l ≤ 33) : IntKind.i64.wrap (q : Int) = (q : Int) ∧ wrap64 (q : Int) = (q : Int) := wrI rfl (by omega) (by omega)
theorem bal {w X : World} (h : Below w.heap.size w X) (o : Obj) : Below w.heap.size w (X.alloc o) := h.alloc h.size o
theorem bset {w X : World} (h : Below w.heap.size w X) {p : Addr} (hp : w.heap.size ≤ p.block) (v : Value) : Below w.heap.size w (X.setCell p v) := h.setCell hp v
def zV : Obj := .cells #[.int .i64 0, .int .i64 0] 37
/-- A value of two numbers in a variable of its own. -/
def PV (w X : World) (b : Nat) (x y : Int) : Prop := Below w.heap.size w X ∧ X.cell? ⟨b, 0, none⟩ = some (.int .i64 x) ∧ X.cell? ⟨b, 1, none⟩ = some (.int .i64 y) ∧ w.heap.size ≤ b ∧ b < X.heap.size
theorem pv_row {w X : World} {b : Nat} (x y : Int) (hB : Below w.heap.size w X) (hb : w.heap.size ≤ b) (row : X.heap[b]? = some (.cells #[.int .i64 0, .int .i64 0] 37)) : PV w ((X.setCell ⟨b, 0, none⟩ (.int .i64 x)).setCell ⟨b, 1, none⟩ (.int .i64 y)) b x y := by
  have s0 := heap_setCell_same X b 0 _ _ (.int .i64 x) row
  have s1 := heap_setCell_same _ b 1 _ _ (.int .i64 y) s0
  exact ⟨bset (bset hB hb _) hb _, cell_of_row _ _ 0 _ _ _ s1, cell_of_row _ _ 1 _ _ _ s1, hb, (Array.getElem?_eq_some_iff.1 s1).1⟩
theorem pv_new {w X : World} (x y : Int) (hB : Below w.heap.size w X) : PV w (((X.alloc (.cells #[.int .i64 0, .int .i64 0] 37)).setCell ⟨X.heap.size, 0, none⟩ (.int .i64 x)).setCell ⟨X.heap.size, 1, none⟩ (.int .i64 y)) X.heap.size x y :=
  pv_row x y (bal hB _) hB.size (heap_alloc_last X _)
theorem pv_old {w X Y : World} (x y : Int) (hB : Below w.heap.size w X) (hY : Below (X.alloc (.cells #[.int .i64 0, .int .i64 0] 37)).drew.heap.size (X.alloc (.cells #[.int .i64 0, .int .i64 0] 37)).drew Y) : PV w ((Y.setCell ⟨X.heap.size, 0, none⟩ (.int .i64 x)).setCell ⟨X.heap.size, 1, none⟩ (.int .i64 y)) X.heap.size x y := by
  have hr := heap_alloc_last X (.cells #[.int .i64 0, .int .i64 0] 37)
  exact pv_row x y (below_step (bal hB _).drew hY) hB.size ((hY.block _ (Array.getElem?_eq_some_iff.1 hr).1).trans hr)
theorem pv_fresh {w X : World} (x y : Int) (hB : Below w.heap.size w X) : PV w (X.alloc (.cells #[.int .i64 x, .int .i64 y] 37)) X.heap.size x y := by
  have hr := heap_alloc_last X (.cells #[.int .i64 x, .int .i64 y] 37)
  exact ⟨bal hB _, cell_of_row _ _ 0 _ _ _ hr, cell_of_row _ _ 1 _ _ _ hr, hB.size, (Array.getElem?_eq_some_iff.1 hr).1⟩
theorem pv_zero {X Y : World} (hY : Below (X.alloc (.cells #[.int .i64 0, .int .i64 0] 37)).drew.heap.size (X.alloc (.cells #[.int .i64 0, .int .i64 0] 37)).drew Y) : Y.cell? ⟨X.heap.size, 0, none⟩ = some (.int .i64 0) ∧ Y.cell? ⟨X.heap.size, 1, none⟩ = some (.int .i64 0) ∧ Y.frozen? ⟨X.heap.size, 0, none⟩ = false ∧ Y.frozen? ⟨X.heap.size, 1, none⟩ = false := by
  have hr := heap_alloc_last X (.cells #[.int .i64 0, .int .i64 0] 37)
  have row := (hY.block _ (Array.getElem?_eq_some_iff.1 hr).1).trans hr
  exact ⟨cell_of_row _ _ 0 _ _ _ row, cell_of_row _ _ 1 _ _ _ row, frozen_of_row row 0, frozen_of_row row 1⟩
theorem PV.later {w X Y : World} {b : Nat} {x y : Int} (h : PV w X b x y) (hB : Below X.heap.size X Y) : PV w Y b x y :=
  ⟨below_step h.1 hB, (hB.cell (p := ⟨b, 0, none⟩) h.2.2.2.2).trans h.2.1, (hB.cell (p := ⟨b, 1, none⟩) h.2.2.2.2).trans h.2.2.1, h.2.2.2.1, Nat.lt_of_lt_of_le h.2.2.2.2 hB.size⟩
theorem val_parts (o : Option (Int × Int)) : ∃ x y b, (o.getD (0, 0)).1 = x ∧ (o.getD (0, 0)).2 = y ∧ o.isSome = b := ⟨_, _, _, rfl, rfl, rfl⟩
theorem val_ne {o o' : Option (Int × Int)} {x y x' y' : Int} {b b' : Bool} (h : o ≠ o') (h1 : (o.getD (0, 0)).1 = x ∧ (o.getD (0, 0)).2 = y ∧ o.isSome = b) (h2 : (o'.getD (0, 0)).1 = x' ∧ (o'.getD (0, 0)).2 = y' ∧ o'.isSome = b') : b ≠ b' ∨ (b = true ∧ b' = true ∧ ¬ (x = x' ∧ y = y')) := by
  obtain ⟨rfl, rfl, rfl⟩ := h1
  obtain ⟨rfl, rfl, rfl⟩ := h2
  cases o with
  | none => cases o' with
    | none => exact absurd rfl h
    | some q => exact .inl (by simp)
  | some q => cases o' with
    | none => exact .inl (by simp)
    | some q' => exact .inr ⟨rfl, rfl, fun e => h (congrArg some (Prod.ext e.1 e.2))⟩
theorem hist_rises {W : World} {hb : Nat} {Ls : List Es} {p i : Nat} (h : HistAt W hb Ls p) (hi : i < Ls.length) : Rises Ls[i] := by
  obtain ⟨g, cap, vs, hx⟩ := h.x
  obtain ⟨-, ⟨ta, hta, ea⟩, la⟩ := hx.2.2.2.2.2.2 i hi
  rw [← ea]
  exact ents_rises _ hta.2.2.2.2 _
/-- What is told of an entry of M whose key is asked of O, where x are the keys at which the two differ. -/
theorem in_cases {M O : Es} {x : List Nat} (hr : Rises M) (hx : ∀ k, k ∈ x ↔ valE M k ≠ valE O k) {e : Nat × (Int × Int)} (he : e ∈ M) : (valE O e.1 = none ∧ e.1 ∈ x) ∨ (valE O e.1 = some e.2 ∧ e.1 ∉ x) ∨ (∃ v, valE O e.1 = some v ∧ ¬ (v.1 = e.2.1 ∧ v.2 = e.2.2) ∧ e.1 ∈ x) := by
  have hm := valE_mem hr he
  have hk := hx e.1
  rw [hm] at hk
  cases ho : valE O e.1 with
  | none => rw [ho] at hk; exact .inl ⟨rfl, hk.2 (by simp)⟩
  | some v =>
    rw [ho] at hk
    by_cases hv : v.1 = e.2.1 ∧ v.2 = e.2.2
    · have : v = e.2 := Prod.ext hv.1 hv.2
      subst this
      exact .inr (.inl ⟨rfl, fun h => hk.1 h rfl⟩)
    · exact .inr (.inr ⟨v, rfl, hv, hk.2 fun h => hv (by injection h with h; rw [h]; exact ⟨rfl, rfl⟩)⟩)
theorem ents_cells {W : World} {a : Option Addr} {cap : Nat} {L : Es} (h : EntsAt W (.slice a L.length cap) L) {j : Nat} (hj : j < L.length) : ∃ g off, a = some ⟨g, off, none⟩ ∧ g < W.heap.size ∧ W.cell? ⟨g, off + j * 3, none⟩ = some (.int .u32 (L[j].1 : Int)) ∧ W.cell? ⟨g, off + j * 3 + 1, none⟩ = some (.int .i64 L[j].2.1) ∧ W.cell? ⟨g, off + j * 3 + 2, none⟩ = some (.int .i64 L[j].2.2) := by
  obtain ⟨a', cap', e, hd⟩ := h
  injection e with e1 e2 e3
  subst e1 e3
  rcases hd with h1 | ⟨g, off, rfl, hg, hc⟩
  · rw [h1] at hj; simp at hj
  · exact ⟨g, off, rfl, hg, hc j hj⟩
set_option maxRecDepth 4000 in
set_option maxHeartbeats 2000000 in
theorem in_same (v : Value) (ks : List Nat) (hl : ks.length < 1000000) (k : Nat) (w : World) (h : KsAt w v ks) : Calls Try.prog 12 #[v, .int .u32 (k : Int)] w fun e w' => e = .returned (.bool (decide (k ∈ ks))) ∧ w' = w := by
  obtain ⟨a, cap, rfl, hd⟩ := h
  go_enter Try.func12, Try.ntmps12
  go_wp2
  go_loopw [5] (fun i wr => ∃ j : Nat, j ≤ ks.length ∧ i = .int .i64 j ∧ k ∉ ks.take j ∧ wr = w) (fun i _ => ks.length - (intOf i).toNat)
  case atStart => exact ⟨0, by omega, rfl, by simp, rfl⟩
  case round =>
    obtain ⟨j, hj, rfl, hn, rfl⟩ := hrel
    by_cases hlt : j < ks.length
    · have hlt' : (j : Int) < ks.length := by omega
      have hj0 : (0 : Int) ≤ (j : Int) := by omega
      rcases hd with h0 | ⟨g, rfl, hg, hc⟩
      · rw [h0] at hlt; simp at hlt
      have a0 := hc j hlt
      clear hc
      by_cases hk : ks[j] = k
      · have hin : k ∈ ks := hk ▸ List.getElem_mem hlt
        rw [hk] at a0
        go_wp2
        go_ret
        exact ⟨by first | rfl | (rw [decide_eq_true hin]; rfl), rfl⟩
      · have hk' : ¬ ((ks[j] : Nat) : Int) = (k : Int) := by omega
        have hn2 : k ∉ ks.take (j + 1) := by
          rw [List.take_succ_eq_append_getElem hlt, List.mem_append, List.mem_singleton]
          rintro (h | h)
          · exact hn h
          · exact hk h.symm
        generalize ks[j] = x at *
        go_wp2
        go_roundw
        case rel => exact ⟨j + 1, by omega, by go_num, hn2, by first | rfl | trivial⟩
        case measure => simp [intOf]; omega
    · have hlt' : ¬ (j : Int) < ks.length := by omega
      have hn3 : k ∉ ks := by rwa [List.take_of_length_le (by omega)] at hn
      go_wp2
      go_ret
      exact ⟨by first | rfl | (rw [decide_eq_false hn3]; rfl), rfl⟩
theorem far_r {p r l : Nat} (h : p + 1 + r = l) : (l : Int) - 1 - (p : Int) < (r : Int) + 1 := by omega
theorem far_l {p : Nat} {U : Int} (h : (p : Int) = U) : -U - 1 < -(p : Int) := by omega
theorem far_n {p r l : Nat} {U : Int} (h : p + 1 + r = l) (hl : l ≤ 33) (hU : (p : Int) = U) : (r : Int) ≤ 33 ∧ 0 ≤ U ∧ U ≤ 33 := by omega
theorem all_item {W : World} {lo g off cap : Nat} {Ls : List Es} (h : AllAt W lo (.slice (some ⟨g, off, none⟩) Ls.length cap) Ls) {i : Nat} (hi : i < Ls.length) : ∃ a c, W.cell? ⟨g, off + i, none⟩ = some (.slice a Ls[i].length c) ∧ EntsAt W (.slice a Ls[i].length c) Ls[i] ∧ Ls[i].length ≤ 200 := by
  obtain ⟨g', off', cap', ss, e, h0, h1, h2, h3⟩ := h
  injection e with e1 e2 e3
  injection e1 with e1
  injection e1 with e4 e5
  subst e3 e4 e5
  obtain ⟨q1, q2, q3⟩ := h3 i hi
  have q4 := q2
  obtain ⟨a, c, hq, -⟩ := q2
  rw [hq] at q1 q4
  exact ⟨a, c, q1, q4, q3⟩
theorem KsAt.cells {W : World} {a : Option Addr} {cap : Nat} {ks : List Nat} (h : KsAt W (.slice a ks.length cap) ks) (h0 : 0 < ks.length) : ∃ g, a = some ⟨g, 0, none⟩ ∧ g < W.heap.size ∧ ∀ i (h : i < ks.length), W.cell? ⟨g, i, none⟩ = some (.int .u32 (ks[i] : Int)) := by
  obtain ⟨a', cap', e, hd⟩ := h
  injection e with e1 e2 e3
  subst e1 e3
  rcases hd with h1 | h1
  · rw [h1] at h0; simp at h0
  · exact h1

/-- What stands ahead of the questions: the history, its versions as lists. -/
def TcS (w : World) (hb : Nat) (Ls : List Es) (lo g off cap k : Nat) (X : World) : Prop := HistAt X hb Ls k ∧ AllAt X lo (.slice (some ⟨g, off, none⟩) Ls.length cap) Ls ∧ Below w.heap.size w X
theorem TcS.mk {w : World} {hb : Nat} {Ls : List Es} {lo g off cap k : Nat} {X : World} (h1 : HistAt X hb Ls k) (h2 : AllAt X lo (.slice (some ⟨g, off, none⟩) Ls.length cap) Ls) (h3 : Below w.heap.size w X) : TcS w hb Ls lo g off cap k X := ⟨h1, h2, h3⟩
theorem TcS.later {w : World} {hb : Nat} {Ls : List Es} {lo g off cap k : Nat} {X Y : World} (h : TcS w hb Ls lo g off cap k X) (hbl : Below X.heap.size X Y) : TcS w hb Ls lo g off cap k Y := ⟨h.1.later hbl, h.2.1.later hbl, below_step h.2.2 hbl⟩

set_option maxRecDepth 4000 in
set_option maxHeartbeats 8000000 in
theorem htouch_walk (v : Value) (S : List HOp) (a b c : Int) (w : World) (hS : OpsA w v S) (ha : -9223372036854775808 ≤ a ∧ a ≤ 9223372036854775807) (hb' : -9223372036854775808 ≤ b ∧ b ≤ 9223372036854775807) (hc' : -9223372036854775808 ≤ c ∧ c ≤ 9223372036854775807) :
    Calls Try.prog 3 #[v, .int .i64 a, .int .i64 b, .int .i64 c] w fun e w' => e = .returned (.bool true) ∧ Below w.heap.size w w' := by
  have hk := known_hist w
  go_enter Try.func3, Try.ntmps3
  go_wp2_with (first | (go_at_call 4; refine hk.mono ?_; rintro e w1 ⟨rfl, hb1⟩) | (go_at_call 5; refine (new_nil _).mono ?_; rintro e w2 ⟨hb, rfl, hlo2, hH2, hb2⟩) | (go_at_call 6; fail))
  have hB2 := below_step hb1 hb2
  have hlo : w.heap.size ≤ hb := by have := hb1.size; omega
  have hpl := plays_any hb ([[]], 0) v S w hS hlo w2 hB2 hH2
  clear hk hb1 hb2 hlo2
  refine hpl.mono ?_
  rintro e w3 ⟨rfl, hH3, hg3⟩
  have hB3 := grown_below hB2 hg3 hlo
  generalize S.foldl hstep ([[]], 0) = s at *
  obtain ⟨Ls, p⟩ := s
  have hp1 := hH3.1
  have hp2 := hH3.2.1
  simp only at hp1 hp2 hH3
  obtain ⟨r, hr⟩ : ∃ r, p + 1 + r = Ls.length := ⟨Ls.length - 1 - p, by omega⟩
  have hal := all_at hb Ls p _ rfl _ hH3
  obtain ⟨q1, q2, ⟨q3, q4⟩, ⟨q5, q6⟩, ⟨q7, q8⟩⟩ := tnums p r Ls.length hr hp2
  have d1 := decide_eq_false q1
  have d2 := decide_eq_false q2
  have hpH : Hid (p < Ls.length ∧ Ls.length ≤ 33 ∧ p + 1 + r = Ls.length) := ⟨hp1, hp2, hr⟩
  clear hpl hg3 hH2 hB2 hp1 hp2 hr
  go_wp2_with (first | (go_at_call 7; refine hal.mono ?_; rintro e w4 ⟨g4, o4, c4, rfl, hc4, hA4, hb4⟩) | (go_at_call 8; refine (depth_any hb Ls p r hpH.out.2.2 _ (hH3.later hb4)).mono ?_; rintro e w5 ⟨rfl, hb5⟩) | (go_at_call 9; fail))
  have hl0 : 0 < Ls.length := Nat.lt_of_le_of_lt (Nat.zero_le _) hpH.out.1
  have hl33 := hpH.out.2.1
  have hH5 := (hH3.later hb4).later hb5
  have hA5 := hA4.later hb5
  have hB5 := below_step (below_step hB3 hb4) hb5
  have hlow : hb < w3.heap.size := hH3.lt
  clear hal hH3 hA4 hB3 hb4 hb5 hS
  have hpa : Hid (∀ X, Calls Try.prog 9 #[.int .i64 a, .int .i64 (Ls.length : Int)] X fun e w' => ∃ q : Nat, q < Ls.length ∧ e = .returned (.int .i64 (q : Int)) ∧ Below X.heap.size X w') := fun X => place_any a ha _ hl0 hl33 X
  have hpb : Hid (∀ X, Calls Try.prog 9 #[.int .i64 b, .int .i64 (Ls.length : Int)] X fun e w' => ∃ q : Nat, q < Ls.length ∧ e = .returned (.int .i64 (q : Int)) ∧ Below X.heap.size X w') := fun X => place_any b hb' _ hl0 hl33 X
  have hpc : Hid (∀ X, Calls Try.prog 9 #[.int .i64 c, .int .i64 (Ls.length : Int)] X fun e w' => ∃ q : Nat, q < Ls.length ∧ e = .returned (.int .i64 (q : Int)) ∧ Below X.heap.size X w') := fun X => place_any c hc' _ hl0 hl33 X
  clear ha hb' hc' hl0 hl33 q3 q4 q5 q6 q7 q8 d1 d2 q1 q2 hc4
  go_wp2_with (go_at_call 9; fail)
  refine (hpa.out _).mono ?_
  rintro e w6 ⟨i, hi, rfl, hb6⟩
  have hi' : Hid (i < Ls.length) := hi
  clear hi
  go_wp2_with (go_at_call 9; fail)
  refine (hpb.out _).mono ?_
  rintro e w7 ⟨j, hj, rfl, hb7⟩
  have hj' : Hid (j < Ls.length) := hj
  clear hj
  go_wp2_with (go_at_call 9; fail)
  refine (hpc.out _).mono ?_
  rintro e w8 ⟨k, hk, rfl, hb8⟩
  have hk' : Hid (k < Ls.length) := hk
  clear hk
  have hS8 : TcS w hb Ls w3.heap.size g4 o4 c4 p w8 := ((TcS.mk hH5 hA5 hB5).later hb6).later (below_step hb7 hb8)
  obtain ⟨⟨t1, t2⟩, ⟨t3, t4⟩⟩ := tnum1 p i Ls.length hi'.out hpH.out.1 hpH.out.2.1
  obtain ⟨⟨t5, t6⟩, ⟨t7, t8⟩⟩ := tnum1 p j Ls.length hj'.out hpH.out.1 hpH.out.2.1
  obtain ⟨⟨t9, t10⟩, ⟨t11, t12⟩⟩ := tnum1 p k Ls.length hk'.out hpH.out.1 hpH.out.2.1
  have hky : Hid (∀ (i j : Nat) (hi : i < Ls.length) (hj : j < Ls.length) (X : World), TcS w hb Ls w3.heap.size g4 o4 c4 p X → Calls Try.prog 10 #[.pointer (some ⟨hb, 0, none⟩), .int .i64 ((i : Int) - (p : Int)), .int .i64 ((j : Int) - (p : Int))] X (keP X Ls[i] Ls[j])) := fun i j hi hj X hX => keys_is hb Ls p i j hi hj X hX.1
  clear hpa hpb hpc hb6 hb7 hb8 hH5 hA5 hB5 t3 t4 t7 t8 t11 t12
  go_wp2_with (go_at_call 10; fail)
  refine (hky.out i j hi'.out hj'.out _ hS8).mono ?_
  rintro e w9 ⟨x, hx, hxl, xa, xc, rfl, hxk, hb9⟩
  have hS9 := hS8.later hb9
  have hx' : Hid (DifK Ls[i] Ls[j] x ∧ x.length ≤ 400) := ⟨hx, hxl⟩
  clear hS8 hx hxl t1 t2 t5 t6 t9 t10
  go_wp2_with (go_at_call 10; fail)
  refine (hky.out j i hj'.out hi'.out _ hS9).mono ?_
  rintro e w10 ⟨y, hy, hyl, ya, yc, rfl, hyk, hb10⟩
  have hS10 := hS9.later hb10
  have hxk10 := hxk.later hb10
  obtain rfl := hx'.out.1.turn hy
  clear hS9 hxk hy hyl
  go_wp2_with (go_at_call 10; fail)
  refine (hky.out i k hi'.out hk'.out _ hS10).mono ?_
  rintro e w11 ⟨z, hz, hzl, za, zc, rfl, hzk, hb11⟩
  have hz' : Hid (DifK Ls[i] Ls[k] z ∧ z.length ≤ 400) := ⟨hz, hzl⟩
  have hS11 := hS10.later hb11
  have hxk11 := hxk10.later hb11
  have hyk11 := hyk.later hb11
  clear hS10 hxk10 hyk hz hzl
  go_wp2_with (go_at_call 10; fail)
  refine (hky.out j k hj'.out hk'.out _ hS11).mono ?_
  rintro e w12 ⟨u, hu, hul, ua, uc, rfl, huk, hb12⟩
  have hu' : Hid (DifK Ls[j] Ls[k] u ∧ u.length ≤ 400) := ⟨hu, hul⟩
  have hS12 := hS11.later hb12
  have hxk12 := hxk11.later hb12
  have hyk12 := hyk11.later hb12
  have hzk12 := hzk.later hb12
  clear hS11 hxk11 hyk11 hzk hu hul hb9 hb10 hb11 hb12
  go_wp2
  have tA : Hid (IntKind.i64.wrap ((i : Int) - (p : Int) + (p : Int)) = (i : Int) ∧ wrap64 ((i : Int) - (p : Int) + (p : Int)) = (i : Int)) := (tnum1 p i Ls.length hi'.out hpH.out.1 hpH.out.2.1).2
  have tB : Hid (IntKind.i64.wrap ((j : Int) - (p : Int) + (p : Int)) = (j : Int) ∧ wrap64 ((j : Int) - (p : Int) + (p : Int)) = (j : Int)) := (tnum1 p j Ls.length hj'.out hpH.out.1 hpH.out.2.1).2
  obtain ⟨A, hA0⟩ : ∃ A : Int, (i : Int) - (p : Int) = A := ⟨_, rfl⟩
  obtain ⟨B, hB0⟩ : ∃ B : Int, (j : Int) - (p : Int) = B := ⟨_, rfl⟩
  obtain ⟨C, hC0⟩ : ∃ C : Int, (k : Int) - (p : Int) = C := ⟨_, rfl⟩
  obtain ⟨U, hU0⟩ : ∃ U : Int, (p : Int) = U := ⟨_, rfl⟩
  simp only [hA0, hB0, hC0] at tA tB ⊢
  simp only [hU0] at tA tB ⊢
  have hA : Hid ((i : Int) - (p : Int) = A) := hA0
  have hU : Hid ((p : Int) = U) := hU0
  clear hA0 hB0 hC0 hU0
  have hB12 := hS12.2.2
  have hit1 := all_item hS12.2.1 hi'.out
  have hit2 := all_item hS12.2.1 hj'.out
  obtain ⟨ma, mc, mcell, hmE, hml⟩ := hit1
  obtain ⟨na, nc, ncell, hnE, hnl⟩ := hit2
  obtain ⟨LA, hLA⟩ : ∃ L, L = Ls[i]'hi'.out := ⟨_, rfl⟩
  obtain ⟨LB, hLB⟩ : ∃ L, L = Ls[j]'hj'.out := ⟨_, rfl⟩
  obtain ⟨LC, hLC⟩ : ∃ L, L = Ls[k]'hk'.out := ⟨_, rfl⟩
  rw [← hLA] at mcell hmE hml
  rw [← hLB] at ncell hnE hnl
  have fx : Hid (DifK LA LB x ∧ x.length ≤ 400) := by show DifK LA LB x ∧ x.length ≤ 400; rw [hLA, hLB]; exact hx'.out
  have fz : Hid (DifK LA LC z ∧ z.length ≤ 400) := by show DifK LA LC z ∧ z.length ≤ 400; rw [hLA, hLC]; exact hz'.out
  have fu : Hid (DifK LB LC u ∧ u.length ≤ 400) := by show DifK LB LC u ∧ u.length ≤ 400; rw [hLB, hLC]; exact hu'.out
  have rA : Hid (Rises LA) := by show Rises LA; rw [hLA]; exact hist_rises hS12.1 hi'.out
  have rB : Hid (Rises LB) := by show Rises LB; rw [hLB]; exact hist_rises hS12.1 hj'.out
  have hk1 : Hid (∀ X, TcS w hb Ls w3.heap.size g4 o4 c4 p X → Calls Try.prog 10 #[.pointer (some ⟨hb, 0, none⟩), .int .i64 A, .int .i64 A] X (ksP X [])) := fun X hX => by
    have h := keys_is hb Ls p i i hi'.out hi'.out X hX.1
    rw [hA.out] at h
    refine h.mono fun e w' h' => ?_
    obtain ⟨ks, hD, -, hk⟩ := h'
    obtain rfl := hD.self
    exact hk
  have hk2 : Hid (∀ X, TcS w hb Ls w3.heap.size g4 o4 c4 p X → Calls Try.prog 10 #[.pointer (some ⟨hb, 0, none⟩), .int .i64 A, .int .i64 ((r : Int) + 1)] X (ksP X [])) := fun X hX =>
    keys_out hb Ls p A _ (.inr ⟨⟨i, hi'.out, hA.out.symm⟩, .inr (far_r hpH.out.2.2)⟩) (.inl (.inr (far_r hpH.out.2.2))) X hX.1
  have hk3 : Hid (∀ X, TcS w hb Ls w3.heap.size g4 o4 c4 p X → Calls Try.prog 10 #[.pointer (some ⟨hb, 0, none⟩), .int .i64 (-U - 1), .int .i64 A] X (ksP X [])) := fun X hX =>
    keys_out hb Ls p _ A (.inl (.inl (far_l hU.out))) (.inr ⟨i, hi'.out, hA.out.symm⟩) X hX.1
  have hrb : Hid ((r : Int) ≤ 33 ∧ 0 ≤ U ∧ U ≤ 33) := far_n hpH.out.2.2 hpH.out.2.1 hU.out
  clear hx' hz' hu' hLA hLB hLC
  go_loopw [22] (fun iv X => ∃ t : Nat, Hid (t ≤ x.length) ∧ iv = .int .i64 (t : Int) ∧ Below w12.heap.size w12 X) (fun iv _ => x.length - (intOf iv).toNat)
  case atStart => exact ⟨0, Nat.zero_le _, rfl, Below.refl _ _⟩
  case round =>
    obtain ⟨t, htl, rfl, hBr⟩ := hrel
    by_cases hlt : t < x.length
    · have hlt' : (t : Int) < (x.length : Int) := Int.ofNat_lt.2 hlt
      have ht0 : (0 : Int) ≤ (t : Int) := Int.natCast_nonneg _
      have hip : (0 : Int) ≤ (i : Int) := Int.natCast_nonneg _
      have hjp : (0 : Int) ≤ (j : Int) := Int.natCast_nonneg _
      have hil : (i : Int) < (Ls.length : Int) := by have := hi'.out; exact Int.ofNat_lt.2 this
      have hjl : (j : Int) < (Ls.length : Int) := by have := hj'.out; exact Int.ofNat_lt.2 this
      obtain ⟨xg, rfl, hxg, hxc⟩ := hxk12.cells (Nat.lt_of_le_of_lt (Nat.zero_le _) hlt)
      obtain ⟨yg, rfl, hyg, hyc⟩ := hyk12.cells (Nat.lt_of_le_of_lt (Nat.zero_le _) hlt)
      have hxt := hxc t hlt
      have hyt := hyc t hlt
      have hne := (fx.out.1.2 x[t]).1 (List.getElem_mem hlt)
      obtain ⟨key, hkey⟩ : ∃ key, key = x[t]'hlt := ⟨_, rfl⟩
      rw [← hkey] at hxt hyt hne
      have hlt2 : Hid (t < x.length) := hlt
      obtain ⟨ax, ay, ab, hq1⟩ := val_parts (valE LA key)
      obtain ⟨bx, by', bb, hq2⟩ := val_parts (valE LB key)
      have hne' : Hid (ab ≠ bb ∨ (ab = true ∧ bb = true ∧ ¬ (ax = bx ∧ ay = by'))) := val_ne hne hq1 hq2
      have hva : Hid (∀ Y, Below w12.heap.size w12 Y → Calls Try.prog 11 #[.slice ma LA.length mc, .int .u32 (key : Int)] Y fun e w' => e = .returned (.tuple #[.agg #[.int .i64 ax, .int .i64 ay], .bool ab]) ∧ Below Y.heap.size Y w') := fun Y hY => (value_any _ LA (Nat.le_trans hml (by decide)) key Y (hmE.later hY)).mono fun e w' h => by unfold vaP at h; rw [hq1.1, hq1.2.1, hq1.2.2] at h; exact h
      have hvb : Hid (∀ Y, Below w12.heap.size w12 Y → Calls Try.prog 11 #[.slice na LB.length nc, .int .u32 (key : Int)] Y fun e w' => e = .returned (.tuple #[.agg #[.int .i64 bx, .int .i64 by'], .bool bb]) ∧ Below Y.heap.size Y w') := fun Y hY => (value_any _ LB (Nat.le_trans hnl (by decide)) key Y (hnE.later hY)).mono fun e w' h => by unfold vaP at h; rw [hq2.1, hq2.2.1, hq2.2.2] at h; exact h
      have hmg := World.block_lt_of_cell? _ _ mcell
      have hSH : Hid (∀ Y, Below w12.heap.size w12 Y → Y.cell? ⟨g4, o4 + i, none⟩ = some (.slice ma LA.length mc) ∧ Y.cell? ⟨g4, o4 + j, none⟩ = some (.slice na LB.length nc) ∧ Y.cell? ⟨xg, t, none⟩ = some (.int .u32 (key : Int)) ∧ Y.cell? ⟨yg, t, none⟩ = some (.int .u32 (key : Int))) := fun Y hY =>
        ⟨(hY.cell (p := ⟨g4, o4 + i, none⟩) hmg).trans mcell, (hY.cell (p := ⟨g4, o4 + j, none⟩) hmg).trans ncell, (hY.cell (p := ⟨xg, t, none⟩) hxg).trans hxt, (hY.cell (p := ⟨yg, t, none⟩) hyg).trans hyt⟩
      have hSH1 : Hid (∀ Y, Below wr.heap.size wr Y → (fun Y => Y.cell? ⟨g4, o4 + i, none⟩ = some (.slice ma LA.length mc) ∧ Y.cell? ⟨g4, o4 + j, none⟩ = some (.slice na LB.length nc) ∧ Y.cell? ⟨xg, t, none⟩ = some (.int .u32 (key : Int)) ∧ Y.cell? ⟨yg, t, none⟩ = some (.int .u32 (key : Int))) Y) := fun Y hY => hSH.out Y (below_step hBr hY)
      have hva1 : Hid (∀ Y, Below wr.heap.size wr Y → Calls Try.prog 11 #[.slice ma LA.length mc, .int .u32 (key : Int)] Y fun e w' => e = .returned (.tuple #[.agg #[.int .i64 ax, .int .i64 ay], .bool ab]) ∧ Below Y.heap.size Y w') := fun Y hY => hva.out Y (below_step hBr hY)
      have hvb1 : Hid (∀ Y, Below wr.heap.size wr Y → Calls Try.prog 11 #[.slice na LB.length nc, .int .u32 (key : Int)] Y fun e w' => e = .returned (.tuple #[.agg #[.int .i64 bx, .int .i64 by'], .bool bb]) ∧ Below Y.heap.size Y w') := fun Y hY => hvb.out Y (below_step hBr hY)
      obtain ⟨r1, r2⟩ := tA.out
      obtain ⟨r3, r4⟩ := tB.out
      clear hkey hq1 hq2 hne hxt hyt hlt htl hxc hyc hSH hva hvb
      have hD1 : Below wr.heap.size wr wr.drew := (Below.refl _ _).drew
      have hDa1 := (bal (Below.refl wr.heap.size wr) (.cells #[.int .i64 0, .int .i64 0] 37)).drew
      have hS01 := hSH1.out _ hD1
      go_wp2_with fail
      go_region_held3 (fun Y => Y.cell? ⟨g4, o4 + i, none⟩ = some (.slice ma LA.length mc) ∧ Y.cell? ⟨g4, o4 + j, none⟩ = some (.slice na LB.length nc) ∧ Y.cell? ⟨xg, t, none⟩ = some (.int .u32 (key : Int)) ∧ Y.cell? ⟨yg, t, none⟩ = some (.int .u32 (key : Int))) (first | (with_reducible assumption) | with_reducible exact hSH1.out _ hDa1 | with_reducible exact hSH1.out _ (bal hBw14 _) | with_reducible exact hSH1.out _ (bset (bset (bal hBw14 _) hBw14.size _) hBw14.size _) | with_reducible exact hSH1.out _ (bset (bset hBw14 (Nat.le_refl _) _) (Nat.le_refl _) _))
        (first | (go_at_call 11; with_reducible refine (hva1.out _ hD1).mono ?_; rintro e w14 ⟨rfl, hbw14⟩; have hBw14 := below_step hD1 hbw14; have hSw14 := hSH1.out _ hBw14) | (go_at_call 11; with_reducible refine (hva1.out _ hDa1).mono ?_; rintro e w14 ⟨rfl, hbw14⟩; have hBw14 := below_step hDa1 hbw14; have hSw14 := hSH1.out _ hBw14; obtain ⟨z0, z1, f0, f1⟩ := pv_zero hbw14))
      · have hpv1 := pv_fresh ax ay hBw14
        clear hbw14 hBw14 hSw14 hS01 hD1 hDa1 hva1
        generalize w14.alloc (.cells #[.int .i64 ax, .int .i64 ay] 37) = X1 at hpv1 ⊢
        generalize w14.heap.size = b1 at hpv1 ⊢
        have hSH2 : Hid (∀ Y, Below X1.heap.size X1 Y → (fun Y => Y.cell? ⟨g4, o4 + i, none⟩ = some (.slice ma LA.length mc) ∧ Y.cell? ⟨g4, o4 + j, none⟩ = some (.slice na LB.length nc) ∧ Y.cell? ⟨xg, t, none⟩ = some (.int .u32 (key : Int)) ∧ Y.cell? ⟨yg, t, none⟩ = some (.int .u32 (key : Int))) Y) := fun Y hY => hSH1.out Y (below_step hpv1.1 hY)
        have hvb2 : Hid (∀ Y, Below X1.heap.size X1 Y → Calls Try.prog 11 #[.slice na LB.length nc, .int .u32 (key : Int)] Y fun e w' => e = .returned (.tuple #[.agg #[.int .i64 bx, .int .i64 by'], .bool bb]) ∧ Below Y.heap.size Y w') := fun Y hY => hvb1.out Y (below_step hpv1.1 hY)
        clear hvb1
        have hD2 : Below X1.heap.size X1 X1.drew := (Below.refl _ _).drew
        have hDa2 := (bal (Below.refl X1.heap.size X1) (.cells #[.int .i64 0, .int .i64 0] 37)).drew
        have hS02 := hSH2.out _ hD2
        go_wp2_with fail
        go_region_held3 (fun Y => Y.cell? ⟨g4, o4 + i, none⟩ = some (.slice ma LA.length mc) ∧ Y.cell? ⟨g4, o4 + j, none⟩ = some (.slice na LB.length nc) ∧ Y.cell? ⟨xg, t, none⟩ = some (.int .u32 (key : Int)) ∧ Y.cell? ⟨yg, t, none⟩ = some (.int .u32 (key : Int))) (first | (with_reducible assumption) | with_reducible exact hSH2.out _ hDa2 | with_reducible exact hSH2.out _ (bal hBw15 _) | with_reducible exact hSH2.out _ (bset (bset (bal hBw15 _) hBw15.size _) hBw15.size _) | with_reducible exact hSH2.out _ (bset (bset hBw15 (Nat.le_refl _) _) (Nat.le_refl _) _))
          (first | (go_at_call 11; with_reducible refine (hvb2.out _ hD2).mono ?_; rintro e w15 ⟨rfl, hbw15⟩; have hBw15 := below_step hD2 hbw15; have hSw15 := hSH2.out _ hBw15) | (go_at_call 11; with_reducible refine (hvb2.out _ hDa2).mono ?_; rintro e w15 ⟨rfl, hbw15⟩; have hBw15 := below_step hDa2 hbw15; have hSw15 := hSH2.out _ hBw15; obtain ⟨z0, z1, f0, f1⟩ := pv_zero hbw15))
        · have hpv2 := pv_fresh bx by' hBw15
          clear hbw15 hBw15 hSw15 hS02 hD2 hDa2 hvb2
          generalize w15.alloc (.cells #[.int .i64 bx, .int .i64 by'] 37) = X2 at hpv2 ⊢
          generalize w15.heap.size = b2 at hpv2 ⊢
          have hB2 := below_step hBr (below_step hpv1.1 hpv2.1)
          have hp1 := hpv1.later hpv2.1
          have hS3 := hSH2.out _ hpv2.1
          obtain ⟨-, -, k1, k2⟩ := hS3
          have k3 := hp1.2.1
          have k4 := hp1.2.2.1
          have k5 := hpv2.2.1
          have k6 := hpv2.2.2.1
          clear hSH1 hSH2 hpv1 hpv2 hp1 hBr r1 r2 r3 r4
          have hkk : ((key : Int) != (key : Int)) = false := by simp
          have hn4 : x.length ≤ 400 := fx.out.2
          have hn5 : t < x.length := hlt2.out
          have hcs : (ab = true ∧ bb = false) ∨ (ab = false ∧ bb = true) ∨ (ab = true ∧ bb = true ∧ ¬ (ax = bx ∧ ay = by')) := by
            rcases hne'.out with h | h
            · cases ab <;> cases bb
              · exact absurd rfl h
              · exact .inr (.inl ⟨rfl, rfl⟩)
              · exact .inl ⟨rfl, rfl⟩
              · exact absurd rfl h
            · exact .inr (.inr h)
          clear hne'
          rcases hcs with ⟨hab1, hab2⟩ | ⟨hab1, hab2⟩ | ⟨hab1, hab2, hnn⟩
          · subst hab1 hab2
            go_wp2_with fail
            go_quiet (fail)
            go_wp2
            go_roundw
            case rel => exact ⟨t + 1, hn5, by go_num, below_drewN hB2 nq⟩
            case measure => simp [intOf]; omega
          · subst hab1 hab2
            go_wp2_with fail
            go_quiet (fail)
            go_wp2
            go_roundw
            case rel => exact ⟨t + 1, hn5, by go_num, below_drewN hB2 nq⟩
            case measure => simp [intOf]; omega
          · subst hab1 hab2
            have heq := fun W => eqValN 9998 ax ay bx by' hnn W
            clear hnn
            go_wp2_with fail
            go_quiet (fail)
            go_wp2
            go_roundw
            case rel => exact ⟨t + 1, hn5, by go_num, below_drewN hB2 nq⟩
            case measure => simp [intOf]; omega
        · have hpv2 := pv_old bx by' (Below.refl X1.heap.size X1) hbw15
          clear hbw15 hBw15 hSw15 hS02 hD2 hDa2 hvb2 z0 z1 f0 f1
          generalize (w15.setCell ⟨X1.heap.size, 0, none⟩ (.int .i64 bx)).setCell ⟨X1.heap.size, 1, none⟩ (.int .i64 by') = X2 at hpv2 ⊢
          generalize hbb : X1.heap.size = b2 at ⊢
          rw [hbb] at hpv2
          clear hbb
          have hB2 := below_step hBr (below_step hpv1.1 hpv2.1)
          have hp1 := hpv1.later hpv2.1
          have hS3 := hSH2.out _ hpv2.1
          obtain ⟨-, -, k1, k2⟩ := hS3
          have k3 := hp1.2.1
          have k4 := hp1.2.2.1
          have k5 := hpv2.2.1
          have k6 := hpv2.2.2.1
          clear hSH1 hSH2 hpv1 hpv2 hp1 hBr r1 r2 r3 r4
          have hkk : ((key : Int) != (key : Int)) = false := by simp
          have hn4 : x.length ≤ 400 := fx.out.2
          have hn5 : t < x.length := hlt2.out
          have hcs : (ab = true ∧ bb = false) ∨ (ab = false ∧ bb = true) ∨ (ab = true ∧ bb = true ∧ ¬ (ax = bx ∧ ay = by')) := by
            rcases hne'.out with h | h
            · cases ab <;> cases bb
              · exact absurd rfl h
              · exact .inr (.inl ⟨rfl, rfl⟩)
              · exact .inl ⟨rfl, rfl⟩
              · exact absurd rfl h
            · exact .inr (.inr h)
          clear hne'
          rcases hcs with ⟨hab1, hab2⟩ | ⟨hab1, hab2⟩ | ⟨hab1, hab2, hnn⟩
          · subst hab1 hab2
            go_wp2_with fail
            go_quiet (fail)
            go_wp2
            go_roundw
            case rel => exact ⟨t + 1, hn5, by go_num, below_drewN hB2 nq⟩
            case measure => simp [intOf]; omega
          · subst hab1 hab2
            go_wp2_with fail
            go_quiet (fail)
            go_wp2
            go_roundw
            case rel => exact ⟨t + 1, hn5, by go_num, below_drewN hB2 nq⟩
            case measure => simp [intOf]; omega
          · subst hab1 hab2
            have heq := fun W => eqValN 9998 ax ay bx by' hnn W
            clear hnn
            go_wp2_with fail
            go_quiet (fail)
            go_wp2
            go_roundw
            case rel => exact ⟨t + 1, hn5, by go_num, below_drewN hB2 nq⟩
            case measure => simp [intOf]; omega
      · have hpv1 := pv_old ax ay (Below.refl wr.heap.size wr) hbw14
        clear hbw14 hBw14 hSw14 hS01 hD1 hDa1 hva1 z0 z1 f0 f1
        generalize (w14.setCell ⟨wr.heap.size, 0, none⟩ (.int .i64 ax)).setCell ⟨wr.heap.size, 1, none⟩ (.int .i64 ay) = X1 at hpv1 ⊢
        generalize hbb : wr.heap.size = b1 at ⊢
        rw [hbb] at hpv1
        clear hbb
        have hSH2 : Hid (∀ Y, Below X1.heap.size X1 Y → (fun Y => Y.cell? ⟨g4, o4 + i, none⟩ = some (.slice ma LA.length mc) ∧ Y.cell? ⟨g4, o4 + j, none⟩ = some (.slice na LB.length nc) ∧ Y.cell? ⟨xg, t, none⟩ = some (.int .u32 (key : Int)) ∧ Y.cell? ⟨yg, t, none⟩ = some (.int .u32 (key : Int))) Y) := fun Y hY => hSH1.out Y (below_step hpv1.1 hY)
        have hvb2 : Hid (∀ Y, Below X1.heap.size X1 Y → Calls Try.prog 11 #[.slice na LB.length nc, .int .u32 (key : Int)] Y fun e w' => e = .returned (.tuple #[.agg #[.int .i64 bx, .int .i64 by'], .bool bb]) ∧ Below Y.heap.size Y w') := fun Y hY => hvb1.out Y (below_step hpv1.1 hY)
        clear hvb1
        have hD2 : Below X1.heap.size X1 X1.drew := (Below.refl _ _).drew
        have hDa2 := (bal (Below.refl X1.heap.size X1) (.cells #[.int .i64 0, .int .i64 0] 37)).drew
        have hS02 := hSH2.out _ hD2
        go_wp2_with fail
        go_region_held3 (fun Y => Y.cell? ⟨g4, o4 + i, none⟩ = some (.slice ma LA.length mc) ∧ Y.cell? ⟨g4, o4 + j, none⟩ = some (.slice na LB.length nc) ∧ Y.cell? ⟨xg, t, none⟩ = some (.int .u32 (key : Int)) ∧ Y.cell? ⟨yg, t, none⟩ = some (.int .u32 (key : Int))) (first | (with_reducible assumption) | with_reducible exact hSH2.out _ hDa2 | with_reducible exact hSH2.out _ (bal hBw15 _) | with_reducible exact hSH2.out _ (bset (bset (bal hBw15 _) hBw15.size _) hBw15.size _) | with_reducible exact hSH2.out _ (bset (bset hBw15 (Nat.le_refl _) _) (Nat.le_refl _) _))
          (first | (go_at_call 11; with_reducible refine (hvb2.out _ hD2).mono ?_; rintro e w15 ⟨rfl, hbw15⟩; have hBw15 := below_step hD2 hbw15; have hSw15 := hSH2.out _ hBw15) | (go_at_call 11; with_reducible refine (hvb2.out _ hDa2).mono ?_; rintro e w15 ⟨rfl, hbw15⟩; have hBw15 := below_step hDa2 hbw15; have hSw15 := hSH2.out _ hBw15; obtain ⟨z0, z1, f0, f1⟩ := pv_zero hbw15))
        · have hpv2 := pv_fresh bx by' hBw15
          clear hbw15 hBw15 hSw15 hS02 hD2 hDa2 hvb2
          generalize w15.alloc (.cells #[.int .i64 bx, .int .i64 by'] 37) = X2 at hpv2 ⊢
          generalize w15.heap.size = b2 at hpv2 ⊢
          have hB2 := below_step hBr (below_step hpv1.1 hpv2.1)
          have hp1 := hpv1.later hpv2.1
          have hS3 := hSH2.out _ hpv2.1
          obtain ⟨-, -, k1, k2⟩ := hS3
          have k3 := hp1.2.1
          have k4 := hp1.2.2.1
          have k5 := hpv2.2.1
          have k6 := hpv2.2.2.1
          clear hSH1 hSH2 hpv1 hpv2 hp1 hBr r1 r2 r3 r4
          have hkk : ((key : Int) != (key : Int)) = false := by simp
          have hn4 : x.length ≤ 400 := fx.out.2
          have hn5 : t < x.length := hlt2.out
          have hcs : (ab = true ∧ bb = false) ∨ (ab = false ∧ bb = true) ∨ (ab = true ∧ bb = true ∧ ¬ (ax = bx ∧ ay = by')) := by
            rcases hne'.out with h | h
            · cases ab <;> cases bb
              · exact absurd rfl h
              · exact .inr (.inl ⟨rfl, rfl⟩)
              · exact .inl ⟨rfl, rfl⟩
              · exact absurd rfl h
            · exact .inr (.inr h)
          clear hne'
          rcases hcs with ⟨hab1, hab2⟩ | ⟨hab1, hab2⟩ | ⟨hab1, hab2, hnn⟩
          · subst hab1 hab2
            go_wp2_with fail
            go_quiet (fail)
            go_wp2
            go_roundw
            case rel => exact ⟨t + 1, hn5, by go_num, below_drewN hB2 nq⟩
            case measure => simp [intOf]; omega
          · subst hab1 hab2
            go_wp2_with fail
            go_quiet (fail)
            go_wp2
            go_roundw
            case rel => exact ⟨t + 1, hn5, by go_num, below_drewN hB2 nq⟩
            case measure => simp [intOf]; omega
          · subst hab1 hab2
            have heq := fun W => eqValN 9998 ax ay bx by' hnn W
            clear hnn
            go_wp2_with fail
            go_quiet (fail)
            go_wp2
            go_roundw
            case rel => exact ⟨t + 1, hn5, by go_num, below_drewN hB2 nq⟩
            case measure => simp [intOf]; omega
        · have hpv2 := pv_old bx by' (Below.refl X1.heap.size X1) hbw15
          clear hbw15 hBw15 hSw15 hS02 hD2 hDa2 hvb2 z0 z1 f0 f1
          generalize (w15.setCell ⟨X1.heap.size, 0, none⟩ (.int .i64 bx)).setCell ⟨X1.heap.size, 1, none⟩ (.int .i64 by') = X2 at hpv2 ⊢
          generalize hbb : X1.heap.size = b2 at ⊢
          rw [hbb] at hpv2
          clear hbb
          have hB2 := below_step hBr (below_step hpv1.1 hpv2.1)
          have hp1 := hpv1.later hpv2.1
          have hS3 := hSH2.out _ hpv2.1
          obtain ⟨-, -, k1, k2⟩ := hS3
          have k3 := hp1.2.1
          have k4 := hp1.2.2.1
          have k5 := hpv2.2.1
          have k6 := hpv2.2.2.1
          clear hSH1 hSH2 hpv1 hpv2 hp1 hBr r1 r2 r3 r4
          have hkk : ((key : Int) != (key : Int)) = false := by simp
          have hn4 : x.length ≤ 400 := fx.out.2
          have hn5 : t < x.length := hlt2.out
          have hcs : (ab = true ∧ bb = false) ∨ (ab = false ∧ bb = true) ∨ (ab = true ∧ bb = true ∧ ¬ (ax = bx ∧ ay = by')) := by
            rcases hne'.out with h | h
            · cases ab <;> cases bb
              · exact absurd rfl h
              · exact .inr (.inl ⟨rfl, rfl⟩)
              · exact .inl ⟨rfl, rfl⟩
              · exact absurd rfl h
            · exact .inr (.inr h)
          clear hne'
          rcases hcs with ⟨hab1, hab2⟩ | ⟨hab1, hab2⟩ | ⟨hab1, hab2, hnn⟩
          · subst hab1 hab2
            go_wp2_with fail
            go_quiet (fail)
            go_wp2
            go_roundw
            case rel => exact ⟨t + 1, hn5, by go_num, below_drewN hB2 nq⟩
            case measure => simp [intOf]; omega
          · subst hab1 hab2
            go_wp2_with fail
            go_quiet (fail)
            go_wp2
            go_roundw
            case rel => exact ⟨t + 1, hn5, by go_num, below_drewN hB2 nq⟩
            case measure => simp [intOf]; omega
          · subst hab1 hab2
            have heq := fun W => eqValN 9998 ax ay bx by' hnn W
            clear hnn
            go_wp2_with fail
            go_quiet (fail)
            go_wp2
            go_roundw
            case rel => exact ⟨t + 1, hn5, by go_num, below_drewN hB2 nq⟩
            case measure => simp [intOf]; omega
    · have hlt' : ¬ (t : Int) < (x.length : Int) := fun h => hlt (Int.ofNat_lt.1 h)
      clear htl
      go_wp2
      go_loopw [27] (fun iv X => ∃ t : Nat, Hid (t ≤ 2) ∧ iv = .int .i64 (t : Int) ∧ Below w12.heap.size w12 X) (fun iv _ => 2 - (intOf iv).toNat)
      case atStart => exact ⟨0, Nat.zero_le _, rfl, hBr⟩
      case round =>
        clear hlt hlt' hBr
        obtain ⟨q, hq, rfl, hBq⟩ := hrel
        have hqc : q = 0 ∨ q = 1 ∨ q = 2 := by have := hq.out; clear tA tB; omega
        clear hq
        obtain ⟨r1, r2⟩ := tA.out
        obtain ⟨r3, r4⟩ := tB.out
        have hip : (0 : Int) ≤ (i : Int) := Int.natCast_nonneg _
        have hjp : (0 : Int) ≤ (j : Int) := Int.natCast_nonneg _
        have hil : (i : Int) < (Ls.length : Int) := by have := hi'.out; exact Int.ofNat_lt.2 this
        have hjl : (j : Int) < (Ls.length : Int) := by have := hj'.out; exact Int.ofNat_lt.2 this
        have hmg := World.block_lt_of_cell? _ _ mcell
        have mc' := (hBq.cell (p := ⟨g4, o4 + i, none⟩) hmg).trans mcell
        have nc' := (hBq.cell (p := ⟨g4, o4 + j, none⟩) hmg).trans ncell
        rcases hqc with rfl | rfl | rfl
        · go_wp2
          go_loopw [30] (fun iv X => ∃ t : Nat, Hid (t ≤ LA.length) ∧ iv = .int .i64 (t : Int) ∧ Below w12.heap.size w12 X) (fun iv _ => LA.length - (intOf iv).toNat)
          case atStart => exact ⟨0, Nat.zero_le _, rfl, hBq⟩
          case round =>
            obtain ⟨t, htl, rfl, hBr⟩ := hrel
            clear hBq r1 r2 r3 r4 mc' nc'
            by_cases hlt : t < LA.length
            · have hlt' : (t : Int) < (LA.length : Int) := Int.ofNat_lt.2 hlt
              have ht0 : (0 : Int) ≤ (t : Int) := Int.natCast_nonneg _
              obtain ⟨mg, mo, rfl, hmg, e0, e1, e2⟩ := ents_cells hmE hlt
              have hcs := in_cases rA.out fx.out.1.2 (List.getElem_mem hlt)
              generalize LA[t] = en at *
              obtain ⟨key, ex, ey⟩ := en
              simp only at hcs e0 e1 e2
              have hlt2 : Hid (t < LA.length ∧ LA.length ≤ 200) := ⟨hlt, hml⟩
              have d0 := (hBr.cell (p := ⟨mg, mo + t * 3, none⟩) hmg).trans e0
              have hE : Hid (∀ Y, Below w12.heap.size w12 Y → Y.cell? ⟨mg, mo + t * 3, none⟩ = some (.int .u32 (key : Int)) ∧ Y.cell? ⟨mg, mo + t * 3 + 1, none⟩ = some (.int .i64 ex) ∧ Y.cell? ⟨mg, mo + t * 3 + 2, none⟩ = some (.int .i64 ey)) := fun Y hY => ⟨(hY.cell (p := ⟨mg, mo + t * 3, none⟩) hmg).trans e0, (hY.cell (p := ⟨mg, mo + t * 3 + 1, none⟩) hmg).trans e1, (hY.cell (p := ⟨mg, mo + t * 3 + 2, none⟩) hmg).trans e2⟩
              have hva := value_any _ LB (Nat.le_trans hnl (by decide)) key wr (hnE.later hBr)
              have hin : Hid (∀ Y, Below w12.heap.size w12 Y → Calls Try.prog 12 #[.slice xa x.length xc, .int .u32 (key : Int)] Y fun e w' => e = .returned (.bool (decide (key ∈ x))) ∧ w' = Y) := fun Y hY => in_same _ x (Nat.lt_of_le_of_lt fx.out.2 (by decide)) key Y (hxk12.later hY)
              clear e0 e1 e2 hlt htl
              rcases hcs with ⟨hv, hi⟩ | ⟨hv, hi⟩ | ⟨⟨vx, vy⟩, hv, hnn, hi⟩
              · rw [hv] at hva
                simp only [decide_eq_true hi] at hin
                clear hv hi
                go_wp2_with (go_at_call 11; fail)
                refine hva.mono ?_
                rintro e w14 ⟨rfl, hb14⟩
                have hB14 := below_step hBr hb14
                clear hva d0 hb14 hBr
                go_wp2_with fail
                have hpv := pv_fresh 0 0 hB14
                clear hB14
                generalize w14.alloc (.cells #[.int .i64 0, .int .i64 0] 37) = X1 at hpv ⊢
                generalize w14.heap.size = b1 at hpv ⊢
                obtain ⟨hB1, p0, p1, -, -⟩ := hpv
                obtain ⟨e0, e1, e2⟩ := hE.out _ hB1
                clear hE
                go_quiet ((go_at_call 12; exact Calls.quiet_of_same (hin.out _ (below_drewN hB1 _))))
                obtain ⟨hn5, hn4⟩ := hlt2.out
                go_wp2
                go_roundw
                case rel => exact ⟨t + 1, hn5, by go_num, below_drewN hB1 nq⟩
                case measure => simp [intOf]; omega
              · rw [hv] at hva
                simp only [decide_eq_false hi] at hin
                have heq := fun W => eqVal 9998 ex ey W
                clear hv hi
                go_wp2_with (go_at_call 11; fail)
                refine hva.mono ?_
                rintro e w14 ⟨rfl, hb14⟩
                have hB14 := below_step hBr hb14
                clear hva d0 hb14 hBr
                go_wp2_with fail
                have hpv := pv_fresh ex ey hB14
                clear hB14
                generalize w14.alloc (.cells #[.int .i64 ex, .int .i64 ey] 37) = X1 at hpv ⊢
                generalize w14.heap.size = b1 at hpv ⊢
                obtain ⟨hB1, p0, p1, -, -⟩ := hpv
                obtain ⟨e0, e1, e2⟩ := hE.out _ hB1
                clear hE
                go_quiet ((go_at_call 12; exact Calls.quiet_of_same (hin.out _ (below_drewN hB1 _))))
                obtain ⟨hn5, hn4⟩ := hlt2.out
                go_wp2
                go_roundw
                case rel => exact ⟨t + 1, hn5, by go_num, below_drewN hB1 nq⟩
                case measure => simp [intOf]; omega
              · rw [hv] at hva
                simp only [decide_eq_true hi] at hin
                have heq := fun W => eqValN 9998 vx vy ex ey hnn W
                clear hv hi hnn
                go_wp2_with (go_at_call 11; fail)
                refine hva.mono ?_
                rintro e w14 ⟨rfl, hb14⟩
                have hB14 := below_step hBr hb14
                clear hva d0 hb14 hBr
                go_wp2_with fail
                have hpv := pv_fresh vx vy hB14
                clear hB14
                generalize w14.alloc (.cells #[.int .i64 vx, .int .i64 vy] 37) = X1 at hpv ⊢
                generalize w14.heap.size = b1 at hpv ⊢
                obtain ⟨hB1, p0, p1, -, -⟩ := hpv
                obtain ⟨e0, e1, e2⟩ := hE.out _ hB1
                clear hE
                go_quiet ((go_at_call 12; exact Calls.quiet_of_same (hin.out _ (below_drewN hB1 _))))
                obtain ⟨hn5, hn4⟩ := hlt2.out
                go_wp2
                go_roundw
                case rel => exact ⟨t + 1, hn5, by go_num, below_drewN hB1 nq⟩
                case measure => simp [intOf]; omega
            · have hlt' : ¬ (t : Int) < (LA.length : Int) := fun h => hlt (Int.ofNat_lt.1 h)
              clear htl hlt
              go_wp2
              go_roundw
              case rel => exact ⟨1, (show 1 ≤ 2 by decide), by go_num, hBr⟩
              case measure => simp [intOf]
        · go_wp2
          go_loopw [30] (fun iv X => ∃ t : Nat, Hid (t ≤ LB.length) ∧ iv = .int .i64 (t : Int) ∧ Below w12.heap.size w12 X) (fun iv _ => LB.length - (intOf iv).toNat)
          case atStart => exact ⟨0, Nat.zero_le _, rfl, hBq⟩
          case round =>
            obtain ⟨t, htl, rfl, hBr⟩ := hrel
            clear hBq r1 r2 r3 r4 mc' nc'
            by_cases hlt : t < LB.length
            · have hlt' : (t : Int) < (LB.length : Int) := Int.ofNat_lt.2 hlt
              have ht0 : (0 : Int) ≤ (t : Int) := Int.natCast_nonneg _
              obtain ⟨mg, mo, rfl, hmg, e0, e1, e2⟩ := ents_cells hnE hlt
              have hcs := in_cases rB.out (fun k => (fx.out.1.2 k).trans ⟨fun h e => h e.symm, fun h e => h e.symm⟩) (List.getElem_mem hlt)
              generalize LB[t] = en at *
              obtain ⟨key, ex, ey⟩ := en
              simp only at hcs e0 e1 e2
              have hlt2 : Hid (t < LB.length ∧ LB.length ≤ 200) := ⟨hlt, hnl⟩
              have d0 := (hBr.cell (p := ⟨mg, mo + t * 3, none⟩) hmg).trans e0
              have hE : Hid (∀ Y, Below w12.heap.size w12 Y → Y.cell? ⟨mg, mo + t * 3, none⟩ = some (.int .u32 (key : Int)) ∧ Y.cell? ⟨mg, mo + t * 3 + 1, none⟩ = some (.int .i64 ex) ∧ Y.cell? ⟨mg, mo + t * 3 + 2, none⟩ = some (.int .i64 ey)) := fun Y hY => ⟨(hY.cell (p := ⟨mg, mo + t * 3, none⟩) hmg).trans e0, (hY.cell (p := ⟨mg, mo + t * 3 + 1, none⟩) hmg).trans e1, (hY.cell (p := ⟨mg, mo + t * 3 + 2, none⟩) hmg).trans e2⟩
              have hva := value_any _ LA (Nat.le_trans hml (by decide)) key wr (hmE.later hBr)
              have hin : Hid (∀ Y, Below w12.heap.size w12 Y → Calls Try.prog 12 #[.slice xa x.length xc, .int .u32 (key : Int)] Y fun e w' => e = .returned (.bool (decide (key ∈ x))) ∧ w' = Y) := fun Y hY => in_same _ x (Nat.lt_of_le_of_lt fx.out.2 (by decide)) key Y (hxk12.later hY)
              clear e0 e1 e2 hlt htl
              rcases hcs with ⟨hv, hi⟩ | ⟨hv, hi⟩ | ⟨⟨vx, vy⟩, hv, hnn, hi⟩
              · rw [hv] at hva
                simp only [decide_eq_true hi] at hin
                clear hv hi
                go_wp2_with (go_at_call 11; fail)
                refine hva.mono ?_
                rintro e w14 ⟨rfl, hb14⟩
                have hB14 := below_step hBr hb14
                clear hva d0 hb14 hBr
                go_wp2_with fail
                have hpv := pv_fresh 0 0 hB14
                clear hB14
                generalize w14.alloc (.cells #[.int .i64 0, .int .i64 0] 37) = X1 at hpv ⊢
                generalize w14.heap.size = b1 at hpv ⊢
                obtain ⟨hB1, p0, p1, -, -⟩ := hpv
                obtain ⟨e0, e1, e2⟩ := hE.out _ hB1
                clear hE
                go_quiet ((go_at_call 12; exact Calls.quiet_of_same (hin.out _ (below_drewN hB1 _))))
                obtain ⟨hn5, hn4⟩ := hlt2.out
                go_wp2
                go_roundw
                case rel => exact ⟨t + 1, hn5, by go_num, below_drewN hB1 nq⟩
                case measure => simp [intOf]; omega
              · rw [hv] at hva
                simp only [decide_eq_false hi] at hin
                have heq := fun W => eqVal 9998 ex ey W
                clear hv hi
                go_wp2_with (go_at_call 11; fail)
                refine hva.mono ?_
                rintro e w14 ⟨rfl, hb14⟩
                have hB14 := below_step hBr hb14
                clear hva d0 hb14 hBr
                go_wp2_with fail
                have hpv := pv_fresh ex ey hB14
                clear hB14
                generalize w14.alloc (.cells #[.int .i64 ex, .int .i64 ey] 37) = X1 at hpv ⊢
                generalize w14.heap.size = b1 at hpv ⊢
                obtain ⟨hB1, p0, p1, -, -⟩ := hpv
                obtain ⟨e0, e1, e2⟩ := hE.out _ hB1
                clear hE
                go_quiet ((go_at_call 12; exact Calls.quiet_of_same (hin.out _ (below_drewN hB1 _))))
                obtain ⟨hn5, hn4⟩ := hlt2.out
                go_wp2
                go_roundw
                case rel => exact ⟨t + 1, hn5, by go_num, below_drewN hB1 nq⟩
                case measure => simp [intOf]; omega
              · rw [hv] at hva
                simp only [decide_eq_true hi] at hin
                have heq := fun W => eqValN 9998 vx vy ex ey hnn W
                clear hv hi hnn
                go_wp2_with (go_at_call 11; fail)
                refine hva.mono ?_
                rintro e w14 ⟨rfl, hb14⟩
                have hB14 := below_step hBr hb14
                clear hva d0 hb14 hBr
                go_wp2_with fail
                have hpv := pv_fresh vx vy hB14
                clear hB14
                generalize w14.alloc (.cells #[.int .i64 vx, .int .i64 vy] 37) = X1 at hpv ⊢
                generalize w14.heap.size = b1 at hpv ⊢
                obtain ⟨hB1, p0, p1, -, -⟩ := hpv
                obtain ⟨e0, e1, e2⟩ := hE.out _ hB1
                clear hE
                go_quiet ((go_at_call 12; exact Calls.quiet_of_same (hin.out _ (below_drewN hB1 _))))
                obtain ⟨hn5, hn4⟩ := hlt2.out
                go_wp2
                go_roundw
                case rel => exact ⟨t + 1, hn5, by go_num, below_drewN hB1 nq⟩
                case measure => simp [intOf]; omega
            · have hlt' : ¬ (t : Int) < (LB.length : Int) := fun h => hlt (Int.ofNat_lt.1 h)
              clear htl hlt
              go_wp2
              go_roundw
              case rel => exact ⟨2, (show 2 ≤ 2 by decide), by go_num, hBr⟩
              case measure => simp [intOf]
        · clear r1 r2 r3 r4 mc' nc' hip hjp hil hjl
          go_wp2
          go_loopw [33] (fun iv X => ∃ t : Nat, Hid (t ≤ z.length) ∧ iv = .int .i64 (t : Int) ∧ Below w12.heap.size w12 X) (fun iv _ => z.length - (intOf iv).toNat)
          case atStart => exact ⟨0, Nat.zero_le _, rfl, hBq⟩
          case round =>
            obtain ⟨t, htl, rfl, hBr⟩ := hrel
            clear hBq
            by_cases hlt : t < z.length
            · have hlt' : (t : Int) < (z.length : Int) := Int.ofNat_lt.2 hlt
              have ht0 : (0 : Int) ≤ (t : Int) := Int.natCast_nonneg _
              obtain ⟨zg, rfl, hzg, hzc⟩ := hzk12.cells (Nat.lt_of_le_of_lt (Nat.zero_le _) hlt)
              have hzt := (hBr.cell (p := ⟨zg, t, none⟩) hzg).trans (hzc t hlt)
              have hrl := fx.out.1.rel fu.out.1 fz.out.1 (List.getElem_mem hlt)
              generalize z[t] = key at *
              have hlt2 : Hid (t < z.length ∧ z.length ≤ 400) := ⟨hlt, fz.out.2⟩
              have hin := in_same _ x (Nat.lt_of_le_of_lt fx.out.2 (by decide)) key wr (hxk12.later hBr)
              have hiu := in_same _ u (Nat.lt_of_le_of_lt fu.out.2 (by decide)) key wr (huk.later hBr)
              clear hzc hlt htl
              by_cases hkx : key ∈ x
              · rw [decide_eq_true hkx] at hin
                clear hkx hrl hiu
                go_wp2_with (go_at_call 12; fail)
                refine hin.mono ?_
                rintro e w14 ⟨rfl, rfl⟩
                clear hin
                obtain ⟨hn5, hn4⟩ := hlt2.out
                go_wp2
                go_roundw
                case rel => exact ⟨t + 1, hn5, by go_num, hBr⟩
                case measure => simp [intOf]; omega
              · have hku := hrl.resolve_left hkx
                rw [decide_eq_false hkx] at hin
                rw [decide_eq_true hku] at hiu
                clear hkx hrl hku
                go_wp2_with (go_at_call 12; fail)
                refine hin.mono ?_
                rintro e w14 ⟨rfl, rfl⟩
                clear hin
                go_wp2_with (go_at_call 12; fail)
                refine hiu.mono ?_
                rintro e w15 ⟨rfl, rfl⟩
                clear hiu
                obtain ⟨hn5, hn4⟩ := hlt2.out
                go_wp2
                go_roundw
                case rel => exact ⟨t + 1, hn5, by go_num, hBr⟩
                case measure => simp [intOf]; omega
            · have hlt' : ¬ (t : Int) < (z.length : Int) := fun h => hlt (Int.ofNat_lt.1 h)
              have hSr := hS12.later hBr
              obtain ⟨hr33, hU0, hU33⟩ := hrb.out
              clear hlt htl hBr
              go_wp2_with (go_at_call 10; fail)
              refine (hk1.out _ hSr).mono ?_
              rintro e w14 ⟨ea, ec, rfl, -, hb14⟩
              have hS14 := hSr.later hb14
              clear hSr hb14
              go_wp2_with (go_at_call 10; fail)
              refine (hk2.out _ hS14).mono ?_
              rintro e w15 ⟨fa, fc, rfl, -, hb15⟩
              have hS15 := hS14.later hb15
              clear hS14 hb15
              go_wp2_with (go_at_call 10; fail)
              refine (hk3.out _ hS15).mono ?_
              rintro e w16 ⟨ga, gc, rfl, -, hb16⟩
              have hS16 := hS15.later hb16
              clear hS15 hb16
              go_wp2
              go_ret
              exact ⟨rfl, hS16.2.2⟩

end Go.Proofs.Ytigjnodkpkkdmaa

import Derived.Test.YtblfdjdhikfjhaaGreatTurnBzW3
import Derived.Test.YtblfdjdhikfjhaaGreatJoin45
import Derived.Test.YtblfdjdhikfjhaaGreatTurnBBook
namespace Go.Proofs.YtblfdjdhikfjhaaGreat.BZ
open Go.RowKit Go.Shelf
attribute [local go_sem] Oper.semAt_some

/-- A branch's bytes, behind its name. -/
def encB (b : Br) : List UInt8 := encD [] b.bs ++ (encN b.p ++ (encN (b.Ls.length - 1 - b.p) ++ encV b.bs b.Ls))
def fromV (m : Es) (Ls : List Es) (i : Nat) : Es := if i = 0 then m else Ls.getD (i - 1) []
theorem encV_take : ∀ (Ls : List Es) (m : Es) (i : Nat) (h : i < Ls.length), encV m (Ls.take (i + 1)) = encV m (Ls.take i) ++ encD (fromV m Ls i) Ls[i]
  | [], _, _, h => by simp at h
  | L :: r, m, 0, h => by simp [encV, fromV]
  | L :: r, m, i + 1, h => by
    have ih := encV_take r L i (by simpa using h)
    have e : fromV m (L :: r) (i + 1) = fromV L r i := by
      unfold fromV
      cases i with
      | zero => simp
      | succ i => simp
    rw [List.take_succ_cons, List.take_succ_cons]
    show encD m L ++ encV L (r.take (i + 1)) = encD m L ++ encV L (r.take i) ++ encD (fromV m (L :: r) (i + 1)) (r[i]'(by simpa using h))
    rw [ih, e, List.append_assoc]
theorem encV_len : ∀ (Ls : List Es) (m : Es) (i : Nat), (encV m (Ls.take i)).length ≤ (encV m Ls).length
  | [], _, _ => by simp
  | L :: r, m, 0 => by simp [encV]
  | L :: r, m, i + 1 => by
    have := encV_len r L i
    simp [encV]
    omega
theorem keeps_wd {wb : Nat} {X Y : World} {cs : Array Value} {ty : TypeId} {f : Nat × Nat} (h : X.heap[wb]? = some (.cells cs ty f)) (hd : Wd wb X Y) : KeepsOthers X Y := by
  refine ⟨hd.bl.size, fun k o hk ho => (hd.kt k ?_ (Array.getElem?_eq_some_iff.1 hk).1 (fun cs f hc => ?_)).trans hk⟩
  · rintro rfl
    rw [h] at hk
    cases hk
    cases ho
  · rw [hk] at hc
    cases hc
    cases ho
def StopW (P : Prop) := P
theorem stopW {P : Prop} (h : StopW P) : P := h

theorem steps_fn (hb : Nat) (X : World) : Calls Tryz.prog 72 #[.pointer (some ⟨hb, 0, none⟩)] X fun e w' => e = .returned (.func (.func 87) #[.pointer (some ⟨hb, 0, none⟩)] #[]) ∧ w' = X := by
  go_enter Tryz.func72, Tryz.ntmps72
  go_wp2
  go_ret
  exact ⟨rfl, rfl⟩
theorem Wd.stepB {wb B : Nat} {W X Y : World} (h : Wd wb W X) (hB : W.heap.size ≤ B) (hw : wb ≤ W.heap.size) (hs : StepB B X Y) : Wd wb W Y := by
  refine ⟨(hs.mono (Nat.le_trans hw hB)).below h.bl (Nat.le_trans hw h.bl.size), fun k h1 h2 h3 => ?_⟩
  obtain ⟨row, hg, hr⟩ := hs
  refine (hg.block k (Nat.lt_of_lt_of_le h2 h.bl.size) (fun e => ?_)).trans (h.kt k h1 h2 h3)
  have := (hr k e.symm).1
  omega
theorem WAt.stepB {wb B : Nat} {X Y : World} {acc : List UInt8} (h : WAt X wb acc) (hs : StepB B X Y) : WAt Y wb acc := by
  obtain ⟨p, cap, h1, h2⟩ := h
  exact ⟨p, cap, block_stepB h1 hs, own_stepC h2 hs⟩

theorem WAt.setOther {wb F : Nat} {X : World} {acc : List UInt8} (h : WAt X wb acc) {cs : Array Value} {f : Nat × Nat} (hF : X.heap[F]? = some (.cells cs 40 f)) (hne : F ≠ wb) (v : Value) : WAt (X.setCell ⟨F, 0, none⟩ v) wb acc := by
  obtain ⟨p, cap, h1, h2⟩ := h
  refine ⟨p, cap, (Below.heap_setCell _ _ _ wb (by simp; omega)).trans h1, h2.kept (grown_set X F 0 v) (.inr fun e => ?_)⟩
  obtain ⟨_, ⟨e2, _⟩ | ⟨g, cp, cur, e2, _, h4, _⟩⟩ := h2
  · rw [e2] at e; cases e
  · rw [e2] at e
    obtain rfl : g = F := Option.some.inj e
    rw [h4] at hF
    injection hF with hF
    injection hF with _ hF
    revert hF
    decide
theorem Wd.setOther {wb F : Nat} {W X : World} (h : Wd wb W X) (hl : W.heap.size ≤ F) (hw : wb ≤ F) (v : Value) : Wd wb W (X.setCell ⟨F, 0, none⟩ v) :=
  ⟨h.bl.setCell (p := ⟨F, 0, none⟩) hw v, fun k h1 h2 h3 => (Below.heap_setCell _ _ _ k (by simp; omega)).trans (h.kt k h1 h2 h3)⟩

set_option maxRecDepth 8000 in
set_option maxHeartbeats 4000000 in
theorem wbranch_any (wb : Nat) (b : Br) (W0 : World) (hB0 : BrAt W0 b) (hlo : W0.heap.size ≤ wb) (hR0 : EsR b.bs) (hR : ∀ L ∈ b.Ls, EsR L) (W : World) (hbW : Below W0.heap.size W0 W) {acc : List UInt8} (hl : acc.length + (encB b).length ≤ 100000000000000) (h : WAt W wb acc) : Calls Tryz.prog 47 #[.pointer (some ⟨wb, 0, none⟩), .pointer (some ⟨b.xb, 0, none⟩)] W (Wp wb acc (encB b) W) := by
  obtain ⟨nm, xb, hb, Ls, p, bs⟩ := b
  obtain ⟨⟨g, hx, hG⟩, hH, -⟩ := hB0
  simp only at hx hG hH hR0 hR
  refine (callsIn_wide (n := 6)).1 ?_
  refine callsIn_of_wp_marks Tryz.func47 rfl trivial ?_ rfl
  simp only [Tryz.ntmps47, List.size_toArray, List.length_cons, List.length_nil, Nat.reduceAdd, Nat.reduceSub, Array.replicate_succ, Array.replicate_zero, List.push_toArray, List.append_toArray, List.nil_append, List.cons_append]
  refine wpIn_wide.2 ?_
  obtain ⟨hp, hl33, g0, cap, vs, hHB, hcp, hne, hMs⟩ := hH
  have hH : HistAt W0 hb Ls p := ⟨hp, hl33, g0, cap, vs, hHB, hcp, hne, hMs⟩
  have hwl := h.lt
  have hW0wb : W0.heap.size ≤ W.heap.size := hbW.size
  unfold encB at hl
  simp only [List.length_append] at hl
  obtain ⟨r, hr⟩ : ∃ r, p + 1 + r = Ls.length := ⟨Ls.length - 1 - p, by omega⟩
  have hr1 : Ls.length - 1 - p = r := by omega
  rw [hr1] at hl
  have hb0 : Below W.heap.size W (W.alloc (.cells #[.pointer (some ⟨wb, 0, none⟩)] 56)) := (Below.refl _ _).alloc (Nat.le_refl _) _
  have hrow0 := heap_alloc_last W (.cells #[.pointer (some ⟨wb, 0, none⟩)] 56)
  obtain ⟨X0, hX0⟩ : ∃ X0, W.alloc (.cells #[.pointer (some ⟨wb, 0, none⟩)] 56) = X0 := ⟨_, rfl⟩
  rw [hX0] at hb0 hrow0
  have hxc : ∀ X, Below W0.heap.size W0 X → X.cell? ⟨xb, 1, none⟩ = some (.pointer (some ⟨g, 0, none⟩)) ∧ X.cell? ⟨xb, 0, none⟩ = some (.pointer (some ⟨hb, 0, none⟩)) := fun X hX => by
    have h2 := (hX.block xb (Array.getElem?_eq_some_iff.1 hx).1).trans hx
    exact ⟨cell_of_row _ _ 1 _ _ _ h2, cell_of_row _ _ 0 _ _ _ h2⟩
  have hdf : ∀ X ma, Below X0.heap.size X0 X → MapE X ma [] → Calls Tryz.prog 70 #[.pointer (some ⟨wb, 0, none⟩), .pointer (some ⟨ma, 0, none⟩), .pointer (some ⟨g, 0, none⟩)] X (Wp wb acc (encD [] bs) X) := fun X ma hX hm => wdiff_any wb ma g [] bs hR0 X (by omega) (h.later (below_step hb0 hX)) hm (hG.later (below_step hbW (below_step hb0 hX)))
  have hSS : ∀ X, Below X0.heap.size X0 X → X.cell? ⟨W.heap.size, 0, none⟩ = some (.pointer (some ⟨wb, 0, none⟩)) ∧ X.cell? ⟨xb, 1, none⟩ = some (.pointer (some ⟨g, 0, none⟩)) := fun X hX => ⟨cell_of_row _ _ 0 _ _ _ ((hX.block _ (Array.getElem?_eq_some_iff.1 hrow0).1).trans hrow0), (hxc X (below_step hbW (below_step hb0 hX))).1⟩
  have hBD : Below X0.heap.size X0 X0.drew := (Below.refl _ _).drew
  have hsD := hSS _ hBD
  go_upto_region 1 with fail
  go_region_held3 (fun X => X.cell? ⟨W.heap.size, 0, none⟩ = some (.pointer (some ⟨wb, 0, none⟩)) ∧ X.cell? ⟨xb, 1, none⟩ = some (.pointer (some ⟨g, 0, none⟩))) (with_reducible assumption)
    (first | (go_at_call 14; refine (empty_any _).mono ?_; rintro e w2 ⟨rfl, hT2, hb2⟩; have hB2 := below_step hBD hb2; have s2 := hSS _ hB2) | (go_at_call 70; refine (hdf _ _ hB2 ⟨.nil, hT2, rfl⟩).mono ?_; rintro e w3 ⟨rfl, hW3, hD3⟩; have hBW3 : Below W0.heap.size W0 w3 := (below_step hbW (below_step hb0 hB2)).trans (hD3.bl.mono hlo); have hr2 := (hB2.block _ (Array.getElem?_eq_some_iff.1 hrow0).1).trans hrow0; have hr3 := (hD3.kt W.heap.size (by omega) (Array.getElem?_eq_some_iff.1 hr2).1 (fun cs f hc => by rw [hr2] at hc; injection hc with hc; injection hc with _ hc; revert hc; decide)).trans hr2; have s3 : w3.cell? ⟨W.heap.size, 0, none⟩ = some (.pointer (some ⟨wb, 0, none⟩)) ∧ w3.cell? ⟨xb, 1, none⟩ = some (.pointer (some ⟨g, 0, none⟩)) := ⟨cell_of_row _ _ 0 _ _ _ hr3, (hxc w3 hBW3).1⟩))
  have hWd3 : Wd wb W w3 := (Wd.of_below (below_step hb0 hB2) (Nat.le_of_lt hwl)).trans hD3
  have hne8 : ∀ X : World, X.heap[W.heap.size]? = some (.cells #[.pointer (some ⟨wb, 0, none⟩)] 56 (0, 0)) → ∀ cs f, X.heap[W.heap.size]? ≠ some (.cells cs 5 f) := fun X hX cs f hc => by
    rw [hX] at hc
    injection hc with hc
    injection hc with _ hc
    revert hc
    decide
  have hHl : Hid (acc.length + ((encD [] bs).length + ((encN p).length + ((encN r).length + (encV bs Ls).length))) ≤ 100000000000000) := hl
  have hpr : Hid (p < 33 ∧ r < 33) := ⟨by omega, by omega⟩
  clear hdf hSS hBD hsD s2 s3 hB2 hT2 hb2 hr2 hD3 hl h hX0 hrow0 hb0 hr1
  have hx0 := (hxc _ hBW3).2
  go_wp2_with (go_at_call 71; fail)
  refine (depth_any hb Ls p r hr w3 (hH.later hBW3)).mono ?_
  rintro e w4 ⟨rfl, hb4⟩
  have hW4 := hW3.later hb4
  have hBW4 := below_step hBW3 hb4
  have hWd4 := hWd3.trans (Wd.of_below hb4 (Nat.le_trans (Nat.le_of_lt hwl) (by have := hWd3.bl.size; omega)))
  have hr4 := (hb4.block _ (Array.getElem?_eq_some_iff.1 hr3).1).trans hr3
  have s4 : w4.cell? ⟨W.heap.size, 0, none⟩ = some (.pointer (some ⟨wb, 0, none⟩)) := cell_of_row _ _ 0 _ _ _ hr4
  have hn1 := wnum_any wb p (by have := hpr.out; omega) w4 (by rw [List.length_append]; have := hHl.out; omega) hW4
  have hwp : IntKind.u64.wrap (p : Int) = (p : Int) := by have := hpr.out; rw [IntKind.wrap_u64]; omega
  have hwr : IntKind.u64.wrap (r : Int) = (r : Int) := by have := hpr.out; rw [IntKind.wrap_u64]; omega
  clear hW3 hWd3 hr3 hx0 hBW3 hb4
  go_wp2_with (go_at_call 45; fail)
  refine hn1.mono ?_
  rintro e w5 ⟨rfl, hW5, hD5⟩
  have hBW5 := hBW4.trans (hD5.bl.mono hlo)
  have hWd5 := hWd4.trans hD5
  have hr5 := (hD5.kt W.heap.size (by omega) (Array.getElem?_eq_some_iff.1 hr4).1 (hne8 w4 hr4)).trans hr4
  have s5 : w5.cell? ⟨W.heap.size, 0, none⟩ = some (.pointer (some ⟨wb, 0, none⟩)) := cell_of_row _ _ 0 _ _ _ hr5
  have hn2 := wnum_any wb r (by have := hpr.out; omega) w5 (by rw [List.length_append, List.length_append]; have := hHl.out; omega) hW5
  clear hn1 hW4 hWd4 hr4 s4 hBW4 hD5
  go_wp2_with (go_at_call 45; fail)
  refine hn2.mono ?_
  rintro e w6 ⟨rfl, hW6, hD6⟩
  have hBW6 := hBW5.trans (hD6.bl.mono hlo)
  have hWd6 := hWd5.trans hD6
  have hr6 := (hD6.kt W.heap.size (by omega) (Array.getElem?_eq_some_iff.1 hr5).1 (hne8 w5 hr5)).trans hr5
  have hx6 := (hxc _ hBW6).1
  have hbX : Below w6.heap.size w6 (w6.alloc (.cells #[.pointer (some ⟨g, 0, none⟩)] 40)) := (Below.refl _ _).alloc (Nat.le_refl _) _
  have hrF := heap_alloc_last w6 (.cells #[.pointer (some ⟨g, 0, none⟩)] 40)
  have hW7 := hW6.later hbX
  have hBW7 := below_step hBW6 hbX
  have hwl6 := hW6.lt
  have hWd7 := hWd6.trans (Wd.of_below hbX (Nat.le_of_lt hwl6))
  have hr7 := (hbX.block _ (Array.getElem?_eq_some_iff.1 hr6).1).trans hr6
  obtain ⟨F, hF⟩ : ∃ F, w6.heap.size = F := ⟨_, rfl⟩
  have hFP : W.heap.size < F := by rw [← hF]; exact (Array.getElem?_eq_some_iff.1 hr6).1
  have hFw : wb < F := by rw [← hF]; exact hwl6
  rw [hF] at hrF
  have hx7 := (hxc _ hBW7).2
  clear hn2 hW5 hWd5 hr5 s5 hBW5 hD6 hW6 hBW6 hWd6 hr6 hwp hwr hbX
  go_wp2_with (go_at_call 72; fail)
  generalize w6.alloc (.cells #[.pointer (some ⟨g, 0, none⟩)] 40) = X7 at *
  refine (steps_fn hb X7).mono ?_
  rintro e w8 ⟨rfl, rfl⟩
  clear hF
  go_wp2
  have hMc : ∀ X, Below W0.heap.size W0 X → ∀ k, k < Ls.length → X.cell? ⟨g0, k, none⟩ = some (.pointer (some ⟨vs k, 0, none⟩)) := fun X hX k hk => by
    have := ((hMs.later hX).2 k hk).1
    rw [Nat.zero_add] at this
    exact this
  have hcH : ∀ X, Below W0.heap.size W0 X → X.cell? ⟨hb, 0, none⟩ = some (.slice (some ⟨g0, 0, none⟩) Ls.length cap) ∧ X.cell? ⟨hb, 1, none⟩ = some (.int .i64 (p : Int)) := fun X hX => ⟨cell_of_row _ _ 0 _ _ _ (hHB.later hX), cell_of_row _ _ 1 _ _ _ (hHB.later hX)⟩
  have hWB : ∀ X, Wd wb W X → Below W0.heap.size W0 X := fun X hX => hbW.trans (hX.bl.mono hlo)
  refine (wpIn_wide (n := 6)).1 ?_
  refine range_steps hb g0 cap vs p Ls.length hl33 (by omega) rfl rfl
    (fun i X => WAt X wb (acc ++ (encD [] bs ++ (encN p ++ (encN r ++ encV bs (Ls.take i))))) ∧ Wd wb W X ∧ X.heap[F]? = some (.cells #[.pointer (some ⟨if i = 0 then g else vs (i - 1), 0, none⟩)] 40 (0, 0)) ∧ X.heap[W.heap.size]? = some (.cells #[.pointer (some ⟨wb, 0, none⟩)] 56 (0, 0)))
    (fun i X Y h hs => ⟨h.1.stepB hs, h.2.1.stepB hWd7.bl.size (Nat.le_of_lt hwl) hs, block_stepB h.2.2.1 hs, block_stepB h.2.2.2 hs⟩) (fun i X h => hMc X (hWB X h.2.1)) (hcH _ hBW7).1 (hcH _ hBW7).2 ⟨by simpa [encV, List.append_assoc] using hW7, hWd7, hrF, hr7⟩
    (fun i => { tmps := #[.pointer (some ⟨wb, 0, none⟩), .pointer (some ⟨xb, 0, none⟩), .pointer (some ⟨W.heap.size, 0, none⟩), undef, .int .i64 (p : Int), .int .i64 (r : Int), .pointer (some ⟨F, 0, none⟩), undef, .pointer (some ⟨vs i, 0, none⟩), .pointer (some ⟨wb, 0, none⟩), .pointer (some ⟨X0.heap.size, 0, none⟩), .pointer (some ⟨xb, 0, none⟩), .pointer (some ⟨xb, 0, none⟩), .pointer (some ⟨xb, 1, none⟩), .pointer (some ⟨g, 0, none⟩), .tuple #[], .tuple #[.int .i64 (p : Int), .int .i64 (r : Int)], .pointer (some ⟨xb, 0, none⟩), .pointer (some ⟨xb, 0, none⟩), .pointer (some ⟨xb, 0, none⟩), .pointer (some ⟨hb, 0, none⟩), .tuple #[.int .i64 (p : Int), .int .i64 (r : Int)], .int .i64 (p : Int), .int .i64 (r : Int), .pointer (some ⟨wb, 0, none⟩), .int .i64 (p : Int), .int .u64 (p : Int), .tuple #[], .pointer (some ⟨wb, 0, none⟩), .int .i64 (r : Int), .int .u64 (r : Int), .tuple #[], .pointer (some ⟨xb, 0, none⟩), .pointer (some ⟨xb, 0, none⟩), .pointer (some ⟨xb, 1, none⟩), .pointer (some ⟨g, 0, none⟩), .pointer (some ⟨xb, 0, none⟩), .pointer (some ⟨xb, 0, none⟩), .pointer (some ⟨xb, 0, none⟩), .pointer (some ⟨hb, 0, none⟩), .func (.func 87) #[.pointer (some ⟨hb, 0, none⟩)] #[], .int .i64 ((i : Int) - (p : Int)), .pointer (some ⟨vs i, 0, none⟩), undef, undef, undef, undef, undef], defers := [] }) ?assign ?body ?done
  case assign =>
    intro l' i W' K hi hK
    gi_wp2
    exact hK
  case body =>
    rintro l' i X hi ⟨hW, hWd, hF, hP⟩
    have hBX := hWB X hWd
    have cP : X.cell? ⟨W.heap.size, 0, none⟩ = some (.pointer (some ⟨wb, 0, none⟩)) := cell_of_row _ _ 0 _ _ _ hP
    have cF : X.cell? ⟨F, 0, none⟩ = some (.pointer (some ⟨if i = 0 then g else vs (i - 1), 0, none⟩)) := cell_of_row _ _ 0 _ _ _ hF
    have hmf : MapE X (if i = 0 then g else vs (i - 1)) (fromV bs Ls i) := by
      unfold fromV
      by_cases h0 : i = 0
      · rw [if_pos h0, if_pos h0]; exact hG.later hBX
      · rw [if_neg h0, if_neg h0]
        have := ((hMs.later hBX).2 (i - 1) (by omega)).2.1
        rw [List.getD_eq_getElem?_getD, List.getElem?_eq_getElem (by omega)]
        exact this
    have hmt : MapE X (vs i) Ls[i] := ((hMs.later hBX).2 i hi).2.1
    have hnx := encV_take Ls bs i hi
    have hbd : (acc ++ (encD [] bs ++ (encN p ++ (encN r ++ encV bs (Ls.take i))))).length + (encD (fromV bs Ls i) Ls[i]).length ≤ 100000000000000 := by
      have h1 := encV_len Ls bs (i + 1)
      rw [hnx, List.length_append] at h1
      have h2 := hHl.out
      simp only [List.length_append]
      omega
    have hnx2 : Hid (acc ++ (encD [] bs ++ (encN p ++ (encN r ++ encV bs (Ls.take (i + 1))))) = acc ++ (encD [] bs ++ (encN p ++ (encN r ++ encV bs (Ls.take i)))) ++ encD (fromV bs Ls i) Ls[i]) := by
      show _ = _
      rw [hnx]
      simp only [List.append_assoc]
    have hdf := wdiff_any wb _ (vs i) (fromV bs Ls i) Ls[i] (hR _ (List.getElem_mem hi)) X hbd hW hmf hmt
    have hkw : ∀ Y, Wd wb X Y → KeepsOthers X Y := fun Y hY => by
      obtain ⟨p', cap', h1, -⟩ := hW
      exact keeps_wd h1 hY
    clear hnx hbd hmf hmt hW hW7 hWd7 hrF hr7
    generalize (if i = 0 then g else vs (i - 1)) = fb at *
    gi_wp2_with (gi_at_call 70; fail)
    refine ⟨trivial, (CallsIn.inRound l' (callsIn_wide.2 hdf)).mono ?_⟩
    rintro e Y ⟨rfl, hWY, hDY⟩
    have hFY := (hDY.kt F (by omega) (Array.getElem?_eq_some_iff.1 hF).1 (fun cs f hc => by rw [hF] at hc; injection hc with hc; injection hc with _ hc; revert hc; decide)).trans hF
    have hPY := (hDY.kt W.heap.size (by omega) (Array.getElem?_eq_some_iff.1 hP).1 (hne8 X hP)).trans hP
    have cFY : Y.cell? ⟨F, 0, none⟩ = some (.pointer (some ⟨fb, 0, none⟩)) := cell_of_row _ _ 0 _ _ _ hFY
    have fFY := frozen_of_row hFY 0
    have hWY2 := hWY.setOther hFY (by omega) (.pointer (some ⟨vs i, 0, none⟩))
    have hWd2 := (hWd.trans hDY).setOther (by omega) (by omega) (.pointer (some ⟨vs i, 0, none⟩)) (F := F)
    have hF2 := heap_setCell_same Y F 0 _ _ (.pointer (some ⟨vs i, 0, none⟩)) hFY
    have hP2 := (Below.heap_setCell Y ⟨F, 0, none⟩ (.pointer (some ⟨vs i, 0, none⟩)) W.heap.size (by simp; omega)).trans hPY
    have hK2 := ((hkw Y hDY).trans (KeepsOthers.setCell Y ⟨F, 0, none⟩ (.pointer (some ⟨vs i, 0, none⟩)))).from w8.heap.size
    rw [← hnx2.out] at hWY2
    clear hkw hdf hWY hDY hPY hnx2
    gi_wp2
    all_goals exact ⟨rfl, hK2, hWY2, hWd2, by rw [if_neg (Nat.succ_ne_zero i), Nat.add_sub_cancel]; exact hF2, hP2⟩
  case done =>
    rintro R X hRl ⟨hW, hWd, -, -⟩ hdef
    have hst := stepB_put (B := w8.heap.size) (.deferred none) hRl hdef rfl
    have hW2 := hW.stepB hst
    have hWd2 := hWd.stepB hWd7.bl.size (Nat.le_of_lt hwl) hst
    rw [List.take_length] at hW2
    gi_wp2
    refine ⟨by simp, .inl ⟨_, _, rfl, run_takeDeferred hdef, ?_⟩⟩
    refine ⟨.tuple #[], by simp [results, Tryz.results47, go_sem], rfl, ?_, hWd2⟩
    have e : Ls.length - 1 - p = r := by omega
    unfold encB
    simp only [e]
    exact hW2

end Go.Proofs.YtblfdjdhikfjhaaGreat.BZ

import Derived.Test.YtmbjfpmplmebcaaCsB
namespace Go.Proofs.Ytmbjfpmplmebcaa.CF
open Go.RowKit
attribute [local go_sem] run_store_float

/-- The points of the first k answers. -/
def ptsD (f s : Int) (vs : List (Int × Int)) : Nat → Dots
  | 0 => []
  | k + 1 => ptsD f s vs k ++ if (pickV vs k).1 = 1 ∨ (pickV vs k).1 = 2 then [(f + (k : Int) * s, wholeN (pickV vs k).2)] else []
theorem ptsD_len (f s : Int) (vs : List (Int × Int)) : ∀ k, (ptsD f s vs k).length ≤ k
  | 0 => Nat.le_refl _
  | k + 1 => by
    have := ptsD_len f s vs k
    unfold ptsD
    rw [List.length_append]
    split
    · rw [List.length_cons, List.length_nil]; omega
    · rw [List.length_nil]; omega
/-- Where f and its points lie. -/
structure SS (W : World) (A V : Nat) (av : Option Addr) (cv : Nat) (vs : List (Int × Int)) (L : List Int) (D : Dots) (pv : Value) (w : World) : Prop where
  bel : Below W.heap.size W w
  a : ∃ v, w.heap[A]? = some (.cells #[v] 23 (0, 0)) ∧ w.ownsRow W.heap.size 2 1 v L.length (L.map (Value.int .i64))
  v : w.heap[V]? = some (.cells #[.slice av vs.length cv] 22 (0, 0))
  p : w.ownsRow W.heap.size 46 2 pv D.length (ptV D)
variable {W : World} {A V : Nat} {av : Option Addr} {cv : Nat} {vs : List (Int × Int)} {L : List Int} {D : Dots} {pv : Value} {w w' : World}
theorem own_frA {base n : Nat} {v : Value} {xs : List Value} (h : w.ownsRow base 46 2 v n xs) {u : Value} (hA : w.heap[A]? = some (.cells #[u] 23 (0, 0))) (hf : FrA A w w') : w'.ownsRow base 46 2 v n xs := by
  obtain ⟨h1, h2 | ⟨g, cap, cur, e, hb, hc, h3⟩⟩ := h
  · exact ⟨h1, .inl h2⟩
  · refine ⟨h1, .inr ⟨g, cap, cur, e, hb, (hf.block g (Array.getElem?_eq_some_iff.1 hc).1 (fun e => ?_) (fun c z e => ?_)).trans hc, h3⟩⟩
    · rw [e, hA] at hc
      injection hc with h; injection h with h1 h2 h3; cases h2
    · rw [hc] at e
      injection e with h; injection h with h1 h2 h3; cases h2
theorem SS.ask (h : SS W A V av cv vs L D pv w) {x : Int} {q : Int × Int} {e : Ending} (hq : AskP W A L x q w e w') : SS W A V av cv vs (L ++ [x]) D pv w' := by
  obtain ⟨v0, hA, -⟩ := h.a
  obtain ⟨v', -, hA', ho', hB', hF⟩ := hq
  refine ⟨hB', ⟨v', hA', by rw [List.length_append]; exact ho'⟩, (hF.block V (Array.getElem?_eq_some_iff.1 h.v).1 (fun e => ?_) (fun c z e => ?_)).trans h.v, own_frA h.p hA hF⟩
  · have hv := h.v
    rw [e, hA] at hv
    injection hv with h; injection h with h1 h2 h3; cases h2
  · rw [h.v] at e
    injection e with h; injection h with h1 h2 h3; cases h2
theorem SS.alloc (h : SS W A V av cv vs L D pv w) (o : Obj) : SS W A V av cv vs L D pv (w.alloc o) := by
  obtain ⟨v0, hA, ho⟩ := h.a
  have hb : Below w.heap.size w (w.alloc o) := (Below.refl _ _).alloc (Nat.le_refl _) _
  exact ⟨h.bel.alloc h.bel.size _, ⟨v0, (hb.block A (Array.getElem?_eq_some_iff.1 hA).1).trans hA, ho.alloc _⟩, (hb.block V (Array.getElem?_eq_some_iff.1 h.v).1).trans h.v, h.p.alloc _⟩
theorem SS.push (h : SS W A V av cv vs L D pv w) {D' : Dots} {pv' : Value} (ho : w'.ownsRow W.heap.size 46 2 pv' D'.length (ptV D')) (hg : w.grownBy w' pv.ownBlock) : SS W A V av cv vs L D' pv' w' := by
  obtain ⟨v0, hA, ho0⟩ := h.a
  have hpo : ∀ j, pv.ownBlock = some j → ∃ cur, w.heap[j]? = some (.cells cur 46 (0, 0)) := fun j hj => by
    obtain ⟨-, ⟨h1, -⟩ | ⟨g, cp, cur, h1, -, hc, -⟩⟩ := h.p
    · subst h1; cases hj
    · subst h1; injection hj with hj; subst hj; exact ⟨cur, hc⟩
  refine ⟨h.bel.grown hg h.bel.size (fun j hj => (h.p.lt j hj).1), ⟨v0, (hg.block A (Array.getElem?_eq_some_iff.1 hA).1 (fun e => ?_)).trans hA, ?_⟩, (hg.block V (Array.getElem?_eq_some_iff.1 h.v).1 (fun e => ?_)).trans h.v, ho⟩
  · obtain ⟨cur, hc⟩ := hpo A e.symm
    rw [hA] at hc
    injection hc with h; injection h with h1 h2 h3; cases h2
  · obtain ⟨h1, h2 | ⟨g, cap, cur, e, hb, hc, h3⟩⟩ := ho0
    · exact ⟨h1, .inl h2⟩
    · refine ⟨h1, .inr ⟨g, cap, cur, e, hb, (hg.block g (Array.getElem?_eq_some_iff.1 hc).1 (fun e => ?_)).trans hc, h3⟩⟩
      obtain ⟨cur2, hc2⟩ := hpo g e.symm
      rw [hc] at hc2
      injection hc2 with h; injection h with h1 h2 h3; cases h2
  · obtain ⟨cur, hc⟩ := hpo V e.symm
    rw [h.v] at hc
    injection hc with h; injection h with h1 h2 h3; cases h2
def SmpP (W : World) (A V : Nat) (av : Option Addr) (cv : Nat) (vs : List (Int × Int)) (L : List Int) (D : Dots) (en : Int) (e : Ending) (w' : World) : Prop := ∃ pv, e = .returned (.tuple #[pv, .int .i64 en]) ∧ SS W A V av cv vs L D pv w'
set_option maxRecDepth 8000 in
set_option maxHeartbeats 2000000 in
theorem sample_ok (f s : Int) (n : Nat) (hn1 : 1 ≤ n) (hn2 : n ≤ 64) (hok : okS f s ((n : Int) - 1) = true) (hvl : vs.length ≤ 9223372036854775806) (hAge : W.heap.size ≤ A) (hvs : VsAt W av vs) (hvr : ∀ k, -9223372036854775808 ≤ (pickV vs k).2 ∧ (pickV vs k).2 ≤ 9223372036854775807) (w : World) (h : SS W A V av cv vs [] [] (.slice none 0 0) w) :
    Calls Try.prog 11 #[.func (.func 10) #[] #[.pointer (some ⟨A, 0, none⟩), .pointer (some ⟨V, 0, none⟩)], .int .i64 f, .int .i64 s, .int .i64 (n : Int)] w (SmpP W A V av cv vs (xsL f s n) (ptsD f s vs n) 0) := by
  obtain ⟨i0, hi, hz0, hz1, hz2⟩ := info_parts infoP
  have hms := mayStep_any f s ((n : Int) - 1) (by omega) (by omega) w
  rw [hok] at hms
  obtain ⟨⟨hs1, hf1, hf2⟩, hks⟩ := okS_bounds hok (by omega)
  have h1 : ¬ (n : Int) < 1 := by omega
  have h2 : ¬ (64 : Int) < (n : Int) := by omega
  replace hks := Hid.mk hks
  clear hok
  go_enter Try.func11, Try.ntmps11
  go_wp2_with (go_at_call 30; refine hms.mono ?_; rintro _ w1 ⟨rfl, hw1⟩; subst w1)
  go_loopw [10, 29] (fun pv x wr => ∃ k : Nat, k ≤ n ∧ x = .int .i64 (k : Int) ∧ SS W A V av cv vs (xsL f s k) (ptsD f s vs k) pv wr) (fun _ x _ => n - (intOf x).toNat)
  case atStart => exact ⟨0, by omega, rfl, h⟩
  case round =>
    clear h hms
    obtain ⟨k, hk, rfl, hS⟩ := hrel
    by_cases hlt : k < n
    · have hlt' : (k : Int) < (n : Int) := by omega
      obtain ⟨v0, hA0, ho0⟩ := hS.a
      have hkb := hks.out (k : Int) (by omega) (by omega)
      have hask := ask_any W A V (xsL f s k) (by rw [xsL_len]; omega) v0 vs hvl av cv (f + (k : Int) * s) wr hS.bel hAge hA0 ho0 hS.v hvs
      rw [xsL_len] at hask
      have hpl := ptsD_len f s vs k
      have hxl : xsL f s (k + 1) = xsL f s k ++ [f + (k : Int) * s] := xsL_snoc f s k
      have hpd : Hid (ptsD f s vs (k + 1) = ptsD f s vs k ++ if (pickV vs k).1 = 1 ∨ (pickV vs k).1 = 2 then [(f + (k : Int) * s, wholeN (pickV vs k).2)] else []) := ⟨rfl⟩
      have hcv := conv_f32 (pickV vs k).2
      have hvr2 := hvr k
      replace hxl := Hid.mk hxl
      clear hA0 ho0 hvs
      generalize pickV vs k = q at *
      obtain ⟨q1, q2⟩ := q
      go_wp2_with (go_at_call 10; fail)
      refine hask.mono ?_
      clear hask
      intro e w2 hq
      have hS2 := hS.ask hq
      obtain ⟨v', rfl, -⟩ := hq
      have hS3 := hS2.alloc (.cells #[.int .i64 q1, .int .i64 q2] 28)
      clear hS hS2
      by_cases c1 : q1 = 1
      · have c1' : (q1 == 1) = true := beq_iff_eq.2 c1
        have hpe : Hid (ptsD f s vs (k + 1) = ptsD f s vs k ++ [(f + (k : Int) * s, wholeN q2)]) := ⟨by rw [hpd.out, if_pos (.inl c1)]⟩
        rw [← hxl.out] at hS3
        generalize wholeN q2 = U at *
        have hS4 := hS3.alloc (.cells #[.int .i64 (f + (k : Int) * s), .float .f32 U] 46)
        have hsz4 := hS4.bel.size
        obtain ⟨X3, hX3⟩ : ∃ X, w2.alloc (.cells #[.int .i64 q1, .int .i64 q2] 28) = X := ⟨_, rfl⟩
        have t0 : X3.cell? ⟨w2.heap.size, 0, none⟩ = some (.int .i64 q1) := by rw [← hX3]; simp
        have t1 : X3.cell? ⟨w2.heap.size, 1, none⟩ = some (.int .i64 q2) := by rw [← hX3]; simp
        rw [hX3] at hS4 hsz4
        clear hS3 hpd c1
        go_wp2_with (at_builtin; refine wpList_append_own _ rfl _ _ 30 rfl W.heap.size 46 i0 _ 2 16 Try.underlying30 hi hz0 hz1 hz2 rfl (by decide) _ (ptsD f s vs k).length (ptV (ptsD f s vs k)) rfl hS4.p ⟨X3.heap.size, 0, none⟩ 1 1 [.int .i64 (f + (k : Int) * s), .float .f32 U] rfl rfl (lit_at X3 _ _) (by simp [Value.oneCell']) (by unfold maxLen; omega) (by omega) hsz4 ?_; intro v4 w4 hown4 hgrow4 _; have hS5 := hS4.push (D' := ptsD f s vs k ++ [(f + (k : Int) * s, U)]) (by rw [List.length_append, ptV_snoc]; exact hown4) hgrow4; clear hown4 hgrow4)
        go_roundw
        case rel => exact ⟨k + 1, by omega, by go_num, by rw [hpe.out]; exact hS5⟩
        case measure => simp [intOf]; omega
      · have c1' : (q1 == 1) = false := beq_eq_false_iff_ne.2 c1
        by_cases c2 : q1 = 2
        · have c2' : (q1 == 2) = true := beq_iff_eq.2 c2
          have hpe : Hid (ptsD f s vs (k + 1) = ptsD f s vs k ++ [(f + (k : Int) * s, wholeN q2)]) := ⟨by rw [hpd.out, if_pos (.inr c2)]⟩
          rw [← hxl.out] at hS3
          generalize wholeN q2 = U at *
          have hS4 := hS3.alloc (.cells #[.int .i64 (f + (k : Int) * s), .float .f32 U] 46)
          have hsz4 := hS4.bel.size
          obtain ⟨X3, hX3⟩ : ∃ X, w2.alloc (.cells #[.int .i64 q1, .int .i64 q2] 28) = X := ⟨_, rfl⟩
          have t0 : X3.cell? ⟨w2.heap.size, 0, none⟩ = some (.int .i64 q1) := by rw [← hX3]; simp
          have t1 : X3.cell? ⟨w2.heap.size, 1, none⟩ = some (.int .i64 q2) := by rw [← hX3]; simp
          rw [hX3] at hS4 hsz4
          clear hS3 hpd c1 c2
          go_wp2_with (at_builtin; refine wpList_append_own _ rfl _ _ 30 rfl W.heap.size 46 i0 _ 2 16 Try.underlying30 hi hz0 hz1 hz2 rfl (by decide) _ (ptsD f s vs k).length (ptV (ptsD f s vs k)) rfl hS4.p ⟨X3.heap.size, 0, none⟩ 1 1 [.int .i64 (f + (k : Int) * s), .float .f32 U] rfl rfl (lit_at X3 _ _) (by simp [Value.oneCell']) (by unfold maxLen; omega) (by omega) hsz4 ?_; intro v4 w4 hown4 hgrow4 _; have hS5 := hS4.push (D' := ptsD f s vs k ++ [(f + (k : Int) * s, U)]) (by rw [List.length_append, ptV_snoc]; exact hown4) hgrow4; clear hown4 hgrow4)
          go_roundw
          case rel => exact ⟨k + 1, by omega, by go_num, by rw [hpe.out]; exact hS5⟩
          case measure => simp [intOf]; omega
        · have c2' : (q1 == 2) = false := beq_eq_false_iff_ne.2 c2
          have hpe : Hid (ptsD f s vs (k + 1) = ptsD f s vs k) := ⟨by rw [hpd.out, if_neg (by rintro (h | h); · exact c1 h
                                                                                              · exact c2 h), List.append_nil]⟩
          rw [← hxl.out] at hS3
          obtain ⟨X3, hX3⟩ : ∃ X, w2.alloc (.cells #[.int .i64 q1, .int .i64 q2] 28) = X := ⟨_, rfl⟩
          have t0 : X3.cell? ⟨w2.heap.size, 0, none⟩ = some (.int .i64 q1) := by rw [← hX3]; simp
          rw [hX3] at hS3
          clear hpd c1 c2
          go_wp2
          go_roundw
          case rel => exact ⟨k + 1, by omega, by go_num, by rw [hpe.out]; exact hS3⟩
          case measure => simp [intOf]; omega
    · obtain rfl : k = n := by omega
      have hlt' : ¬ (k : Int) < (k : Int) := by omega
      obtain ⟨p, cp, rfl⟩ := own_len hS.p
      go_wp2
      exact bodyPost_ret (v := .tuple #[_, .int .i64 0]) (by simp [results, Try.results11, go_sem]) rfl ⟨_, rfl, hS⟩
end Go.Proofs.Ytmbjfpmplmebcaa.CF

import Derived.Test.YtilpommjeifdfaaHBound
namespace Go.Proofs.Ytilpommjeifdfaa
open Go.RowKit

theorem MapE.keptH {W W' : World} {b hb : Nat} {L : Es} {Ls : List Es} {p : Nat} (h : MapE W b L) (hH : HistAt W hb Ls p) (hg : W.grownBy W' (some hb)) : MapE W' b L := by
  obtain ⟨-, -, g, cap, vs, hB, -⟩ := hH
  exact h.kept hB hg

set_option maxRecDepth 4000 in
set_option maxHeartbeats 8000000 in
/-- HistApart, if many says yes. -/
theorem hapart_if (hmany : ∀ w : World, Calls Try.prog 23 #[] w fun e w' => e = .returned (.bool true) ∧ Below w.heap.size w w') (v0 : Value) (S0 : List HOp) (v1 : Value) (S1 : List HOp) (v2 : Value) (S2 : List HOp) (w : World) (hS0 : OpsA w v0 S0) (hS1 : OpsA w v1 S1) (hS2 : OpsA w v2 S2) :
    Calls Try.prog 5 #[v0, v1, v2] w fun e w' => e = .returned (.bool true) ∧ Below w.heap.size w w' := by
  have hk := known_hist w
  have hV0 := hS0
  have hV1 := hS1
  have hV2 := hS2
  obtain ⟨a0, k0, rfl, -⟩ := hS0
  obtain ⟨a1, k1, rfl, -⟩ := hS1
  obtain ⟨a2, k2, rfl, -⟩ := hS2
  have tA : True := trivial
  go_enter Try.func5, Try.ntmps5
  go_wp2_with (first | (go_at_call 7; refine hk.mono ?_; rintro e w1 ⟨rfl, hb1⟩) | (go_at_call 8; have _u := tA; clear tA; refine (new_nil _).mono ?_; rintro e w2 ⟨hb, rfl, hlo2, hH2, hb2⟩) | (go_at_call 8; refine (new_nil _).mono ?_; rintro e w3 ⟨gb, rfl, hlo3, hG3, hb3⟩) | (go_at_call 9; fail))
  have hB3 := below_step (below_step hb1 hb2) hb3
  have lo1 : Hid (w.heap.size ≤ hb) := by have := hb1.size; show w.heap.size ≤ hb; omega
  have lo2 : Hid (w.heap.size ≤ gb) := by have h1 := hb1.size; have h2 := hb2.size; show w.heap.size ≤ gb; omega
  have ne1 : Hid (hb ≠ gb) := by have := hH2.lt; show hb ≠ gb; omega
  have hH3 := hH2.later hb3
  clear hk hb1 hb2 hb3 hlo2 hlo3 hH2
  refine (plays_any hb ([[]], 0) _ S0 w hV0 lo1.out _ hB3 hH3).mono ?_
  rintro e w4 ⟨rfl, hH4, hg4⟩
  have hG4 := hG3.kept hH3 ne1.out.symm hg4
  have hB4 := grown_below hB3 hg4 lo1.out
  clear hH3 hG3 hg4 hB3
  go_wp2_with (go_at_call 9; fail)
  refine (plays_any gb ([[]], 0) _ S0 w hV0 lo2.out _ hB4 hG4).mono ?_
  rintro e w5 ⟨rfl, hG5, hg5⟩
  have hH5 := hH4.kept hG4 ne1.out hg5
  have hB5 := grown_below hB4 hg5 lo2.out
  obtain ⟨s, hs⟩ : ∃ s, s = S0.foldl hstep ([[]], 0) := ⟨_, rfl⟩
  rw [← hs] at hG5 hH5
  clear hs hH4 hG4 hg5 hB4 hV0
  have hcl := clone_any hb s.1 s.2 w5 hH5
  go_wp2_with (go_at_call 21; fail)
  refine hcl.mono ?_
  rintro e w6 ⟨hc, rfl, hlo6, hC6, hb6⟩
  have lo3 : Hid (w.heap.size ≤ hc) := Nat.le_trans hB5.size hlo6
  have ne2 : Hid (hb ≠ hc) := by have := hH5.lt; show hb ≠ hc; omega
  have ne3 : Hid (gb ≠ hc) := by have := hG5.lt; show gb ≠ hc; omega
  have hH6 := hH5.later hb6
  have hG6 := hG5.later hb6
  have hB6 := below_step hB5 hb6
  have l1 : Hid (hb < w6.heap.size) := hH6.lt
  have l3 : Hid (hc < w6.heap.size) := hC6.lt
  have hal := all_at hb s.1 s.2 _ rfl _ hH6
  clear hcl hlo6 hH5 hG5 hB5 hb6
  go_wp2_with (go_at_call 16; fail)
  refine hal.mono ?_
  rintro e w7 ⟨g7, o7, c7, rfl, -, hA7, hb7⟩
  have hno := now_any hb s.1 s.2 _ (hH6.later hb7)
  obtain ⟨Lp, hLp⟩ : ∃ Lp, Hid (s.1.getD s.2 [] = Lp) := ⟨s.1.getD s.2 [], show s.1.getD s.2 [] = _ from rfl⟩
  rw [hLp.out] at hno
  clear hal
  go_wp2_with (go_at_call 11; fail)
  refine hno.mono ?_
  rintro e w8 ⟨mb, rfl, hm8, hl8, hb8⟩
  have hLl : Hid (Lp.length ≤ 200 ∧ Lp.length ≤ 1000000000) := ⟨hl8, Nat.le_trans hl8 (by decide)⟩
  have hen := ents_map mb Lp Lp.length rfl hLl.out.1 _ hm8
  clear hno hl8
  go_wp2_with (go_at_call 10; fail)
  refine hen.mono ?_
  rintro e w9 ⟨ak, ck, rfl, he9, hb9⟩
  have hH9 := ((hH6.later hb7).later hb8).later hb9
  have hG9 := ((hG6.later hb7).later hb8).later hb9
  have hC9 := ((hC6.later hb7).later hb8).later hb9
  have hA9 := (hA7.later hb8).later hb9
  have hm9 := hm8.later hb9
  have hB9 := below_step (below_step (below_step hB6 hb7) hb8) hb9
  have l33 : Hid (s.1.length ≤ 33) := hH9.2.1
  clear hen hH6 hG6 hC6 hA7 hm8 hB6 hb7 hb8 hb9
  go_wp2_with (go_at_call 9; fail)
  refine (plays_any hc s _ S2 w hV2 lo3.out _ hB9 hC9).mono ?_
  rintro e w10 ⟨rfl, hC10, hg10⟩
  have hH10 := hH9.kept hC9 ne2.out hg10
  have hG10 := hG9.kept hC9 ne3.out hg10
  have hA10 := hA9.kept l3.out hC9 hg10
  have hm10 := hm9.keptH hC9 hg10
  have he10 := he9.kept hC9 hg10
  have hB10 := grown_below hB9 hg10 lo3.out
  obtain ⟨t, ht⟩ : ∃ t, t = S2.foldl hstep s := ⟨_, rfl⟩
  rw [← ht] at hC10
  have hal := all_at hb s.1 s.2 _ rfl _ hH10
  clear ht hH9 hG9 hC9 hA9 hm9 he9 hB9 hg10 hV2
  go_wp2_with (go_at_call 16; fail)
  refine hal.mono ?_
  rintro e w11 ⟨g11, o11, c11, rfl, -, hA11, hb11⟩
  have hsa := same_lists _ _ _ _ s.1 l33.out _ (hA10.later hb11) hA11
  go_wp2_with (go_at_call 19; fail)
  refine hsa.mono ?_
  rintro e w12 ⟨rfl, hb12⟩
  have hm12 := (hm10.later hb11).later hb12
  have he12 := (he10.later hb11).later hb12
  have hH12 := (hH10.later hb11).later hb12
  have hG12 := (hG10.later hb11).later hb12
  have hC12 := (hC10.later hb11).later hb12
  have hB12 := below_step (below_step hB10 hb11) hb12
  have hen := ents_map mb Lp Lp.length rfl hLl.out.1 _ hm12
  clear hal hsa hA10 hA11 hm10 he10 hH10 hG10 hC10 hB10 hb11 hb12
  go_wp2_with (go_at_call 10; fail)
  refine hen.mono ?_
  rintro e w13 ⟨a13, c13, rfl, he13, hb13⟩
  have hse := same_ents _ _ Lp hLl.out.2 _ he13 (he12.later hb13)
  go_wp2_with (go_at_call 15; fail)
  refine hse.mono ?_
  rintro e w14 ⟨rfl, hb14⟩
  have hm14 := (hm12.later hb13).later hb14
  have he14 := (he12.later hb13).later hb14
  have hH14 := (hH12.later hb13).later hb14
  have hG14 := (hG12.later hb13).later hb14
  have hC14 := (hC12.later hb13).later hb14
  have hB14 := below_step (below_step hB12 hb13) hb14
  have l33c : Hid (t.1.length ≤ 33) := hC14.2.1
  have l1' : Hid (hb < w14.heap.size) := hH14.lt
  have hal := all_at hc t.1 t.2 _ rfl _ hC14
  clear hen hse he13 hm12 he12 hH12 hG12 hC12 hB12 hb13 hb14
  go_wp2_with (go_at_call 16; fail)
  refine hal.mono ?_
  rintro e w15 ⟨g15, o15, c15, rfl, -, hA15, hb15⟩
  have hH15 := hH14.later hb15
  have hG15 := hG14.later hb15
  have hC15 := hC14.later hb15
  have hm15 := hm14.later hb15
  have he15 := he14.later hb15
  have hB15 := below_step hB14 hb15
  clear hal hH14 hG14 hC14 hm14 he14 hB14 hb15
  go_wp2_with (go_at_call 9; fail)
  refine (plays_any hb s _ S1 w hV1 lo1.out _ hB15 hH15).mono ?_
  rintro e w16 ⟨rfl, hH16, hg16⟩
  have hG16 := hG15.kept hH15 ne1.out.symm hg16
  have hC16 := hC15.kept hH15 ne2.out.symm hg16
  have hA16 := hA15.kept l1'.out hH15 hg16
  have hm16 := hm15.keptH hH15 hg16
  have he16 := he15.kept hH15 hg16
  have hB16 := grown_below hB15 hg16 lo1.out
  have hal := all_at hc t.1 t.2 _ rfl _ hC16
  clear hH15 hG15 hC15 hA15 hm15 he15 hB15 hg16
  go_wp2_with (go_at_call 16; fail)
  refine hal.mono ?_
  rintro e w17 ⟨g17, o17, c17, rfl, -, hA17, hb17⟩
  have hsa := same_lists _ _ _ _ t.1 l33c.out _ (hA16.later hb17) hA17
  go_wp2_with (go_at_call 19; fail)
  refine hsa.mono ?_
  rintro e w18 ⟨rfl, hb18⟩
  have hen := ents_map mb Lp Lp.length rfl hLl.out.1 _ ((hm16.later hb17).later hb18)
  clear hal
  go_wp2_with (go_at_call 10; fail)
  refine hen.mono ?_
  rintro e w19 ⟨a19, c19, rfl, he19, hb19⟩
  have hse := same_ents _ _ Lp hLl.out.2 _ he19 (((he16.later hb17).later hb18).later hb19)
  go_wp2_with (go_at_call 15; fail)
  refine hse.mono ?_
  rintro e w20 ⟨rfl, hb20⟩
  have hm20 := (((hm16.later hb17).later hb18).later hb19).later hb20
  have hH20 := (((hH16.later hb17).later hb18).later hb19).later hb20
  have hG20 := (((hG16.later hb17).later hb18).later hb19).later hb20
  have hB20 := below_step (below_step (below_step (below_step hB16 hb17) hb18) hb19) hb20
  obtain ⟨tr, hMt, -⟩ := hm20
  have hpt := mput_any mb 1 (by decide) (2, 5) tr _ hMt
  rw [show (((1 : Nat)) : Int) = 1 from rfl] at hpt
  clear hsa hen hse he19 hA16 hA17 hm16 he16 hH16 hG16 hC16 hB16 hb17 hb18 hb19 hb20
  go_wp2_with (go_at_call 22; fail)
  refine hpt.mono ?_
  rintro e w21 ⟨mb21, t21, rfl, -, -, hb21⟩
  have hH21 := hH20.later hb21
  have hG21 := hG20.later hb21
  have hB21 := below_step hB20 hb21
  clear hpt hMt hH20 hG20 hB20 hb21
  go_wp2_with (go_at_call 9; fail)
  refine (plays_any gb s _ S1 w hV1 lo2.out _ hB21 hG21).mono ?_
  rintro e w22 ⟨rfl, hG22, hg22⟩
  have hH22 := hH21.kept hG21 ne1.out hg22
  have hB22 := grown_below hB21 hg22 lo2.out
  obtain ⟨f, hf⟩ : ∃ f, f = S1.foldl hstep s := ⟨_, rfl⟩
  rw [← hf] at hG22 hH22
  have l33f : Hid (f.1.length ≤ 33) := hG22.2.1
  have hal := all_at gb f.1 f.2 _ rfl _ hG22
  clear hf hH21 hG21 hB21 hg22 hV1
  go_wp2_with (go_at_call 16; fail)
  refine hal.mono ?_
  rintro e w23 ⟨g23, o23, c23, rfl, -, hA23, hb23⟩
  have hal2 := all_at hb f.1 f.2 _ rfl _ (hH22.later hb23)
  clear hal
  go_wp2_with (go_at_call 16; fail)
  refine hal2.mono ?_
  rintro e w24 ⟨g24, o24, c24, rfl, -, hA24, hb24⟩
  have hsa := same_lists _ _ _ _ f.1 l33f.out _ (hA23.later hb24) hA24
  clear hal2
  go_wp2_with (go_at_call 19; fail)
  refine hsa.mono ?_
  rintro e w25 ⟨rfl, hb25⟩
  have hma := hmany w25
  go_wp2_with (go_at_call 23; fail)
  refine hma.mono ?_
  rintro e w26 ⟨rfl, hb26⟩
  clear hsa hma
  go_wp2
  go_ret
  exact ⟨rfl, below_step (below_step (below_step (below_step hB22 hb23) hb24) hb25) hb26⟩

end Go.Proofs.Ytilpommjeifdfaa

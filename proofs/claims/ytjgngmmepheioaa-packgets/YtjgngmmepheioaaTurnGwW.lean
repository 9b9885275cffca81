import Derived.Test.YtjgngmmepheioaaJoin54
namespace Go.Proofs.Ytjgngmmepheioaa.G
open Go.RowKit

theorem both_ans (l : List UInt8) : ∃ (pk : Pk) (ft er : Int), SzP pk ∧ (∀ a cap W, InB W a cap l → Calls Try.prog 4 #[.slice a l.length cap] W (AnsP pk ft er W)) ∧ ∀ a cap W, InB W a cap l → Calls Try.prog 6 #[.slice a l.length cap] W (AnsP pk ft er W) :=
  ⟨(ansG l).1, (ansG l).2.1, (ansG l).2.2, ans_sz l, fun a cap W h => (rget_any a cap l W h).mono (fun _ _ hG => getP_ansP hG), fun a cap W h => (get_any a cap l W h).mono (fun _ _ hG => getP_ansP hG)⟩
theorem room_nils : ∀ j, j < 21 → (#[.slice none 0 0, .slice none 0 0, .slice none 0 0, .slice none 0 0, .slice none 0 0, .slice none 0 0, .slice none 0 0, .slice none 0 0, .slice none 0 0, .slice none 0 0, .slice none 0 0, .slice none 0 0, .slice none 0 0, .slice none 0 0, .slice none 0 0, .slice none 0 0, .slice none 0 0, .slice none 0 0, .slice none 0 0, .slice none 0 0, .slice none 0 0] : Array Value)[j]? = some (.slice none 0 0) := fun j hj => by
  rcases (by omega : j = 0 ∨ j = 1 ∨ j = 2 ∨ j = 3 ∨ j = 4 ∨ j = 5 ∨ j = 6 ∨ j = 7 ∨ j = 8 ∨ j = 9 ∨ j = 10 ∨ j = 11 ∨ j = 12 ∨ j = 13 ∨ j = 14 ∨ j = 15 ∨ j = 16 ∨ j = 17 ∨ j = 18 ∨ j = 19 ∨ j = 20) with rfl | rfl | rfl | rfl | rfl | rfl | rfl | rfl | rfl | rfl | rfl | rfl | rfl | rfl | rfl | rfl | rfl | rfl | rfl | rfl | rfl <;> rfl
theorem byte_xor (x : UInt8) : bits .xor .u8 (x.toNat : Int) 1 = ((x ^^^ 1).toNat : Int) := by
  have h := u8_xor_nat x.toNat 1 x.toNat_lt (by decide)
  exact h.trans (by rw [UInt8.toNat_xor]; rfl)

/-- One byte is turned. -/
theorem turn_facts {W0 : World} {R g g2 cap2 capN n wb pb : Nat} {w : World} {l : List UInt8} {vs us : List Value} (hL : LG W0 R g g2 cap2 capN n w l) (h0 : n ≠ 0) (hV : PV W0 w wb vs) (hU : PV W0 w pb us) : ∃ (j : Nat) (x0 y : Int) (m : List UInt8), (n : Int).tdiv 2 = (j : Int) ∧ wrap64 (j : Int) = (j : Int) ∧ (j : Int) < (n : Int) ∧ (0 : Int) ≤ (j : Int) ∧ w.cell? ⟨g, j, none⟩ = some (.int .u8 x0) ∧ w.frozen? ⟨g, j, none⟩ = false ∧ bits .xor .u8 x0 1 = y ∧ LG W0 R g g2 cap2 capN n (w.setCell ⟨g, j, none⟩ (.int .u8 y)) m ∧ PV W0 (w.setCell ⟨g, j, none⟩ (.int .u8 y)) wb vs ∧ PV W0 (w.setCell ⟨g, j, none⟩ (.int .u8 y)) pb us := by
  have hlen := hL.len
  have hn := hL.hn
  have hi : n / 2 < l.length := by omega
  have hne : ∀ {b : Nat} {xs : List Value}, PV W0 w b xs → g ≠ b := fun {b xs} h e => by
    obtain ⟨s, hs⟩ := h.zero
    obtain ⟨z, hz0⟩ := hL.zero
    rw [e, hs] at hz0
    cases hz0
  refine ⟨n / 2, (l[n / 2].toNat : Int), ((l[n / 2] ^^^ 1).toNat : Int), l.set (n / 2) (l[n / 2] ^^^ 1), ?_, ?_, by omega, by omega, hL.hl _ hi, hL.fz _, byte_xor _, hL.set _ (by omega) _, hV.setO (hne hV), hU.setO (hne hU)⟩
  · rw [Int.tdiv_eq_ediv_of_nonneg (by omega)]
    omega
  · unfold wrap64; omega

set_option maxRecDepth 8000 in
set_option maxHeartbeats 8000000 in
theorem gets_walk (a : Option Addr) (cap : Nat) (l : List UInt8) (W : World) (h : InB W a cap l) : Calls Try.prog 3 #[.slice a l.length cap] W fun e W' => e = .returned (.bool true) ∧ Below W.heap.size W W' := by
  obtain ⟨Q, hQ⟩ : ∃ Q : Ending → World → Prop, Q = fun e W' => e = .returned (.bool true) ∧ Below W.heap.size W W' := ⟨_, rfl⟩
  have hfin : Hid (∀ w, Below W.heap.size W w → Q (.returned (.bool true)) w) := ⟨fun w hw => by rw [hQ]; exact ⟨rfl, hw⟩⟩
  rw [← hQ]
  clear hQ
  by_cases hbig : 262144 < l.length
  · have hb2 : (262144 : Int) < (l.length : Int) := by omega
    have hf := hfin.out _ (Below.refl _ _)
    go_enter Try.func3, Try.ntmps3
    go_wp2
    exact hf
  have hb2 : ¬ (262144 : Int) < (l.length : Int) := by omega
  obtain ⟨pk, ft, er, hz, hr, hp⟩ := both_ans l
  have hr0 := hr a cap W h
  clear hr
  go_enter Try.func3, Try.ntmps3
  go_wp2_with (go_at_call 4; fail)
  refine hr0.mono ?_
  clear hr0
  rintro e w1 ⟨a3, a4, a5, a6, a7, ac3, ac4, ac5, ac6, ac7, rfl, hB1, hE1⟩
  obtain ⟨X1, hX1⟩ : ∃ X, w1.alloc (.cells #[.string ⟨pk.name.toArray⟩, .int .i64 pk.year, .slice a3 pk.opts.length ac3, .slice a4 pk.tabs.length ac4, .slice a5 pk.grps.length ac5, .slice a6 pk.lns.length ac6, .slice a7 pk.cks.length ac7] 29) = X := ⟨_, rfl⟩
  have hV1 : PV W X1 w1.heap.size [.string ⟨pk.name.toArray⟩, .int .i64 pk.year, .slice a3 pk.opts.length ac3, .slice a4 pk.tabs.length ac4, .slice a5 pk.grps.length ac5, .slice a6 pk.lns.length ac6, .slice a7 pk.cks.length ac7] := by
    rw [← hX1]
    exact PV.new W w1 hB1.size _ _ _
  have hs1 : X1.heap.size = w1.heap.size + 1 := by rw [← hX1]; simp
  have hBX1 : Below w1.heap.size w1 X1 := by rw [← hX1]; exact (Below.refl _ _).alloc (Nat.le_refl _) _
  obtain ⟨X2, hX2⟩ : ∃ X, X1.alloc (.cells #[.slice none 0 0, .slice none 0 0, .slice none 0 0, .slice none 0 0, .slice none 0 0, .slice none 0 0, .slice none 0 0, .slice none 0 0, .slice none 0 0, .slice none 0 0, .slice none 0 0, .slice none 0 0, .slice none 0 0, .slice none 0 0, .slice none 0 0, .slice none 0 0, .slice none 0 0, .slice none 0 0, .slice none 0 0, .slice none 0 0, .slice none 0 0] 55) = X := ⟨_, rfl⟩
  have hBX2 : Below X1.heap.size X1 X2 := by rw [← hX2]; exact (Below.refl _ _).alloc (Nat.le_refl _) _
  have hbR : Bx X2 X1.heap.size (#[.slice none 0 0, .slice none 0 0, .slice none 0 0, .slice none 0 0, .slice none 0 0, .slice none 0 0, .slice none 0 0, .slice none 0 0, .slice none 0 0, .slice none 0 0, .slice none 0 0, .slice none 0 0, .slice none 0 0, .slice none 0 0, .slice none 0 0, .slice none 0 0, .slice none 0 0, .slice none 0 0, .slice none 0 0, .slice none 0 0, .slice none 0 0] : Array Value).toList := by
    rw [← hX2]
    exact bx_new X1 _ _
  have hB2 : Below W.heap.size W X2 := Below.tr (Below.tr hB1 hBX1 hB1.size) hBX2 (Nat.le_trans hB1.size hBX1.size)
  have hI2 : InB X2 a cap l := h.bel (n := W.heap.size) hB2 (Nat.le_refl _)
  have hby := bytes_lg W X1.heap.size a cap l X2 hB2 hI2 (by omega) (Nat.le_trans hB1.size hBX1.size) (fun k hk => (hbR.2.1 k (by simpa using hk)).trans (by rw [Array.getElem?_toList]; exact room_nils k hk)) (hbR.2.2 0)
  replace hs1 := Hid.mk hs1
  clear hbR
  go_wp2_with (go_at_call 5; fail)
  refine hby.mono ?_
  clear hby
  rintro e w3 ⟨g, g2, cap2, capN, rfl, hL3, hk3, hs3⟩
  have hlt1 : w1.heap.size < X2.heap.size := Nat.lt_of_lt_of_le (by have := hs1.out; omega) hBX2.size
  have hV2 := hV1.later hBX2
  have hV3 : PV W w3 w1.heap.size [.string ⟨pk.name.toArray⟩, .int .i64 pk.year, .slice a3 pk.opts.length ac3, .slice a4 pk.tabs.length ac4, .slice a5 pk.grps.length ac5, .slice a6 pk.lns.length ac6, .slice a7 pk.cks.length ac7] := ⟨hV2.ge, ⟨Nat.lt_of_lt_of_le hV2.bx.1 hs3, fun j hj => (World.cell?_of_block (hk3 w1.heap.size hlt1 (by have := hs1.out; omega))).trans (hV2.bx.2.1 j hj), fun j => (World.frozen?_of_block (hk3 w1.heap.size hlt1 (by have := hs1.out; omega))).trans (hV2.bx.2.2 j)⟩, hV2.st⟩
  have hE3 : PkE w3 AnyB pk [.string ⟨pk.name.toArray⟩, .int .i64 pk.year, .slice a3 pk.opts.length ac3, .slice a4 pk.tabs.length ac4, .slice a5 pk.grps.length ac5, .slice a6 pk.lns.length ac6, .slice a7 pk.cks.length ac7] := pke_fr (pke_mo hE1 (fun _ _ _ => trivial)) (Nat.le_trans (Nat.le_trans hBX1.size hBX2.size) hs3) (fun b _ hb => (hk3 b (by have := hs1.out; have := hBX2.size; omega) (by have := hs1.out; omega)).trans ((hBX2.block b (by have := hs1.out; omega)).trans (hBX1.block b hb)))
  have hp3 := hp _ _ w3 hL3.inB
  obtain ⟨wb, hwb⟩ : ∃ b, b = w1.heap.size := ⟨_, rfl⟩
  obtain ⟨R, hR⟩ : ∃ b, b = X1.heap.size := ⟨_, rfl⟩
  rw [← hwb] at hV3
  rw [← hR] at hL3
  rw [← hwb, ← hR]
  have h3 := h.bel (n := W.heap.size) hL3.bel (Nat.le_refl _)
  clear hp hX1 hX2 hs1 hs3 hlt1 hV2 hV1 hk3 hE1 hBX1 hBX2 hB2 hI2 hwb hR hB1 h
  go_wp2_with (go_at_call 6; fail)
  refine hp3.mono ?_
  clear hp3
  rintro e w4 ⟨b3, b4, b5, b6, b7, bc3, bc4, bc5, bc6, bc7, rfl, hB4, hE4⟩
  have hV4 := hV3.later hB4
  have hL4 := hL3.later hB4
  have h4 := h3.bel hB4 (Nat.le_refl _)
  have hE34 := pke_bel hE3 hB4 (Nat.le_refl _)
  clear hV3 hL3 h3 hE3 hB4
  obtain ⟨X4, hX4⟩ : ∃ X, w4.alloc (.cells #[.string ⟨pk.name.toArray⟩, .int .i64 pk.year, .slice b3 pk.opts.length bc3, .slice b4 pk.tabs.length bc4, .slice b5 pk.grps.length bc5, .slice b6 pk.lns.length bc6, .slice b7 pk.cks.length bc7] 29) = X := ⟨_, rfl⟩
  have hBX4 : Below w4.heap.size w4 X4 := by rw [← hX4]; exact (Below.refl _ _).alloc (Nat.le_refl _) _
  have hU5 : PV W X4 w4.heap.size [.string ⟨pk.name.toArray⟩, .int .i64 pk.year, .slice b3 pk.opts.length bc3, .slice b4 pk.tabs.length bc4, .slice b5 pk.grps.length bc5, .slice b6 pk.lns.length bc6, .slice b7 pk.cks.length bc7] := by
    rw [← hX4]
    exact PV.new W w4 hL4.bel.size _ _ _
  have hne : wb ≠ w4.heap.size := fun e => by have := hV4.lt; omega
  have hV5 := hV4.later hBX4
  have hL5 := hL4.later hBX4
  have h5 := h4.bel hBX4 (Nat.le_refl _)
  have hE5 := pke_bel hE34 hBX4 (Nat.le_refl _)
  have hF5 := pke_bel (pke_mo (S' := AnyB) hE4 (fun _ _ _ => trivial)) hBX4 (Nat.le_refl _)
  clear hV4 hL4 h4 hE34 hE4 hBX4
  have hsp := same_self pk hz b3 b4 b5 b6 b7 a3 a4 a5 a6 a7 bc3 bc4 bc5 bc6 bc7 ac3 ac4 ac5 ac6 ac7 X4 hF5 hE5
  have hnum := Go.Proofs.Ytjgngmmepheioaa.num_any er X4
  have q0 : X4.cell? ⟨wb, 0, none⟩ = some (.string ⟨pk.name.toArray⟩) := hV5.bx.2.1 0 (show 0 < 7 by decide)
  have q1 : X4.cell? ⟨wb, 1, none⟩ = some (.int .i64 pk.year) := hV5.bx.2.1 1 (show 1 < 7 by decide)
  have q2 : X4.cell? ⟨wb, 2, none⟩ = some (.slice a3 pk.opts.length ac3) := hV5.bx.2.1 2 (show 2 < 7 by decide)
  have q3 : X4.cell? ⟨wb, 3, none⟩ = some (.slice a4 pk.tabs.length ac4) := hV5.bx.2.1 3 (show 3 < 7 by decide)
  have q4 : X4.cell? ⟨wb, 4, none⟩ = some (.slice a5 pk.grps.length ac5) := hV5.bx.2.1 4 (show 4 < 7 by decide)
  have q5 : X4.cell? ⟨wb, 5, none⟩ = some (.slice a6 pk.lns.length ac6) := hV5.bx.2.1 5 (show 5 < 7 by decide)
  have q6 : X4.cell? ⟨wb, 6, none⟩ = some (.slice a7 pk.cks.length ac7) := hV5.bx.2.1 6 (show 6 < 7 by decide)
  have r0 : X4.cell? ⟨w4.heap.size, 0, none⟩ = some (.string ⟨pk.name.toArray⟩) := hU5.bx.2.1 0 (show 0 < 7 by decide)
  have r1 : X4.cell? ⟨w4.heap.size, 1, none⟩ = some (.int .i64 pk.year) := hU5.bx.2.1 1 (show 1 < 7 by decide)
  have r2 : X4.cell? ⟨w4.heap.size, 2, none⟩ = some (.slice b3 pk.opts.length bc3) := hU5.bx.2.1 2 (show 2 < 7 by decide)
  have r3 : X4.cell? ⟨w4.heap.size, 3, none⟩ = some (.slice b4 pk.tabs.length bc4) := hU5.bx.2.1 3 (show 3 < 7 by decide)
  have r4 : X4.cell? ⟨w4.heap.size, 4, none⟩ = some (.slice b5 pk.grps.length bc5) := hU5.bx.2.1 4 (show 4 < 7 by decide)
  have r5 : X4.cell? ⟨w4.heap.size, 5, none⟩ = some (.slice b6 pk.lns.length bc6) := hU5.bx.2.1 5 (show 5 < 7 by decide)
  have r6 : X4.cell? ⟨w4.heap.size, 6, none⟩ = some (.slice b7 pk.cks.length bc7) := hU5.bx.2.1 6 (show 6 < 7 by decide)
  have hneH := Hid.mk hne
  clear hne
  go_wp2_with (first | (go_at_call 7; refine hnum.mono ?_; clear hnum; rintro e w6 ⟨rfl, rfl⟩) | (go_at_call 8; fail))
  refine hsp.mono ?_
  clear hsp
  rintro e w7 ⟨rfl, hB7⟩
  obtain ⟨pb, hpb⟩ : ∃ b, b = w4.heap.size := ⟨_, rfl⟩
  rw [← hpb] at hU5 hneH ⊢
  clear hX4 hpb q0 r0 q1 r1 q2 r2 q3 r3 q4 r4 q5 r5 q6 r6 hE5 hF5
  have hL7 := hL5.later hB7
  have hV7 := hV5.later hB7
  have hU7 := hU5.later hB7
  have h7 := h5.bel hB7 (Nat.le_refl _)
  clear hL5 hV5 hU5 h5 hB7
  have hsame := same_any (some ⟨g, 0, none⟩) a (l.length + 600) cap l l w7 hL7.inB h7
  rw [show (l == l) = true from beq_self_eq_true l] at hsame
  have hho := hL7.hold
  clear h7
  go_wp2_with (first | (go_at_call 9; refine hsame.mono ?_; clear hsame; rintro e w6 ⟨rfl, rfl⟩) | (go_at_call 10; fail))
  refine hho.mono ?_
  clear hho
  rintro e w8 ⟨rfl, hB8⟩
  have hL8 := hL7.later hB8
  have hV8 := hV7.later hB8
  have hU8 := hU7.later hB8
  clear hL7 hV7 hU7 hB8
  by_cases h0 : l.length = 0
  · have hf := hfin.out _ hL8.bel
    have h00 : ((l.length : Int) == 0) = true := by rw [h0]; rfl
    clear hL8 hV8 hU8
    go_wp2
    exact hf
  have h00 : ((l.length : Int) == 0) = false := beq_eq_false_iff_ne.2 (by omega)
  obtain ⟨n, hn⟩ : ∃ n, n = l.length := ⟨_, rfl⟩
  rw [← hn] at hL8 h00 h0 hb2 hbig ⊢
  have hnH := Hid.mk hn
  clear hn
  go_wp2
  go_loopw [4, 5, 9, 10, 11] (fun _ _ _ _ kv wr => ∃ (k : Nat) (l2 : List UInt8) (pv vs us : List Value), k ≤ 2 ∧ kv = .int .i64 (k : Int) ∧ LG W R g g2 cap2 capN n wr l2 ∧ PV W wr wb vs ∧ PV W wr pb us ∧ vs.length = 7 ∧ us.length = 7) (fun _ _ _ _ kv _ => 2 - (intOf kv).toNat)
  case atStart => exact ⟨0, l, [], _, _, by omega, rfl, hL8, hV8, hU8, rfl, rfl⟩
  case round =>
    clear hL8 hV8 hU8
    obtain ⟨k, l2, -, vs, us, hk, rfl, hL, hV, hU, hvl, hul⟩ := hrel
    by_cases hk2 : k < 2
    rotate_left
    · have hk3 : ¬ (k : Int) < 2 := by omega
      have hho := hL.hold
      clear hV hU hvl hul
      go_wp2_with (go_at_call 10; fail)
      refine hho.mono ?_
      clear hho
      rintro e w9 ⟨rfl, hB9⟩
      have hf := hfin.out _ (Below.tr hL.bel hB9 hL.bel.size)
      clear hL hB9
      go_wp2
      exact hf
    · have hk3 : (k : Int) < 2 := by omega
      obtain ⟨j, x0, y, m, hq, hw1, hjn, hj0, hc, hfz, hxr, hS, hVS, hUS⟩ := turn_facts hL (by omega) hV hU
      clear hL hV hU
      go_upto_region 15 with fail
      obtain ⟨Y, hY⟩ : ∃ Y, wr.setCell ⟨g, j, none⟩ (.int .u8 y) = Y := ⟨_, rfl⟩
      rw [hY] at hS hVS hUS ⊢
      clear hY hc hfz hxr hq hw1 hjn hj0
      have hml := hS.len
      have hmn := hS.hn
      have hr2 : (Y.alloc (.cells #[] 5)).ownsRow Y.heap.size 5 1 (.slice (some ⟨Y.heap.size, 0, none⟩) 0 0) 0 [] := World.ownsRow_made (base := Y.heap.size) (e := 5) (size := 1) Y #[] 0 (Nat.le_refl _) (by unfold maxLen; omega) rfl
      have hb2 := (Below.refl Y.heap.size Y).alloc (Nat.le_refl _) (.cells #[] 5)
      have hIY := (hS.later hb2).inB
      obtain ⟨pk2, ft2, er2, hz2, hr, hp⟩ := both_ans m
      replace hml := Hid.mk hml
      replace hmn := Hid.mk hmn
      go_wp2_with (first | (at_builtin; refine wpList_copyI _ rfl _ _ rfl Y.heap.size (by simp) _ rfl hr2 (some ⟨g, 0, none⟩) (n + 600) m (by show _ = Value.slice _ m.length _; rw [hml.out]; rfl) hIY (by rw [hml.out]; exact hmn.out) ?_; intro a2 c2 w2 hI2 hb3) | (go_at_call 4; fail))
      refine (hr _ _ w2 hI2).mono ?_
      clear hr hI2
      rintro e w4 ⟨d3, d4, d5, d6, d7, dc3, dc4, dc5, dc6, dc7, rfl, hB4, hE4⟩
      have hYw2 : Below Y.heap.size Y w2 := hb2.trans hb3
      have hYw : Below Y.heap.size Y w4 := Below.tr hYw2 hB4 hYw2.size
      have hL4 := hS.later hYw
      have hV4 := hVS.later hYw
      have hU4 := hUS.later hYw
      have hwl : wb < w2.heap.size := Nat.lt_of_lt_of_le hVS.lt hYw2.size
      have hpl : pb < w2.heap.size := Nat.lt_of_lt_of_le hUS.lt hYw2.size
      obtain ⟨o0, o1, o2, o3, o4, o5, o6, V1, V2, V3, V4, V5, V6, V7, p0, f0, x0, p1, f1, x1, p2, f2, x2, p3, f3, x3, p4, f4, x4, p5, f5, x5, p6, f6, x6, hL5, hV5, hU5, hs5, hP5⟩ := put7 hL4 hV4 hvl hU4 hneH.out ⟨pk2.name.toArray⟩ (.int .i64 pk2.year) (.slice d3 pk2.opts.length dc3) (.slice d4 pk2.tabs.length dc4) (.slice d5 pk2.grps.length dc5) (.slice d6 pk2.lns.length dc6) (.slice d7 pk2.cks.length dc7)
      have hE5 := hP5 _ _ _ hwl hE4
      have hpV := hp _ _ V7 hL5.inB
      rw [hml.out] at hpV
      have hsV : w2.heap.size ≤ V7.heap.size := by rw [hs5]; exact hB4.size
      replace hwl := Hid.mk hwl
      replace hpl := Hid.mk hpl
      replace hP5 := Hid.mk hP5
      replace hs5 := Hid.mk hs5
      replace hsV := Hid.mk hsV
      replace hul := Hid.mk hul
      clear hp hS hVS hUS hYw hYw2 hL4 hV4 hU4 hB4 hb2 hb3 hr2 hIY hE4 hvl
      go_wp2_with (go_at_call 6; fail)
      clear p0 f0 x0 p1 f1 x1 p2 f2 x2 p3 f3 x3 p4 f4 x4 p5 f5 x5 p6 f6 x6
      refine hpV.mono ?_
      clear hpV
      rintro e w6 ⟨b3, b4, b5, b6, b7, bc3, bc4, bc5, bc6, bc7, rfl, hB6, hF6⟩
      have hL6 := hL5.later hB6
      have hV6 := hV5.later hB6
      have hU6 := hU5.later hB6
      have hE6 : PkE w6 (fun x => w2.heap.size ≤ x) pk2 [.string ⟨pk2.name.toArray⟩, .int .i64 pk2.year, .slice d3 pk2.opts.length dc3, .slice d4 pk2.tabs.length dc4, .slice d5 pk2.grps.length dc5, .slice d6 pk2.lns.length dc6, .slice d7 pk2.cks.length dc7] := pke_fr hE5 hB6.size (fun b _ hlt => hB6.block b hlt)
      have hF6 := pke_mo (S' := fun x => w2.heap.size ≤ x) hF6 (fun b _ hb => Nat.le_trans hsV.out hb)
      obtain ⟨o0, o1, o2, o3, o4, o5, o6, U1, U2, U3, U4, U5, U6, U7, p0, f0, x0, p1, f1, x1, p2, f2, x2, p3, f3, x3, p4, f4, x4, p5, f5, x5, p6, f6, x6, hL7, hU7, hV7, hs7, hP7⟩ := put7 hL6 hU6 hul.out hV6 (fun e => hneH.out e.symm) ⟨pk2.name.toArray⟩ (.int .i64 pk2.year) (.slice b3 pk2.opts.length bc3) (.slice b4 pk2.tabs.length bc4) (.slice b5 pk2.grps.length bc5) (.slice b6 pk2.lns.length bc6) (.slice b7 pk2.cks.length bc7)
      have hE7 := pke_mo (S' := AnyB) (hP7 _ _ _ hpl.out hE6) (fun _ _ _ => trivial)
      have hF7 := pke_mo (S' := AnyB) (hP7 _ _ _ hpl.out hF6) (fun _ _ _ => trivial)
      have hsp := same_self pk2 hz2 b3 b4 b5 b6 b7 d3 d4 d5 d6 d7 bc3 bc4 bc5 bc6 bc7 dc3 dc4 dc5 dc6 dc7 U7 hF7 hE7
      have hnum := Go.Proofs.Ytjgngmmepheioaa.num_any er2 U7
      have q0 : U7.cell? ⟨wb, 0, none⟩ = some (.string ⟨pk2.name.toArray⟩) := hV7.bx.2.1 0 (show 0 < 7 by decide)
      have q1 : U7.cell? ⟨wb, 1, none⟩ = some (.int .i64 pk2.year) := hV7.bx.2.1 1 (show 1 < 7 by decide)
      have q2 : U7.cell? ⟨wb, 2, none⟩ = some (.slice d3 pk2.opts.length dc3) := hV7.bx.2.1 2 (show 2 < 7 by decide)
      have q3 : U7.cell? ⟨wb, 3, none⟩ = some (.slice d4 pk2.tabs.length dc4) := hV7.bx.2.1 3 (show 3 < 7 by decide)
      have q4 : U7.cell? ⟨wb, 4, none⟩ = some (.slice d5 pk2.grps.length dc5) := hV7.bx.2.1 4 (show 4 < 7 by decide)
      have q5 : U7.cell? ⟨wb, 5, none⟩ = some (.slice d6 pk2.lns.length dc6) := hV7.bx.2.1 5 (show 5 < 7 by decide)
      have q6 : U7.cell? ⟨wb, 6, none⟩ = some (.slice d7 pk2.cks.length dc7) := hV7.bx.2.1 6 (show 6 < 7 by decide)
      have r0 : U7.cell? ⟨pb, 0, none⟩ = some (.string ⟨pk2.name.toArray⟩) := hU7.bx.2.1 0 (show 0 < 7 by decide)
      have r1 : U7.cell? ⟨pb, 1, none⟩ = some (.int .i64 pk2.year) := hU7.bx.2.1 1 (show 1 < 7 by decide)
      have r2 : U7.cell? ⟨pb, 2, none⟩ = some (.slice b3 pk2.opts.length bc3) := hU7.bx.2.1 2 (show 2 < 7 by decide)
      have r3 : U7.cell? ⟨pb, 3, none⟩ = some (.slice b4 pk2.tabs.length bc4) := hU7.bx.2.1 3 (show 3 < 7 by decide)
      have r4 : U7.cell? ⟨pb, 4, none⟩ = some (.slice b5 pk2.grps.length bc5) := hU7.bx.2.1 4 (show 4 < 7 by decide)
      have r5 : U7.cell? ⟨pb, 5, none⟩ = some (.slice b6 pk2.lns.length bc6) := hU7.bx.2.1 5 (show 5 < 7 by decide)
      have r6 : U7.cell? ⟨pb, 6, none⟩ = some (.slice b7 pk2.cks.length bc7) := hU7.bx.2.1 6 (show 6 < 7 by decide)
      clear hL5 hV5 hU5 hE5 hs5 hP5 hB6 hL6 hV6 hU6 hE6 hF6 hs7 hP7 hE7 hF7 hz2 hsV hwl hpl hul hml hmn
      go_wp2_with (first | (go_at_call 7; refine hnum.mono ?_; clear hnum; rintro e w9 ⟨rfl, rfl⟩) | (go_at_call 8; fail))
      clear p0 f0 x0 q0 r0 p1 f1 x1 q1 r1 p2 f2 x2 q2 r2 p3 f3 x3 q3 r3 p4 f4 x4 q4 r4 p5 f5 x5 q5 r5 p6 f6 x6 q6 r6
      refine hsp.mono ?_
      clear hsp
      rintro e w8 ⟨rfl, hB8⟩
      have hLn := hL7.later hB8
      have hVn := hV7.later hB8
      have hUn := hU7.later hB8
      clear hL7 hV7 hU7 hB8
      replace hLn := Hid.mk hLn
      go_wp2
      go_roundw
      case rel => exact ⟨k + 1, m, [], _, _, by omega, by go_num, hLn.out, hVn, hUn, rfl, rfl⟩
      case measure => simp [intOf]; omega

end Go.Proofs.Ytjgngmmepheioaa.G

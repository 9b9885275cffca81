import Derived.Test.YtnjnejlldklldaaDoorTDifM2
import Derived.Test.YtnjnejlldklldaaDoorTSameE
import Derived.Test.YtnjnejlldklldaaDoorTMade
import Derived.Deep.DeepCutAuto
import Derived.Deep.CutBlock
import Derived.Deep.RegionHeld3
namespace Go.Proofs.YtnjnejlldklldaaDoor
open Go.RowKit

theorem puts_later {W W' : World} {v : Value} {L : List (Nat × (Int × (Int × Bool)))} (h : PutsAt W v L) (hb : Below W.heap.size W W') : PutsAt W' v L := by
  obtain ⟨a, cap, rfl, h | ⟨g, off, rfl, hg, hc⟩⟩ := h
  · exact ⟨a, cap, rfl, .inl h⟩
  · have e : ∀ j, W'.cell? ⟨g, j, none⟩ = W.cell? ⟨g, j, none⟩ := fun j => hb.cell (p := ⟨g, j, none⟩) hg
    exact ⟨_, cap, rfl, .inr ⟨g, off, rfl, Nat.lt_of_lt_of_le hg hb.size, fun i hi => ⟨(hc i hi).1, (e _).trans (hc i hi).2.1, (e _).trans (hc i hi).2.2.1, (e _).trans (hc i hi).2.2.2.1, (e _).trans (hc i hi).2.2.2.2⟩⟩⟩
theorem same_entriesO (va vb : Value) (A B : List (Nat × (Int × Int))) (hl : A.length ≤ 1000000000) (o : Bool) (ho : o = true ↔ A = B) (w : World) (ha : EntsAt w va A) (hb : EntsAt w vb B) : Calls Tryd.prog 20 #[va, vb] w fun e w' => e = .returned (.bool o) ∧ Below w.heap.size w w' := by
  refine (same_entriesG va vb A B hl w ha hb).mono ?_
  rintro e w' ⟨o', rfl, ho', hb'⟩
  obtain rfl : o' = o := by
    cases o <;> cases o' <;> simp_all
  exact ⟨rfl, hb'⟩
theorem list_ents (mb : Nat) (t : Tr) (hl : (t.ents 7 0).length ≤ 5000) (w : World) (h : MapT w mb t) : Calls Tryd.prog 13 #[.pointer (some ⟨mb, 0, none⟩), .int .i64 (-1)] w fun e w' => ∃ a c, e = .returned (.slice a (t.ents 7 0).length c) ∧ EntsAt w' (.slice a (t.ents 7 0).length c) (t.ents 7 0) ∧ Below w.heap.size w w' := by
  refine (list_all mb t hl w h).mono ?_
  rintro e w' ⟨ev, rfl, hown, hb⟩
  obtain ⟨a, c, rfl, hd⟩ := ents_of_own hown
  exact ⟨a, c, rfl, ⟨a, c, rfl, hd⟩, hb⟩
theorem made_len (L : List (Nat × (Int × (Int × Bool)))) (k : Nat) (hk : k ≤ 200) : (scr [] (L.take k)).length ≤ 200 := by
  have h1 := scr_len [] (L.take k)
  have h2 := List.length_take_le k L
  simp at h1
  omega
theorem atN_le (n : Int) (k : Nat) (hk : k ≤ 200) : atN n k ≤ 200 := by
  unfold atN
  split <;> omega

theorem get_is (mb id : Nat) (t : Tr) (x y : Int) (o : Bool) (hg1 : (t.get 7 id).getD (0, 0) = (x, y)) (hg2 : (t.get 7 id).isSome = o) (w : World) (h : MapT w mb t) : Calls Tryd.prog 9 #[.pointer (some ⟨mb, 0, none⟩), .int .u32 (id : Int)] w fun e w' => e = .returned (.tuple #[.agg #[.int .i64 x, .int .i64 y], .bool o]) ∧ Below w.heap.size w w' := by
  refine (mget_any mb id t w h).mono ?_
  rintro e w' ⟨rfl, hb⟩
  rw [hg1, hg2]
  exact ⟨rfl, hb⟩
theorem opt_ne {ox oy : Option (Int × Int)} {x1 x2 y1 y2 : Int} {p q : Bool} (hx : ox.getD (0, 0) = (x1, x2)) (hy : oy.getD (0, 0) = (y1, y2)) (hp : ox.isSome = p) (hq : oy.isSome = q) (hne : ox ≠ oy) : p = q → ¬ (x1 = y1 ∧ x2 = y2) := by
  rintro rfl ⟨rfl, rfl⟩
  apply hne
  cases ox with
  | none =>
    cases oy with
    | none => rfl
    | some v => rw [← hp] at hq; cases hq
  | some u =>
    cases oy with
    | none => rw [← hp] at hq; cases hq
    | some v =>
      simp only [Option.getD_some] at hx hy
      rw [hx, hy]
theorem chs_at {W : World} {a : Option Addr} {n c : Nat} {L : List Ch} (h : ChsAt W (.slice a n c) L) (j : Nat) (hj : j < L.length) : ∃ g off, a = some ⟨g, off, none⟩ ∧ g < W.heap.size ∧ ∀ i (_ : i < L.length) z u, (chL L[i])[z]? = some u → W.cell? ⟨g, off + i * 7 + z, none⟩ = some u := by
  obtain ⟨a', c', h1, h2⟩ := h
  obtain ⟨rfl, -, -⟩ := Value.slice.inj h1
  rcases h2 with h2 | ⟨g, off, rfl, hg, hc⟩
  · rw [h2] at hj; simp at hj
  · exact ⟨g, off, rfl, hg, hc⟩

theorem same_V2 {V X : World} (hV : Below V.heap.size V X) (x y x' y' : Int) (o : Bool) (ho : o = true ↔ (x = x' ∧ y = y')) : Calls Tryd.prog 14 #[.agg #[.int .i64 x, .int .i64 y], .agg #[.int .i64 x', .int .i64 y']] X fun e w' => e = .returned (.bool o) ∧ Below V.heap.size V w' := by
  refine (same_any x y x' y' o ho X).mono ?_
  rintro e w' ⟨rfl, hb⟩
  exact ⟨rfl, below_step hV hb⟩
/-- In a region whose order is open: an operation that yields in every world that meets S; its slot is given. -/
theorem takeH {P : Program} {md : Region.Mode} {ops : Array Oper} {Q : Exit → Act → World → Prop} {S : World → Prop} {i : Nat} {oi : Oper} {d : Option Tmp} {v : Value} {fuel : Nat} {listed : Array Bool} {a : Act} {w : World} (hi : ops[i]? = some oi) (hd : oi.dst = d)
    (hs : Region.noSelect ops = true) (hf : Region.free md ops listed i = true) (hr : (Region.ready md ops listed).contains i = true) (hQ : ∀ c a w, Q (.panic c) (a.put d v) w → Q (.panic c) a w) (hw : Region.wanted oi (yielded ops a.tmps) = true)
    (hy : ∀ w, S w → (execOp a.eval oi).run P w = .ok (.value v) w) (hS : S w) (h : wpAnyH P md ops Q S fuel (listed.setIfInBounds i true) (a.put d v) w) : wpAnyH P md ops Q S (fuel + 1) listed a w := by
  subst hd
  exact wpAnyH_take hi hs hf hr hQ (.inl ⟨hw, hy⟩) hS h
/-- One that its guard passes over. -/
theorem skipH {P : Program} {md : Region.Mode} {ops : Array Oper} {Q : Exit → Act → World → Prop} {S : World → Prop} {i : Nat} {oi : Oper} {d : Option Tmp} {fuel : Nat} {listed : Array Bool} {a : Act} {w : World} (hi : ops[i]? = some oi) (hd : oi.dst = d)
    (hs : Region.noSelect ops = true) (hf : Region.free md ops listed i = true) (hr : (Region.ready md ops listed).contains i = true) (hQ : ∀ c a w, Q (.panic c) (a.put d undef) w → Q (.panic c) a w) (hw : Region.wanted oi (yielded ops a.tmps) = false)
    (hS : S w) (h : wpAnyH P md ops Q S fuel (listed.setIfInBounds i true) (a.put d undef) w) : wpAnyH P md ops Q S (fuel + 1) listed a w := by
  subst hd
  exact wpAnyH_take hi hs hf hr hQ (.inr ⟨hw, rfl⟩) hS h

set_option maxRecDepth 8000 in
set_option maxHeartbeats 6000000 in
theorem diff_walk (vl : Value) (L : List (Nat × (Int × (Int × Bool)))) (n : Int) (vo : Value) (O : List (Nat × (Int × (Int × Bool)))) (w : World) (hL : PutsAt w vl L) (_hn : -9223372036854775808 ≤ n ∧ n ≤ 9223372036854775807) (hO : PutsAt w vo O) :
    Calls Tryd.prog 5 #[vl, .int .i64 n, vo] w fun e w' => e = .returned (.bool true) ∧ Below w.heap.size w w' := by
  obtain ⟨aa, ca, rfl, hda⟩ := hO
  have tok : True := trivial
  clear _hn
  go_enter Tryd.func5, Tryd.ntmps5
  go_upto_block 0 with (first | (go_at_call 8; refine (known_true _).mono ?_; rintro e w1 ⟨rfl, hb1⟩) | (go_at_call 7; have _t := tok; refine (made_any _ L n _ (puts_later hL hb1)).mono ?_; rintro e w2 ⟨m1, t1, ma, ta, rfl, -, -, hMa, hEa, hb2⟩; have u2 := tok; clear tok) | (go_at_call 7; refine (made_any _ L 0 _ (puts_later hL (below_step hb1 hb2))).mono ?_; rintro e w3 ⟨mb0, tb0, m4, t4, rfl, hMb, hEb, -, -, hb3⟩))
  have hlA : (ta.ents 7 0).length ≤ 200 := by rw [hEa]; exact made_len L _ (atN_le n _ (by omega))
  have hlB : (tb0.ents 7 0).length ≤ 200 := by rw [hEb]; exact made_len L _ (by omega)
  have hMa3 := hMa.later hb3
  have hB3 := below_step (below_step hb1 hb2) hb3
  clear hEa hEb hMa hb1 hb2 hb3 hL u2
  go_cut [9] (fun b wx => ∃ (mb : Nat) (tb : Tr), b = .pointer (some ⟨mb, 0, none⟩) ∧ MapT wx mb tb ∧ (tb.ents 7 0).length ≤ 240 ∧ Below w3.heap.size w3 wx)
  case first =>
    go_wp2_with fail
    go_loopw [9, 11] (fun b i wr => ∃ (j mb : Nat) (tb : Tr), j ≤ 40 ∧ j ≤ O.length ∧ i = .int .i64 j ∧ b = .pointer (some ⟨mb, 0, none⟩) ∧ MapT wr mb tb ∧ (tb.ents 7 0).length ≤ 200 + j ∧ Below w3.heap.size w3 wr) (fun _ i _ => O.length - (intOf i).toNat)
    case atStart => exact ⟨0, mb0, tb0, by omega, by omega, rfl, rfl, hMb, by omega, Below.refl _ _⟩
    case round =>
      obtain ⟨j, mb, tb, hj40, hj, rfl, rfl, hM, hlen, hB⟩ := hrel
      clear hMb
      by_cases hlt : j < O.length ∧ j < 40
      · obtain ⟨hlt, h40⟩ := hlt
        have hlt' : (j : Int) < O.length := by omega
        have h40' : (j : Int) < 40 := by omega
        have hj0 : (0 : Int) ≤ (j : Int) := by omega
        rcases hda with h0 | ⟨ga, oa, rfl, hga, hca⟩
        · rw [h0] at hlt; simp at hlt
        obtain ⟨hid, q0, q1, q2, q3⟩ := hca j hlt
        obtain ⟨e, he⟩ : ∃ e, O[j] = e := ⟨_, rfl⟩
        rw [he] at hid q0 q1 q2 q3
        obtain ⟨id, x, y, gone⟩ := e
        simp only at hid q0 q1 q2 q3
        have hBw := below_step hB3 hB
        have c0 := (hBw.cell (p := ⟨ga, oa + j * 4, none⟩) hga).trans q0
        have c1 := (hBw.cell (p := ⟨ga, oa + j * 4 + 1, none⟩) hga).trans q1
        have c2 := (hBw.cell (p := ⟨ga, oa + j * 4 + 2, none⟩) hga).trans q2
        have c3 := (hBw.cell (p := ⟨ga, oa + j * 4 + 3, none⟩) hga).trans q3
        clear hca he
        go_wp2_with (first | (go_at_call 10; refine (one_any mb id hid x y gone tb _ hM).mono ?_; rintro e w4 ⟨mb', t', rfl, hM2, hE2, hB2⟩))
        have hl2 : (t'.ents 7 0).length ≤ 200 + (j + 1) := by rw [hE2]; have := stepL_len (tb.ents 7 0) id (x, y) gone; omega
        clear hE2
        go_roundw
        case rel => exact ⟨j + 1, mb', t', by omega, by omega, by go_num, rfl, hM2, hl2, below_step hB hB2⟩
        case measure => simp [intOf]; omega
      · have hx : ¬ (j : Int) < O.length ∨ ((j : Int) < O.length ∧ ¬ (j : Int) < 40) := by omega
        rcases hx with hx | ⟨hx, hx2⟩
        all_goals
          go_wp2_with fail
          go_meet
          exact ⟨mb, tb, rfl, hM, by omega, hB⟩
  case rest =>
    obtain ⟨mb, tb, rfl, hMbc, hlB2, hBc⟩ := hcut
    have hMac := hMa3.later hBc
    have hBw := below_step hB3 hBc
    clear hMb hlB hMa3 hB3 hBc hda
    have hwa := hMac.2.2.2.2
    have hwb := hMbc.2.2.2.2
    obtain ⟨D, hDD⟩ : ∃ D, ta.dif tb 7 0 = D := ⟨_, rfl⟩
    have hDl : D.length ≤ 5000 := by rw [← hDD]; have := dif_len hwa hwb 0; omega
    have hBk : tb.dif ta 7 0 = D.map turnC := by rw [dif_turn ta tb, hDD]
    have hDk : (D.map turnC).length = D.length := by simp
    have hDn := dif_nil_iff hwa hwb
    rw [hDD] at hDn
    have hc1 := fun w hA hC => changes_any ma mb ta tb D hDD hDl w hA hC
    have hc2 := fun w hA hC => changes_any mb ma tb ta (D.map turnC) hBk (by rw [hDk]; exact hDl) w hA hC
    rw [hDk] at hc2
    have hLay := lay_dif hwa hwb
    rw [hDD] at hLay
    have hMem : ∀ c ∈ D, c.1 < 4294967296 ∧ c.2.1 = ta.get 7 c.1 ∧ c.2.2 = tb.get 7 c.1 ∧ c.2.1 ≠ c.2.2 := fun c hc => by
      rw [← hDD] at hc
      obtain ⟨r, hr, hne, rfl⟩ := mem_dif.1 hc
      simp only [Nat.zero_add]
      exact ⟨hr, trivial, trivial, hne⟩
    have hRis : D.Pairwise fun x y => x.1 < y.1 := hDD ▸ dif_rises ta tb 7 0
    clear hDD hBk
    have tok : True := trivial
    go_upto_region 13 with (first | (go_at_call 19; have _t := tok; refine (hc1 _ hMac hMbc).mono ?_; rintro e w5 ⟨da, dc, rfl, hD5, hb5⟩; have u5 := tok; clear tok) | (go_at_call 19; refine (hc2 _ (hMbc.later hb5) (hMac.later hb5)).mono ?_; rintro e w6 ⟨ka, kc, rfl, hK6, hb6⟩))
    have hA6 := (hMac.later hb5).later hb6
    have hB6 := (hMbc.later hb5).later hb6
    have hD6 := hD5.later hb6
    have hBw6 := below_step (below_step hBw hb5) hb6
    obtain ⟨N, hN⟩ : ∃ N, D.length = N := ⟨_, rfl⟩
    rw [hN] at hD6 hK6 hDl ⊢
    have hHN : Hid (D.length = N) := hN
    have hDN : Hid (N = 0 ↔ ta.ents 7 0 = tb.ents 7 0) := by
      rw [← hDn, ← hN]
      exact List.length_eq_zero_iff
    clear hc1 hc2 hD5 hMac hMbc hb5 hb6 hBw hDk hDn hN u5
    go_cut [83] (fun b wx => b = .bool false ∧ Below w6.heap.size w6 wx)
    case first =>
      by_cases hN0 : N = 0
      · have hoo : true = true ↔ ta.ents 7 0 = tb.ents 7 0 := ⟨fun _ => hDN.out.1 hN0, fun _ => rfl⟩
        have hse := fun va vb w ha hb => same_entriesO va vb (ta.ents 7 0) (tb.ents 7 0) (by omega) true hoo w ha hb
        clear hoo hDN
        subst hN0
        go_wp2_with (first | (go_at_call_of 13 (Value.pointer (some ⟨ma, 0, none⟩)); refine (list_ents ma ta (by omega) _ hA6).mono ?_; rintro e w7 ⟨l1, l2, rfl, hE7, hb7⟩) | (go_at_call 13; refine (list_ents mb tb (by omega) _ (hB6.later hb7)).mono ?_; rintro e w8 ⟨l3, l4, rfl, hE8, hb8⟩) | (go_at_call 20; refine (hse _ _ _ (hE7.later hb8) hE8).mono ?_; rintro e w9 ⟨rfl, hb9⟩))
        go_meet
        exact ⟨rfl, below_step (below_step hb7 hb8) hb9⟩
      · have hse := fun va vb w ha hb => same_entriesO va vb (ta.ents 7 0) (tb.ents 7 0) (by omega) false ⟨fun e => (by cases e), fun e => absurd (hDN.out.2 e) hN0⟩ w ha hb
        have hNi : ¬ (N : Int) = 0 := by omega
        have hNb : ((N : Int) == 0) = false := by simpa using hN0
        clear hDN
        go_wp2_with (first | (go_at_call_of 13 (Value.pointer (some ⟨ma, 0, none⟩)); refine (list_ents ma ta (by omega) _ hA6).mono ?_; rintro e w7 ⟨l1, l2, rfl, hE7, hb7⟩) | (go_at_call 13; refine (list_ents mb tb (by omega) _ (hB6.later hb7)).mono ?_; rintro e w8 ⟨l3, l4, rfl, hE8, hb8⟩) | (go_at_call 20; refine (hse _ _ _ (hE7.later hb8) hE8).mono ?_; rintro e w9 ⟨rfl, hb9⟩))
        go_meet
        exact ⟨rfl, below_step (below_step hb7 hb8) hb9⟩
    case rest =>
      obtain ⟨rfl, hbc⟩ := hcut
      have hA7 := hA6.later hbc
      have hB7 := hB6.later hbc
      have hD7 := hD6.later hbc
      have hK7 := hK6.later hbc
      have hBw7 := below_step hBw6 hbc
      clear hA6 hB6 hD6 hK6 hBw6 hbc hDN
      obtain ⟨w7, hw7⟩ : ∃ z, z = wc := ⟨_, rfl⟩
      subst hw7
      go_wp2
      go_loopw [14, 15] (fun m i wr => ∃ (j mm : Nat) (tm : Tr), j ≤ N ∧ i = .int .i64 j ∧ m = .pointer (some ⟨mm, 0, none⟩) ∧ MapT wr mm tm ∧ tm.ents 7 0 = layAll (ta.ents 7 0) (D.take j) ∧ Below w7.heap.size w7 wr) (fun _ i _ => N - (intOf i).toNat)
      case atStart => exact ⟨0, ma, ta, by omega, rfl, rfl, hA7, rfl, Below.refl _ _⟩
      case round =>
        obtain ⟨j, mm, tm, hj, rfl, rfl, hMm, hEm, hBr⟩ := hrel
        have hEm' : Hid (tm.ents 7 0 = layAll (ta.ents 7 0) (D.take j)) := hEm
        clear hEm
        by_cases hlt : j < N
        · have hlt' : (j : Int) < (N : Int) := by omega
          have hj0 : (0 : Int) ≤ (j : Int) := by omega
          have hjD : j < D.length := by rw [hHN.out]; exact hlt
          obtain ⟨gd, od, rfl, hgd, hcd⟩ := chs_at hD7 j hjD
          obtain ⟨gk, ok, rfl, hgk, hck⟩ := chs_at hK7 j (by rw [List.length_map]; exact hjD)
          have hm := hMem _ (List.getElem_mem hjD)
          have hcj := hcd j hjD
          have hkj := hck j (by rw [List.length_map]; exact hjD)
          rw [List.getElem_map] at hkj
          have htk : D.take (j + 1) = D.take j ++ [D[j]] := List.take_succ_eq_append_getElem hjD
          have hprev : 0 < j → ∃ k' : Nat, w7.cell? ⟨gd, od + (j - 1) * 7, none⟩ = some (.int .u32 (k' : Int)) ∧ k' < D[j].1 := fun h0 => by
            have h1 := hcd (j - 1) (by omega) 0 _ rfl
            exact ⟨_, h1, List.pairwise_iff_getElem.1 hRis (j - 1) j (by omega) hjD (by omega)⟩
          obtain ⟨⟨k, ox, oy⟩, hDj⟩ : ∃ z, D[j] = z := ⟨_, rfl⟩
          rw [hDj] at hm hcj hkj htk hprev
          obtain ⟨hk32, hgx, hgy, hxy⟩ := hm
          simp only at hk32 hgx hgy hxy hprev
          obtain ⟨⟨x1, x2⟩, hx⟩ : ∃ z, ox.getD (0, 0) = z := ⟨_, rfl⟩
          obtain ⟨⟨y1, y2⟩, hy⟩ : ∃ z, oy.getD (0, 0) = z := ⟨_, rfl⟩
          obtain ⟨p, hp⟩ : ∃ z, ox.isSome = z := ⟨_, rfl⟩
          obtain ⟨q, hq⟩ : ∃ z, oy.isSome = z := ⟨_, rfl⟩
          have hch : chL (k, (ox, oy)) = [.int .u32 (k : Int), .bool p, .bool q, .int .i64 x1, .int .i64 x2, .int .i64 y1, .int .i64 y2] := by simp only [chL, hx, hy, hp, hq]
          have hct : chL (turnC (k, (ox, oy))) = [.int .u32 (k : Int), .bool q, .bool p, .int .i64 y1, .int .i64 y2, .int .i64 x1, .int .i64 x2] := by simp only [chL, turnC, hx, hy, hp, hq]
          rw [hch] at hcj
          rw [hct] at hkj
          have hGa : Hid ((ta.get 7 k).getD (0, 0) = (x1, x2) ∧ (ta.get 7 k).isSome = p) := ⟨by rw [← hgx]; exact hx, by rw [← hgx]; exact hp⟩
          have hGb : Hid ((tb.get 7 k).getD (0, 0) = (y1, y2) ∧ (tb.get 7 k).isSome = q) := ⟨by rw [← hgy]; exact hy, by rw [← hgy]; exact hq⟩
          have hlayc : Hid (layC (layAll (ta.ents 7 0) (D.take j)) (k, (ox, oy)) = stepL (layAll (ta.ents 7 0) (D.take j)) k (y1, y2) (!q)) := by
            unfold Hid layC
            simp only [hy, hq]
          have hTk : Hid (layAll (ta.ents 7 0) (D.take (j + 1)) = layC (layAll (ta.ents 7 0) (D.take j)) (k, (ox, oy))) := by
            unfold Hid
            rw [htk, layAll_snoc]
          have hXY : Hid (p = q → ¬ (x1 = y1 ∧ x2 = y2)) := opt_ne hx hy hp hq hxy
          clear hch hct hx hy hp hq hgx hgy hxy htk hDj hcd hck
          have d0 := fun X (hb : Below w7.heap.size w7 X) => (hb.cell (p := ⟨gd, od + j * 7 + 0, none⟩) hgd).trans (hcj 0 _ rfl)
          have d1 := fun X (hb : Below w7.heap.size w7 X) => (hb.cell (p := ⟨gd, od + j * 7 + 1, none⟩) hgd).trans (hcj 1 _ rfl)
          have d2 := fun X (hb : Below w7.heap.size w7 X) => (hb.cell (p := ⟨gd, od + j * 7 + 2, none⟩) hgd).trans (hcj 2 _ rfl)
          have d3 := fun X (hb : Below w7.heap.size w7 X) => (hb.cell (p := ⟨gd, od + j * 7 + 3, none⟩) hgd).trans (hcj 3 _ rfl)
          have d4 := fun X (hb : Below w7.heap.size w7 X) => (hb.cell (p := ⟨gd, od + j * 7 + 4, none⟩) hgd).trans (hcj 4 _ rfl)
          have d5 := fun X (hb : Below w7.heap.size w7 X) => (hb.cell (p := ⟨gd, od + j * 7 + 5, none⟩) hgd).trans (hcj 5 _ rfl)
          have d6 := fun X (hb : Below w7.heap.size w7 X) => (hb.cell (p := ⟨gd, od + j * 7 + 6, none⟩) hgd).trans (hcj 6 _ rfl)
          have c0 := d0 _ hBr
          have c1 := d1 _ hBr
          have c2 := d2 _ hBr
          have c3 := d3 _ hBr
          have c4 := d4 _ hBr
          have c5 := d5 _ hBr
          have c6 := d6 _ hBr
          rw [Nat.add_zero] at c0
          have hbC : Below wr.heap.size wr (wr.alloc (.cells #[.int .u32 (k : Int), .bool p, .bool q, .int .i64 x1, .int .i64 x2, .int .i64 y1, .int .i64 y2] 54)) := (Below.refl _ _).alloc (Nat.le_refl _) _
          have rC := heap_alloc_last wr (.cells #[.int .u32 (k : Int), .bool p, .bool q, .int .i64 x1, .int .i64 x2, .int .i64 y1, .int .i64 y2] 54)
          have hAr := (hA7.later hBr).later hbC
          have hBr2 := (hB7.later hBr).later hbC
          go_upto_region 22 with (first | (go_at_call_of 9 (Value.pointer (some ⟨ma, 0, none⟩)); refine (get_is ma k ta x1 x2 p hGa.out.1 hGa.out.2 _ hAr).mono ?_; rintro e w8 ⟨rfl, hb8⟩; have r8 := (hb8.block wr.heap.size (by simp)).trans rC; have z8 := (Array.getElem?_eq_some_iff.1 r8).1; have e0 : w8.cell? ⟨wr.heap.size, 0, none⟩ = some (.int .u32 (k : Int)) := cell_of_row _ _ 0 _ _ _ r8; have e0a : ∀ o, (w8.alloc o).cell? ⟨wr.heap.size, 0, none⟩ = some (.int .u32 (k : Int)) := fun o => (cell_old w8 o _ z8).trans e0; have hB8 := (hBr2.later hb8).later ((Below.refl w8.heap.size w8).alloc (Nat.le_refl _) (.cells #[.int .i64 x1, .int .i64 x2] 25))) | (go_at_call 9; refine (get_is mb k tb y1 y2 q hGb.out.1 hGb.out.2 _ hB8).mono ?_; rintro e w9 ⟨rfl, hb9⟩))
          have hbv : Below w8.heap.size w8 (w8.alloc (.cells #[.int .i64 x1, .int .i64 x2] 25)) := (Below.refl _ _).alloc (Nat.le_refl _) _
          have hbw : Below w8.heap.size w8 w9 := below_step hbv hb9
          have hbV0 : Below w9.heap.size w9 (w9.alloc (.cells #[.int .i64 y1, .int .i64 y2] 25)) := (Below.refl _ _).alloc (Nat.le_refl _) _
          have rCV := ((below_step hbw hbV0).block wr.heap.size z8).trans r8
          have rV0 := (hb9.block w8.heap.size (by simp)).trans (heap_alloc_last w8 (.cells #[.int .i64 x1, .int .i64 x2] 25))
          have rVV := (hbV0.block w8.heap.size (Array.getElem?_eq_some_iff.1 rV0).1).trans rV0
          have rWV := heap_alloc_last w9 (.cells #[.int .i64 y1, .int .i64 y2] 25)
          have hBV : Below w7.heap.size w7 (w9.alloc (.cells #[.int .i64 y1, .int .i64 y2] 25)) := below_step (below_step (below_step hBr hbC) hb8) (below_step hbw hbV0)
          have hMV := hMm.later (below_step (below_step hbC hb8) (below_step hbw hbV0))
          clear hbv hbw hbV0 rV0 r8 rC z8 e0 e0a hB8 hb8 hb9 hAr hBr2 hbC c0 c1 c2 c3 c4 c5 c6 d0 d1 d2 d3 d4 d5 d6 hMm hBr
          generalize (w9.alloc (.cells #[.int .i64 y1, .int .i64 y2] 25)) = V at *
          generalize wr.heap.size = cb at *
          generalize w8.heap.size = vb at *
          generalize w9.heap.size = wb at *
          have s0 : V.cell? ⟨cb, 0, none⟩ = some (.int .u32 (k : Int)) := cell_of_row _ _ 0 _ _ _ rCV
          have s1 : V.cell? ⟨cb, 1, none⟩ = some (.bool p) := cell_of_row _ _ 1 _ _ _ rCV
          have s2 : V.cell? ⟨cb, 2, none⟩ = some (.bool q) := cell_of_row _ _ 2 _ _ _ rCV
          have s3 : V.cell? ⟨cb, 3, none⟩ = some (.int .i64 x1) := cell_of_row _ _ 3 _ _ _ rCV
          have s4 : V.cell? ⟨cb, 4, none⟩ = some (.int .i64 x2) := cell_of_row _ _ 4 _ _ _ rCV
          have s5 : V.cell? ⟨cb, 5, none⟩ = some (.int .i64 y1) := cell_of_row _ _ 5 _ _ _ rCV
          have s6 : V.cell? ⟨cb, 6, none⟩ = some (.int .i64 y2) := cell_of_row _ _ 6 _ _ _ rCV
          have t0 : V.cell? ⟨vb, 0, none⟩ = some (.int .i64 x1) := cell_of_row _ _ 0 _ _ _ rVV
          have t1 : V.cell? ⟨vb, 1, none⟩ = some (.int .i64 x2) := cell_of_row _ _ 1 _ _ _ rVV
          have u0 : V.cell? ⟨wb, 0, none⟩ = some (.int .i64 y1) := cell_of_row _ _ 0 _ _ _ rWV
          have u1 : V.cell? ⟨wb, 1, none⟩ = some (.int .i64 y2) := cell_of_row _ _ 1 _ _ _ rWV
          clear rVV rWV
          have hs1 := fun X (hb : Below V.heap.size V X) => same_V2 hb x1 x2 x1 x2 true (by simp)
          have hs2 := fun X (hb : Below V.heap.size V X) => same_V2 hb y1 y2 y1 y2 true (by simp)
          have hpp : (p != p) = false := by cases p <;> rfl
          have hqq : (q != q) = false := by cases q <;> rfl
          go_cut [157] (fun b wx => b = .bool false ∧ Below V.heap.size V wx)
          case first =>
            clear hLay hMem hRis hA7 hB7 hBw7 hEm' hD7 hK7 hkj hcj hGa hGb hlayc hTk hMV rCV hwa hwb hlA hlB2 hk32
            have hBd := (Below.refl V.heap.size V).drew
            rcases Nat.eq_zero_or_pos j with hj00 | hj00
            · subst hj00
              clear hprev hBV
              have hmk : ∀ X, Below V.heap.size V X → X.cell? ⟨cb, 0, none⟩ = some (.int .u32 (k : Int)) ∧ X.cell? ⟨cb, 1, none⟩ = some (.bool p) ∧ X.cell? ⟨cb, 2, none⟩ = some (.bool q) ∧ X.cell? ⟨cb, 3, none⟩ = some (.int .i64 x1) ∧ X.cell? ⟨cb, 4, none⟩ = some (.int .i64 x2) ∧ X.cell? ⟨cb, 5, none⟩ = some (.int .i64 y1) ∧ X.cell? ⟨cb, 6, none⟩ = some (.int .i64 y2) ∧ X.cell? ⟨vb, 0, none⟩ = some (.int .i64 x1) ∧ X.cell? ⟨vb, 1, none⟩ = some (.int .i64 x2) ∧ X.cell? ⟨wb, 0, none⟩ = some (.int .i64 y1) ∧ X.cell? ⟨wb, 1, none⟩ = some (.int .i64 y2) ∧ Below V.heap.size V X := fun X hb => ⟨(hb.cell (World.block_lt_of_cell? _ _ s0)).trans s0, (hb.cell (World.block_lt_of_cell? _ _ s1)).trans s1, (hb.cell (World.block_lt_of_cell? _ _ s2)).trans s2, (hb.cell (World.block_lt_of_cell? _ _ s3)).trans s3, (hb.cell (World.block_lt_of_cell? _ _ s4)).trans s4, (hb.cell (World.block_lt_of_cell? _ _ s5)).trans s5, (hb.cell (World.block_lt_of_cell? _ _ s6)).trans s6, (hb.cell (World.block_lt_of_cell? _ _ t0)).trans t0, (hb.cell (World.block_lt_of_cell? _ _ t1)).trans t1, (hb.cell (World.block_lt_of_cell? _ _ u0)).trans u0, (hb.cell (World.block_lt_of_cell? _ _ u1)).trans u1, hb⟩
              have hSd := hmk _ hBd
              by_cases hpq : p = q
              · have hs3 := fun X (hb : Below V.heap.size V X) => same_V2 hb x1 x2 y1 y2 false ⟨fun e => (by cases e), fun e => absurd e (hXY.out hpq)⟩
                have hpe : (p == q) = true := by simpa using hpq
                clear hpq
                clear hXY s0 s1 s2 s3 s4 s5 s6 t0 t1 u0 u1
                as_aux_lemma =>
                  refine wp_region_held_drew (S := fun X => X.cell? ⟨cb, 0, none⟩ = some (.int .u32 (k : Int)) ∧ X.cell? ⟨cb, 1, none⟩ = some (.bool p) ∧ X.cell? ⟨cb, 2, none⟩ = some (.bool q) ∧ X.cell? ⟨cb, 3, none⟩ = some (.int .i64 x1) ∧ X.cell? ⟨cb, 4, none⟩ = some (.int .i64 x2) ∧ X.cell? ⟨cb, 5, none⟩ = some (.int .i64 y1) ∧ X.cell? ⟨cb, 6, none⟩ = some (.int .i64 y2) ∧ X.cell? ⟨vb, 0, none⟩ = some (.int .i64 x1) ∧ X.cell? ⟨vb, 1, none⟩ = some (.int .i64 x2) ∧ X.cell? ⟨wb, 0, none⟩ = some (.int .i64 y1) ∧ X.cell? ⟨wb, 1, none⟩ = some (.int .i64 y2) ∧ Below V.heap.size V X) (by kernel_rfl) hSd (fun hSd2 => ?_)
                  clear hSd2
                  refine takeH (i := 0) (d := some 109) (v := ?_) rfl rfl (by kernel_rfl) (by kernel_rfl) (by kernel_rfl) (fun _ _ _ h => h) (by rfl) ?_ (by with_reducible assumption) ?_
                  rotate_left
                  · (intro w hSw; (try dsimp only at hSw); go_simp; (try with_reducible rfl))
                  simp only [Act.put, List.setIfInBounds_toArray, List.set_cons_zero, List.set_cons_succ]
                  refine takeH (i := 1) (d := some 110) (v := ?_) rfl rfl (by kernel_rfl) (by kernel_rfl) (by kernel_rfl) (fun _ _ _ h => h) (by rfl) ?_ (by with_reducible assumption) ?_
                  rotate_left
                  · (intro w hSw; (try dsimp only at hSw); go_simp; (try with_reducible rfl))
                  simp only [Act.put, List.setIfInBounds_toArray, List.set_cons_zero, List.set_cons_succ]
                  refine takeH (i := 2) (d := some 111) (v := ?_) rfl rfl (by kernel_rfl) (by kernel_rfl) (by kernel_rfl) (fun _ _ _ h => h) (by rfl) ?_ (by with_reducible assumption) ?_
                  rotate_left
                  · (intro w hSw; (try dsimp only at hSw); go_simp; (try with_reducible rfl))
                  simp only [Act.put, List.setIfInBounds_toArray, List.set_cons_zero, List.set_cons_succ]
                  refine skipH (i := 3) (d := some 112) rfl rfl (by kernel_rfl) (by kernel_rfl) (by kernel_rfl) (fun _ _ _ h => h) (by rfl) (by with_reducible assumption) ?_
                  simp only [Act.put, List.setIfInBounds_toArray, List.set_cons_zero, List.set_cons_succ]
                  refine skipH (i := 4) (d := some 113) rfl rfl (by kernel_rfl) (by kernel_rfl) (by kernel_rfl) (fun _ _ _ h => h) (by rfl) (by with_reducible assumption) ?_
                  simp only [Act.put, List.setIfInBounds_toArray, List.set_cons_zero, List.set_cons_succ]
                  refine skipH (i := 5) (d := some 114) rfl rfl (by kernel_rfl) (by kernel_rfl) (by kernel_rfl) (fun _ _ _ h => h) (by rfl) (by with_reducible assumption) ?_
                  simp only [Act.put, List.setIfInBounds_toArray, List.set_cons_zero, List.set_cons_succ]
                  refine skipH (i := 6) (d := some 115) rfl rfl (by kernel_rfl) (by kernel_rfl) (by kernel_rfl) (fun _ _ _ h => h) (by rfl) (by with_reducible assumption) ?_
                  simp only [Act.put, List.setIfInBounds_toArray, List.set_cons_zero, List.set_cons_succ]
                  refine skipH (i := 7) (d := some 116) rfl rfl (by kernel_rfl) (by kernel_rfl) (by kernel_rfl) (fun _ _ _ h => h) (by rfl) (by with_reducible assumption) ?_
                  simp only [Act.put, List.setIfInBounds_toArray, List.set_cons_zero, List.set_cons_succ]
                  refine skipH (i := 8) (d := some 117) rfl rfl (by kernel_rfl) (by kernel_rfl) (by kernel_rfl) (fun _ _ _ h => h) (by rfl) (by with_reducible assumption) ?_
                  simp only [Act.put, List.setIfInBounds_toArray, List.set_cons_zero, List.set_cons_succ]
                  refine skipH (i := 9) (d := some 118) rfl rfl (by kernel_rfl) (by kernel_rfl) (by kernel_rfl) (fun _ _ _ h => h) (by rfl) (by with_reducible assumption) ?_
                  simp only [Act.put, List.setIfInBounds_toArray, List.set_cons_zero, List.set_cons_succ]
                  refine skipH (i := 10) (d := some 119) rfl rfl (by kernel_rfl) (by kernel_rfl) (by kernel_rfl) (fun _ _ _ h => h) (by rfl) (by with_reducible assumption) ?_
                  simp only [Act.put, List.setIfInBounds_toArray, List.set_cons_zero, List.set_cons_succ]
                  refine skipH (i := 11) (d := some 120) rfl rfl (by kernel_rfl) (by kernel_rfl) (by kernel_rfl) (fun _ _ _ h => h) (by rfl) (by with_reducible assumption) ?_
                  simp only [Act.put, List.setIfInBounds_toArray, List.set_cons_zero, List.set_cons_succ]
                  refine takeH (i := 12) (d := some 121) (v := ?_) rfl rfl (by kernel_rfl) (by kernel_rfl) (by kernel_rfl) (fun _ _ _ h => h) (by rfl) ?_ (by with_reducible assumption) ?_
                  rotate_left
                  · (intro w hSw; (try dsimp only at hSw); go_simp; (try with_reducible rfl))
                  simp only [Act.put, List.setIfInBounds_toArray, List.set_cons_zero, List.set_cons_succ]
                  refine takeH (i := 13) (d := some 122) (v := ?_) rfl rfl (by kernel_rfl) (by kernel_rfl) (by kernel_rfl) (fun _ _ _ h => h) (by rfl) ?_ (by with_reducible assumption) ?_
                  rotate_left
                  · (intro w hSw; (try dsimp only at hSw); go_simp; (try with_reducible rfl))
                  simp only [Act.put, List.setIfInBounds_toArray, List.set_cons_zero, List.set_cons_succ]
                  refine takeH (i := 14) (d := some 123) (v := ?_) rfl rfl (by kernel_rfl) (by kernel_rfl) (by kernel_rfl) (fun _ _ _ h => h) (by rfl) ?_ (by with_reducible assumption) ?_
                  rotate_left
                  · (intro w hSw; (try dsimp only at hSw); go_simp; (try with_reducible rfl))
                  simp only [Act.put, List.setIfInBounds_toArray, List.set_cons_zero, List.set_cons_succ]
                  refine takeH (i := 15) (d := some 124) (v := ?_) rfl rfl (by kernel_rfl) (by kernel_rfl) (by kernel_rfl) (fun _ _ _ h => h) (by rfl) ?_ (by with_reducible assumption) ?_
                  rotate_left
                  · (intro w hSw; (try dsimp only at hSw); go_simp; (try with_reducible rfl))
                  simp only [Act.put, List.setIfInBounds_toArray, List.set_cons_zero, List.set_cons_succ]
                  refine takeH (i := 16) (d := some 125) (v := ?_) rfl rfl (by kernel_rfl) (by kernel_rfl) (by kernel_rfl) (fun _ _ _ h => h) (by rfl) ?_ (by with_reducible assumption) ?_
                  rotate_left
                  · (intro w hSw; (try dsimp only at hSw); go_simp; (try with_reducible rfl))
                  simp only [Act.put, List.setIfInBounds_toArray, List.set_cons_zero, List.set_cons_succ]
                  refine takeH (i := 17) (d := some 126) (v := ?_) rfl rfl (by kernel_rfl) (by kernel_rfl) (by kernel_rfl) (fun _ _ _ h => h) (by rfl) ?_ (by with_reducible assumption) ?_
                  rotate_left
                  · (intro w hSw; (try dsimp only at hSw); go_simp; (try with_reducible rfl))
                  simp only [Act.put, List.setIfInBounds_toArray, List.set_cons_zero, List.set_cons_succ]
                  refine takeH (i := 18) (d := some 127) (v := ?_) rfl rfl (by kernel_rfl) (by kernel_rfl) (by kernel_rfl) (fun _ _ _ h => h) (by rfl) ?_ (by with_reducible assumption) ?_
                  rotate_left
                  · (intro w hSw; (try dsimp only at hSw); go_simp; (try with_reducible rfl))
                  simp only [Act.put, List.setIfInBounds_toArray, List.set_cons_zero, List.set_cons_succ]
                  refine takeH (i := 19) (d := some 128) (v := ?_) rfl rfl (by kernel_rfl) (by kernel_rfl) (by kernel_rfl) (fun _ _ _ h => h) (by rfl) ?_ (by with_reducible assumption) ?_
                  rotate_left
                  · (intro w hSw; (try dsimp only at hSw); go_simp; (try with_reducible rfl))
                  simp only [Act.put, List.setIfInBounds_toArray, List.set_cons_zero, List.set_cons_succ]
                  refine takeH (i := 20) (d := some 129) (v := ?_) rfl rfl (by kernel_rfl) (by kernel_rfl) (by kernel_rfl) (fun _ _ _ h => h) (by rfl) ?_ (by with_reducible assumption) ?_
                  rotate_left
                  · (intro w hSw; (try dsimp only at hSw); go_simp; (try with_reducible rfl))
                  simp only [Act.put, List.setIfInBounds_toArray, List.set_cons_zero, List.set_cons_succ]
                  refine takeH (i := 21) (d := some 130) (v := ?_) rfl rfl (by kernel_rfl) (by kernel_rfl) (by kernel_rfl) (fun _ _ _ h => h) (by rfl) ?_ (by with_reducible assumption) ?_
                  rotate_left
                  · (intro w hSw; (try dsimp only at hSw); go_simp; (try with_reducible rfl))
                  simp only [Act.put, List.setIfInBounds_toArray, List.set_cons_zero, List.set_cons_succ]
                  refine takeH (i := 22) (d := some 131) (v := ?_) rfl rfl (by kernel_rfl) (by kernel_rfl) (by kernel_rfl) (fun _ _ _ h => h) (by rfl) ?_ (by with_reducible assumption) ?_
                  rotate_left
                  · (intro w hSw; (try dsimp only at hSw); go_simp; (try with_reducible rfl))
                  simp only [Act.put, List.setIfInBounds_toArray, List.set_cons_zero, List.set_cons_succ]
                  refine takeH (i := 23) (d := some 132) (v := ?_) rfl rfl (by kernel_rfl) (by kernel_rfl) (by kernel_rfl) (fun _ _ _ h => h) (by rfl) ?_ (by with_reducible assumption) ?_
                  rotate_left
                  · (intro w hSw; (try dsimp only at hSw); go_simp; (try with_reducible rfl))
                  simp only [Act.put, List.setIfInBounds_toArray, List.set_cons_zero, List.set_cons_succ]
                  refine takeH (i := 24) (d := some 133) (v := ?_) rfl rfl (by kernel_rfl) (by kernel_rfl) (by kernel_rfl) (fun _ _ _ h => h) (by rfl) ?_ (by with_reducible assumption) ?_
                  rotate_left
                  · (intro w hSw; (try dsimp only at hSw); go_simp; (try with_reducible rfl))
                  simp only [Act.put, List.setIfInBounds_toArray, List.set_cons_zero, List.set_cons_succ]
                  refine takeH (i := 25) (d := some 134) (v := ?_) rfl rfl (by kernel_rfl) (by kernel_rfl) (by kernel_rfl) (fun _ _ _ h => h) (by rfl) ?_ (by with_reducible assumption) ?_
                  rotate_left
                  · (intro w hSw; (try dsimp only at hSw); go_simp; (try with_reducible rfl))
                  simp only [Act.put, List.setIfInBounds_toArray, List.set_cons_zero, List.set_cons_succ]
                  refine takeH (i := 26) (d := some 135) (v := ?_) rfl rfl (by kernel_rfl) (by kernel_rfl) (by kernel_rfl) (fun _ _ _ h => h) (by rfl) ?_ (by with_reducible assumption) ?_
                  rotate_left
                  · (intro w hSw; (try dsimp only at hSw); go_simp; (try with_reducible rfl))
                  simp only [Act.put, List.setIfInBounds_toArray, List.set_cons_zero, List.set_cons_succ]
                  refine takeH (i := 27) (d := some 136) (v := ?_) rfl rfl (by kernel_rfl) (by kernel_rfl) (by kernel_rfl) (fun _ _ _ h => h) (by rfl) ?_ (by with_reducible assumption) ?_
                  rotate_left
                  · (intro w hSw; (try dsimp only at hSw); go_simp; (try with_reducible rfl))
                  simp only [Act.put, List.setIfInBounds_toArray, List.set_cons_zero, List.set_cons_succ]
                  refine takeH (i := 28) (d := some 137) (v := ?_) rfl rfl (by kernel_rfl) (by kernel_rfl) (by kernel_rfl) (fun _ _ _ h => h) (by rfl) ?_ (by with_reducible assumption) ?_
                  rotate_left
                  · (intro w hSw; (try dsimp only at hSw); go_simp; (try with_reducible rfl))
                  simp only [Act.put, List.setIfInBounds_toArray, List.set_cons_zero, List.set_cons_succ]
                  refine wpAnyH_ready (rs := [29]) (by kernel_rfl) (by simp) ?_
                  refine AllReadyH.cons rfl (fun K hK => ?_) AllReadyH.nil
                  go_simp
                  refine (hs1 _ hBd).mono ?_
                  rintro e v1 ⟨rfl, hbv1⟩
                  dsimp only
                  have hSv1 := hmk _ hbv1
                  refine hK.out _ _ hSv1 (fun _ => ?_)
                  clear hK K
                  refine takeH (i := 30) (d := some 139) (v := ?_) rfl rfl (by kernel_rfl) (by kernel_rfl) (by kernel_rfl) (fun _ _ _ h => h) (by rfl) ?_ (by with_reducible assumption) ?_
                  rotate_left
                  · (intro w hSw; (try dsimp only at hSw); go_simp; (try with_reducible rfl))
                  simp only [Act.put, List.setIfInBounds_toArray, List.set_cons_zero, List.set_cons_succ]
                  refine takeH (i := 31) (d := some 140) (v := ?_) rfl rfl (by kernel_rfl) (by kernel_rfl) (by kernel_rfl) (fun _ _ _ h => h) (by rfl) ?_ (by with_reducible assumption) ?_
                  rotate_left
                  · (intro w hSw; (try dsimp only at hSw); go_simp; (try with_reducible rfl))
                  simp only [Act.put, List.setIfInBounds_toArray, List.set_cons_zero, List.set_cons_succ]
                  refine takeH (i := 32) (d := some 141) (v := ?_) rfl rfl (by kernel_rfl) (by kernel_rfl) (by kernel_rfl) (fun _ _ _ h => h) (by rfl) ?_ (by with_reducible assumption) ?_
                  rotate_left
                  · (intro w hSw; (try dsimp only at hSw); go_simp; (try with_reducible rfl))
                  simp only [Act.put, List.setIfInBounds_toArray, List.set_cons_zero, List.set_cons_succ]
                  refine takeH (i := 33) (d := some 142) (v := ?_) rfl rfl (by kernel_rfl) (by kernel_rfl) (by kernel_rfl) (fun _ _ _ h => h) (by rfl) ?_ (by with_reducible assumption) ?_
                  rotate_left
                  · (intro w hSw; (try dsimp only at hSw); go_simp; (try with_reducible rfl))
                  simp only [Act.put, List.setIfInBounds_toArray, List.set_cons_zero, List.set_cons_succ]
                  refine takeH (i := 34) (d := some 143) (v := ?_) rfl rfl (by kernel_rfl) (by kernel_rfl) (by kernel_rfl) (fun _ _ _ h => h) (by rfl) ?_ (by with_reducible assumption) ?_
                  rotate_left
                  · (intro w hSw; (try dsimp only at hSw); go_simp; (try with_reducible rfl))
                  simp only [Act.put, List.setIfInBounds_toArray, List.set_cons_zero, List.set_cons_succ]
                  refine takeH (i := 35) (d := some 144) (v := ?_) rfl rfl (by kernel_rfl) (by kernel_rfl) (by kernel_rfl) (fun _ _ _ h => h) (by rfl) ?_ (by with_reducible assumption) ?_
                  rotate_left
                  · (intro w hSw; (try dsimp only at hSw); go_simp; (try with_reducible rfl))
                  simp only [Act.put, List.setIfInBounds_toArray, List.set_cons_zero, List.set_cons_succ]
                  refine wpAnyH_ready (rs := [36]) (by kernel_rfl) (by simp) ?_
                  refine AllReadyH.cons rfl (fun K hK => ?_) AllReadyH.nil
                  go_simp
                  refine (hs2 _ hbv1).mono ?_
                  rintro e v2 ⟨rfl, hbv2⟩
                  dsimp only
                  have hSv2 := hmk _ hbv2
                  refine hK.out _ _ hSv2 (fun _ => ?_)
                  clear hK K
                  refine takeH (i := 37) (d := some 146) (v := ?_) rfl rfl (by kernel_rfl) (by kernel_rfl) (by kernel_rfl) (fun _ _ _ h => h) (by rfl) ?_ (by with_reducible assumption) ?_
                  rotate_left
                  · (intro w hSw; (try dsimp only at hSw); go_simp; (try with_reducible rfl))
                  simp only [Act.put, List.setIfInBounds_toArray, List.set_cons_zero, List.set_cons_succ]
                  refine takeH (i := 38) (d := some 147) (v := ?_) rfl rfl (by kernel_rfl) (by kernel_rfl) (by kernel_rfl) (fun _ _ _ h => h) (by rfl) ?_ (by with_reducible assumption) ?_
                  rotate_left
                  · (intro w hSw; (try dsimp only at hSw); go_simp; (try with_reducible rfl))
                  simp only [Act.put, List.setIfInBounds_toArray, List.set_cons_zero, List.set_cons_succ]
                  refine takeH (i := 39) (d := some 148) (v := ?_) rfl rfl (by kernel_rfl) (by kernel_rfl) (by kernel_rfl) (fun _ _ _ h => h) (by rfl) ?_ (by with_reducible assumption) ?_
                  rotate_left
                  · (intro w hSw; (try dsimp only at hSw); go_simp; (try with_reducible rfl))
                  simp only [Act.put, List.setIfInBounds_toArray, List.set_cons_zero, List.set_cons_succ]
                  refine takeH (i := 40) (d := some 149) (v := ?_) rfl rfl (by kernel_rfl) (by kernel_rfl) (by kernel_rfl) (fun _ _ _ h => h) (by rfl) ?_ (by with_reducible assumption) ?_
                  rotate_left
                  · (intro w hSw; (try dsimp only at hSw); go_simp; (try with_reducible rfl))
                  simp only [Act.put, List.setIfInBounds_toArray, List.set_cons_zero, List.set_cons_succ]
                  refine takeH (i := 41) (d := some 150) (v := ?_) rfl rfl (by kernel_rfl) (by kernel_rfl) (by kernel_rfl) (fun _ _ _ h => h) (by rfl) ?_ (by with_reducible assumption) ?_
                  rotate_left
                  · (intro w hSw; (try dsimp only at hSw); go_simp; (try with_reducible rfl))
                  simp only [Act.put, List.setIfInBounds_toArray, List.set_cons_zero, List.set_cons_succ]
                  refine takeH (i := 42) (d := some 151) (v := ?_) rfl rfl (by kernel_rfl) (by kernel_rfl) (by kernel_rfl) (fun _ _ _ h => h) (by rfl) ?_ (by with_reducible assumption) ?_
                  rotate_left
                  · (intro w hSw; (try dsimp only at hSw); go_simp; (try with_reducible rfl))
                  simp only [Act.put, List.setIfInBounds_toArray, List.set_cons_zero, List.set_cons_succ]
                  refine takeH (i := 43) (d := some 152) (v := ?_) rfl rfl (by kernel_rfl) (by kernel_rfl) (by kernel_rfl) (fun _ _ _ h => h) (by rfl) ?_ (by with_reducible assumption) ?_
                  rotate_left
                  · (intro w hSw; (try dsimp only at hSw); go_simp; (try with_reducible rfl))
                  simp only [Act.put, List.setIfInBounds_toArray, List.set_cons_zero, List.set_cons_succ]
                  refine takeH (i := 44) (d := some 153) (v := ?_) rfl rfl (by kernel_rfl) (by kernel_rfl) (by kernel_rfl) (fun _ _ _ h => h) (by rfl) ?_ (by with_reducible assumption) ?_
                  rotate_left
                  · (intro w hSw; (try dsimp only at hSw); go_simp; (try with_reducible rfl))
                  simp only [Act.put, List.setIfInBounds_toArray, List.set_cons_zero, List.set_cons_succ]
                  refine takeH (i := 45) (d := some 154) (v := ?_) rfl rfl (by kernel_rfl) (by kernel_rfl) (by kernel_rfl) (fun _ _ _ h => h) (by rfl) ?_ (by with_reducible assumption) ?_
                  rotate_left
                  · (intro w hSw; (try dsimp only at hSw); go_simp; (try with_reducible rfl))
                  simp only [Act.put, List.setIfInBounds_toArray, List.set_cons_zero, List.set_cons_succ]
                  refine wpAnyH_ready (rs := [46]) (by kernel_rfl) (by simp) ?_
                  refine AllReadyH.cons rfl (fun K hK => ?_) AllReadyH.nil
                  go_simp
                  refine (hs3 _ hbv2).mono ?_
                  rintro e v3 ⟨rfl, hbv3⟩
                  dsimp only
                  have hSv3 := hmk _ hbv3
                  refine hK.out _ _ hSv3 (fun _ => ?_)
                  clear hK K
                  refine takeH (i := 47) (d := some 156) (v := ?_) rfl rfl (by kernel_rfl) (by kernel_rfl) (by kernel_rfl) (fun _ _ _ h => h) (by rfl) ?_ (by with_reducible assumption) ?_
                  rotate_left
                  · (intro w hSw; (try dsimp only at hSw); go_simp; (try with_reducible rfl))
                  simp only [Act.put, List.setIfInBounds_toArray, List.set_cons_zero, List.set_cons_succ]
                  refine takeH (i := 48) (d := some 157) (v := ?_) rfl rfl (by kernel_rfl) (by kernel_rfl) (by kernel_rfl) (fun _ _ _ h => h) (by rfl) ?_ (by with_reducible assumption) ?_
                  rotate_left
                  · (intro w hSw; (try dsimp only at hSw); go_simp; (try with_reducible rfl))
                  simp only [Act.put, List.setIfInBounds_toArray, List.set_cons_zero, List.set_cons_succ]
                  refine wpAnyH_done (by kernel_rfl) ?_ _
                  go_wp2_with fail
                  go_meet
                  exact ⟨rfl, hbv3⟩
              · have hpe : (p == q) = false := by simpa using hpq
                clear hpq
                clear hXY s0 s1 s2 s3 s4 s5 s6 t0 t1 u0 u1
                as_aux_lemma =>
                  refine wp_region_held_drew (S := fun X => X.cell? ⟨cb, 0, none⟩ = some (.int .u32 (k : Int)) ∧ X.cell? ⟨cb, 1, none⟩ = some (.bool p) ∧ X.cell? ⟨cb, 2, none⟩ = some (.bool q) ∧ X.cell? ⟨cb, 3, none⟩ = some (.int .i64 x1) ∧ X.cell? ⟨cb, 4, none⟩ = some (.int .i64 x2) ∧ X.cell? ⟨cb, 5, none⟩ = some (.int .i64 y1) ∧ X.cell? ⟨cb, 6, none⟩ = some (.int .i64 y2) ∧ X.cell? ⟨vb, 0, none⟩ = some (.int .i64 x1) ∧ X.cell? ⟨vb, 1, none⟩ = some (.int .i64 x2) ∧ X.cell? ⟨wb, 0, none⟩ = some (.int .i64 y1) ∧ X.cell? ⟨wb, 1, none⟩ = some (.int .i64 y2) ∧ Below V.heap.size V X) (by kernel_rfl) hSd (fun hSd2 => ?_)
                  clear hSd2
                  refine takeH (i := 0) (d := some 109) (v := ?_) rfl rfl (by kernel_rfl) (by kernel_rfl) (by kernel_rfl) (fun _ _ _ h => h) (by rfl) ?_ (by with_reducible assumption) ?_
                  rotate_left
                  · (intro w hSw; (try dsimp only at hSw); go_simp; (try with_reducible rfl))
                  simp only [Act.put, List.setIfInBounds_toArray, List.set_cons_zero, List.set_cons_succ]
                  refine takeH (i := 1) (d := some 110) (v := ?_) rfl rfl (by kernel_rfl) (by kernel_rfl) (by kernel_rfl) (fun _ _ _ h => h) (by rfl) ?_ (by with_reducible assumption) ?_
                  rotate_left
                  · (intro w hSw; (try dsimp only at hSw); go_simp; (try with_reducible rfl))
                  simp only [Act.put, List.setIfInBounds_toArray, List.set_cons_zero, List.set_cons_succ]
                  refine takeH (i := 2) (d := some 111) (v := ?_) rfl rfl (by kernel_rfl) (by kernel_rfl) (by kernel_rfl) (fun _ _ _ h => h) (by rfl) ?_ (by with_reducible assumption) ?_
                  rotate_left
                  · (intro w hSw; (try dsimp only at hSw); go_simp; (try with_reducible rfl))
                  simp only [Act.put, List.setIfInBounds_toArray, List.set_cons_zero, List.set_cons_succ]
                  refine skipH (i := 3) (d := some 112) rfl rfl (by kernel_rfl) (by kernel_rfl) (by kernel_rfl) (fun _ _ _ h => h) (by rfl) (by with_reducible assumption) ?_
                  simp only [Act.put, List.setIfInBounds_toArray, List.set_cons_zero, List.set_cons_succ]
                  refine skipH (i := 4) (d := some 113) rfl rfl (by kernel_rfl) (by kernel_rfl) (by kernel_rfl) (fun _ _ _ h => h) (by rfl) (by with_reducible assumption) ?_
                  simp only [Act.put, List.setIfInBounds_toArray, List.set_cons_zero, List.set_cons_succ]
                  refine skipH (i := 5) (d := some 114) rfl rfl (by kernel_rfl) (by kernel_rfl) (by kernel_rfl) (fun _ _ _ h => h) (by rfl) (by with_reducible assumption) ?_
                  simp only [Act.put, List.setIfInBounds_toArray, List.set_cons_zero, List.set_cons_succ]
                  refine skipH (i := 6) (d := some 115) rfl rfl (by kernel_rfl) (by kernel_rfl) (by kernel_rfl) (fun _ _ _ h => h) (by rfl) (by with_reducible assumption) ?_
                  simp only [Act.put, List.setIfInBounds_toArray, List.set_cons_zero, List.set_cons_succ]
                  refine skipH (i := 7) (d := some 116) rfl rfl (by kernel_rfl) (by kernel_rfl) (by kernel_rfl) (fun _ _ _ h => h) (by rfl) (by with_reducible assumption) ?_
                  simp only [Act.put, List.setIfInBounds_toArray, List.set_cons_zero, List.set_cons_succ]
                  refine skipH (i := 8) (d := some 117) rfl rfl (by kernel_rfl) (by kernel_rfl) (by kernel_rfl) (fun _ _ _ h => h) (by rfl) (by with_reducible assumption) ?_
                  simp only [Act.put, List.setIfInBounds_toArray, List.set_cons_zero, List.set_cons_succ]
                  refine skipH (i := 9) (d := some 118) rfl rfl (by kernel_rfl) (by kernel_rfl) (by kernel_rfl) (fun _ _ _ h => h) (by rfl) (by with_reducible assumption) ?_
                  simp only [Act.put, List.setIfInBounds_toArray, List.set_cons_zero, List.set_cons_succ]
                  refine skipH (i := 10) (d := some 119) rfl rfl (by kernel_rfl) (by kernel_rfl) (by kernel_rfl) (fun _ _ _ h => h) (by rfl) (by with_reducible assumption) ?_
                  simp only [Act.put, List.setIfInBounds_toArray, List.set_cons_zero, List.set_cons_succ]
                  refine skipH (i := 11) (d := some 120) rfl rfl (by kernel_rfl) (by kernel_rfl) (by kernel_rfl) (fun _ _ _ h => h) (by rfl) (by with_reducible assumption) ?_
                  simp only [Act.put, List.setIfInBounds_toArray, List.set_cons_zero, List.set_cons_succ]
                  refine takeH (i := 12) (d := some 121) (v := ?_) rfl rfl (by kernel_rfl) (by kernel_rfl) (by kernel_rfl) (fun _ _ _ h => h) (by rfl) ?_ (by with_reducible assumption) ?_
                  rotate_left
                  · (intro w hSw; (try dsimp only at hSw); go_simp; (try with_reducible rfl))
                  simp only [Act.put, List.setIfInBounds_toArray, List.set_cons_zero, List.set_cons_succ]
                  refine takeH (i := 13) (d := some 122) (v := ?_) rfl rfl (by kernel_rfl) (by kernel_rfl) (by kernel_rfl) (fun _ _ _ h => h) (by rfl) ?_ (by with_reducible assumption) ?_
                  rotate_left
                  · (intro w hSw; (try dsimp only at hSw); go_simp; (try with_reducible rfl))
                  simp only [Act.put, List.setIfInBounds_toArray, List.set_cons_zero, List.set_cons_succ]
                  refine takeH (i := 14) (d := some 123) (v := ?_) rfl rfl (by kernel_rfl) (by kernel_rfl) (by kernel_rfl) (fun _ _ _ h => h) (by rfl) ?_ (by with_reducible assumption) ?_
                  rotate_left
                  · (intro w hSw; (try dsimp only at hSw); go_simp; (try with_reducible rfl))
                  simp only [Act.put, List.setIfInBounds_toArray, List.set_cons_zero, List.set_cons_succ]
                  refine takeH (i := 15) (d := some 124) (v := ?_) rfl rfl (by kernel_rfl) (by kernel_rfl) (by kernel_rfl) (fun _ _ _ h => h) (by rfl) ?_ (by with_reducible assumption) ?_
                  rotate_left
                  · (intro w hSw; (try dsimp only at hSw); go_simp; (try with_reducible rfl))
                  simp only [Act.put, List.setIfInBounds_toArray, List.set_cons_zero, List.set_cons_succ]
                  refine takeH (i := 16) (d := some 125) (v := ?_) rfl rfl (by kernel_rfl) (by kernel_rfl) (by kernel_rfl) (fun _ _ _ h => h) (by rfl) ?_ (by with_reducible assumption) ?_
                  rotate_left
                  · (intro w hSw; (try dsimp only at hSw); go_simp; (try with_reducible rfl))
                  simp only [Act.put, List.setIfInBounds_toArray, List.set_cons_zero, List.set_cons_succ]
                  refine takeH (i := 17) (d := some 126) (v := ?_) rfl rfl (by kernel_rfl) (by kernel_rfl) (by kernel_rfl) (fun _ _ _ h => h) (by rfl) ?_ (by with_reducible assumption) ?_
                  rotate_left
                  · (intro w hSw; (try dsimp only at hSw); go_simp; (try with_reducible rfl))
                  simp only [Act.put, List.setIfInBounds_toArray, List.set_cons_zero, List.set_cons_succ]
                  refine takeH (i := 18) (d := some 127) (v := ?_) rfl rfl (by kernel_rfl) (by kernel_rfl) (by kernel_rfl) (fun _ _ _ h => h) (by rfl) ?_ (by with_reducible assumption) ?_
                  rotate_left
                  · (intro w hSw; (try dsimp only at hSw); go_simp; (try with_reducible rfl))
                  simp only [Act.put, List.setIfInBounds_toArray, List.set_cons_zero, List.set_cons_succ]
                  refine takeH (i := 19) (d := some 128) (v := ?_) rfl rfl (by kernel_rfl) (by kernel_rfl) (by kernel_rfl) (fun _ _ _ h => h) (by rfl) ?_ (by with_reducible assumption) ?_
                  rotate_left
                  · (intro w hSw; (try dsimp only at hSw); go_simp; (try with_reducible rfl))
                  simp only [Act.put, List.setIfInBounds_toArray, List.set_cons_zero, List.set_cons_succ]
                  refine takeH (i := 20) (d := some 129) (v := ?_) rfl rfl (by kernel_rfl) (by kernel_rfl) (by kernel_rfl) (fun _ _ _ h => h) (by rfl) ?_ (by with_reducible assumption) ?_
                  rotate_left
                  · (intro w hSw; (try dsimp only at hSw); go_simp; (try with_reducible rfl))
                  simp only [Act.put, List.setIfInBounds_toArray, List.set_cons_zero, List.set_cons_succ]
                  refine takeH (i := 21) (d := some 130) (v := ?_) rfl rfl (by kernel_rfl) (by kernel_rfl) (by kernel_rfl) (fun _ _ _ h => h) (by rfl) ?_ (by with_reducible assumption) ?_
                  rotate_left
                  · (intro w hSw; (try dsimp only at hSw); go_simp; (try with_reducible rfl))
                  simp only [Act.put, List.setIfInBounds_toArray, List.set_cons_zero, List.set_cons_succ]
                  refine takeH (i := 22) (d := some 131) (v := ?_) rfl rfl (by kernel_rfl) (by kernel_rfl) (by kernel_rfl) (fun _ _ _ h => h) (by rfl) ?_ (by with_reducible assumption) ?_
                  rotate_left
                  · (intro w hSw; (try dsimp only at hSw); go_simp; (try with_reducible rfl))
                  simp only [Act.put, List.setIfInBounds_toArray, List.set_cons_zero, List.set_cons_succ]
                  refine takeH (i := 23) (d := some 132) (v := ?_) rfl rfl (by kernel_rfl) (by kernel_rfl) (by kernel_rfl) (fun _ _ _ h => h) (by rfl) ?_ (by with_reducible assumption) ?_
                  rotate_left
                  · (intro w hSw; (try dsimp only at hSw); go_simp; (try with_reducible rfl))
                  simp only [Act.put, List.setIfInBounds_toArray, List.set_cons_zero, List.set_cons_succ]
                  refine takeH (i := 24) (d := some 133) (v := ?_) rfl rfl (by kernel_rfl) (by kernel_rfl) (by kernel_rfl) (fun _ _ _ h => h) (by rfl) ?_ (by with_reducible assumption) ?_
                  rotate_left
                  · (intro w hSw; (try dsimp only at hSw); go_simp; (try with_reducible rfl))
                  simp only [Act.put, List.setIfInBounds_toArray, List.set_cons_zero, List.set_cons_succ]
                  refine takeH (i := 25) (d := some 134) (v := ?_) rfl rfl (by kernel_rfl) (by kernel_rfl) (by kernel_rfl) (fun _ _ _ h => h) (by rfl) ?_ (by with_reducible assumption) ?_
                  rotate_left
                  · (intro w hSw; (try dsimp only at hSw); go_simp; (try with_reducible rfl))
                  simp only [Act.put, List.setIfInBounds_toArray, List.set_cons_zero, List.set_cons_succ]
                  refine takeH (i := 26) (d := some 135) (v := ?_) rfl rfl (by kernel_rfl) (by kernel_rfl) (by kernel_rfl) (fun _ _ _ h => h) (by rfl) ?_ (by with_reducible assumption) ?_
                  rotate_left
                  · (intro w hSw; (try dsimp only at hSw); go_simp; (try with_reducible rfl))
                  simp only [Act.put, List.setIfInBounds_toArray, List.set_cons_zero, List.set_cons_succ]
                  refine takeH (i := 27) (d := some 136) (v := ?_) rfl rfl (by kernel_rfl) (by kernel_rfl) (by kernel_rfl) (fun _ _ _ h => h) (by rfl) ?_ (by with_reducible assumption) ?_
                  rotate_left
                  · (intro w hSw; (try dsimp only at hSw); go_simp; (try with_reducible rfl))
                  simp only [Act.put, List.setIfInBounds_toArray, List.set_cons_zero, List.set_cons_succ]
                  refine takeH (i := 28) (d := some 137) (v := ?_) rfl rfl (by kernel_rfl) (by kernel_rfl) (by kernel_rfl) (fun _ _ _ h => h) (by rfl) ?_ (by with_reducible assumption) ?_
                  rotate_left
                  · (intro w hSw; (try dsimp only at hSw); go_simp; (try with_reducible rfl))
                  simp only [Act.put, List.setIfInBounds_toArray, List.set_cons_zero, List.set_cons_succ]
                  refine wpAnyH_ready (rs := [29]) (by kernel_rfl) (by simp) ?_
                  refine AllReadyH.cons rfl (fun K hK => ?_) AllReadyH.nil
                  go_simp
                  refine (hs1 _ hBd).mono ?_
                  rintro e v1 ⟨rfl, hbv1⟩
                  dsimp only
                  have hSv1 := hmk _ hbv1
                  refine hK.out _ _ hSv1 (fun _ => ?_)
                  clear hK K
                  refine takeH (i := 30) (d := some 139) (v := ?_) rfl rfl (by kernel_rfl) (by kernel_rfl) (by kernel_rfl) (fun _ _ _ h => h) (by rfl) ?_ (by with_reducible assumption) ?_
                  rotate_left
                  · (intro w hSw; (try dsimp only at hSw); go_simp; (try with_reducible rfl))
                  simp only [Act.put, List.setIfInBounds_toArray, List.set_cons_zero, List.set_cons_succ]
                  refine takeH (i := 31) (d := some 140) (v := ?_) rfl rfl (by kernel_rfl) (by kernel_rfl) (by kernel_rfl) (fun _ _ _ h => h) (by rfl) ?_ (by with_reducible assumption) ?_
                  rotate_left
                  · (intro w hSw; (try dsimp only at hSw); go_simp; (try with_reducible rfl))
                  simp only [Act.put, List.setIfInBounds_toArray, List.set_cons_zero, List.set_cons_succ]
                  refine takeH (i := 32) (d := some 141) (v := ?_) rfl rfl (by kernel_rfl) (by kernel_rfl) (by kernel_rfl) (fun _ _ _ h => h) (by rfl) ?_ (by with_reducible assumption) ?_
                  rotate_left
                  · (intro w hSw; (try dsimp only at hSw); go_simp; (try with_reducible rfl))
                  simp only [Act.put, List.setIfInBounds_toArray, List.set_cons_zero, List.set_cons_succ]
                  refine takeH (i := 33) (d := some 142) (v := ?_) rfl rfl (by kernel_rfl) (by kernel_rfl) (by kernel_rfl) (fun _ _ _ h => h) (by rfl) ?_ (by with_reducible assumption) ?_
                  rotate_left
                  · (intro w hSw; (try dsimp only at hSw); go_simp; (try with_reducible rfl))
                  simp only [Act.put, List.setIfInBounds_toArray, List.set_cons_zero, List.set_cons_succ]
                  refine takeH (i := 34) (d := some 143) (v := ?_) rfl rfl (by kernel_rfl) (by kernel_rfl) (by kernel_rfl) (fun _ _ _ h => h) (by rfl) ?_ (by with_reducible assumption) ?_
                  rotate_left
                  · (intro w hSw; (try dsimp only at hSw); go_simp; (try with_reducible rfl))
                  simp only [Act.put, List.setIfInBounds_toArray, List.set_cons_zero, List.set_cons_succ]
                  refine takeH (i := 35) (d := some 144) (v := ?_) rfl rfl (by kernel_rfl) (by kernel_rfl) (by kernel_rfl) (fun _ _ _ h => h) (by rfl) ?_ (by with_reducible assumption) ?_
                  rotate_left
                  · (intro w hSw; (try dsimp only at hSw); go_simp; (try with_reducible rfl))
                  simp only [Act.put, List.setIfInBounds_toArray, List.set_cons_zero, List.set_cons_succ]
                  refine wpAnyH_ready (rs := [36]) (by kernel_rfl) (by simp) ?_
                  refine AllReadyH.cons rfl (fun K hK => ?_) AllReadyH.nil
                  go_simp
                  refine (hs2 _ hbv1).mono ?_
                  rintro e v2 ⟨rfl, hbv2⟩
                  dsimp only
                  have hSv2 := hmk _ hbv2
                  refine hK.out _ _ hSv2 (fun _ => ?_)
                  clear hK K
                  refine takeH (i := 37) (d := some 146) (v := ?_) rfl rfl (by kernel_rfl) (by kernel_rfl) (by kernel_rfl) (fun _ _ _ h => h) (by rfl) ?_ (by with_reducible assumption) ?_
                  rotate_left
                  · (intro w hSw; (try dsimp only at hSw); go_simp; (try with_reducible rfl))
                  simp only [Act.put, List.setIfInBounds_toArray, List.set_cons_zero, List.set_cons_succ]
                  refine takeH (i := 38) (d := some 147) (v := ?_) rfl rfl (by kernel_rfl) (by kernel_rfl) (by kernel_rfl) (fun _ _ _ h => h) (by rfl) ?_ (by with_reducible assumption) ?_
                  rotate_left
                  · (intro w hSw; (try dsimp only at hSw); go_simp; (try with_reducible rfl))
                  simp only [Act.put, List.setIfInBounds_toArray, List.set_cons_zero, List.set_cons_succ]
                  refine takeH (i := 39) (d := some 148) (v := ?_) rfl rfl (by kernel_rfl) (by kernel_rfl) (by kernel_rfl) (fun _ _ _ h => h) (by rfl) ?_ (by with_reducible assumption) ?_
                  rotate_left
                  · (intro w hSw; (try dsimp only at hSw); go_simp; (try with_reducible rfl))
                  simp only [Act.put, List.setIfInBounds_toArray, List.set_cons_zero, List.set_cons_succ]
                  refine takeH (i := 40) (d := some 149) (v := ?_) rfl rfl (by kernel_rfl) (by kernel_rfl) (by kernel_rfl) (fun _ _ _ h => h) (by rfl) ?_ (by with_reducible assumption) ?_
                  rotate_left
                  · (intro w hSw; (try dsimp only at hSw); go_simp; (try with_reducible rfl))
                  simp only [Act.put, List.setIfInBounds_toArray, List.set_cons_zero, List.set_cons_succ]
                  refine takeH (i := 41) (d := some 150) (v := ?_) rfl rfl (by kernel_rfl) (by kernel_rfl) (by kernel_rfl) (fun _ _ _ h => h) (by rfl) ?_ (by with_reducible assumption) ?_
                  rotate_left
                  · (intro w hSw; (try dsimp only at hSw); go_simp; (try with_reducible rfl))
                  simp only [Act.put, List.setIfInBounds_toArray, List.set_cons_zero, List.set_cons_succ]
                  refine takeH (i := 42) (d := some 151) (v := ?_) rfl rfl (by kernel_rfl) (by kernel_rfl) (by kernel_rfl) (fun _ _ _ h => h) (by rfl) ?_ (by with_reducible assumption) ?_
                  rotate_left
                  · (intro w hSw; (try dsimp only at hSw); go_simp; (try with_reducible rfl))
                  simp only [Act.put, List.setIfInBounds_toArray, List.set_cons_zero, List.set_cons_succ]
                  refine takeH (i := 43) (d := some 152) (v := ?_) rfl rfl (by kernel_rfl) (by kernel_rfl) (by kernel_rfl) (fun _ _ _ h => h) (by rfl) ?_ (by with_reducible assumption) ?_
                  rotate_left
                  · (intro w hSw; (try dsimp only at hSw); go_simp; (try with_reducible rfl))
                  simp only [Act.put, List.setIfInBounds_toArray, List.set_cons_zero, List.set_cons_succ]
                  refine skipH (i := 44) (d := some 153) rfl rfl (by kernel_rfl) (by kernel_rfl) (by kernel_rfl) (fun _ _ _ h => h) (by rfl) (by with_reducible assumption) ?_
                  simp only [Act.put, List.setIfInBounds_toArray, List.set_cons_zero, List.set_cons_succ]
                  refine skipH (i := 45) (d := some 154) rfl rfl (by kernel_rfl) (by kernel_rfl) (by kernel_rfl) (fun _ _ _ h => h) (by rfl) (by with_reducible assumption) ?_
                  simp only [Act.put, List.setIfInBounds_toArray, List.set_cons_zero, List.set_cons_succ]
                  refine skipH (i := 46) (d := some 155) rfl rfl (by kernel_rfl) (by kernel_rfl) (by kernel_rfl) (fun _ _ _ h => h) (by rfl) (by with_reducible assumption) ?_
                  simp only [Act.put, List.setIfInBounds_toArray, List.set_cons_zero, List.set_cons_succ]
                  refine takeH (i := 47) (d := some 156) (v := ?_) rfl rfl (by kernel_rfl) (by kernel_rfl) (by kernel_rfl) (fun _ _ _ h => h) (by rfl) ?_ (by with_reducible assumption) ?_
                  rotate_left
                  · (intro w hSw; (try dsimp only at hSw); go_simp; (try with_reducible rfl))
                  simp only [Act.put, List.setIfInBounds_toArray, List.set_cons_zero, List.set_cons_succ]
                  refine takeH (i := 48) (d := some 157) (v := ?_) rfl rfl (by kernel_rfl) (by kernel_rfl) (by kernel_rfl) (fun _ _ _ h => h) (by rfl) ?_ (by with_reducible assumption) ?_
                  rotate_left
                  · (intro w hSw; (try dsimp only at hSw); go_simp; (try with_reducible rfl))
                  simp only [Act.put, List.setIfInBounds_toArray, List.set_cons_zero, List.set_cons_succ]
                  refine wpAnyH_done (by kernel_rfl) ?_ _
                  go_wp2_with fail
                  go_meet
                  exact ⟨rfl, hbv2⟩
            · obtain ⟨k', pc0, hkk⟩ := hprev hj00
              obtain ⟨j', hjj⟩ : ∃ j' : Nat, j = j' + 1 := ⟨j - 1, by omega⟩
              have pc : V.cell? ⟨gd, od + j' * 7, none⟩ = some (.int .u32 (k' : Int)) := by
                have := (hBV.cell (p := ⟨gd, od + (j - 1) * 7, none⟩) hgd).trans pc0
                rwa [show j - 1 = j' from by omega] at this
              have hsub : IntKind.i64.wrap ((j : Int) - 1) = (j' : Int) := by rw [IntKind.wrap_i64]; omega
              have hj1 : (j' : Int) < (N : Int) := by omega
              have hj2 : (0 : Int) ≤ (j' : Int) := by omega
              have hgt : (0 : Int) < (j : Int) := by omega
              have hgt2 : decide (0 < j) = true := by simpa using hj00
              have hge : decide (k ≤ k') = false := by simp; omega
              clear hjj pc0 hkk hprev hBV hgd
              have hmk : ∀ X, Below V.heap.size V X → X.cell? ⟨cb, 0, none⟩ = some (.int .u32 (k : Int)) ∧ X.cell? ⟨cb, 1, none⟩ = some (.bool p) ∧ X.cell? ⟨cb, 2, none⟩ = some (.bool q) ∧ X.cell? ⟨cb, 3, none⟩ = some (.int .i64 x1) ∧ X.cell? ⟨cb, 4, none⟩ = some (.int .i64 x2) ∧ X.cell? ⟨cb, 5, none⟩ = some (.int .i64 y1) ∧ X.cell? ⟨cb, 6, none⟩ = some (.int .i64 y2) ∧ X.cell? ⟨vb, 0, none⟩ = some (.int .i64 x1) ∧ X.cell? ⟨vb, 1, none⟩ = some (.int .i64 x2) ∧ X.cell? ⟨wb, 0, none⟩ = some (.int .i64 y1) ∧ X.cell? ⟨wb, 1, none⟩ = some (.int .i64 y2) ∧ X.cell? ⟨gd, od + j' * 7, none⟩ = some (.int .u32 (k' : Int)) ∧ Below V.heap.size V X := fun X hb => ⟨(hb.cell (World.block_lt_of_cell? _ _ s0)).trans s0, (hb.cell (World.block_lt_of_cell? _ _ s1)).trans s1, (hb.cell (World.block_lt_of_cell? _ _ s2)).trans s2, (hb.cell (World.block_lt_of_cell? _ _ s3)).trans s3, (hb.cell (World.block_lt_of_cell? _ _ s4)).trans s4, (hb.cell (World.block_lt_of_cell? _ _ s5)).trans s5, (hb.cell (World.block_lt_of_cell? _ _ s6)).trans s6, (hb.cell (World.block_lt_of_cell? _ _ t0)).trans t0, (hb.cell (World.block_lt_of_cell? _ _ t1)).trans t1, (hb.cell (World.block_lt_of_cell? _ _ u0)).trans u0, (hb.cell (World.block_lt_of_cell? _ _ u1)).trans u1, (hb.cell (World.block_lt_of_cell? _ _ pc)).trans pc, hb⟩
              have hSd := hmk _ hBd
              by_cases hpq : p = q
              · have hs3 := fun X (hb : Below V.heap.size V X) => same_V2 hb x1 x2 y1 y2 false ⟨fun e => (by cases e), fun e => absurd e (hXY.out hpq)⟩
                have hpe : (p == q) = true := by simpa using hpq
                clear hpq
                clear hXY s0 s1 s2 s3 s4 s5 s6 t0 t1 u0 u1
                as_aux_lemma =>
                  refine wp_region_held_drew (S := fun X => X.cell? ⟨cb, 0, none⟩ = some (.int .u32 (k : Int)) ∧ X.cell? ⟨cb, 1, none⟩ = some (.bool p) ∧ X.cell? ⟨cb, 2, none⟩ = some (.bool q) ∧ X.cell? ⟨cb, 3, none⟩ = some (.int .i64 x1) ∧ X.cell? ⟨cb, 4, none⟩ = some (.int .i64 x2) ∧ X.cell? ⟨cb, 5, none⟩ = some (.int .i64 y1) ∧ X.cell? ⟨cb, 6, none⟩ = some (.int .i64 y2) ∧ X.cell? ⟨vb, 0, none⟩ = some (.int .i64 x1) ∧ X.cell? ⟨vb, 1, none⟩ = some (.int .i64 x2) ∧ X.cell? ⟨wb, 0, none⟩ = some (.int .i64 y1) ∧ X.cell? ⟨wb, 1, none⟩ = some (.int .i64 y2) ∧ X.cell? ⟨gd, od + j' * 7, none⟩ = some (.int .u32 (k' : Int)) ∧ Below V.heap.size V X) (by kernel_rfl) hSd (fun hSd2 => ?_)
                  clear hSd2
                  refine takeH (i := 0) (d := some 109) (v := ?_) rfl rfl (by kernel_rfl) (by kernel_rfl) (by kernel_rfl) (fun _ _ _ h => h) (by rfl) ?_ (by with_reducible assumption) ?_
                  rotate_left
                  · (intro w hSw; (try dsimp only at hSw); go_simp; (try with_reducible rfl))
                  simp only [Act.put, List.setIfInBounds_toArray, List.set_cons_zero, List.set_cons_succ]
                  refine takeH (i := 1) (d := some 110) (v := ?_) rfl rfl (by kernel_rfl) (by kernel_rfl) (by kernel_rfl) (fun _ _ _ h => h) (by rfl) ?_ (by with_reducible assumption) ?_
                  rotate_left
                  · (intro w hSw; (try dsimp only at hSw); go_simp; (try with_reducible rfl))
                  simp only [Act.put, List.setIfInBounds_toArray, List.set_cons_zero, List.set_cons_succ]
                  refine takeH (i := 2) (d := some 111) (v := ?_) rfl rfl (by kernel_rfl) (by kernel_rfl) (by kernel_rfl) (fun _ _ _ h => h) (by rfl) ?_ (by with_reducible assumption) ?_
                  rotate_left
                  · (intro w hSw; (try dsimp only at hSw); go_simp; (try with_reducible rfl))
                  simp only [Act.put, List.setIfInBounds_toArray, List.set_cons_zero, List.set_cons_succ]
                  refine takeH (i := 3) (d := some 112) (v := ?_) rfl rfl (by kernel_rfl) (by kernel_rfl) (by kernel_rfl) (fun _ _ _ h => h) (by rfl) ?_ (by with_reducible assumption) ?_
                  rotate_left
                  · (intro w hSw; (try dsimp only at hSw); go_simp; (try with_reducible rfl))
                  simp only [Act.put, List.setIfInBounds_toArray, List.set_cons_zero, List.set_cons_succ]
                  refine takeH (i := 4) (d := some 113) (v := ?_) rfl rfl (by kernel_rfl) (by kernel_rfl) (by kernel_rfl) (fun _ _ _ h => h) (by rfl) ?_ (by with_reducible assumption) ?_
                  rotate_left
                  · (intro w hSw; (try dsimp only at hSw); go_simp; (try with_reducible rfl))
                  simp only [Act.put, List.setIfInBounds_toArray, List.set_cons_zero, List.set_cons_succ]
                  refine takeH (i := 5) (d := some 114) (v := ?_) rfl rfl (by kernel_rfl) (by kernel_rfl) (by kernel_rfl) (fun _ _ _ h => h) (by rfl) ?_ (by with_reducible assumption) ?_
                  rotate_left
                  · (intro w hSw; (try dsimp only at hSw); go_simp; (try with_reducible rfl))
                  simp only [Act.put, List.setIfInBounds_toArray, List.set_cons_zero, List.set_cons_succ]
                  refine takeH (i := 6) (d := some 115) (v := ?_) rfl rfl (by kernel_rfl) (by kernel_rfl) (by kernel_rfl) (fun _ _ _ h => h) (by rfl) ?_ (by with_reducible assumption) ?_
                  rotate_left
                  · (intro w hSw; (try dsimp only at hSw); go_simp; (try with_reducible rfl))
                  simp only [Act.put, List.setIfInBounds_toArray, List.set_cons_zero, List.set_cons_succ]
                  refine takeH (i := 7) (d := some 116) (v := ?_) rfl rfl (by kernel_rfl) (by kernel_rfl) (by kernel_rfl) (fun _ _ _ h => h) (by rfl) ?_ (by with_reducible assumption) ?_
                  rotate_left
                  · (intro w hSw; (try dsimp only at hSw); go_simp; (try with_reducible rfl))
                  simp only [Act.put, List.setIfInBounds_toArray, List.set_cons_zero, List.set_cons_succ]
                  refine takeH (i := 8) (d := some 117) (v := ?_) rfl rfl (by kernel_rfl) (by kernel_rfl) (by kernel_rfl) (fun _ _ _ h => h) (by rfl) ?_ (by with_reducible assumption) ?_
                  rotate_left
                  · (intro w hSw; (try dsimp only at hSw); go_simp; (try with_reducible rfl))
                  simp only [Act.put, List.setIfInBounds_toArray, List.set_cons_zero, List.set_cons_succ]
                  refine takeH (i := 9) (d := some 118) (v := ?_) rfl rfl (by kernel_rfl) (by kernel_rfl) (by kernel_rfl) (fun _ _ _ h => h) (by rfl) ?_ (by with_reducible assumption) ?_
                  rotate_left
                  · (intro w hSw; (try dsimp only at hSw); go_simp; (try with_reducible rfl))
                  simp only [Act.put, List.setIfInBounds_toArray, List.set_cons_zero, List.set_cons_succ]
                  refine takeH (i := 10) (d := some 119) (v := ?_) rfl rfl (by kernel_rfl) (by kernel_rfl) (by kernel_rfl) (fun _ _ _ h => h) (by rfl) ?_ (by with_reducible assumption) ?_
                  rotate_left
                  · (intro w hSw; (try dsimp only at hSw); go_simp; (try with_reducible rfl))
                  simp only [Act.put, List.setIfInBounds_toArray, List.set_cons_zero, List.set_cons_succ]
                  refine takeH (i := 11) (d := some 120) (v := ?_) rfl rfl (by kernel_rfl) (by kernel_rfl) (by kernel_rfl) (fun _ _ _ h => h) (by rfl) ?_ (by with_reducible assumption) ?_
                  rotate_left
                  · (intro w hSw; (try dsimp only at hSw); go_simp; (try with_reducible rfl))
                  simp only [Act.put, List.setIfInBounds_toArray, List.set_cons_zero, List.set_cons_succ]
                  refine takeH (i := 12) (d := some 121) (v := ?_) rfl rfl (by kernel_rfl) (by kernel_rfl) (by kernel_rfl) (fun _ _ _ h => h) (by rfl) ?_ (by with_reducible assumption) ?_
                  rotate_left
                  · (intro w hSw; (try dsimp only at hSw); go_simp; (try with_reducible rfl))
                  simp only [Act.put, List.setIfInBounds_toArray, List.set_cons_zero, List.set_cons_succ]
                  refine takeH (i := 13) (d := some 122) (v := ?_) rfl rfl (by kernel_rfl) (by kernel_rfl) (by kernel_rfl) (fun _ _ _ h => h) (by rfl) ?_ (by with_reducible assumption) ?_
                  rotate_left
                  · (intro w hSw; (try dsimp only at hSw); go_simp; (try with_reducible rfl))
                  simp only [Act.put, List.setIfInBounds_toArray, List.set_cons_zero, List.set_cons_succ]
                  refine takeH (i := 14) (d := some 123) (v := ?_) rfl rfl (by kernel_rfl) (by kernel_rfl) (by kernel_rfl) (fun _ _ _ h => h) (by rfl) ?_ (by with_reducible assumption) ?_
                  rotate_left
                  · (intro w hSw; (try dsimp only at hSw); go_simp; (try with_reducible rfl))
                  simp only [Act.put, List.setIfInBounds_toArray, List.set_cons_zero, List.set_cons_succ]
                  refine takeH (i := 15) (d := some 124) (v := ?_) rfl rfl (by kernel_rfl) (by kernel_rfl) (by kernel_rfl) (fun _ _ _ h => h) (by rfl) ?_ (by with_reducible assumption) ?_
                  rotate_left
                  · (intro w hSw; (try dsimp only at hSw); go_simp; (try with_reducible rfl))
                  simp only [Act.put, List.setIfInBounds_toArray, List.set_cons_zero, List.set_cons_succ]
                  refine takeH (i := 16) (d := some 125) (v := ?_) rfl rfl (by kernel_rfl) (by kernel_rfl) (by kernel_rfl) (fun _ _ _ h => h) (by rfl) ?_ (by with_reducible assumption) ?_
                  rotate_left
                  · (intro w hSw; (try dsimp only at hSw); go_simp; (try with_reducible rfl))
                  simp only [Act.put, List.setIfInBounds_toArray, List.set_cons_zero, List.set_cons_succ]
                  refine takeH (i := 17) (d := some 126) (v := ?_) rfl rfl (by kernel_rfl) (by kernel_rfl) (by kernel_rfl) (fun _ _ _ h => h) (by rfl) ?_ (by with_reducible assumption) ?_
                  rotate_left
                  · (intro w hSw; (try dsimp only at hSw); go_simp; (try with_reducible rfl))
                  simp only [Act.put, List.setIfInBounds_toArray, List.set_cons_zero, List.set_cons_succ]
                  refine takeH (i := 18) (d := some 127) (v := ?_) rfl rfl (by kernel_rfl) (by kernel_rfl) (by kernel_rfl) (fun _ _ _ h => h) (by rfl) ?_ (by with_reducible assumption) ?_
                  rotate_left
                  · (intro w hSw; (try dsimp only at hSw); go_simp; (try with_reducible rfl))
                  simp only [Act.put, List.setIfInBounds_toArray, List.set_cons_zero, List.set_cons_succ]
                  refine takeH (i := 19) (d := some 128) (v := ?_) rfl rfl (by kernel_rfl) (by kernel_rfl) (by kernel_rfl) (fun _ _ _ h => h) (by rfl) ?_ (by with_reducible assumption) ?_
                  rotate_left
                  · (intro w hSw; (try dsimp only at hSw); go_simp; (try with_reducible rfl))
                  simp only [Act.put, List.setIfInBounds_toArray, List.set_cons_zero, List.set_cons_succ]
                  refine takeH (i := 20) (d := some 129) (v := ?_) rfl rfl (by kernel_rfl) (by kernel_rfl) (by kernel_rfl) (fun _ _ _ h => h) (by rfl) ?_ (by with_reducible assumption) ?_
                  rotate_left
                  · (intro w hSw; (try dsimp only at hSw); go_simp; (try with_reducible rfl))
                  simp only [Act.put, List.setIfInBounds_toArray, List.set_cons_zero, List.set_cons_succ]
                  refine takeH (i := 21) (d := some 130) (v := ?_) rfl rfl (by kernel_rfl) (by kernel_rfl) (by kernel_rfl) (fun _ _ _ h => h) (by rfl) ?_ (by with_reducible assumption) ?_
                  rotate_left
                  · (intro w hSw; (try dsimp only at hSw); go_simp; (try with_reducible rfl))
                  simp only [Act.put, List.setIfInBounds_toArray, List.set_cons_zero, List.set_cons_succ]
                  refine takeH (i := 22) (d := some 131) (v := ?_) rfl rfl (by kernel_rfl) (by kernel_rfl) (by kernel_rfl) (fun _ _ _ h => h) (by rfl) ?_ (by with_reducible assumption) ?_
                  rotate_left
                  · (intro w hSw; (try dsimp only at hSw); go_simp; (try with_reducible rfl))
                  simp only [Act.put, List.setIfInBounds_toArray, List.set_cons_zero, List.set_cons_succ]
                  refine takeH (i := 23) (d := some 132) (v := ?_) rfl rfl (by kernel_rfl) (by kernel_rfl) (by kernel_rfl) (fun _ _ _ h => h) (by rfl) ?_ (by with_reducible assumption) ?_
                  rotate_left
                  · (intro w hSw; (try dsimp only at hSw); go_simp; (try with_reducible rfl))
                  simp only [Act.put, List.setIfInBounds_toArray, List.set_cons_zero, List.set_cons_succ]
                  refine takeH (i := 24) (d := some 133) (v := ?_) rfl rfl (by kernel_rfl) (by kernel_rfl) (by kernel_rfl) (fun _ _ _ h => h) (by rfl) ?_ (by with_reducible assumption) ?_
                  rotate_left
                  · (intro w hSw; (try dsimp only at hSw); go_simp; (try with_reducible rfl))
                  simp only [Act.put, List.setIfInBounds_toArray, List.set_cons_zero, List.set_cons_succ]
                  refine takeH (i := 25) (d := some 134) (v := ?_) rfl rfl (by kernel_rfl) (by kernel_rfl) (by kernel_rfl) (fun _ _ _ h => h) (by rfl) ?_ (by with_reducible assumption) ?_
                  rotate_left
                  · (intro w hSw; (try dsimp only at hSw); go_simp; (try with_reducible rfl))
                  simp only [Act.put, List.setIfInBounds_toArray, List.set_cons_zero, List.set_cons_succ]
                  refine takeH (i := 26) (d := some 135) (v := ?_) rfl rfl (by kernel_rfl) (by kernel_rfl) (by kernel_rfl) (fun _ _ _ h => h) (by rfl) ?_ (by with_reducible assumption) ?_
                  rotate_left
                  · (intro w hSw; (try dsimp only at hSw); go_simp; (try with_reducible rfl))
                  simp only [Act.put, List.setIfInBounds_toArray, List.set_cons_zero, List.set_cons_succ]
                  refine takeH (i := 27) (d := some 136) (v := ?_) rfl rfl (by kernel_rfl) (by kernel_rfl) (by kernel_rfl) (fun _ _ _ h => h) (by rfl) ?_ (by with_reducible assumption) ?_
                  rotate_left
                  · (intro w hSw; (try dsimp only at hSw); go_simp; (try with_reducible rfl))
                  simp only [Act.put, List.setIfInBounds_toArray, List.set_cons_zero, List.set_cons_succ]
                  refine takeH (i := 28) (d := some 137) (v := ?_) rfl rfl (by kernel_rfl) (by kernel_rfl) (by kernel_rfl) (fun _ _ _ h => h) (by rfl) ?_ (by with_reducible assumption) ?_
                  rotate_left
                  · (intro w hSw; (try dsimp only at hSw); go_simp; (try with_reducible rfl))
                  simp only [Act.put, List.setIfInBounds_toArray, List.set_cons_zero, List.set_cons_succ]
                  refine wpAnyH_ready (rs := [29]) (by kernel_rfl) (by simp) ?_
                  refine AllReadyH.cons rfl (fun K hK => ?_) AllReadyH.nil
                  go_simp
                  refine (hs1 _ hBd).mono ?_
                  rintro e v1 ⟨rfl, hbv1⟩
                  dsimp only
                  have hSv1 := hmk _ hbv1
                  refine hK.out _ _ hSv1 (fun _ => ?_)
                  clear hK K
                  refine takeH (i := 30) (d := some 139) (v := ?_) rfl rfl (by kernel_rfl) (by kernel_rfl) (by kernel_rfl) (fun _ _ _ h => h) (by rfl) ?_ (by with_reducible assumption) ?_
                  rotate_left
                  · (intro w hSw; (try dsimp only at hSw); go_simp; (try with_reducible rfl))
                  simp only [Act.put, List.setIfInBounds_toArray, List.set_cons_zero, List.set_cons_succ]
                  refine takeH (i := 31) (d := some 140) (v := ?_) rfl rfl (by kernel_rfl) (by kernel_rfl) (by kernel_rfl) (fun _ _ _ h => h) (by rfl) ?_ (by with_reducible assumption) ?_
                  rotate_left
                  · (intro w hSw; (try dsimp only at hSw); go_simp; (try with_reducible rfl))
                  simp only [Act.put, List.setIfInBounds_toArray, List.set_cons_zero, List.set_cons_succ]
                  refine takeH (i := 32) (d := some 141) (v := ?_) rfl rfl (by kernel_rfl) (by kernel_rfl) (by kernel_rfl) (fun _ _ _ h => h) (by rfl) ?_ (by with_reducible assumption) ?_
                  rotate_left
                  · (intro w hSw; (try dsimp only at hSw); go_simp; (try with_reducible rfl))
                  simp only [Act.put, List.setIfInBounds_toArray, List.set_cons_zero, List.set_cons_succ]
                  refine takeH (i := 33) (d := some 142) (v := ?_) rfl rfl (by kernel_rfl) (by kernel_rfl) (by kernel_rfl) (fun _ _ _ h => h) (by rfl) ?_ (by with_reducible assumption) ?_
                  rotate_left
                  · (intro w hSw; (try dsimp only at hSw); go_simp; (try with_reducible rfl))
                  simp only [Act.put, List.setIfInBounds_toArray, List.set_cons_zero, List.set_cons_succ]
                  refine takeH (i := 34) (d := some 143) (v := ?_) rfl rfl (by kernel_rfl) (by kernel_rfl) (by kernel_rfl) (fun _ _ _ h => h) (by rfl) ?_ (by with_reducible assumption) ?_
                  rotate_left
                  · (intro w hSw; (try dsimp only at hSw); go_simp; (try with_reducible rfl))
                  simp only [Act.put, List.setIfInBounds_toArray, List.set_cons_zero, List.set_cons_succ]
                  refine takeH (i := 35) (d := some 144) (v := ?_) rfl rfl (by kernel_rfl) (by kernel_rfl) (by kernel_rfl) (fun _ _ _ h => h) (by rfl) ?_ (by with_reducible assumption) ?_
                  rotate_left
                  · (intro w hSw; (try dsimp only at hSw); go_simp; (try with_reducible rfl))
                  simp only [Act.put, List.setIfInBounds_toArray, List.set_cons_zero, List.set_cons_succ]
                  refine wpAnyH_ready (rs := [36]) (by kernel_rfl) (by simp) ?_
                  refine AllReadyH.cons rfl (fun K hK => ?_) AllReadyH.nil
                  go_simp
                  refine (hs2 _ hbv1).mono ?_
                  rintro e v2 ⟨rfl, hbv2⟩
                  dsimp only
                  have hSv2 := hmk _ hbv2
                  refine hK.out _ _ hSv2 (fun _ => ?_)
                  clear hK K
                  refine takeH (i := 37) (d := some 146) (v := ?_) rfl rfl (by kernel_rfl) (by kernel_rfl) (by kernel_rfl) (fun _ _ _ h => h) (by rfl) ?_ (by with_reducible assumption) ?_
                  rotate_left
                  · (intro w hSw; (try dsimp only at hSw); go_simp; (try with_reducible rfl))
                  simp only [Act.put, List.setIfInBounds_toArray, List.set_cons_zero, List.set_cons_succ]
                  refine takeH (i := 38) (d := some 147) (v := ?_) rfl rfl (by kernel_rfl) (by kernel_rfl) (by kernel_rfl) (fun _ _ _ h => h) (by rfl) ?_ (by with_reducible assumption) ?_
                  rotate_left
                  · (intro w hSw; (try dsimp only at hSw); go_simp; (try with_reducible rfl))
                  simp only [Act.put, List.setIfInBounds_toArray, List.set_cons_zero, List.set_cons_succ]
                  refine takeH (i := 39) (d := some 148) (v := ?_) rfl rfl (by kernel_rfl) (by kernel_rfl) (by kernel_rfl) (fun _ _ _ h => h) (by rfl) ?_ (by with_reducible assumption) ?_
                  rotate_left
                  · (intro w hSw; (try dsimp only at hSw); go_simp; (try with_reducible rfl))
                  simp only [Act.put, List.setIfInBounds_toArray, List.set_cons_zero, List.set_cons_succ]
                  refine takeH (i := 40) (d := some 149) (v := ?_) rfl rfl (by kernel_rfl) (by kernel_rfl) (by kernel_rfl) (fun _ _ _ h => h) (by rfl) ?_ (by with_reducible assumption) ?_
                  rotate_left
                  · (intro w hSw; (try dsimp only at hSw); go_simp; (try with_reducible rfl))
                  simp only [Act.put, List.setIfInBounds_toArray, List.set_cons_zero, List.set_cons_succ]
                  refine takeH (i := 41) (d := some 150) (v := ?_) rfl rfl (by kernel_rfl) (by kernel_rfl) (by kernel_rfl) (fun _ _ _ h => h) (by rfl) ?_ (by with_reducible assumption) ?_
                  rotate_left
                  · (intro w hSw; (try dsimp only at hSw); go_simp; (try with_reducible rfl))
                  simp only [Act.put, List.setIfInBounds_toArray, List.set_cons_zero, List.set_cons_succ]
                  refine takeH (i := 42) (d := some 151) (v := ?_) rfl rfl (by kernel_rfl) (by kernel_rfl) (by kernel_rfl) (fun _ _ _ h => h) (by rfl) ?_ (by with_reducible assumption) ?_
                  rotate_left
                  · (intro w hSw; (try dsimp only at hSw); go_simp; (try with_reducible rfl))
                  simp only [Act.put, List.setIfInBounds_toArray, List.set_cons_zero, List.set_cons_succ]
                  refine takeH (i := 43) (d := some 152) (v := ?_) rfl rfl (by kernel_rfl) (by kernel_rfl) (by kernel_rfl) (fun _ _ _ h => h) (by rfl) ?_ (by with_reducible assumption) ?_
                  rotate_left
                  · (intro w hSw; (try dsimp only at hSw); go_simp; (try with_reducible rfl))
                  simp only [Act.put, List.setIfInBounds_toArray, List.set_cons_zero, List.set_cons_succ]
                  refine takeH (i := 44) (d := some 153) (v := ?_) rfl rfl (by kernel_rfl) (by kernel_rfl) (by kernel_rfl) (fun _ _ _ h => h) (by rfl) ?_ (by with_reducible assumption) ?_
                  rotate_left
                  · (intro w hSw; (try dsimp only at hSw); go_simp; (try with_reducible rfl))
                  simp only [Act.put, List.setIfInBounds_toArray, List.set_cons_zero, List.set_cons_succ]
                  refine takeH (i := 45) (d := some 154) (v := ?_) rfl rfl (by kernel_rfl) (by kernel_rfl) (by kernel_rfl) (fun _ _ _ h => h) (by rfl) ?_ (by with_reducible assumption) ?_
                  rotate_left
                  · (intro w hSw; (try dsimp only at hSw); go_simp; (try with_reducible rfl))
                  simp only [Act.put, List.setIfInBounds_toArray, List.set_cons_zero, List.set_cons_succ]
                  refine wpAnyH_ready (rs := [46]) (by kernel_rfl) (by simp) ?_
                  refine AllReadyH.cons rfl (fun K hK => ?_) AllReadyH.nil
                  go_simp
                  refine (hs3 _ hbv2).mono ?_
                  rintro e v3 ⟨rfl, hbv3⟩
                  dsimp only
                  have hSv3 := hmk _ hbv3
                  refine hK.out _ _ hSv3 (fun _ => ?_)
                  clear hK K
                  refine takeH (i := 47) (d := some 156) (v := ?_) rfl rfl (by kernel_rfl) (by kernel_rfl) (by kernel_rfl) (fun _ _ _ h => h) (by rfl) ?_ (by with_reducible assumption) ?_
                  rotate_left
                  · (intro w hSw; (try dsimp only at hSw); go_simp; (try with_reducible rfl))
                  simp only [Act.put, List.setIfInBounds_toArray, List.set_cons_zero, List.set_cons_succ]
                  refine takeH (i := 48) (d := some 157) (v := ?_) rfl rfl (by kernel_rfl) (by kernel_rfl) (by kernel_rfl) (fun _ _ _ h => h) (by rfl) ?_ (by with_reducible assumption) ?_
                  rotate_left
                  · (intro w hSw; (try dsimp only at hSw); go_simp; (try with_reducible rfl))
                  simp only [Act.put, List.setIfInBounds_toArray, List.set_cons_zero, List.set_cons_succ]
                  refine wpAnyH_done (by kernel_rfl) ?_ _
                  go_wp2_with fail
                  go_meet
                  exact ⟨rfl, hbv3⟩
              · have hpe : (p == q) = false := by simpa using hpq
                clear hpq
                clear hXY s0 s1 s2 s3 s4 s5 s6 t0 t1 u0 u1
                as_aux_lemma =>
                  refine wp_region_held_drew (S := fun X => X.cell? ⟨cb, 0, none⟩ = some (.int .u32 (k : Int)) ∧ X.cell? ⟨cb, 1, none⟩ = some (.bool p) ∧ X.cell? ⟨cb, 2, none⟩ = some (.bool q) ∧ X.cell? ⟨cb, 3, none⟩ = some (.int .i64 x1) ∧ X.cell? ⟨cb, 4, none⟩ = some (.int .i64 x2) ∧ X.cell? ⟨cb, 5, none⟩ = some (.int .i64 y1) ∧ X.cell? ⟨cb, 6, none⟩ = some (.int .i64 y2) ∧ X.cell? ⟨vb, 0, none⟩ = some (.int .i64 x1) ∧ X.cell? ⟨vb, 1, none⟩ = some (.int .i64 x2) ∧ X.cell? ⟨wb, 0, none⟩ = some (.int .i64 y1) ∧ X.cell? ⟨wb, 1, none⟩ = some (.int .i64 y2) ∧ X.cell? ⟨gd, od + j' * 7, none⟩ = some (.int .u32 (k' : Int)) ∧ Below V.heap.size V X) (by kernel_rfl) hSd (fun hSd2 => ?_)
                  clear hSd2
                  refine takeH (i := 0) (d := some 109) (v := ?_) rfl rfl (by kernel_rfl) (by kernel_rfl) (by kernel_rfl) (fun _ _ _ h => h) (by rfl) ?_ (by with_reducible assumption) ?_
                  rotate_left
                  · (intro w hSw; (try dsimp only at hSw); go_simp; (try with_reducible rfl))
                  simp only [Act.put, List.setIfInBounds_toArray, List.set_cons_zero, List.set_cons_succ]
                  refine takeH (i := 1) (d := some 110) (v := ?_) rfl rfl (by kernel_rfl) (by kernel_rfl) (by kernel_rfl) (fun _ _ _ h => h) (by rfl) ?_ (by with_reducible assumption) ?_
                  rotate_left
                  · (intro w hSw; (try dsimp only at hSw); go_simp; (try with_reducible rfl))
                  simp only [Act.put, List.setIfInBounds_toArray, List.set_cons_zero, List.set_cons_succ]
                  refine takeH (i := 2) (d := some 111) (v := ?_) rfl rfl (by kernel_rfl) (by kernel_rfl) (by kernel_rfl) (fun _ _ _ h => h) (by rfl) ?_ (by with_reducible assumption) ?_
                  rotate_left
                  · (intro w hSw; (try dsimp only at hSw); go_simp; (try with_reducible rfl))
                  simp only [Act.put, List.setIfInBounds_toArray, List.set_cons_zero, List.set_cons_succ]
                  refine takeH (i := 3) (d := some 112) (v := ?_) rfl rfl (by kernel_rfl) (by kernel_rfl) (by kernel_rfl) (fun _ _ _ h => h) (by rfl) ?_ (by with_reducible assumption) ?_
                  rotate_left
                  · (intro w hSw; (try dsimp only at hSw); go_simp; (try with_reducible rfl))
                  simp only [Act.put, List.setIfInBounds_toArray, List.set_cons_zero, List.set_cons_succ]
                  refine takeH (i := 4) (d := some 113) (v := ?_) rfl rfl (by kernel_rfl) (by kernel_rfl) (by kernel_rfl) (fun _ _ _ h => h) (by rfl) ?_ (by with_reducible assumption) ?_
                  rotate_left
                  · (intro w hSw; (try dsimp only at hSw); go_simp; (try with_reducible rfl))
                  simp only [Act.put, List.setIfInBounds_toArray, List.set_cons_zero, List.set_cons_succ]
                  refine takeH (i := 5) (d := some 114) (v := ?_) rfl rfl (by kernel_rfl) (by kernel_rfl) (by kernel_rfl) (fun _ _ _ h => h) (by rfl) ?_ (by with_reducible assumption) ?_
                  rotate_left
                  · (intro w hSw; (try dsimp only at hSw); go_simp; (try with_reducible rfl))
                  simp only [Act.put, List.setIfInBounds_toArray, List.set_cons_zero, List.set_cons_succ]
                  refine takeH (i := 6) (d := some 115) (v := ?_) rfl rfl (by kernel_rfl) (by kernel_rfl) (by kernel_rfl) (fun _ _ _ h => h) (by rfl) ?_ (by with_reducible assumption) ?_
                  rotate_left
                  · (intro w hSw; (try dsimp only at hSw); go_simp; (try with_reducible rfl))
                  simp only [Act.put, List.setIfInBounds_toArray, List.set_cons_zero, List.set_cons_succ]
                  refine takeH (i := 7) (d := some 116) (v := ?_) rfl rfl (by kernel_rfl) (by kernel_rfl) (by kernel_rfl) (fun _ _ _ h => h) (by rfl) ?_ (by with_reducible assumption) ?_
                  rotate_left
                  · (intro w hSw; (try dsimp only at hSw); go_simp; (try with_reducible rfl))
                  simp only [Act.put, List.setIfInBounds_toArray, List.set_cons_zero, List.set_cons_succ]
                  refine takeH (i := 8) (d := some 117) (v := ?_) rfl rfl (by kernel_rfl) (by kernel_rfl) (by kernel_rfl) (fun _ _ _ h => h) (by rfl) ?_ (by with_reducible assumption) ?_
                  rotate_left
                  · (intro w hSw; (try dsimp only at hSw); go_simp; (try with_reducible rfl))
                  simp only [Act.put, List.setIfInBounds_toArray, List.set_cons_zero, List.set_cons_succ]
                  refine takeH (i := 9) (d := some 118) (v := ?_) rfl rfl (by kernel_rfl) (by kernel_rfl) (by kernel_rfl) (fun _ _ _ h => h) (by rfl) ?_ (by with_reducible assumption) ?_
                  rotate_left
                  · (intro w hSw; (try dsimp only at hSw); go_simp; (try with_reducible rfl))
                  simp only [Act.put, List.setIfInBounds_toArray, List.set_cons_zero, List.set_cons_succ]
                  refine takeH (i := 10) (d := some 119) (v := ?_) rfl rfl (by kernel_rfl) (by kernel_rfl) (by kernel_rfl) (fun _ _ _ h => h) (by rfl) ?_ (by with_reducible assumption) ?_
                  rotate_left
                  · (intro w hSw; (try dsimp only at hSw); go_simp; (try with_reducible rfl))
                  simp only [Act.put, List.setIfInBounds_toArray, List.set_cons_zero, List.set_cons_succ]
                  refine takeH (i := 11) (d := some 120) (v := ?_) rfl rfl (by kernel_rfl) (by kernel_rfl) (by kernel_rfl) (fun _ _ _ h => h) (by rfl) ?_ (by with_reducible assumption) ?_
                  rotate_left
                  · (intro w hSw; (try dsimp only at hSw); go_simp; (try with_reducible rfl))
                  simp only [Act.put, List.setIfInBounds_toArray, List.set_cons_zero, List.set_cons_succ]
                  refine takeH (i := 12) (d := some 121) (v := ?_) rfl rfl (by kernel_rfl) (by kernel_rfl) (by kernel_rfl) (fun _ _ _ h => h) (by rfl) ?_ (by with_reducible assumption) ?_
                  rotate_left
                  · (intro w hSw; (try dsimp only at hSw); go_simp; (try with_reducible rfl))
                  simp only [Act.put, List.setIfInBounds_toArray, List.set_cons_zero, List.set_cons_succ]
                  refine takeH (i := 13) (d := some 122) (v := ?_) rfl rfl (by kernel_rfl) (by kernel_rfl) (by kernel_rfl) (fun _ _ _ h => h) (by rfl) ?_ (by with_reducible assumption) ?_
                  rotate_left
                  · (intro w hSw; (try dsimp only at hSw); go_simp; (try with_reducible rfl))
                  simp only [Act.put, List.setIfInBounds_toArray, List.set_cons_zero, List.set_cons_succ]
                  refine takeH (i := 14) (d := some 123) (v := ?_) rfl rfl (by kernel_rfl) (by kernel_rfl) (by kernel_rfl) (fun _ _ _ h => h) (by rfl) ?_ (by with_reducible assumption) ?_
                  rotate_left
                  · (intro w hSw; (try dsimp only at hSw); go_simp; (try with_reducible rfl))
                  simp only [Act.put, List.setIfInBounds_toArray, List.set_cons_zero, List.set_cons_succ]
                  refine takeH (i := 15) (d := some 124) (v := ?_) rfl rfl (by kernel_rfl) (by kernel_rfl) (by kernel_rfl) (fun _ _ _ h => h) (by rfl) ?_ (by with_reducible assumption) ?_
                  rotate_left
                  · (intro w hSw; (try dsimp only at hSw); go_simp; (try with_reducible rfl))
                  simp only [Act.put, List.setIfInBounds_toArray, List.set_cons_zero, List.set_cons_succ]
                  refine takeH (i := 16) (d := some 125) (v := ?_) rfl rfl (by kernel_rfl) (by kernel_rfl) (by kernel_rfl) (fun _ _ _ h => h) (by rfl) ?_ (by with_reducible assumption) ?_
                  rotate_left
                  · (intro w hSw; (try dsimp only at hSw); go_simp; (try with_reducible rfl))
                  simp only [Act.put, List.setIfInBounds_toArray, List.set_cons_zero, List.set_cons_succ]
                  refine takeH (i := 17) (d := some 126) (v := ?_) rfl rfl (by kernel_rfl) (by kernel_rfl) (by kernel_rfl) (fun _ _ _ h => h) (by rfl) ?_ (by with_reducible assumption) ?_
                  rotate_left
                  · (intro w hSw; (try dsimp only at hSw); go_simp; (try with_reducible rfl))
                  simp only [Act.put, List.setIfInBounds_toArray, List.set_cons_zero, List.set_cons_succ]
                  refine takeH (i := 18) (d := some 127) (v := ?_) rfl rfl (by kernel_rfl) (by kernel_rfl) (by kernel_rfl) (fun _ _ _ h => h) (by rfl) ?_ (by with_reducible assumption) ?_
                  rotate_left
                  · (intro w hSw; (try dsimp only at hSw); go_simp; (try with_reducible rfl))
                  simp only [Act.put, List.setIfInBounds_toArray, List.set_cons_zero, List.set_cons_succ]
                  refine takeH (i := 19) (d := some 128) (v := ?_) rfl rfl (by kernel_rfl) (by kernel_rfl) (by kernel_rfl) (fun _ _ _ h => h) (by rfl) ?_ (by with_reducible assumption) ?_
                  rotate_left
                  · (intro w hSw; (try dsimp only at hSw); go_simp; (try with_reducible rfl))
                  simp only [Act.put, List.setIfInBounds_toArray, List.set_cons_zero, List.set_cons_succ]
                  refine takeH (i := 20) (d := some 129) (v := ?_) rfl rfl (by kernel_rfl) (by kernel_rfl) (by kernel_rfl) (fun _ _ _ h => h) (by rfl) ?_ (by with_reducible assumption) ?_
                  rotate_left
                  · (intro w hSw; (try dsimp only at hSw); go_simp; (try with_reducible rfl))
                  simp only [Act.put, List.setIfInBounds_toArray, List.set_cons_zero, List.set_cons_succ]
                  refine takeH (i := 21) (d := some 130) (v := ?_) rfl rfl (by kernel_rfl) (by kernel_rfl) (by kernel_rfl) (fun _ _ _ h => h) (by rfl) ?_ (by with_reducible assumption) ?_
                  rotate_left
                  · (intro w hSw; (try dsimp only at hSw); go_simp; (try with_reducible rfl))
                  simp only [Act.put, List.setIfInBounds_toArray, List.set_cons_zero, List.set_cons_succ]
                  refine takeH (i := 22) (d := some 131) (v := ?_) rfl rfl (by kernel_rfl) (by kernel_rfl) (by kernel_rfl) (fun _ _ _ h => h) (by rfl) ?_ (by with_reducible assumption) ?_
                  rotate_left
                  · (intro w hSw; (try dsimp only at hSw); go_simp; (try with_reducible rfl))
                  simp only [Act.put, List.setIfInBounds_toArray, List.set_cons_zero, List.set_cons_succ]
                  refine takeH (i := 23) (d := some 132) (v := ?_) rfl rfl (by kernel_rfl) (by kernel_rfl) (by kernel_rfl) (fun _ _ _ h => h) (by rfl) ?_ (by with_reducible assumption) ?_
                  rotate_left
                  · (intro w hSw; (try dsimp only at hSw); go_simp; (try with_reducible rfl))
                  simp only [Act.put, List.setIfInBounds_toArray, List.set_cons_zero, List.set_cons_succ]
                  refine takeH (i := 24) (d := some 133) (v := ?_) rfl rfl (by kernel_rfl) (by kernel_rfl) (by kernel_rfl) (fun _ _ _ h => h) (by rfl) ?_ (by with_reducible assumption) ?_
                  rotate_left
                  · (intro w hSw; (try dsimp only at hSw); go_simp; (try with_reducible rfl))
                  simp only [Act.put, List.setIfInBounds_toArray, List.set_cons_zero, List.set_cons_succ]
                  refine takeH (i := 25) (d := some 134) (v := ?_) rfl rfl (by kernel_rfl) (by kernel_rfl) (by kernel_rfl) (fun _ _ _ h => h) (by rfl) ?_ (by with_reducible assumption) ?_
                  rotate_left
                  · (intro w hSw; (try dsimp only at hSw); go_simp; (try with_reducible rfl))
                  simp only [Act.put, List.setIfInBounds_toArray, List.set_cons_zero, List.set_cons_succ]
                  refine takeH (i := 26) (d := some 135) (v := ?_) rfl rfl (by kernel_rfl) (by kernel_rfl) (by kernel_rfl) (fun _ _ _ h => h) (by rfl) ?_ (by with_reducible assumption) ?_
                  rotate_left
                  · (intro w hSw; (try dsimp only at hSw); go_simp; (try with_reducible rfl))
                  simp only [Act.put, List.setIfInBounds_toArray, List.set_cons_zero, List.set_cons_succ]
                  refine takeH (i := 27) (d := some 136) (v := ?_) rfl rfl (by kernel_rfl) (by kernel_rfl) (by kernel_rfl) (fun _ _ _ h => h) (by rfl) ?_ (by with_reducible assumption) ?_
                  rotate_left
                  · (intro w hSw; (try dsimp only at hSw); go_simp; (try with_reducible rfl))
                  simp only [Act.put, List.setIfInBounds_toArray, List.set_cons_zero, List.set_cons_succ]
                  refine takeH (i := 28) (d := some 137) (v := ?_) rfl rfl (by kernel_rfl) (by kernel_rfl) (by kernel_rfl) (fun _ _ _ h => h) (by rfl) ?_ (by with_reducible assumption) ?_
                  rotate_left
                  · (intro w hSw; (try dsimp only at hSw); go_simp; (try with_reducible rfl))
                  simp only [Act.put, List.setIfInBounds_toArray, List.set_cons_zero, List.set_cons_succ]
                  refine wpAnyH_ready (rs := [29]) (by kernel_rfl) (by simp) ?_
                  refine AllReadyH.cons rfl (fun K hK => ?_) AllReadyH.nil
                  go_simp
                  refine (hs1 _ hBd).mono ?_
                  rintro e v1 ⟨rfl, hbv1⟩
                  dsimp only
                  have hSv1 := hmk _ hbv1
                  refine hK.out _ _ hSv1 (fun _ => ?_)
                  clear hK K
                  refine takeH (i := 30) (d := some 139) (v := ?_) rfl rfl (by kernel_rfl) (by kernel_rfl) (by kernel_rfl) (fun _ _ _ h => h) (by rfl) ?_ (by with_reducible assumption) ?_
                  rotate_left
                  · (intro w hSw; (try dsimp only at hSw); go_simp; (try with_reducible rfl))
                  simp only [Act.put, List.setIfInBounds_toArray, List.set_cons_zero, List.set_cons_succ]
                  refine takeH (i := 31) (d := some 140) (v := ?_) rfl rfl (by kernel_rfl) (by kernel_rfl) (by kernel_rfl) (fun _ _ _ h => h) (by rfl) ?_ (by with_reducible assumption) ?_
                  rotate_left
                  · (intro w hSw; (try dsimp only at hSw); go_simp; (try with_reducible rfl))
                  simp only [Act.put, List.setIfInBounds_toArray, List.set_cons_zero, List.set_cons_succ]
                  refine takeH (i := 32) (d := some 141) (v := ?_) rfl rfl (by kernel_rfl) (by kernel_rfl) (by kernel_rfl) (fun _ _ _ h => h) (by rfl) ?_ (by with_reducible assumption) ?_
                  rotate_left
                  · (intro w hSw; (try dsimp only at hSw); go_simp; (try with_reducible rfl))
                  simp only [Act.put, List.setIfInBounds_toArray, List.set_cons_zero, List.set_cons_succ]
                  refine takeH (i := 33) (d := some 142) (v := ?_) rfl rfl (by kernel_rfl) (by kernel_rfl) (by kernel_rfl) (fun _ _ _ h => h) (by rfl) ?_ (by with_reducible assumption) ?_
                  rotate_left
                  · (intro w hSw; (try dsimp only at hSw); go_simp; (try with_reducible rfl))
                  simp only [Act.put, List.setIfInBounds_toArray, List.set_cons_zero, List.set_cons_succ]
                  refine takeH (i := 34) (d := some 143) (v := ?_) rfl rfl (by kernel_rfl) (by kernel_rfl) (by kernel_rfl) (fun _ _ _ h => h) (by rfl) ?_ (by with_reducible assumption) ?_
                  rotate_left
                  · (intro w hSw; (try dsimp only at hSw); go_simp; (try with_reducible rfl))
                  simp only [Act.put, List.setIfInBounds_toArray, List.set_cons_zero, List.set_cons_succ]
                  refine takeH (i := 35) (d := some 144) (v := ?_) rfl rfl (by kernel_rfl) (by kernel_rfl) (by kernel_rfl) (fun _ _ _ h => h) (by rfl) ?_ (by with_reducible assumption) ?_
                  rotate_left
                  · (intro w hSw; (try dsimp only at hSw); go_simp; (try with_reducible rfl))
                  simp only [Act.put, List.setIfInBounds_toArray, List.set_cons_zero, List.set_cons_succ]
                  refine wpAnyH_ready (rs := [36]) (by kernel_rfl) (by simp) ?_
                  refine AllReadyH.cons rfl (fun K hK => ?_) AllReadyH.nil
                  go_simp
                  refine (hs2 _ hbv1).mono ?_
                  rintro e v2 ⟨rfl, hbv2⟩
                  dsimp only
                  have hSv2 := hmk _ hbv2
                  refine hK.out _ _ hSv2 (fun _ => ?_)
                  clear hK K
                  refine takeH (i := 37) (d := some 146) (v := ?_) rfl rfl (by kernel_rfl) (by kernel_rfl) (by kernel_rfl) (fun _ _ _ h => h) (by rfl) ?_ (by with_reducible assumption) ?_
                  rotate_left
                  · (intro w hSw; (try dsimp only at hSw); go_simp; (try with_reducible rfl))
                  simp only [Act.put, List.setIfInBounds_toArray, List.set_cons_zero, List.set_cons_succ]
                  refine takeH (i := 38) (d := some 147) (v := ?_) rfl rfl (by kernel_rfl) (by kernel_rfl) (by kernel_rfl) (fun _ _ _ h => h) (by rfl) ?_ (by with_reducible assumption) ?_
                  rotate_left
                  · (intro w hSw; (try dsimp only at hSw); go_simp; (try with_reducible rfl))
                  simp only [Act.put, List.setIfInBounds_toArray, List.set_cons_zero, List.set_cons_succ]
                  refine takeH (i := 39) (d := some 148) (v := ?_) rfl rfl (by kernel_rfl) (by kernel_rfl) (by kernel_rfl) (fun _ _ _ h => h) (by rfl) ?_ (by with_reducible assumption) ?_
                  rotate_left
                  · (intro w hSw; (try dsimp only at hSw); go_simp; (try with_reducible rfl))
                  simp only [Act.put, List.setIfInBounds_toArray, List.set_cons_zero, List.set_cons_succ]
                  refine takeH (i := 40) (d := some 149) (v := ?_) rfl rfl (by kernel_rfl) (by kernel_rfl) (by kernel_rfl) (fun _ _ _ h => h) (by rfl) ?_ (by with_reducible assumption) ?_
                  rotate_left
                  · (intro w hSw; (try dsimp only at hSw); go_simp; (try with_reducible rfl))
                  simp only [Act.put, List.setIfInBounds_toArray, List.set_cons_zero, List.set_cons_succ]
                  refine takeH (i := 41) (d := some 150) (v := ?_) rfl rfl (by kernel_rfl) (by kernel_rfl) (by kernel_rfl) (fun _ _ _ h => h) (by rfl) ?_ (by with_reducible assumption) ?_
                  rotate_left
                  · (intro w hSw; (try dsimp only at hSw); go_simp; (try with_reducible rfl))
                  simp only [Act.put, List.setIfInBounds_toArray, List.set_cons_zero, List.set_cons_succ]
                  refine takeH (i := 42) (d := some 151) (v := ?_) rfl rfl (by kernel_rfl) (by kernel_rfl) (by kernel_rfl) (fun _ _ _ h => h) (by rfl) ?_ (by with_reducible assumption) ?_
                  rotate_left
                  · (intro w hSw; (try dsimp only at hSw); go_simp; (try with_reducible rfl))
                  simp only [Act.put, List.setIfInBounds_toArray, List.set_cons_zero, List.set_cons_succ]
                  refine takeH (i := 43) (d := some 152) (v := ?_) rfl rfl (by kernel_rfl) (by kernel_rfl) (by kernel_rfl) (fun _ _ _ h => h) (by rfl) ?_ (by with_reducible assumption) ?_
                  rotate_left
                  · (intro w hSw; (try dsimp only at hSw); go_simp; (try with_reducible rfl))
                  simp only [Act.put, List.setIfInBounds_toArray, List.set_cons_zero, List.set_cons_succ]
                  refine skipH (i := 44) (d := some 153) rfl rfl (by kernel_rfl) (by kernel_rfl) (by kernel_rfl) (fun _ _ _ h => h) (by rfl) (by with_reducible assumption) ?_
                  simp only [Act.put, List.setIfInBounds_toArray, List.set_cons_zero, List.set_cons_succ]
                  refine skipH (i := 45) (d := some 154) rfl rfl (by kernel_rfl) (by kernel_rfl) (by kernel_rfl) (fun _ _ _ h => h) (by rfl) (by with_reducible assumption) ?_
                  simp only [Act.put, List.setIfInBounds_toArray, List.set_cons_zero, List.set_cons_succ]
                  refine skipH (i := 46) (d := some 155) rfl rfl (by kernel_rfl) (by kernel_rfl) (by kernel_rfl) (fun _ _ _ h => h) (by rfl) (by with_reducible assumption) ?_
                  simp only [Act.put, List.setIfInBounds_toArray, List.set_cons_zero, List.set_cons_succ]
                  refine takeH (i := 47) (d := some 156) (v := ?_) rfl rfl (by kernel_rfl) (by kernel_rfl) (by kernel_rfl) (fun _ _ _ h => h) (by rfl) ?_ (by with_reducible assumption) ?_
                  rotate_left
                  · (intro w hSw; (try dsimp only at hSw); go_simp; (try with_reducible rfl))
                  simp only [Act.put, List.setIfInBounds_toArray, List.set_cons_zero, List.set_cons_succ]
                  refine takeH (i := 48) (d := some 157) (v := ?_) rfl rfl (by kernel_rfl) (by kernel_rfl) (by kernel_rfl) (fun _ _ _ h => h) (by rfl) ?_ (by with_reducible assumption) ?_
                  rotate_left
                  · (intro w hSw; (try dsimp only at hSw); go_simp; (try with_reducible rfl))
                  simp only [Act.put, List.setIfInBounds_toArray, List.set_cons_zero, List.set_cons_succ]
                  refine wpAnyH_done (by kernel_rfl) ?_ _
                  go_wp2_with fail
                  go_meet
                  exact ⟨rfl, hbv2⟩
          case rest =>
            obtain ⟨rfl, hbc⟩ := hcut
            have rc := (hbc.block cb (Array.getElem?_eq_some_iff.1 rCV).1).trans rCV
            have hBc2 := below_step hBV hbc
            have hMc := hMV.later hbc
            have b0 := (hBc2.cell (p := ⟨gk, ok + j * 7 + 0, none⟩) hgk).trans (hkj 0 _ rfl)
            have b1 := (hBc2.cell (p := ⟨gk, ok + j * 7 + 1, none⟩) hgk).trans (hkj 1 _ rfl)
            have b2 := (hBc2.cell (p := ⟨gk, ok + j * 7 + 2, none⟩) hgk).trans (hkj 2 _ rfl)
            have b3 := (hBc2.cell (p := ⟨gk, ok + j * 7 + 3, none⟩) hgk).trans (hkj 3 _ rfl)
            have b4 := (hBc2.cell (p := ⟨gk, ok + j * 7 + 4, none⟩) hgk).trans (hkj 4 _ rfl)
            have b5 := (hBc2.cell (p := ⟨gk, ok + j * 7 + 5, none⟩) hgk).trans (hkj 5 _ rfl)
            have b6 := (hBc2.cell (p := ⟨gk, ok + j * 7 + 6, none⟩) hgk).trans (hkj 6 _ rfl)
            rw [Nat.add_zero] at b0
            clear s0 s1 s2 s3 s4 s5 s6 t0 t1 u0 u1 hXY hprev hMem hRis hLay hcj hkj hD7 hK7 hGa hGb hs1 hs2 hMV rCV hBV
            go_upto_region 25 with fail
            have hbU : Below wc.heap.size wc (wc.alloc (.cells #[.int .u32 (k : Int), .bool q, .bool p, .int .i64 y1, .int .i64 y2, .int .i64 x1, .int .i64 x2] 54)) := (Below.refl _ _).alloc (Nat.le_refl _) _
            have rcU := (hbU.block cb (Array.getElem?_eq_some_iff.1 rc).1).trans rc
            have rtU := heap_alloc_last wc (.cells #[.int .u32 (k : Int), .bool q, .bool p, .int .i64 y1, .int .i64 y2, .int .i64 x1, .int .i64 x2] 54)
            have hMU := hMc.later hbU
            have hBU := below_step hBc2 hbU
            clear b0 b1 b2 b3 b4 b5 b6 rc hMc hBc2 hbU hbc
            generalize (wc.alloc (.cells #[.int .u32 (k : Int), .bool q, .bool p, .int .i64 y1, .int .i64 y2, .int .i64 x1, .int .i64 x2] 54)) = U at *
            generalize wc.heap.size = tb' at *
            have hcU : ∀ X, Below U.heap.size U X → X.heap[cb]? = _ ∧ X.heap[tb']? = _ := fun X hb => ⟨(hb.block cb (Array.getElem?_eq_some_iff.1 rcU).1).trans rcU, (hb.block tb' (Array.getElem?_eq_some_iff.1 rtU).1).trans rtU⟩
            have c0 : U.cell? ⟨cb, 0, none⟩ = some (.int .u32 (k : Int)) := cell_of_row _ _ 0 _ _ _ rcU
            have c1 : U.cell? ⟨cb, 1, none⟩ = some (.bool p) := cell_of_row _ _ 1 _ _ _ rcU
            have c2 : U.cell? ⟨cb, 2, none⟩ = some (.bool q) := cell_of_row _ _ 2 _ _ _ rcU
            have c5 : U.cell? ⟨cb, 5, none⟩ = some (.int .i64 y1) := cell_of_row _ _ 5 _ _ _ rcU
            have c6 : U.cell? ⟨cb, 6, none⟩ = some (.int .i64 y2) := cell_of_row _ _ 6 _ _ _ rcU
            have f0 : U.cell? ⟨tb', 0, none⟩ = some (.int .u32 (k : Int)) := cell_of_row _ _ 0 _ _ _ rtU
            have f1 : U.cell? ⟨tb', 1, none⟩ = some (.bool q) := cell_of_row _ _ 1 _ _ _ rtU
            have f2 : U.cell? ⟨tb', 2, none⟩ = some (.bool p) := cell_of_row _ _ 2 _ _ _ rtU
            have f3 : U.cell? ⟨tb', 3, none⟩ = some (.int .i64 y1) := cell_of_row _ _ 3 _ _ _ rtU
            have f4 : U.cell? ⟨tb', 4, none⟩ = some (.int .i64 y2) := cell_of_row _ _ 4 _ _ _ rtU
            have hkk : ((k : Int) != (k : Int)) = false := by simp
            have tok : True := trivial
            go_wp2_with (first | (go_at_call 14; have _t := tok; refine (same_V2 (Below.refl U.heap.size U) y1 y2 y1 y2 true (by simp)).mono ?_; rintro e w10 ⟨rfl, hb10⟩; have r10 := hcU _ hb10; have g3 : w10.cell? ⟨cb, 3, none⟩ = some (.int .i64 x1) := cell_of_row _ _ 3 _ _ _ r10.1; have g4 : w10.cell? ⟨cb, 4, none⟩ = some (.int .i64 x2) := cell_of_row _ _ 4 _ _ _ r10.1; have g5 : w10.cell? ⟨tb', 5, none⟩ = some (.int .i64 x1) := cell_of_row _ _ 5 _ _ _ r10.2; have g6 : w10.cell? ⟨tb', 6, none⟩ = some (.int .i64 x2) := cell_of_row _ _ 6 _ _ _ r10.2; have u10 := tok; clear tok) | (go_at_call 14; refine (same_V2 hb10 x1 x2 x1 x2 true (by simp)).mono ?_; rintro e w11 ⟨rfl, hb11⟩; have r11 := hcU _ hb11; have h0 : w11.cell? ⟨cb, 0, none⟩ = some (.int .u32 (k : Int)) := cell_of_row _ _ 0 _ _ _ r11.1; have h2 : w11.cell? ⟨cb, 2, none⟩ = some (.bool q) := cell_of_row _ _ 2 _ _ _ r11.1; have h5 : w11.cell? ⟨cb, 5, none⟩ = some (.int .i64 y1) := cell_of_row _ _ 5 _ _ _ r11.1; have h6 : w11.cell? ⟨cb, 6, none⟩ = some (.int .i64 y2) := cell_of_row _ _ 6 _ _ _ r11.1) | (go_at_call 10; refine (one_any mm k hk32 y1 y2 (!q) tm _ (hMU.later hb11)).mono ?_; rintro e w12 ⟨mm', t', rfl, hM12, hE12, hb12⟩))
            have hE13 : t'.ents 7 0 = layAll (ta.ents 7 0) (D.take (j + 1)) := by rw [hE12, hEm'.out, hTk.out, hlayc.out]
            go_roundw
            case rel => exact ⟨j + 1, mm', t', by omega, by go_num, rfl, hM12, hE13, below_step (below_step hBU hb11) hb12⟩
            case measure => simp [intOf]; omega
        · have hlt' : ¬ (j : Int) < (N : Int) := by omega
          have hEn : tm.ents 7 0 = tb.ents 7 0 := by
            rw [hEm'.out, List.take_of_length_le (by rw [hHN.out]; omega)]
            exact hLay
          have hwm := hMm.2.2.2.2
          have hc3 := changes_any mm mb tm tb [] ((dif_nil_iff hwm hwb).2 hEn) (by simp) wr hMm (hB7.later hBr)
          rw [show (([] : List Ch)).length = 0 from rfl] at hc3
          have hse := fun va vb w ha hb => same_entriesO va vb (tm.ents 7 0) (tb.ents 7 0) (by rw [hEn]; omega) true ⟨fun _ => hEn, fun _ => rfl⟩ w ha hb
          have hlm : (tm.ents 7 0).length ≤ 240 := by rw [hEn]; exact hlB2
          have hBr2 := hB7.later hBr
          clear hEn hEm' hMem hRis hLay hD7 hK7 hA7
          go_wp2_with (first | (go_at_call 19; refine hc3.mono ?_; rintro e w8 ⟨ea, ec, rfl, -, hb8⟩) | (go_at_call_of 13 (Value.pointer (some ⟨mm, 0, none⟩)); refine (list_ents mm tm (by omega) _ (hMm.later hb8)).mono ?_; rintro e w9 ⟨l1, l2, rfl, hE9, hb9⟩) | (go_at_call 13; refine (list_ents mb tb (by omega) _ ((hBr2.later hb8).later hb9)).mono ?_; rintro e w10 ⟨l3, l4, rfl, hE10, hb10⟩) | (go_at_call 20; refine (hse _ _ _ (hE9.later hb10) hE10).mono ?_; rintro e w11 ⟨rfl, hb11⟩))
          go_ret
          exact ⟨rfl, below_step (below_step (below_step (below_step (below_step hBw7 hBr) hb8) hb9) hb10) hb11⟩

end Go.Proofs.YtnjnejlldklldaaDoor

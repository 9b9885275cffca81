import Derived.Test.YtmppgcijbeipfaaDoorRsStamp
import Derived.Test.YtmppgcijbeipfaaDoorRfPut
namespace Go.Proofs.YtmppgcijbeipfaaDoor
open Go.RowKit

theorem SZ_nil (σ : Nat → Nat → Int) (id : Nat) : SZ σ id [] [] := fun i h => by simp at h
theorem SZ_app {σ : Nat → Nat → Int} {id : Nat} {N : Es} {st : List Int} (h : SZ σ id N st) (hl : st.length = N.length * 8) (e : Nat × (Int × Int)) (t : List Int) (ht : ∀ l, l < 8 → e.1 ≠ id → t[l]? = some (σ l (rfPre e.1 l))) : SZ σ id (N ++ [e]) (st ++ t) := by
  intro i hi l hl8 hne
  by_cases hx : i < N.length
  · rw [List.getElem_append_left hx] at hne ⊢
    rw [List.getElem?_append_left (by omega)]
    exact h i hx l hl8 hne
  · obtain rfl : i = N.length := by simp at hi; omega
    have he : (N ++ [e])[N.length]'hi = e := by simp
    rw [he] at hne ⊢
    rw [List.getElem?_append_right (by omega), show N.length * 8 + l - st.length = l from by omega]
    exact ht l hl8 hne
theorem SZ_own {σ : Nat → Nat → Int} {id : Nat} {N : Es} {st : List Int} (h : SZ σ id N st) (hl : st.length = N.length * 8) (v : Int × Int) (t : List Int) : SZ σ id (N ++ [(id, v)]) (st ++ t) := SZ_app h hl _ t (fun _ _ hne => absurd rfl hne)
theorem SZ_old {σ : Nat → Nat → Int} {id : Nat} {N : Es} {st : List Int} (h : SZ σ id N st) (hl : st.length = N.length * 8) (key : Nat) (v : Int × Int) {t0 t1 t2 t3 t4 t5 t6 t7 : Int} (ht : t0 = σ 0 (rfPre key 0) ∧ t1 = σ 1 (rfPre key 1) ∧ t2 = σ 2 (rfPre key 2) ∧ t3 = σ 3 (rfPre key 3) ∧ t4 = σ 4 (rfPre key 4) ∧ t5 = σ 5 (rfPre key 5) ∧ t6 = σ 6 (rfPre key 6) ∧ t7 = σ 7 (rfPre key 7)) : SZ σ id (N ++ [(key, v)]) (st ++ [t0, t1, t2, t3, t4, t5, t6, t7]) := by
  refine SZ_app h hl _ _ (fun l hl8 _ => ?_)
  obtain ⟨e0, e1, e2, e3, e4, e5, e6, e7⟩ := ht
  match l, hl8 with
  | 0, _ => rw [e0]; rfl
  | 1, _ => rw [e1]; rfl
  | 2, _ => rw [e2]; rfl
  | 3, _ => rw [e3]; rfl
  | 4, _ => rw [e4]; rfl
  | 5, _ => rw [e5]; rfl
  | 6, _ => rw [e6]; rfl
  | 7, _ => rw [e7]; rfl
theorem st_eight_rs {W : World} {gs i : Nat} {f : Nat → Int} (h : ∀ l, l < 8 → W.cell? ⟨gs, i * 8 + l, none⟩ = some (.int .i64 (f l))) : ∃ s0 s1 s2 s3 s4 s5 s6 s7 : Int, W.cell? ⟨gs, i * 8, none⟩ = some (.int .i64 s0) ∧ W.cell? ⟨gs, i * 8 + 1, none⟩ = some (.int .i64 s1) ∧ W.cell? ⟨gs, i * 8 + 2, none⟩ = some (.int .i64 s2) ∧ W.cell? ⟨gs, i * 8 + 3, none⟩ = some (.int .i64 s3) ∧ W.cell? ⟨gs, i * 8 + 4, none⟩ = some (.int .i64 s4) ∧ W.cell? ⟨gs, i * 8 + 5, none⟩ = some (.int .i64 s5) ∧ W.cell? ⟨gs, i * 8 + 6, none⟩ = some (.int .i64 s6) ∧ W.cell? ⟨gs, i * 8 + 7, none⟩ = some (.int .i64 s7) ∧ Hid (s0 = f 0 ∧ s1 = f 1 ∧ s2 = f 2 ∧ s3 = f 3 ∧ s4 = f 4 ∧ s5 = f 5 ∧ s6 = f 6 ∧ s7 = f 7) :=
  ⟨f 0, f 1, f 2, f 3, f 4, f 5, f 6, f 7, h 0 (by omega), h 1 (by omega), h 2 (by omega), h 3 (by omega), h 4 (by omega), h 5 (by omega), h 6 (by omega), h 7 (by omega), ⟨rfl, rfl, rfl, rfl, rfl, rfl, rfl, rfl⟩⟩
theorem RfR.doneS {W : World} {nb : Nat} {vi vv vs : Value} {N : Es} {st : List Int} {σ : Nat → Nat → Int} (h : RfR W nb vi vv vs N N N.length st) (hr : Rises N) (hG : SG σ N st) : RsAt W nb N σ := ⟨vi, vv, vs, st, h.row, rf_base h.ids, rf_base h.vals, rf_base h.sts, h.len, hr, hG⟩

set_option maxRecDepth 4000 in
set_option maxHeartbeats 80000000 in
theorem putAs_rs (σ : Nat → Nat → Int) (b id : Nat) (hid : id < 4294967296) (x y stamp : Int) (L : Es) (hk : ∀ e ∈ L, e.1 < 4294967296) (hl : L.length ≤ 5000000000) (w : World) (h : RsAt w b L σ) : Calls Tryd.prog 15 #[.pointer (some ⟨b, 0, none⟩), .int .u32 (id : Int), .agg #[.int .i64 x, .int .i64 y], .int .i64 stamp] w fun e w' => ∃ nb, e = .returned (.pointer (some ⟨nb, 0, none⟩)) ∧ ((nb = b ∧ ins L id (x, y) = L ∧ (∃ h : rfPl L id < L.length, L[rfPl L id] = (id, (x, y))) ∧ RsAt w' b L σ) ∨ ((¬ ∃ h : rfPl L id < L.length, L[rfPl L id] = (id, (x, y))) ∧ w.heap.size ≤ nb ∧ RsAt w' nb (ins L id (x, y)) (updS σ id stamp))) ∧ Below w.heap.size w w' := by
  have hb1 := (Below.refl w.heap.size w).alloc (Nat.le_refl _) (.cells #[.int .i64 x, .int .i64 y] 29)
  have h1 := h.later hb1
  have hpl := place_rf b id L (Nat.le_trans hl (by decide)) _ h1.rf
  have hvr := heap_alloc_last w (.cells #[.int .i64 x, .int .i64 y] 29)
  go_enter Tryd.func15, Tryd.ntmps15
  go_wp2_with (go_at_call 35; refine hpl.mono ?_; rintro e w1 ⟨rfl, m1, rfl⟩)
  clear hpl h
  have hlp : Hid (rfPl L id ≤ L.length) := rfPl_le L id
  have hno : Hid (¬ rfPl L id < L.length → rfHas L id = false) := fun h => rf_has_out h
  have hyes : Hid (∀ h : rfPl L id < L.length, rfHas L id = (L[rfPl L id].1 == id)) := fun h => rf_has_at h
  have hb2 : Below w.heap.size w ((w.alloc (.cells #[.int .i64 x, .int .i64 y] 29)).drewN m1) := below_drewN hb1 m1
  have h2 : RsAt ((w.alloc (.cells #[.int .i64 x, .int .i64 y] 29)).drewN m1) b L σ := h1.later (below_drewN (Below.refl _ _) m1)
  have hvr2 : ((w.alloc (.cells #[.int .i64 x, .int .i64 y] 29)).drewN m1).heap[w.heap.size]? = some (.cells #[.int .i64 x, .int .i64 y] 29) := by rw [show ((w.alloc (.cells #[.int .i64 x, .int .i64 y] 29)).drewN m1).heap = (w.alloc (.cells #[.int .i64 x, .int .i64 y] 29)).heap from by simp]; exact hvr
  generalize (w.alloc (.cells #[.int .i64 x, .int .i64 y] 29)).drewN m1 = W at *
  clear hb1 h1 hvr
  obtain ⟨vb, hvb⟩ : ∃ vb, vb = w.heap.size := ⟨_, rfl⟩
  rw [← hvb] at hvr2 ⊢
  obtain ⟨at', hat⟩ : ∃ at', at' = rfPl L id := ⟨_, rfl⟩
  rw [← hat] at hlp hno hyes ⊢
  obtain ⟨ok, hok⟩ : ∃ ok, ok = rfHas L id := ⟨_, rfl⟩
  rw [← hok] at hno hyes ⊢
  obtain ⟨d, hd⟩ : ∃ d : Bool, Hid (d = true ↔ ∃ h : at' < L.length, L[at'] = (id, (x, y))) := rf_bool _
  have hat' : Hid (at' = rfPl L id ∧ ok = rfHas L id ∧ vb = w.heap.size) := ⟨hat, hok, hvb⟩
  clear hat hok hvb
  obtain ⟨ai, av, az, ci, cv, cs, c0, c1, c2, hc⟩ := h2.rf.cells
  have v0 : W.cell? ⟨vb, 0, none⟩ = some (.int .i64 x) := cell_of_row _ _ 0 _ _ _ hvr2
  have v1 : W.cell? ⟨vb, 1, none⟩ = some (.int .i64 y) := cell_of_row _ _ 1 _ _ _ hvr2
  go_cut [45] (fun c wx => c = .bool d ∧ ∃ m, wx = W.drewN m)
  case first =>
    by_cases hp : at' < L.length
    · have hp0 : (0 : Int) ≤ (at' : Int) := Int.natCast_nonneg _
      have hp' : (at' : Int) < (L.length : Int) := Int.ofNat_lt.2 hp
      have hh := hyes.out hp
      obtain ⟨gi, gv, gs, rfl, rfl, rfl, hgi, hgv, hgs, hcc, -⟩ := hc (Nat.lt_of_le_of_lt (Nat.zero_le _) hp)
      obtain ⟨-, a1, a2⟩ := hcc at' hp
      have hd2 : d = true ↔ L[at'] = (id, (x, y)) := hd.out.trans ⟨fun h => h.2, fun h => ⟨hp, h⟩⟩
      generalize L[at'] = en at *
      obtain ⟨kk, kx, ky⟩ := en
      simp only at a1 a2 hh
      clear hyes hno hd hcc hc hk hid
      by_cases h0 : kk = id
      · subst h0
        simp only [beq_self_eq_true] at hh
        subst hh
        by_cases hx : kx = x
        · subst hx
          by_cases hy : ky = y
          · subst hy
            have : d = true := hd2.2 rfl
            subst this
            clear hd2
            go_wp2_with fail
            go_quiet (fail)
            go_wp2_with fail
            go_meet
            exact ⟨rfl, nq, rfl⟩
          · have hdf : d = false := by cases hdd : d with | false => rfl | true => exact absurd (congrArg (fun e => e.2.2) (hd2.1 hdd)) hy
            subst hdf
            clear hd2
            have hyb : (ky == y) = false := by simpa using hy
            go_wp2_with fail
            go_quiet (fail)
            go_wp2_with fail
            go_meet
            exact ⟨rfl, nq, rfl⟩
        · have hdf : d = false := by cases hdd : d with | false => rfl | true => exact absurd (congrArg (fun e => e.2.1) (hd2.1 hdd)) hx
          subst hdf
          clear hd2
          have hxb : (kx == x) = false := by simpa using hx
          go_wp2_with fail
          go_quiet (fail)
          go_wp2_with fail
          go_meet
          exact ⟨rfl, nq, rfl⟩
      · have hf : ok = false := by rw [hh]; simpa using h0
        subst hf
        have hdf : d = false := by cases hdd : d with | false => rfl | true => exact absurd (congrArg (fun e => e.1) (hd2.1 hdd)) h0
        subst hdf
        clear hd2 hh
        go_wp2_with fail
        go_quiet (fail)
        go_wp2_with fail
        go_meet
        exact ⟨rfl, nq, rfl⟩
    · have hf := hno.out hp
      subst hf
      have hdf : d = false := by cases hdd : d with | false => rfl | true => exact absurd (hd.out.1 hdd).1 hp
      subst hdf
      clear hno hyes hd hk hid hc
      go_wp2_with fail
      go_quiet (fail)
      go_wp2_with fail
      go_meet
      exact ⟨rfl, nq, rfl⟩
  case rest =>
    obtain ⟨rfl, m2, rfl⟩ := hcut
    cases d with
    | true =>
      obtain ⟨hp, he⟩ := hd.out.1 rfl
      obtain ⟨e1, e2, e3⟩ := hat'.out
      have hins : ins L id (x, y) = L := by subst e1; exact insR_same (by obtain ⟨_, _, _, _, _, _, _, _, _, hr⟩ := h2.rf; exact hr) hp he
      clear hd hyes hno hc hk
      go_wp2
      go_ret
      exact ⟨b, rfl, .inl ⟨rfl, hins, ⟨e1 ▸ hp, by subst e1; exact he⟩, h2.later (below_drewN (Below.refl _ _) m2)⟩, below_drewN hb2 m2⟩
    | false =>
      have hrs : Hid (Rises L) := by obtain ⟨_, _, _, _, _, _, _, _, _, hr⟩ := h2.rf; exact hr
      have hnd : Hid (¬ ∃ h : rfPl L id < L.length, L[rfPl L id] = (id, (x, y))) := fun hx => by have hy := hd.out.2; rw [hat'.out.1] at hy; exact absurd (hy hx) (by decide)
      have h3 := h2.later (below_drewN (Below.refl _ _) m2)
      have hb3 := below_drewN hb2 m2
      have hv3 : (W.drewN m2).heap[vb]? = some (.cells #[.int .i64 x, .int .i64 y] 29) := by rw [show (W.drewN m2).heap = W.heap from by simp]; exact hvr2
      clear c0 c1 c2 hc v0 v1 hvr2 h2 hb2 hd hyes hno
      generalize W.drewN m2 = V at *
      go_wp2
      obtain ⟨nb, hnb⟩ : ∃ nb, nb = V.heap.size := ⟨_, rfl⟩
      rw [← hnb]
      have hrow := heap_alloc_last V (.cells #[.slice none 0 0, .slice none 0 0, .slice none 0 0] 77)
      rw [← hnb] at hrow
      have hRn : RfR (V.alloc (.cells #[.slice none 0 0, .slice none 0 0, .slice none 0 0] 77)) nb (.slice none 0 0) (.slice none 0 0) (.slice none 0 0) [] [] 0 [] := ⟨hrow, World.ownsRow_nil _ _ _ _, World.ownsRow_nil _ _ _ _, World.ownsRow_nil _ _ _ _, rfl⟩
      have hbV1 := (Below.refl V.heap.size V).alloc (Nat.le_refl _) (.cells #[.slice none 0 0, .slice none 0 0, .slice none 0 0] 77)
      have hnbV : Hid (V.heap.size ≤ nb ∧ nb = V.heap.size) := ⟨by rw [hnb]; exact Nat.le_refl _, hnb⟩
      clear hnb
      generalize V.alloc (.cells #[.slice none 0 0, .slice none 0 0, .slice none 0 0] 77) = V1 at *
      obtain ⟨ik0, hik0, hz00, hz01, hz02⟩ := info_parts infoU4
      obtain ⟨ik1, hik1, hz10, hz11, hz12⟩ := info_parts infoV2
      obtain ⟨ik2, hik2, hz20, hz21, hz22⟩ := info_parts infoA8
      have hvl : Hid (vb < V.heap.size) := (Array.getElem?_eq_some_iff.1 hv3).1
      have hbV : Hid (b < V.heap.size) := h3.lt
      obtain ⟨ai, av, az, ci, cv, cs, c0, c1, c2, hc⟩ := h3.rf.cells
      go_loopw [12] (fun iv X => ∃ i : Nat, Hid (i ≤ L.length + 1) ∧ iv = .int .i64 (i : Int) ∧ (∃ vi vv vs st, RfR X nb vi vv vs (nwL L at' ok (id, (x, y)) i) (nwL L at' ok (id, (x, y)) i) (nwL L at' ok (id, (x, y)) i).length st ∧ Hid (SZ σ id (nwL L at' ok (id, (x, y)) i) st)) ∧ Below V.heap.size V X) (fun iv _ => L.length + 1 - (intOf iv).toNat)
      case atStart => exact ⟨0, Nat.zero_le _, rfl, ⟨_, _, _, _, hRn, SZ_nil σ id⟩, hbV1⟩
      case round =>
        clear hRn hrow hbV1
        obtain ⟨i, hi, rfl, ⟨vi, vv, vs, st, hR, hZ⟩, hB⟩ := hrel
        have d0 := (hB.cell (p := ⟨b, 0, none⟩) hbV.out).trans c0
        have hnN : Hid ((nwL L at' ok (id, (x, y)) i).length ≤ 5000000003) := by have h1 := (nwL_len L at' ok (id, (x, y)) i).1; have h2 := hi.out; show _ ≤ 5000000003; omega
        by_cases hin : i ≤ L.length
        · have hin' : (i : Int) ≤ (L.length : Int) := Int.ofNat_le.2 hin
          obtain ⟨N, hN⟩ : ∃ N, Hid (nwL L at' ok (id, (x, y)) i = N) := ⟨_, show _ = _ from rfl⟩
          rw [hN.out] at hR hnN hZ
          go_upto_if 60 with fail
          go_cut [12] (fun iv wx => iv = .int .i64 (i : Int) ∧ ∃ M ui uv us sm, Hid (M = if i = at' then N ++ [(id, (x, y))] else N) ∧ RfR wx nb ui uv us M M M.length sm ∧ Below V.heap.size V wx ∧ Hid (SZ σ id M sm))
          case first =>
            by_cases hia : i = at'
            · subst hia
              go_upto_region 9 with fail
              go_cut [61] (fun _ wx => ∃ v', RfR wx nb v' vv vs (N ++ [(id, (x, y))]) N N.length st ∧ Below nb wr wx)
              case first =>
                obtain ⟨ea, ec, hea, -⟩ := own_sl hR.ids
                subst hea
                have cN : wr.cell? ⟨nb, 0, none⟩ = some (.slice ea N.length ec) := cell_of_row _ _ 0 _ _ _ hR.row
                have hbA : Below wr.heap.size wr (wr.alloc (.cells #[.int .u32 (id : Int)] 27)) := ((Below.refl wr.heap.size wr).alloc (Nat.le_refl _) (.cells #[.int .u32 (id : Int)] 27))
                have hA := hR.later hbA
                have hzA : nb + 1 ≤ (wr.alloc (.cells #[.int .u32 (id : Int)] 27)).heap.size := by have h1 := hbA.size; have h2 := (Array.getElem?_eq_some_iff.1 hR.row).1; omega
                have hnl : N.length + 1 ≤ maxLen ∧ (N.length + 1) * 4 ≤ 140737488355328 := by have := hnN.out; unfold maxLen; omega
                go_wp2_with (at_builtin; refine wpList_append_own_at (P := Tryd.prog) _ rfl _ _ 73 rfl (nb + 1) 27 ik0 _ 1 4 Tryd.underlying73 hik0 hz00 hz01 hz02 rfl (by decide) _ N.length (idV N) rfl hA.ids ⟨wr.heap.size, 0, none⟩ 1 1 [.int .u32 (id : Int)] rfl rfl (rf_alloc wr [.int .u32 (id : Int)] 27 _ rfl) (by intro u hu; simp only [List.mem_cons, List.not_mem_nil, or_false] at hu; (repeat (first | (rcases hu with rfl | hu; rfl) | (subst hu; rfl)))) hnl.1 hnl.2 hzA ?_; intro v2 w2 hown2 hgrow2 _ _; obtain ⟨g2, cap2, rfl⟩ := own_some hown2 (by omega); obtain ⟨hR1, hBn, cS, fS⟩ := hA.app0 (id, (x, y)) hown2 hgrow2)
                have hBY : Below nb wr (w2.setCell ⟨nb, 0, none⟩ (.slice (some ⟨g2, 0, none⟩) (N.length + 1) cap2)) := (hbA.mono (Nat.le_of_lt (Array.getElem?_eq_some_iff.1 hR.row).1)).trans hBn
                clear cS fS hown2 hgrow2 hA hbA hzA hnl cN
                go_meet
                exact ⟨_, hR1, hBY⟩
              case rest =>
                obtain ⟨vY1, hR1, hBY1⟩ := hcut
                obtain ⟨Y1, hY1⟩ : ∃ Y, Y = wc := ⟨_, rfl⟩
                subst hY1
                have hB1 : Below V.heap.size V Y1 := hB.trans (hBY1.mono hnbV.out.1)
                have hv1 := (hB1.block vb hvl.out).trans hv3
                clear d0
                go_upto_region 10 with fail
                go_cut [71] (fun _ wx => ∃ v', RfR wx nb vY1 v' vs (N ++ [(id, (x, y))]) (N ++ [(id, (x, y))]) N.length st ∧ Below nb Y1 wx)
                case first =>
                  obtain ⟨ea, ec, hea, -⟩ := own_sl hR1.vals
                  subst hea
                  have cN : Y1.cell? ⟨nb, 1, none⟩ = some (.slice ea N.length ec) := cell_of_row _ _ 1 _ _ _ hR1.row
                  have hbA : Below Y1.heap.size Y1 (Y1.alloc (.cells #[.int .i64 x, .int .i64 y] 29)).drew := ((Below.refl Y1.heap.size Y1).alloc (Nat.le_refl _) (.cells #[.int .i64 x, .int .i64 y] 29)).drew
                  have hA := hR1.later hbA
                  have hzA : nb + 1 ≤ (Y1.alloc (.cells #[.int .i64 x, .int .i64 y] 29)).drew.heap.size := by have h1 := hbA.size; have h2 := (Array.getElem?_eq_some_iff.1 hR1.row).1; omega
                  have hnl : N.length + 1 ≤ maxLen ∧ (N.length + 1) * 16 ≤ 140737488355328 := by have := hnN.out; unfold maxLen; omega
                  have hba : ∀ o, Below Y1.heap.size Y1 (Y1.alloc o) := fun o => (Below.refl _ _).alloc (Nat.le_refl _) o
                  have cN' : ∀ o, (Y1.alloc o).cell? ⟨nb, 1, none⟩ = some (.slice ea N.length ec) := fun o => ((hba o).cell (p := ⟨nb, 1, none⟩) (Array.getElem?_eq_some_iff.1 hR1.row).1).trans cN
                  have v0 : Y1.cell? ⟨vb, 0, none⟩ = some (.int .i64 x) := cell_of_row _ _ 0 _ _ _ hv1
                  have v1 : Y1.cell? ⟨vb, 1, none⟩ = some (.int .i64 y) := cell_of_row _ _ 1 _ _ _ hv1
                  have v0' : ∀ o, (Y1.alloc o).cell? ⟨vb, 0, none⟩ = some (.int .i64 x) := fun o => ((hba o).cell (p := ⟨vb, 0, none⟩) (Array.getElem?_eq_some_iff.1 hv1).1).trans v0
                  have v1' : ∀ o, (Y1.alloc o).cell? ⟨vb, 1, none⟩ = some (.int .i64 y) := fun o => ((hba o).cell (p := ⟨vb, 1, none⟩) (Array.getElem?_eq_some_iff.1 hv1).1).trans v1
                  go_region_law (refine step_append_own _ rfl _ _ 74 rfl (nb + 1) 29 ik1 _ 2 16 Tryd.underlying74 hik1 hz10 hz11 hz12 rfl (by decide) _ N.length (vaV N) rfl hA.vals ⟨Y1.heap.size, 0, none⟩ 1 1 [.int .i64 x, .int .i64 y] rfl rfl (rf_alloc Y1 [.int .i64 x, .int .i64 y] 29 _ rfl) (by intro u hu; simp only [List.mem_cons, List.not_mem_nil, or_false] at hu; (repeat (first | (rcases hu with rfl | hu; rfl) | (subst hu; rfl)))) hnl.1 hnl.2 hzA ?_; intro v2 w2 hown2 hgrow2; obtain ⟨g2, cap2, rfl⟩ := own_some hown2 (by omega); obtain ⟨hR2, hBn, cS, fS⟩ := hA.app1 (id, (x, y)) hown2 hgrow2)
                  all_goals
                    have hBY : Below nb Y1 (w2.setCell ⟨nb, 1, none⟩ (.slice (some ⟨g2, 0, none⟩) (N.length + 1) cap2)) := (hbA.mono (Nat.le_of_lt (Array.getElem?_eq_some_iff.1 hR1.row).1)).trans hBn
                    clear cS fS hown2 hgrow2 hA hbA hzA hnl cN cN' hba
                    go_wp2_with fail
                    go_meet
                    exact ⟨_, hR2, hBY⟩
                case rest =>
                  obtain ⟨vY2, hR2, hBY2⟩ := hcut
                  obtain ⟨Y2, hY2⟩ : ∃ Y, Y = wc := ⟨_, rfl⟩
                  subst hY2
                  go_upto_region 11 with fail
                  go_cut [81] (fun _ wx => ∃ v', RfR wx nb vY1 vY2 v' (N ++ [(id, (x, y))]) (N ++ [(id, (x, y))]) (N.length + 1) (st ++ [0, 0, 0, 0, 0, 0, 0, 0]) ∧ Below nb Y2 wx)
                  case first =>
                    obtain ⟨ea, ec, hea, -⟩ := own_sl hR2.sts
                    subst hea
                    have cN : Y2.cell? ⟨nb, 2, none⟩ = some (.slice ea N.length ec) := cell_of_row _ _ 2 _ _ _ hR2.row
                    have hbA : Below Y2.heap.size Y2 (Y2.alloc (.cells #[.int .i64 0, .int .i64 0, .int .i64 0, .int .i64 0, .int .i64 0, .int .i64 0, .int .i64 0, .int .i64 0] 87)) := ((Below.refl Y2.heap.size Y2).alloc (Nat.le_refl _) (.cells #[.int .i64 0, .int .i64 0, .int .i64 0, .int .i64 0, .int .i64 0, .int .i64 0, .int .i64 0, .int .i64 0] 87))
                    have hA := hR2.later hbA
                    have hzA : nb + 1 ≤ (Y2.alloc (.cells #[.int .i64 0, .int .i64 0, .int .i64 0, .int .i64 0, .int .i64 0, .int .i64 0, .int .i64 0, .int .i64 0] 87)).heap.size := by have h1 := hbA.size; have h2 := (Array.getElem?_eq_some_iff.1 hR2.row).1; omega
                    have hnl : N.length + 1 ≤ maxLen ∧ (N.length + 1) * 64 ≤ 140737488355328 := by have := hnN.out; unfold maxLen; omega
                    go_wp2_with (at_builtin; refine wpList_append_own_at (P := Tryd.prog) _ rfl _ _ 75 rfl (nb + 1) 87 ik2 _ 8 64 Tryd.underlying75 hik2 hz20 hz21 hz22 rfl (by decide) _ N.length (stV st) rfl hA.sts ⟨Y2.heap.size, 0, none⟩ 1 1 [.int .i64 0, .int .i64 0, .int .i64 0, .int .i64 0, .int .i64 0, .int .i64 0, .int .i64 0, .int .i64 0] rfl rfl (rf_alloc Y2 [.int .i64 0, .int .i64 0, .int .i64 0, .int .i64 0, .int .i64 0, .int .i64 0, .int .i64 0, .int .i64 0] 87 _ rfl) (by intro u hu; simp only [List.mem_cons, List.not_mem_nil, or_false] at hu; (repeat (first | (rcases hu with rfl | hu; rfl) | (subst hu; rfl)))) hnl.1 hnl.2 hzA ?_; intro v2 w2 hown2 hgrow2 _ _; obtain ⟨g2, cap2, rfl⟩ := own_some hown2 (by omega); obtain ⟨hR3, hBn, cS, fS⟩ := hA.app2 [0, 0, 0, 0, 0, 0, 0, 0] rfl hown2 hgrow2)
                    have hBY : Below nb Y2 (w2.setCell ⟨nb, 2, none⟩ (.slice (some ⟨g2, 0, none⟩) (N.length + 1) cap2)) := (hbA.mono (Nat.le_of_lt (Array.getElem?_eq_some_iff.1 hR2.row).1)).trans hBn
                    clear cS fS hown2 hgrow2 hA hbA hzA hnl cN
                    go_meet
                    exact ⟨_, hR3, hBY⟩
                  case rest =>
                    obtain ⟨vY3, hR3, hBY3⟩ := hcut
                    obtain ⟨Y3, hY3⟩ : ∃ Y, Y = wc := ⟨_, rfl⟩
                    subst hY3
                    have hB3 : Below V.heap.size V Y3 := (hB1.trans (hBY2.mono hnbV.out.1)).trans (hBY3.mono hnbV.out.1)
                    rw [show N.length + 1 = (N ++ [(id, (x, y))]).length from by simp] at hR3
                    go_wp2_with fail
                    go_meet
                    exact ⟨rfl, _, _, _, _, _, (by show _ = _; first | exact (if_pos rfl).symm | simp), hR3, hB3, SZ_own hZ.out hR.len (x, y) _⟩
            · have hia' : ¬ (i : Int) = (at' : Int) := fun h => hia (Int.ofNat_inj.1 h)
              go_wp2_with fail
              go_meet
              exact ⟨rfl, _, _, _, _, _, (by show _ = _; first | exact (if_neg hia).symm | simp [hia]), hR, hB, hZ⟩
          case rest =>
            obtain ⟨rfl, M, wi, wv, ws, sm, hM, hR3, hB3, hZ3⟩ := hcut
            obtain ⟨Y3, hY3⟩ : ∃ Y, Y = wc := ⟨_, rfl⟩
            subst hY3
            have d0 := (hB3.cell (p := ⟨b, 0, none⟩) hbV.out).trans c0
            have hn1 : Hid (M.length ≤ 5000000004) := by
              have h1 := hnN.out
              have h2 := hM.out
              show _ ≤ 5000000004
              rw [h2]
              split
              · simp only [List.length_append, List.length_singleton]; omega
              · omega
            have hMM : Hid (M = if i = at' then nwL L at' ok (id, (x, y)) i ++ [(id, (x, y))] else nwL L at' ok (id, (x, y)) i) := by
              have h2 := hM.out
              rw [← hN.out] at h2
              exact h2
            clear hR hB hnN hM hN hZ
            have hnN := hn1
            have hM := hMM
            clear hn1 hMM
            obtain ⟨d2, hn2⟩ : ∃ d : Bool, Hid (d = true ↔ (i < L.length ∧ (¬ i = at' ∨ ok = false))) := rf_bool _
            go_upto_region 12 with fail
            go_cut [106] (fun c wx => c = .bool d2 ∧ wx = Y3)
            case first =>
              by_cases hil : i < L.length
              · have hil' : (i : Int) < (L.length : Int) := Int.ofNat_lt.2 hil
                by_cases hia : i = at'
                · subst hia
                  cases ok with
                  | true =>
                    have hd2 : d2 = false := by cases hdd : d2 with | false => rfl | true => exact absurd (hn2.out.1 hdd).2 (by simp)
                    subst hd2
                    go_wp2_with fail
                    go_meet
                    exact ⟨rfl, rfl⟩
                  | false =>
                    have hd2 : d2 = true := hn2.out.2 ⟨hil, .inr rfl⟩
                    subst hd2
                    go_wp2_with fail
                    go_meet
                    exact ⟨rfl, rfl⟩
                · have hia' : ¬ (i : Int) = (at' : Int) := fun h => hia (Int.ofNat_inj.1 h)
                  have hd2 : d2 = true := hn2.out.2 ⟨hil, .inl hia⟩
                  subst hd2
                  go_wp2_with fail
                  go_meet
                  exact ⟨rfl, rfl⟩
              · have hil' : ¬ (i : Int) < (L.length : Int) := fun h => hil (Int.ofNat_lt.1 h)
                have hd2 : d2 = false := by cases hdd : d2 with | false => rfl | true => exact absurd (hn2.out.1 hdd).1 hil
                subst hd2
                go_wp2_with fail
                go_meet
                exact ⟨rfl, rfl⟩
            case rest =>
              obtain ⟨hcv, hwc⟩ := hcut
              have hwd := hwc.symm
              clear hwc
              subst hwd hcv
              cases d2 with
              | true =>
                have hil := (hn2.out.1 rfl).1
                obtain ⟨gi, gv, gs, rfl, rfl, rfl, hgi, hgv, hgs, hcc, hss⟩ := hc (Nat.lt_of_le_of_lt (Nat.zero_le _) hil)
                obtain ⟨a0, a1, a2⟩ := hcc i hil
                obtain ⟨t0, t1, t2, t3, t4, t5, t6, t7, s0, s1, s2, s3, s4, s5, s6, s7, ht⟩ := st_eight_rs (fun l hl => h3.stamps c2 i hil l hl)
                have hil' : (i : Int) < (L.length : Int) := Int.ofNat_lt.2 hil
                have hi0 : (0 : Int) ≤ (i : Int) := Int.natCast_nonneg _
                have hLi : Hid (L[i] = (L[i].1, (L[i].2.1, L[i].2.2))) := (rfl : L[i] = (L[i].1, (L[i].2.1, L[i].2.2)))
                obtain ⟨key, hkey⟩ : ∃ key, key = L[i].1 := ⟨_, rfl⟩
                obtain ⟨kx, hkx⟩ : ∃ kx, kx = L[i].2.1 := ⟨_, rfl⟩
                obtain ⟨ky, hky⟩ : ∃ ky, ky = L[i].2.2 := ⟨_, rfl⟩
                rw [← hkey] at a0 hLi
                rw [← hkx] at a1 hLi
                rw [← hky] at a2 hLi
                have hmc : Hid (∀ Y, Below V.heap.size V Y → Y.cell? ⟨b, 0, none⟩ = some (.slice (some ⟨gi, 0, none⟩) L.length ci) ∧ Y.cell? ⟨b, 1, none⟩ = some (.slice (some ⟨gv, 0, none⟩) L.length cv) ∧ Y.cell? ⟨b, 2, none⟩ = some (.slice (some ⟨gs, 0, none⟩) L.length cs) ∧ Y.cell? ⟨gi, i, none⟩ = some (.int .u32 (key : Int)) ∧ Y.cell? ⟨gv, i * 2, none⟩ = some (.int .i64 kx) ∧ Y.cell? ⟨gv, i * 2 + 1, none⟩ = some (.int .i64 ky) ∧ Y.cell? ⟨gs, i * 8, none⟩ = some (.int .i64 t0) ∧ Y.cell? ⟨gs, i * 8 + 1, none⟩ = some (.int .i64 t1) ∧ Y.cell? ⟨gs, i * 8 + 2, none⟩ = some (.int .i64 t2) ∧ Y.cell? ⟨gs, i * 8 + 3, none⟩ = some (.int .i64 t3) ∧ Y.cell? ⟨gs, i * 8 + 4, none⟩ = some (.int .i64 t4) ∧ Y.cell? ⟨gs, i * 8 + 5, none⟩ = some (.int .i64 t5) ∧ Y.cell? ⟨gs, i * 8 + 6, none⟩ = some (.int .i64 t6) ∧ Y.cell? ⟨gs, i * 8 + 7, none⟩ = some (.int .i64 t7)) := fun Y hY => by
                  have kc : ∀ (g o : Nat), g < V.heap.size → Y.cell? ⟨g, o, none⟩ = V.cell? ⟨g, o, none⟩ := fun g o hg => hY.cell (p := ⟨g, o, none⟩) hg
                  exact ⟨(kc _ _ hbV.out).trans c0, (kc _ _ hbV.out).trans c1, (kc _ _ hbV.out).trans c2, (kc _ _ hgi).trans a0, (kc _ _ hgv).trans a1, (kc _ _ hgv).trans a2, (kc _ _ hgs).trans s0, (kc _ _ hgs).trans s1, (kc _ _ hgs).trans s2, (kc _ _ hgs).trans s3, (kc _ _ hgs).trans s4, (kc _ _ hgs).trans s5, (kc _ _ hgs).trans s6, (kc _ _ hgs).trans s7⟩
                have hZ9 : Hid (SZ σ id (M ++ [(key, (kx, ky))]) (sm ++ [t0, t1, t2, t3, t4, t5, t6, t7])) := SZ_old hZ3.out hR3.len key (kx, ky) (by rw [hkey]; exact ht.out)
                clear hkey hkx hky a0 a1 a2 s0 s1 s2 s3 s4 s5 s6 s7 hcc hss hc
                go_upto_region 13 with fail
                go_cut [107] (fun _ wx => ∃ v', RfR wx nb v' wv ws (M ++ [(key, (kx, ky))]) M M.length sm ∧ Below nb Y3 wx)
                case first =>
                  obtain ⟨ea, ec, hea, -⟩ := own_sl hR3.ids
                  subst hea
                  have cN : Y3.cell? ⟨nb, 0, none⟩ = some (.slice ea M.length ec) := cell_of_row _ _ 0 _ _ _ hR3.row
                  have hbA : Below Y3.heap.size Y3 (Y3.alloc (.cells #[.int .u32 (key : Int)] 27)).drew := ((Below.refl Y3.heap.size Y3).alloc (Nat.le_refl _) (.cells #[.int .u32 (key : Int)] 27)).drew
                  have hA := hR3.later hbA
                  have hzA : nb + 1 ≤ (Y3.alloc (.cells #[.int .u32 (key : Int)] 27)).drew.heap.size := by have h1 := hbA.size; have h2 := (Array.getElem?_eq_some_iff.1 hR3.row).1; omega
                  have hnl : M.length + 1 ≤ maxLen ∧ (M.length + 1) * 4 ≤ 140737488355328 := by have := hnN.out; unfold maxLen; omega
                  have hba : ∀ o, Below Y3.heap.size Y3 (Y3.alloc o) := fun o => (Below.refl _ _).alloc (Nat.le_refl _) o
                  have cN' : ∀ o, (Y3.alloc o).cell? ⟨nb, 0, none⟩ = some (.slice ea M.length ec) := fun o => ((hba o).cell (p := ⟨nb, 0, none⟩) (Array.getElem?_eq_some_iff.1 hR3.row).1).trans cN
                  obtain ⟨m0, m1, m2, m3, m4, m5, -⟩ := hmc.out _ hB3
                  go_region_law (refine step_append_own _ rfl _ _ 73 rfl (nb + 1) 27 ik0 _ 1 4 Tryd.underlying73 hik0 hz00 hz01 hz02 rfl (by decide) _ M.length (idV M) rfl hA.ids ⟨Y3.heap.size, 0, none⟩ 1 1 [.int .u32 (key : Int)] rfl rfl (rf_alloc Y3 [.int .u32 (key : Int)] 27 _ rfl) (by intro u hu; simp only [List.mem_cons, List.not_mem_nil, or_false] at hu; (repeat (first | (rcases hu with rfl | hu; rfl) | (subst hu; rfl)))) hnl.1 hnl.2 hzA ?_; intro v2 w2 hown2 hgrow2; obtain ⟨g2, cap2, rfl⟩ := own_some hown2 (by omega); obtain ⟨hM1, hBn, cS, fS⟩ := hA.app0 (key, (kx, ky)) hown2 hgrow2)
                  all_goals
                    have hBY : Below nb Y3 (w2.setCell ⟨nb, 0, none⟩ (.slice (some ⟨g2, 0, none⟩) (M.length + 1) cap2)) := (hbA.mono (Nat.le_of_lt (Array.getElem?_eq_some_iff.1 hR3.row).1)).trans hBn
                    clear cS fS hown2 hgrow2 hA hbA hzA hnl cN cN' hba
                    go_wp2_with fail
                    go_meet
                    exact ⟨_, hM1, hBY⟩
                case rest =>
                  obtain ⟨vZ1, hM1, hBZ1⟩ := hcut
                  obtain ⟨Z1, hZ1⟩ : ∃ Y, Y = wc := ⟨_, rfl⟩
                  subst hZ1
                  have hBq1 : Below V.heap.size V Z1 := hB3.trans (hBZ1.mono hnbV.out.1)
                  go_upto_region 14 with fail
                  go_cut [123] (fun _ wx => ∃ v', RfR wx nb vZ1 v' ws (M ++ [(key, (kx, ky))]) (M ++ [(key, (kx, ky))]) M.length sm ∧ Below nb Z1 wx)
                  case first =>
                    obtain ⟨ea, ec, hea, -⟩ := own_sl hM1.vals
                    subst hea
                    have cN : Z1.cell? ⟨nb, 1, none⟩ = some (.slice ea M.length ec) := cell_of_row _ _ 1 _ _ _ hM1.row
                    have hbA : Below Z1.heap.size Z1 (Z1.alloc (.cells #[.int .i64 kx, .int .i64 ky] 29)).drew := ((Below.refl Z1.heap.size Z1).alloc (Nat.le_refl _) (.cells #[.int .i64 kx, .int .i64 ky] 29)).drew
                    have hA := hM1.later hbA
                    have hzA : nb + 1 ≤ (Z1.alloc (.cells #[.int .i64 kx, .int .i64 ky] 29)).drew.heap.size := by have h1 := hbA.size; have h2 := (Array.getElem?_eq_some_iff.1 hM1.row).1; omega
                    have hnl : M.length + 1 ≤ maxLen ∧ (M.length + 1) * 16 ≤ 140737488355328 := by have := hnN.out; unfold maxLen; omega
                    have hba : ∀ o, Below Z1.heap.size Z1 (Z1.alloc o) := fun o => (Below.refl _ _).alloc (Nat.le_refl _) o
                    have cN' : ∀ o, (Z1.alloc o).cell? ⟨nb, 1, none⟩ = some (.slice ea M.length ec) := fun o => ((hba o).cell (p := ⟨nb, 1, none⟩) (Array.getElem?_eq_some_iff.1 hM1.row).1).trans cN
                    obtain ⟨m0, m1, m2, m3, m4, m5, -⟩ := hmc.out _ hBq1
                    go_region_law (refine step_append_own _ rfl _ _ 74 rfl (nb + 1) 29 ik1 _ 2 16 Tryd.underlying74 hik1 hz10 hz11 hz12 rfl (by decide) _ M.length (vaV M) rfl hA.vals ⟨Z1.heap.size, 0, none⟩ 1 1 [.int .i64 kx, .int .i64 ky] rfl rfl (rf_alloc Z1 [.int .i64 kx, .int .i64 ky] 29 _ rfl) (by intro u hu; simp only [List.mem_cons, List.not_mem_nil, or_false] at hu; (repeat (first | (rcases hu with rfl | hu; rfl) | (subst hu; rfl)))) hnl.1 hnl.2 hzA ?_; intro v2 w2 hown2 hgrow2; obtain ⟨g2, cap2, rfl⟩ := own_some hown2 (by omega); obtain ⟨hM2, hBn, cS, fS⟩ := hA.app1 (key, (kx, ky)) hown2 hgrow2)
                    all_goals
                      have hBY : Below nb Z1 (w2.setCell ⟨nb, 1, none⟩ (.slice (some ⟨g2, 0, none⟩) (M.length + 1) cap2)) := (hbA.mono (Nat.le_of_lt (Array.getElem?_eq_some_iff.1 hM1.row).1)).trans hBn
                      clear cS fS hown2 hgrow2 hA hbA hzA hnl cN cN' hba
                      go_wp2_with fail
                      go_meet
                      exact ⟨_, hM2, hBY⟩
                  case rest =>
                    obtain ⟨vZ2, hM2, hBZ2⟩ := hcut
                    obtain ⟨Z2, hZ2⟩ : ∃ Y, Y = wc := ⟨_, rfl⟩
                    subst hZ2
                    have hBq2 : Below V.heap.size V Z2 := hBq1.trans (hBZ2.mono hnbV.out.1)
                    go_upto_region 15 with fail
                    obtain ⟨ea, ec, hea, -⟩ := own_sl hM2.sts
                    subst hea
                    have cN : Z2.cell? ⟨nb, 2, none⟩ = some (.slice ea M.length ec) := cell_of_row _ _ 2 _ _ _ hM2.row
                    have hbA : Below Z2.heap.size Z2 (Z2.alloc (.cells #[.int .i64 t0, .int .i64 t1, .int .i64 t2, .int .i64 t3, .int .i64 t4, .int .i64 t5, .int .i64 t6, .int .i64 t7] 87)).drew := ((Below.refl Z2.heap.size Z2).alloc (Nat.le_refl _) (.cells #[.int .i64 t0, .int .i64 t1, .int .i64 t2, .int .i64 t3, .int .i64 t4, .int .i64 t5, .int .i64 t6, .int .i64 t7] 87)).drew
                    have hA := hM2.later hbA
                    have hzA : nb + 1 ≤ (Z2.alloc (.cells #[.int .i64 t0, .int .i64 t1, .int .i64 t2, .int .i64 t3, .int .i64 t4, .int .i64 t5, .int .i64 t6, .int .i64 t7] 87)).drew.heap.size := by have h1 := hbA.size; have h2 := (Array.getElem?_eq_some_iff.1 hM2.row).1; omega
                    have hnl : M.length + 1 ≤ maxLen ∧ (M.length + 1) * 64 ≤ 140737488355328 := by have := hnN.out; unfold maxLen; omega
                    have hba : ∀ o, Below Z2.heap.size Z2 (Z2.alloc o) := fun o => (Below.refl _ _).alloc (Nat.le_refl _) o
                    have cN' : ∀ o, (Z2.alloc o).cell? ⟨nb, 2, none⟩ = some (.slice ea M.length ec) := fun o => ((hba o).cell (p := ⟨nb, 2, none⟩) (Array.getElem?_eq_some_iff.1 hM2.row).1).trans cN
                    obtain ⟨m0, m1, m2, m3, m4, m5, s0, s1, s2, s3, s4, s5, s6, s7⟩ := hmc.out _ hBq2
                    go_region_law (refine step_append_own _ rfl _ _ 75 rfl (nb + 1) 87 ik2 _ 8 64 Tryd.underlying75 hik2 hz20 hz21 hz22 rfl (by decide) _ M.length (stV sm) rfl hA.sts ⟨Z2.heap.size, 0, none⟩ 1 1 [.int .i64 t0, .int .i64 t1, .int .i64 t2, .int .i64 t3, .int .i64 t4, .int .i64 t5, .int .i64 t6, .int .i64 t7] rfl rfl (rf_alloc Z2 [.int .i64 t0, .int .i64 t1, .int .i64 t2, .int .i64 t3, .int .i64 t4, .int .i64 t5, .int .i64 t6, .int .i64 t7] 87 _ rfl) (by intro u hu; simp only [List.mem_cons, List.not_mem_nil, or_false] at hu; (repeat (first | (rcases hu with rfl | hu; rfl) | (subst hu; rfl)))) hnl.1 hnl.2 hzA ?_; intro v2 w2 hown2 hgrow2; obtain ⟨g2, cap2, rfl⟩ := own_some hown2 (by omega); obtain ⟨hM3, hBn, cS, fS⟩ := hA.app2 [t0, t1, t2, t3, t4, t5, t6, t7] rfl hown2 hgrow2)
                    all_goals
                      have hBY : Below nb Z2 (w2.setCell ⟨nb, 2, none⟩ (.slice (some ⟨g2, 0, none⟩) (M.length + 1) cap2)) := (hbA.mono (Nat.le_of_lt (Array.getElem?_eq_some_iff.1 hM2.row).1)).trans hBn
                      clear cS fS hown2 hgrow2 hA hbA hzA hnl cN cN' hba hBn
                      obtain ⟨vZ3, hvZ3⟩ : ∃ v, v = Value.slice (some ⟨g2, 0, none⟩) (M.length + 1) cap2 := ⟨_, rfl⟩
                      rw [← hvZ3] at hM3 hBY ⊢
                      clear hvZ3
                      generalize w2.setCell ⟨nb, 2, none⟩ vZ3 = Z3 at *
                      have hBZ3 := hBY
                      clear hBY
                      have hBq3 : Below V.heap.size V Z3 := hBq2.trans (hBZ3.mono hnbV.out.1)
                      rw [show M.length + 1 = (M ++ [(key, (kx, ky))]).length from by simp] at hM3
                      go_wp2
                      exact ⟨⟨i + 1, (show i + 1 ≤ L.length + 1 by omega), by go_num, ⟨_, _, _, _, by rw [nwL_Y hM.out hn2.out, hLi.out]; exact hM3, by rw [nwL_Y hM.out hn2.out, hLi.out]; exact hZ9⟩, hBq3⟩, by simp [intOf]; omega⟩
              | false =>
                go_wp2
                exact ⟨⟨i + 1, (show i + 1 ≤ L.length + 1 by omega), by go_num, ⟨_, _, _, _, by rw [nwL_N hM.out hn2.out]; exact hR3, by rw [nwL_N hM.out hn2.out]; exact hZ3⟩, hB3⟩, by simp [intOf]; omega⟩
        · have hin' : ¬ (i : Int) ≤ (L.length : Int) := fun h => hin (Int.ofNat_le.1 h)
          have hie : i = L.length + 1 := by have := hi.out; omega
          obtain ⟨e1, e2, e3⟩ := hat'.out
          have hZ8 := hZ.out
          rw [hie, e1, e2, nwL_ins hrs.out] at hR hZ8
          have hkI : ∀ e ∈ ins L id (x, y), e.1 < 4294967296 := fun e he => by
            rcases mem_ins.1 he with rfl | ⟨_, he⟩
            · exact hid
            · exact hk e he
          have hlI : (ins L id (x, y)).length ≤ 6000000000 := by have := insE_len L id (x, y); omega
          have hst := stamped_rs σ nb id hid stamp _ _ _ _ hkI hlI _ wr hR hZ8
          have hrI := rises_ins hrs.out id (x, y)
          have hBw := below_step hb3 hB
          have hwn : Hid (w.heap.size ≤ nb) := Nat.le_trans hb3.size hnbV.out.1
          clear hkI hlI hk hid hi hie hnN hc c0 c1 c2
          go_wp2_with (go_at_call 36; fail)
          refine hst.mono ?_
          rintro e w9 ⟨rfl, ⟨st', hR9, hG9⟩, hB9⟩
          clear hst d0
          go_wp2
          go_ret
          exact ⟨nb, rfl, .inr ⟨hnd.out, hwn.out, hR9.doneS hrI hG9⟩, hBw.trans (hB9.mono hwn.out)⟩

end Go.Proofs.YtmppgcijbeipfaaDoor

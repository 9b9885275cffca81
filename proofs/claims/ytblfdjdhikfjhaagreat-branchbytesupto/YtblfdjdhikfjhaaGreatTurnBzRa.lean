import Derived.Test.YtblfdjdhikfjhaaGreatJoin27
import Derived.Deep.DeepCutAuto
namespace Go.Proofs.YtblfdjdhikfjhaaGreat.BZ
open Go.RowKit

def StopR (P : Prop) := P
theorem stopR {P : Prop} (h : StopR P) : P := h
theorem infoS1 : (Tryz.prog.info? 9).map (fun i => (i.zero, i.size, i.bytes)) = some (some (.string ⟨#[]⟩), 1, 16) := by kernel_rfl
/-- What the book's reader answers. -/
def KP (W : World) (rb : Nat) (t : List UInt8) (bad : Bool) (e : Ending) (W' : World) : Prop :=
  ∃ y t2 b2, RAt W' rb t2 b2 ∧ Gr rb W W' ∧ Xq (rBook t) bad b2 t2 y ∧ ((b2 = true ∧ e = .returned (.pointer none)) ∨
    (b2 = false ∧ ∃ bb Bs cur, e = .returned (.pointer (some ⟨bb, 0, none⟩)) ∧ BookAt W' W.heap.size bb Bs cur ∧ (Bs.map toB).reverse = y.1 ∧ (y.1.map (·.nm)).Pairwise (· < ·) ∧ (y.1.map (·.nm))[y.2]? = some cur.data.toList))

set_option maxRecDepth 8000 in
set_option maxHeartbeats 8000000 in
theorem rbook_any (rb : Nat) (W : World) {t : List UInt8} {bad : Bool} (hl : t.length ≤ 9223372036854775806) (h : RAt W rb t bad) : Calls Tryz.prog 24 #[.pointer (some ⟨rb, 0, none⟩)] W (KP W rb t bad) := by
  have hk := rone_any rb W h
  have hrb := h.lt
  obtain ⟨i0, hi0, hz0, hz1, hz2⟩ := info_parts infoS1
  clear h
  go_enter Tryz.func24, Tryz.ntmps24
  go_upto_if 12 with (go_at_call 49; refine hk.mono ?_; rintro e w1 ⟨x, v1, t1, b1, rfl, ⟨rfl, hx8⟩, hR1, hG1, hX1⟩)
  go_cut [2] (fun v wx => v = .pointer none ∧ ∃ (t2 : List UInt8) (b2 : Bool), RAt wx rb t2 b2 ∧ Gr rb W wx ∧ t2.length ≤ 9223372036854775806 ∧ Hid (Ck t bad t2 b2))
  case first =>
    have hl1 := hX1.short sh_one hR1
    by_cases hx : x = 66
    · have hx' : ((x : Int) != 66) = false := by simp; omega
      have hC : Hid (Ck t bad t1 b1) := fun b3 t3 y hq => hX1.bd (by rw [if_neg (by omega)]; exact hq)
      subst hx
      clear hX1 hk
      go_wp2
      go_meet
      exact ⟨rfl, t1, b1, hR1, hG1, by omega, hC⟩
    · have hx' : ((x : Int) != 66) = true := by rw [bne_iff_ne]; omega
      have hC : Hid (Ck t bad [] true) := fun b3 t3 y hq => by
        rw [hq.1 rfl]
        exact hX1.bd (Xq.fail fun _ => if_pos hx)
      have hf := rfail_any rb w1 hR1
      clear hX1 hk
      go_wp2_with (go_at_call 50; refine hf.mono ?_; rintro e w2 ⟨rfl, hR2, hG2⟩)
      go_meet
      exact ⟨rfl, [], true, hR2, hG1.trans hG2, by decide, hC⟩
  case rest =>
    obtain ⟨rfl, t2, b2, hR2, hG2, hl2, hC2⟩ := hcut
    have hb := rbet_any rb 1 6 wc hl2 hR2
    clear hk
    go_wp2_with (go_at_call 51; fail)
    refine hb.mono ?_
    intro e w3 hx
    obtain ⟨n, t3, b3, rfl, hn6, hR3, hG3, hX3⟩ := hx.outB
    have hn6 := hn6.out
    have hl3 := Nat.le_trans (hX3.short (sh_B _ _) hR3) hl2
    have hG03 := hG2.trans hG3
    have hpos : Hid (b3 = false → 1 ≤ n) := fun e => by
      subst e
      obtain rfl := hX3.was
      exact (rB_ge hX3.good).1
    have hC3 : Hid (Cb t bad n n [] t3 b3) := fun b4 t4 y hq => hC2.out _ _ _ (hX3.bd hq)
    have hlo : W.heap.size ≤ w3.heap.size := hG03.size
    have hmm := @run_makeMap Tryz.prog
    have ho := World.ownsMap_made w3 Tryz.prog 9 bR
    have hbM : Below w3.heap.size w3 (w3.alloc (.map #[] 0)) := (Below.refl _ _).alloc (Nat.le_refl _) _
    have hbB : Below w3.heap.size w3 ((w3.alloc (.map #[] 0)).alloc (.cells #[.map (some w3.heap.size), .string ⟨#[]⟩] 71)) := hbM.alloc (by simp) _
    have hLM4 : LM W.heap.size rb (w3.heap.size + 1) w3.heap.size 0 [] (.map []) ((w3.alloc (.map #[] 0)).alloc (.cells #[.map (some w3.heap.size), .string ⟨#[]⟩] 71)) := ⟨hrb, by omega, hlo, by have := heap_alloc_last (w3.alloc (.map #[] 0)) (.cells #[.map (some w3.heap.size), .string ⟨#[]⟩] 71); simpa using this, ownsMap_later ho ((Below.refl _ _).alloc (Nat.le_refl _) _), fun x hx => (by cases hx), fun x hx => (by cases hx), rfl⟩
    have hR4 := hR3.later hbB
    have hG4 := hG03.trans (Gr.of_below hbB)
    clear hb hx hR2 hG2 hl2 hC2 hR3 hX3 hG3 hG03 hbM hbB ho
    go_wp2
    have hN4 : NmR W.heap.size ((w3.alloc (.map #[] 0)).alloc (.cells #[.map (some w3.heap.size), .string ⟨#[]⟩] 71)) (.slice none 0 0) (([] : List Bc).map (·.nm)) := ⟨⟨rfl, .inl ⟨rfl, rfl⟩⟩, fun _ => rfl⟩
    have hG0 : Hid (Gk b3 [] [] (.map [])) := ⟨rfl, fun _ => ⟨Ties.none, List.Pairwise.nil⟩⟩
    obtain ⟨bb, hbb⟩ : ∃ bb, w3.heap.size + 1 = bb := ⟨_, rfl⟩
    rw [hbb] at hLM4
    generalize ((w3.alloc (.map #[] 0)).alloc (.cells #[.map (some w3.heap.size), .string ⟨#[]⟩] 71)) = X4 at *
    generalize w3.heap.size = mb at *
    rw [hbb]
    clear hbb hmm hlo
    go_loopw [5, 21] (fun nv iv wr => ∃ (i : Nat) (acc : List Bc) (Bs : List Br) (D : DataW Nat) (t1 : List UInt8) (b1 : Bool), i ≤ n ∧ iv = .int .u64 (i : Int) ∧ RAt wr rb t1 b1 ∧ Gr rb W wr ∧ LM W.heap.size rb bb mb i Bs D wr ∧ NmR W.heap.size wr nv (acc.map (·.nm)) ∧ Hid (acc.length = i) ∧ t1.length ≤ 9223372036854775806 ∧ Hid (Gk b1 acc Bs D) ∧ Hid (b1 = false → 1 ≤ n) ∧ Hid (Cb t bad n (n - i) acc t1 b1)) (fun _ iv _ => n - (intOf iv).toNat)
    case atStart => exact ⟨0, [], [], .map [], t3, b3, by omega, rfl, hR4, hG4, hLM4, hN4, rfl, by omega, hG0, hpos, hC3⟩
    case round =>
      obtain ⟨i, acc, Bs, D, t1, b1, hi, rfl, hR, hG, hLM, hN, hal, hlt1, hGk, hps, hC⟩ := hrel
      clear hR4 hG4 hLM4 hN4 hG0 hpos hC3
      by_cases hlt : i < n
      · have hlt' : (i : Int) < (n : Int) := by omega
        have hCs : Hid (Cb t bad n (n - (i + 1) + 1) acc t1 b1) := by rw [show n - (i + 1) + 1 = n - i by omega]; exact hC
        have hrw := hR.rw
        have hml : (acc.map (·.nm)).length = i := by rw [List.length_map]; exact hal.out
        have hk := rname_any rb wr _ (acc.map (·.nm)) hlt1 hR (hN.ah hrb (by omega))
        obtain ⟨p0, c0, e0⟩ := hN.sl
        rw [hml] at e0
        subst e0
        have hHm : Hid ((acc.map (·.nm)).length = i) := hml
        clear hC hml
        go_wp2_with (go_at_call 52; fail)
        refine hk.mono ?_
        intro e w5 hx
        obtain ⟨s, t5, b5, rfl, hs, hR5, hG5, hX5⟩ := hx.outS
        have hs := hs.out
        have hl5 := hX5.short (sh_Nm _) hR5
        have hLM5 := hLM.gr hrw hG5
        have hN5 := hN.gr hrb hG5
        have hG05 := hG.trans hG5
        have hlo5 : W.heap.size ≤ w5.heap.size := hG05.size
        have hbA : Below w5.heap.size w5 (w5.alloc (.cells #[.string ⟨s.toArray⟩] 9)) := (Below.refl _ _).alloc (Nat.le_refl _) _
        have hRA := hR5.later hbA
        have hLMA := hLM5.later hbA
        have hNA := hN5.later hbA
        have hGA := hG05.trans (Gr.of_below hbA)
        clear hx hk hR hG hLM hN hR5 hLM5 hN5 hG5 hG05
        go_wp2_with (at_builtin; refine stopR ?_)
        unfold StopR
        have hNrow := hNA.1
        rw [hHm.out] at hNrow
        refine wpList_append_own_at (P := Tryz.prog) _ rfl _ _ 53 rfl W.heap.size 9 i0 _ 1 16 Tryz.underlying53 hi0 hz0 hz1 hz2 rfl (by decide) (.slice p0 i c0) i ((acc.map (·.nm)).map encStr) (by kernel_rfl) hNrow ⟨w5.heap.size, 0, none⟩ 1 1 [.string ⟨s.toArray⟩] (by kernel_rfl) rfl (one_new w5 _ _) (by simp [Value.oneCell']) (by unfold maxLen; omega) (by omega) (by have := hbA.size; omega) ?_
        intro v6 w6 hown6 hg6 _ _
        obtain ⟨g6, cap6, rfl⟩ := own_some hown6 (by omega)
        have hN6 : NmR W.heap.size w6 (.slice (some ⟨g6, 0, none⟩) (i + 1) cap6) (acc.map (·.nm) ++ [s]) := ⟨by rw [List.map_append, List.length_append, hHm.out]; exact hown6, fun e => absurd e (by simp)⟩
        obtain ⟨r, hr1, hr2, hr3, hr4, hr5⟩ := hNA.grown (Nat.le_trans hlo5 hbA.size) hg6 hLMA.bk hLMA.mp
        have hLM6 := hLMA.moved hr2 hr4 hr5 hr3
        have hR6 := hRA.far (Nat.lt_of_lt_of_le hrb hr1) hr3
        have hG6 := gr_hist hGA hr1 hr3
        have B0 : Below w6.heap.size w6 w6.drew := (Below.refl _ _).drew
        have hLMd := hLM6.later B0
        have hRd := hR6.later B0
        have hNd := hN6.later B0
        have hGd := hG6.trans (Gr.of_below B0)
        have cd := hLMd.cell
        have hsz : (⟨s.toArray⟩ : ByteArray).size ≤ maxLen := by show s.toArray.size ≤ maxLen; simp; unfold maxLen; omega
        have hbr := rbranch_any ⟨s.toArray⟩ hsz s rb w6.drew (by omega) hRd
        have hmb : Hid (W.heap.size ≤ mb) := hLMd.m
        have hhb : Hid (∀ b ∈ Bs, b.hb < w6.drew.heap.size) := fun b hb => (hLMd.br b hb).2.1.lt
        have hi5 : i < 6 := by omega
        clear hown6 hg6 hr1 hr2 hr3 hr4 hr5 hLMA hRA hNA hGA hNrow hbA hLM6 hR6 hG6 hN6 B0 hlo5
        go_wp2
        go_region_held3 (fun Z => Z.cell? ⟨bb, 0, none⟩ = some (.map (some mb))) (with_reducible assumption)
          (first | (go_at_call 53; refine hbr.mono ?_; rintro e w7 ⟨x, v7, t7, b7, rfl, ⟨hxn, xb, hb, rfl, hBr7, hlb⟩, hR7, hG7, hX7⟩; have hLM7 := hLMd.gr hRd.rw hG7; obtain ⟨w8, hrun8, hown8, hg8⟩ := hLM7.mp.update bkey bmapT (by unfold maxLen; omega) (bkeyOf hsz) (show bR (.pointer (some ⟨xb, 0, none⟩)) = some (.held xb, []) from rfl); have cS7 := hLM7.cell; have hLM8 := hLM7.put (nb := ⟨⟨s.toArray⟩, xb, hb, x.Ls, x.p, x.bs⟩) hBr7 (Nat.le_trans hGd.size hlb) hg8 hown8; have cS8 := hLM8.cell))
        have hl7 := hX7.short (sh_Br _) hR7
        have hN7 := hNd.gr hrb hG7
        have hN8 := hN7.moved (row_ne_map hN7 hLM7.mp) hg8
        have hR8 := hR7.far (Nat.lt_of_lt_of_le hrb hmb.out) hg8
        have hG8 := gr_hist (hGd.trans hG7) hmb.out hg8
        have hGk8 : Hid (Gk b7 (acc ++ [x]) (⟨⟨s.toArray⟩, xb, hb, x.Ls, x.p, x.bs⟩ :: Bs) (D.put (kl ⟨s.toArray⟩) (.held xb))) := Gk.step hGk.out hX5 hX7 hxn hs (fun b hb' e => by have := hhb.out b hb'; omega)
        have hC8 : Hid (Cb t bad n (n - (i + 1)) (acc ++ [x]) t7 b7) := Cb.step hCs.out hX5 hX7
        have hps8 : Hid (b7 = false → 1 ≤ n) := fun e => by
          subst e
          obtain rfl := hX7.was
          obtain rfl := hX5.was
          exact hps.out rfl
        have hal8 : Hid ((acc ++ [x]).length = i + 1) := by
          show (acc ++ [x]).length = i + 1
          rw [List.length_append, hal.out]; rfl
        have hN8' : NmR W.heap.size w8 (.slice (some ⟨g6, 0, none⟩) (i + 1) cap6) ((acc ++ [x]).map (·.nm)) := by
          rw [List.map_append, List.map_singleton, hxn]
          exact hN8
        clear hX5 hX7 hN7 hN8 hR7 hG7 hGd hLM7 hLMd hRd hNd hCs hGk hps hal cS7 hrun8 hown8 hg8 hBr7 hbr
        go_wp2
        go_roundw
        case rel => exact ⟨i + 1, acc ++ [x], _, _, t7, b7, by omega, by go_num, hR8, hG8, hLM8, hN8', hal8, by omega, hGk8, hps8, hC8⟩
        case measure => simp [intOf]; omega
      · have hlt' : ¬ (i : Int) < (n : Int) := by omega
        obtain rfl : i = n := by omega
        rw [Nat.sub_self] at hC
        obtain ⟨hi', hw, hh⟩ : ∃ hi' : Nat, IntKind.u64.wrap ((i : Int) - 1) = (hi' : Int) ∧ Hid (1 ≤ i → hi' = i - 1) := by
          by_cases h0 : i = 0
          · exact ⟨18446744073709551615, by rw [IntKind.wrap_u64]; omega, fun e => by omega⟩
          · exact ⟨i - 1, by rw [IntKind.wrap_u64]; omega, fun _ => rfl⟩
        have hrw := hR.rw
        have hb := rbet_any rb 0 hi' wr hlt1 hR
        obtain ⟨p0, c0, e0⟩ := hN.sl
        have hml : (acc.map (·.nm)).length = i := by rw [List.length_map]; exact hal.out
        rw [hml] at e0
        subst e0
        have hHm : Hid ((acc.map (·.nm)).length = i) := hml
        clear hml
        go_wp2_with (go_at_call 51; fail)
        refine hb.mono ?_
        intro e w7 hx
        obtain ⟨c, t7, b7, rfl, hc, hR7, hG7, hX7⟩ := hx.outB
        have hLM7 := hLM.gr hrw hG7
        have hN7 := hN.gr hrb hG7
        have hG07 := hG.trans hG7
        have cS := hLM7.cell
        have hmain : sMain.size ≤ maxLen := by decide
        obtain ⟨lv, lps, hrun, -⟩ := hLM7.mp.look_ok bkey bmapT (bzero w7) (zd := .nil) (zp := []) rfl (bkeyOf hmain)
        have hstop : Hid ((b7 = true ∨ Go.Maps.has D (kl sMain) = false) → Xq (rBook t) bad true [] (acc, c)) := fun hor => hC.out _ _ _ (by
          show Xq (jBook i acc t1) b1 true [] (acc, c)
          refine ⟨fun _ => rfl, fun e => ⟨fun y t' h => ?_, fun _ => rfl⟩⟩
          subst e
          have h1 := hps.out rfl
          rw [hh.out h1] at hX7
          exfalso
          unfold jBook at h
          obtain ⟨c', t'', g1, g2⟩ := bd_some h
          cases b7 with
          | true =>
            obtain ⟨k1, k2⟩ := hX7.2 rfl
            obtain ⟨-, -, k3⟩ := k1 _ _ g1
            cases k3
          | false =>
            rcases hor with hor | hor
            · cases hor
            obtain ⟨hT, -⟩ := hGk.out.2 rfl
            split at g2
            · next hm =>
              obtain ⟨x, hx1, hx2⟩ := List.mem_map.1 hm
              rw [← hGk.out.1] at hx1
              obtain ⟨b, hb1, rfl⟩ := List.mem_map.1 (List.mem_reverse.1 hx1)
              have hn : b.nm = sMain := ByteArray.ext (Array.toList_inj.1 (show b.nm.data.toList = sMain.data.toList from hx2))
              have := (hT.hasK sMain hmain).2 ⟨b, hb1, hn⟩
              rw [hor] at this
              cases this
            · cases g2)
        have c1 : w7.cell? ⟨rb, 1, none⟩ = some (.bool b7) := by
          obtain ⟨-, a, cap, h1, -⟩ := hR7
          exact cell_of_row _ _ 1 _ _ _ h1
        unfold sMain at hrun
        cases hhas : Go.Maps.has D (kl sMain) with
        | false =>
          have hfin := hstop.out (.inr hhas)
          unfold sMain at hhas
          rw [hhas] at hrun
          have hf := rfail_any rb w7 hR7
          have hfin2 : Hid (∀ w8, RAt w8 rb [] true → Gr rb w7 w8 → KP W rb t bad (.returned (.pointer none)) w8) := fun w8 hR8 hG8 => ⟨_, [], true, hR8, hG07.trans hG8, hfin, .inl ⟨rfl, rfl⟩⟩
          clear hstop hfin hR hG hLM hN hC hGk hps hX7 hx hb hLM7 hN7 hR7 hG7 hG07 c1 hhas hmain
          go_wp2_with (go_at_call 50; refine hf.mono ?_; rintro e w8 ⟨rfl, hR8, hG8⟩; have hfin8 := hfin2.out w8 hR8 hG8; have c8 : w8.cell? ⟨rb, 1, none⟩ = some (.bool true) := by { obtain ⟨-, a, cap, h1, -⟩ := hR8; exact cell_of_row _ _ 1 _ _ _ h1 })
          exact bodyPost_ret (v := .pointer none) (by simp [results, Tryz.results24, go_sem]) rfl hfin8
        | true =>
          have hhas2 := hhas
          unfold sMain at hhas2
          rw [hhas2] at hrun
          cases b7 with
          | true =>
            have h0 : t7 = [] := hR7.1 rfl
            subst h0
            have hfin : KP W rb t bad (.returned (.pointer none)) w7 := ⟨_, [], true, hR7, hG07, hstop.out (.inl rfl), .inl ⟨rfl, rfl⟩⟩
            clear hstop hR hG hLM hN hC hGk hps hX7 hx hb hLM7 hN7 hR7 hG7 hG07 hhas hhas2 hmain
            go_wp2
            exact bodyPost_ret (v := .pointer none) (by simp [results, Tryz.results24, go_sem]) rfl hfin
          | false =>
            obtain rfl := hX7.was
            have h1 := hps.out rfl
            rw [hh.out h1] at hX7 hc
            have hc := hc.out
            obtain ⟨hT, hP⟩ := hGk.out.2 rfl
            obtain ⟨b, hb1, hb2⟩ := (hT.hasK sMain hmain).1 hhas
            have hmm : nMain ∈ acc.map (·.nm) := by
              rw [← hGk.out.1]
              exact List.mem_map.2 ⟨toB b, List.mem_reverse.2 (List.mem_map.2 ⟨b, hb1, rfl⟩), by show b.nm.data.toList = nMain; rw [hb2]; rfl⟩
            have hcl : c < (acc.map (·.nm)).length := by rw [hHm.out]; omega
            obtain ⟨s, hs⟩ : ∃ s, (acc.map (·.nm))[c]? = some s := ⟨_, List.getElem?_eq_getElem hcl⟩
            obtain ⟨b2, hb3, hb4⟩ : ∃ b ∈ Bs, b.nm = ⟨s.toArray⟩ := by
              obtain ⟨hc', e⟩ := List.getElem?_eq_some_iff.1 hs
              obtain ⟨x, hx1, hx2⟩ := List.mem_map.1 (e ▸ List.getElem_mem hc')
              rw [← hGk.out.1] at hx1
              obtain ⟨b, hb, rfl⟩ := List.mem_map.1 (List.mem_reverse.1 hx1)
              refine ⟨b, hb, ?_⟩
              rw [← hx2]
              rfl
            have hBk := hLM7.book hT hn6 ⟨b2, hb3, hb4⟩
            have hXf : Xq (rBook t) bad false t7 (acc, c) := hC.out _ _ _ (by
              show Xq (jBook i acc t1) false false t7 (acc, c)
              exact hX7.bd (by rw [if_pos hmm]; exact Xq.pure))
            have hbne : rb < bb := Nat.lt_of_lt_of_le hrb hLM7.b
            have hg9 := grown_set w7 bb 1 (.string ⟨s.toArray⟩)
            have hfin : KP W rb t bad (.returned (.pointer (some ⟨bb, 0, none⟩))) (w7.setCell ⟨bb, 1, none⟩ (.string ⟨s.toArray⟩)) := ⟨(acc, c), t7, false, hR7.far hbne hg9, gr_hist hG07 hLM7.b hg9, hXf, .inr ⟨rfl, bb, Bs, _, rfl, hBk, hGk.out.1, hP, hs⟩⟩
            have hNs := hN7.1
            rw [hHm.out] at hNs
            obtain ⟨g, cap, hpe⟩ : ∃ g cap, (Value.slice p0 i c0) = .slice (some ⟨g, 0, none⟩) i cap := by
              obtain ⟨_, ⟨e, h0⟩ | ⟨g, cap, cur, e, _⟩⟩ := hNs
              · omega
              · exact ⟨g, cap, e⟩
            simp only [Value.slice.injEq] at hpe
            obtain ⟨rfl, -, rfl⟩ := hpe
            have cn : w7.cell? ⟨g, c, none⟩ = some (.string ⟨s.toArray⟩) := by
              rw [hNs.cellAt c (by omega), List.getElem?_map, hs]
              rfl
            have f1 := frozen_of_row hLM7.bk 1
            have cB1 : w7.cell? ⟨bb, 1, none⟩ = some (.string ⟨#[]⟩) := cell_of_row _ _ 1 _ _ _ hLM7.bk
            have hci : (c : Int) < (i : Int) := by omega
            have hc0 : (0 : Int) ≤ (c : Int) := by omega
            clear hstop hR hG hLM hN hC hGk hps hX7 hx hb hLM7 hN7 hR7 hG7 hG07 hhas hhas2 hmain hBk hXf hg9 hNs hb3 hb4 hs hcl hmm hP hT hb1 hb2 hh
            go_wp2
            exact bodyPost_ret (v := .pointer (some ⟨bb, 0, none⟩)) (by simp [results, Tryz.results24, go_sem]) rfl hfin

end Go.Proofs.YtblfdjdhikfjhaaGreat.BZ

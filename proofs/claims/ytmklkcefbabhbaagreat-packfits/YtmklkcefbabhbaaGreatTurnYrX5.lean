import Derived.Test.YtmklkcefbabhbaaGreatTurnYrX4
import Derived.Test.YtmklkcefbabhbaaGreatJoin24
import Derived.Test.YtmklkcefbabhbaaGreatTurnYr6
import Derived.Test.YtmklkcefbabhbaaGreatJoin22
import Derived.Laws.OwnMore
import Derived.Maps.AppendAt
/- The parts of a pack. -/
namespace Go.Proofs.YtmklkcefbabhbaaGreat.R6
open Go.RowKit

def stC (l : Sn) : List Value := l.map (fun s => Value.string ⟨s.toArray⟩)
theorem stC_snoc (l : Sn) (s : List UInt8) : stC l ++ [.string ⟨s.toArray⟩] = stC (l ++ [s]) := by unfold stC; rw [List.map_append, List.map_singleton]
theorem elems_st (W : World) (S : Nat → Prop) : ∀ l : Sn, Elems eS W S l (stC l)
  | [] => Elems.nil _ _ _
  | s :: l => Elems.cons' (D := eS) (cx := [.string ⟨s.toArray⟩]) rfl (elems_st W S l)
theorem st_row {W : World} {base : Nat} {v : Value} {l : Sn} (h : W.ownsRow base 9 1 v l.length (stC l)) : ∃ a c, v = .slice a l.length c ∧ RowR eS W AnyB l a := by
  have hlt := h.lt
  have h' := h
  obtain ⟨hl, ⟨rfl, h0⟩ | ⟨g, cap, cur, rfl, hg, hc, h1⟩⟩ := h
  · have : l = [] := List.eq_nil_of_length_eq_zero h0
    subst this
    exact ⟨none, 0, rfl, .inl rfl⟩
  · refine ⟨_, cap, rfl, .inr ⟨g, 0, stC l, rfl, trivial, (hlt g rfl).2, fun j hj => ?_, elems_st _ _ _⟩⟩
    rw [Nat.zero_add]
    exact h'.cellAt j (by rw [← hl]; exact hj)
theorem infoStr : (Tryz.prog.info? 9).map (fun i => (i.zero, i.size, i.bytes)) = some (some (.string ⟨#[]⟩), 1, 16) := by kernel_rfl
/-- Options, whose lists have at least the room that they fill. -/
def eOq : Elt (List UInt8 × Sn) where
  k := 2
  E := fun W S o cs => ∃ a cap, cs = [.string ⟨o.1.toArray⟩, .slice a o.2.length cap] ∧ RowR eS W S o.2 a ∧ o.2.length ≤ cap
  len := fun ⟨_, _, h, _⟩ => by rw [h]; rfl
  fr := fun ⟨a, cap, h, hR, hc⟩ hs hb => ⟨a, cap, h, hR.fr hs hb, hc⟩
  mo := fun ⟨a, cap, h, hR, hc⟩ hb => ⟨a, cap, h, hR.mo hb, hc⟩
theorem oq_o {W : World} {S : Nat → Prop} {l : List (List UInt8 × Sn)} {a : Option Addr} (h : RowR eOq W S l a) : RowR eO W S l a := by
  rcases h with h | ⟨g, o, cs, rfl, hS, hg, hc, hE⟩
  · exact .inl h
  · exact .inr ⟨g, o, cs, rfl, hS, hg, hc, hE.1, fun i hi => by
      obtain ⟨a, cap, h1, h2, -⟩ := hE.2 i hi
      exact ⟨a, cap, h1, h2⟩⟩
theorem grow_bel {X w w' : World} {n : Nat} {r : Option Nat} (h : Below n X w) (hg : w.grownBy w' r) (hn : n ≤ w.heap.size) (hr : ∀ b, r = some b → n ≤ b) : Below n X w' := ⟨hg.os.trans h.os, hg.tape.trans h.tape, hg.output.trans h.output, Nat.le_trans h.size hg.size, fun k hk => (hg.block k (by omega) (fun e => by have := hr k e.symm; omega)).trans (h.block k hk)⟩
theorem fr_step {α : Type} (f : Sn → α → Nat) (nm : α → List UInt8) (part : Nat) (l : List α) {i : Nat} (h : i < l.length) (s : Sn) : frF f nm part (l.drop i) i s = if f s l[i] = 0 then frF f nm part (l.drop (i + 1)) (i + 1) (s ++ [nm l[i]]) else (s, some (itF part i, f s l[i])) := by
  rw [List.drop_eq_getElem_cons h]
  rfl
theorem ls_step (p : Pk) (l : List Ln) {i : Nat} (h : i < l.length) (s : Sn) : lsF p (l.drop i) i s = if (lnE p s l[i]).1 = 0 then lsF p (l.drop (i + 1)) (i + 1) (s ++ [l[i].name]) else (s, some (⟨5, i, (lnE p s l[i]).2, []⟩, (lnE p s l[i]).1)) := by
  rw [List.drop_eq_getElem_cons h]
  rfl
def pa5 (p : Pk) (r : Sn × Fau) : Fau := match r with
  | (_, some f) => some f
  | (_, none) => if 256 < cesF p then some (itF 1 0, 60) else none
def pa4 (p : Pk) (r : Sn × Fau) : Fau := match r with
  | (_, some f) => some f
  | (s, none) => pa5 p (frF (ckE p) (·.name) 6 p.cks 0 s)
def pa3 (p : Pk) (r : Sn × Fau) : Fau := match r with
  | (_, some f) => some f
  | (s, none) => pa4 p (lsF p p.lns 0 s)
def pa2 (p : Pk) (r : Sn × Fau) : Fau := match r with
  | (_, some f) => some f
  | (s, none) => pa3 p (frF gpE (·.1) 4 p.grps 0 s)
def pa1 (p : Pk) (r : Sn × Fau) : Fau := match r with
  | (_, some f) => some f
  | (s, none) => pa2 p (frF tbE (·.1) 3 p.tabs 0 s)
theorem pa_is (p : Pk) : paF p = match hdF p with
    | some f => some f
    | none => pa1 p (frF opE (·.1) 2 p.opts 0 []) := by
  unfold paF
  cases hdF p with
  | some f => rfl
  | none =>
    show _ = pa1 p (frF opE (·.1) 2 p.opts 0 [])
    unfold pa1
    simp only
    cases frF opE (·.1) 2 p.opts 0 [] with
    | mk s1 o1 => cases o1 with
      | some f => rfl
      | none =>
        unfold pa2
        simp only
        cases frF tbE (·.1) 3 p.tabs 0 s1 with
        | mk s2 o2 => cases o2 with
          | some f => rfl
          | none =>
            unfold pa3
            simp only
            cases frF gpE (·.1) 4 p.grps 0 s2 with
            | mk s3 o3 => cases o3 with
              | some f => rfl
              | none =>
                unfold pa4
                simp only
                cases lsF p p.lns 0 s3 with
                | mk s4 o4 => cases o4 with
                  | some f => rfl
                  | none =>
                    unfold pa5
                    simp only
                    cases frF (ckE p) (·.name) 6 p.cks 0 s4 with
                    | mk s5 o5 => cases o5 <;> rfl
set_option maxRecDepth 20000 in
set_option maxHeartbeats 8000000 in
theorem parts_any (p : Pk) (a3 a4 a5 a6 a7 : Option Addr) (c3 c4 c5 c6 c7 : Nat) (W : World) (hO : RowR eOq W AnyB p.opts a3) (hT : RowR eT W AnyB p.tabs a4) (hG : RowR eG W AnyB p.grps a5) (hL : RowR eL W AnyB p.lns a6) (hK : RowR eK W AnyB p.cks a7) (ho4 : p.opts.length ≤ 4) (ht4 : p.tabs.length ≤ 4) (hg4 : p.grps.length ≤ 4) (hl48 : p.lns.length ≤ 48) (hk16 : p.cks.length ≤ 16) : Calls Tryz.prog 16 #[.agg #[.string ⟨p.name.toArray⟩, .int .i64 p.year, .slice a3 p.opts.length c3, .slice a4 p.tabs.length c4, .slice a5 p.grps.length c5, .slice a6 p.lns.length c6, .slice a7 p.cks.length c7]] W (FaP W (paF p)) := by
  obtain ⟨X, hXe, hb0, hXs, hBxH⟩ := box2 W #[.string ⟨p.name.toArray⟩, .int .i64 p.year, .slice a3 p.opts.length c3, .slice a4 p.tabs.length c4, .slice a5 p.grps.length c5, .slice a6 p.lns.length c6, .slice a7 p.cks.length c7] #[.int .i64 0, .int .i64 0, .int .i64 0, .slice none 0 0] 28 33
  have hX1 : W.heap.size + 1 < X.heap.size := by omega
  have ho4' : (p.opts.length : Int) ≤ 4 := by omega
  have ht4' : (p.tabs.length : Int) ≤ 4 := by omega
  have hg4' : (p.grps.length : Int) ≤ 4 := by omega
  have hl48' : (p.lns.length : Int) ≤ 48 := by omega
  have hk16' : (p.cks.length : Int) ≤ 16 := by omega
  clear hXs
  obtain ⟨istr, hi1, hz0, hz1, hz2⟩ := info_ps infoStr
  have hLX := row_bel hL hb0 (Nat.le_refl _)
  have hOX := row_bel hO hb0 (Nat.le_refl _)
  have hTX := row_bel hT hb0 (Nat.le_refl _)
  have hGX := row_bel hG hb0 (Nat.le_refl _)
  have hKX := row_bel hK hb0 (Nat.le_refl _)
  have hPH : Hid (∀ w, Below X.heap.size X w → w.cell? ⟨W.heap.size, 0, none⟩ = some (.string ⟨p.name.toArray⟩) ∧ w.cell? ⟨W.heap.size, 1, none⟩ = some (.int .i64 p.year) ∧ w.cell? ⟨W.heap.size, 2, none⟩ = some (.slice a3 p.opts.length c3) ∧ w.cell? ⟨W.heap.size, 3, none⟩ = some (.slice a4 p.tabs.length c4) ∧ w.cell? ⟨W.heap.size, 4, none⟩ = some (.slice a5 p.grps.length c5) ∧ w.cell? ⟨W.heap.size, 5, none⟩ = some (.slice a6 p.lns.length c6) ∧ w.cell? ⟨W.heap.size, 6, none⟩ = some (.slice a7 p.cks.length c7)) := ⟨fun w hw => by
    have h := (hBxH.out w hw).1
    exact ⟨h.2.1 0 (by simp), h.2.1 1 (by simp), h.2.1 2 (by simp), h.2.1 3 (by simp), h.2.1 4 (by simp), h.2.1 5 (by simp), h.2.1 6 (by simp)⟩⟩
  obtain ⟨x0, x1, x2, x3, x4, x5, x6⟩ := hPH.out X (Below.refl _ _)
  rw [pa_is]
  obtain ⟨R, hR⟩ : ∃ R, (match hdF p with | some f => some f | none => pa1 p (frF opE (·.1) 2 p.opts 0 [])) = R := ⟨_, rfl⟩
  rw [hR]
  obtain ⟨QQ, hQQ⟩ : ∃ QQ, FaP W R = QQ := ⟨_, rfl⟩
  rw [hQQ]
  have hQH := Hid.mk hQQ
  have hnd := named_any p.name X
  unfold hdF at hR
  clear hQQ hL hO hT hG hK
  cases hnm : nmB p.name with
  | false =>
    rw [hnm] at hnd hR
    have hRe : Hid (R = some (itF 1 0, 61)) := ⟨hR.symm⟩
    clear hR hnm
    have hbX : Below X.heap.size X X := Below.refl _ _
    go_enter Tryz.func16, Tryz.ntmps16
    go_wp2_with (first | (go_at_call 23; refine hnd.mono ?_; rintro e w1 ⟨rfl, hw⟩; subst w1) | (go_at_call 15; refine (at_any 1 0 (-1) _).mono ?_; rintro e w5 ⟨rfl, hb9⟩; have hbJ := belT hbX hb9; have rkj := (hBxH.out w5 hbJ).2; have fkj0 := frozen_of_row _ _ 0 _ _ rkj; have fkj1 := frozen_of_row _ _ 1 _ _ rkj; have fkj2 := frozen_of_row _ _ 2 _ _ rkj; have fkj3 := frozen_of_row _ _ 3 _ _ rkj; have ckj0 : w5.cell? ⟨W.heap.size + 1, 0, none⟩ = some (.int .i64 0) := cell_of_row _ _ 0 _ _ _ rkj; have ckj1 : w5.cell? ⟨W.heap.size + 1, 1, none⟩ = some (.int .i64 0) := cell_of_row _ _ 1 _ _ _ rkj; have ckj2 : w5.cell? ⟨W.heap.size + 1, 2, none⟩ = some (.int .i64 0) := cell_of_row _ _ 2 _ _ _ rkj; have ckj3 : w5.cell? ⟨W.heap.size + 1, 3, none⟩ = some (.slice none 0 0) := cell_of_row _ _ 3 _ _ _ rkj))
    refine bodyPost_ret (v := .tuple #[.agg #[.int .i64 1, .int .i64 0, .int .i64 (-1), .slice none 0 0], .int .i64 61]) (results_cellK Tryz.results16 _ _ (W.heap.size + 1) 33 _ (0, 0) _ rfl (row_four rkj _ _ _ _) Tryz.underlying33 rfl info_sp) rfl ?_
    rw [← hQH.out, hRe.out]
    exact fa_err (f := (itF 1 0, 61)) (base := W.heap.size + 2) (belT hb0 hbJ) (by omega) (pt_nil _ _) (by omega)
  | true =>
  rw [hnm] at hnd hR
  clear hnm
  by_cases y0 : p.year < 1900
  · rw [if_pos rfl, if_pos (Or.inl y0)] at hR
    have hRe : Hid (R = some (itF 1 0, 60)) := ⟨hR.symm⟩
    clear hR
    have hbX : Below X.heap.size X X := Below.refl _ _
    go_enter Tryz.func16, Tryz.ntmps16
    go_wp2_with (first | (go_at_call 23; refine hnd.mono ?_; rintro e w1 ⟨rfl, hw⟩; subst w1) | (go_at_call 15; refine (at_any 1 0 (-1) _).mono ?_; rintro e w5 ⟨rfl, hb9⟩; have hbJ := belT hbX hb9; have rkj := (hBxH.out w5 hbJ).2; have fkj0 := frozen_of_row _ _ 0 _ _ rkj; have fkj1 := frozen_of_row _ _ 1 _ _ rkj; have fkj2 := frozen_of_row _ _ 2 _ _ rkj; have fkj3 := frozen_of_row _ _ 3 _ _ rkj; have ckj0 : w5.cell? ⟨W.heap.size + 1, 0, none⟩ = some (.int .i64 0) := cell_of_row _ _ 0 _ _ _ rkj; have ckj1 : w5.cell? ⟨W.heap.size + 1, 1, none⟩ = some (.int .i64 0) := cell_of_row _ _ 1 _ _ _ rkj; have ckj2 : w5.cell? ⟨W.heap.size + 1, 2, none⟩ = some (.int .i64 0) := cell_of_row _ _ 2 _ _ _ rkj; have ckj3 : w5.cell? ⟨W.heap.size + 1, 3, none⟩ = some (.slice none 0 0) := cell_of_row _ _ 3 _ _ _ rkj))
    refine bodyPost_ret (v := .tuple #[.agg #[.int .i64 1, .int .i64 0, .int .i64 (-1), .slice none 0 0], .int .i64 60]) (results_cellK Tryz.results16 _ _ (W.heap.size + 1) 33 _ (0, 0) _ rfl (row_four rkj _ _ _ _) Tryz.underlying33 rfl info_sp) rfl ?_
    rw [← hQH.out, hRe.out]
    exact fa_err (f := (itF 1 0, 60)) (base := W.heap.size + 2) (belT hb0 hbJ) (by omega) (pt_nil _ _) (by omega)
  by_cases y1 : 2199 < p.year
  · rw [if_pos rfl, if_pos (Or.inr y1)] at hR
    have hRe : Hid (R = some (itF 1 0, 60)) := ⟨hR.symm⟩
    clear hR
    have hbX : Below X.heap.size X X := Below.refl _ _
    go_enter Tryz.func16, Tryz.ntmps16
    go_wp2_with (first | (go_at_call 23; refine hnd.mono ?_; rintro e w1 ⟨rfl, hw⟩; subst w1) | (go_at_call 15; refine (at_any 1 0 (-1) _).mono ?_; rintro e w5 ⟨rfl, hb9⟩; have hbJ := belT hbX hb9; have rkj := (hBxH.out w5 hbJ).2; have fkj0 := frozen_of_row _ _ 0 _ _ rkj; have fkj1 := frozen_of_row _ _ 1 _ _ rkj; have fkj2 := frozen_of_row _ _ 2 _ _ rkj; have fkj3 := frozen_of_row _ _ 3 _ _ rkj; have ckj0 : w5.cell? ⟨W.heap.size + 1, 0, none⟩ = some (.int .i64 0) := cell_of_row _ _ 0 _ _ _ rkj; have ckj1 : w5.cell? ⟨W.heap.size + 1, 1, none⟩ = some (.int .i64 0) := cell_of_row _ _ 1 _ _ _ rkj; have ckj2 : w5.cell? ⟨W.heap.size + 1, 2, none⟩ = some (.int .i64 0) := cell_of_row _ _ 2 _ _ _ rkj; have ckj3 : w5.cell? ⟨W.heap.size + 1, 3, none⟩ = some (.slice none 0 0) := cell_of_row _ _ 3 _ _ _ rkj))
    refine bodyPost_ret (v := .tuple #[.agg #[.int .i64 1, .int .i64 0, .int .i64 (-1), .slice none 0 0], .int .i64 60]) (results_cellK Tryz.results16 _ _ (W.heap.size + 1) 33 _ (0, 0) _ rfl (row_four rkj _ _ _ _) Tryz.underlying33 rfl info_sp) rfl ?_
    rw [← hQH.out, hRe.out]
    exact fa_err (f := (itF 1 0, 60)) (base := W.heap.size + 2) (belT hb0 hbJ) (by omega) (pt_nil _ _) (by omega)
  rw [if_pos rfl, if_neg (by omega)] at hR
  have hst1 : Hid (pa1 p (frF opE (·.1) 2 (p.opts.drop 0) 0 []) = R) := ⟨hR⟩
  have hbX : Below X.heap.size X X := Below.refl _ _
  have hown1 : X.ownsRow X.heap.size 9 1 (.slice none 0 0) ([] : Sn).length (stC []) := World.ownsRow_nil _ _ _ _
  have hsl1 : Hid (([] : Sn).length ≤ 0 + 0) := ⟨Nat.le_refl _⟩
  clear hR
  go_enter Tryz.func16, Tryz.ntmps16
  go_wp2_with (go_at_call 23; refine hnd.mono ?_; rintro e w1 ⟨rfl, hw⟩; subst w1)
  clear hnd y0 y1 x0 x1 x2 x3 x4 x5 x6
  go_loopw [4, 5] (fun av iv wr => ∃ (i : Nat) (s : Sn), iv = .int .i64 (i : Int) ∧ i ≤ p.opts.length ∧ Hid (s.length ≤ 0 + i) ∧ wr.ownsRow X.heap.size 9 1 av s.length (stC s) ∧ Below X.heap.size X wr ∧ Hid (pa1 p (frF opE (·.1) 2 (p.opts.drop i) i s) = R)) (fun _ iv _ => p.opts.length - (intOf iv).toNat)
  case atStart => exact ⟨0, _, rfl, Nat.zero_le _, hsl1, hown1, hbX, hst1⟩
  case round =>
    clear hst1 hsl1 hown1 hbX
    obtain ⟨i, s, rfl, hi, hsl, hown, hb, hinv⟩ := hrel
    obtain ⟨wz, hwz⟩ : ∃ wz, wz = wr := ⟨_, rfl⟩
    subst hwz
    obtain ⟨q0, q1, q2, q3, q4, q5, q6⟩ := hPH.out wz hb
    by_cases hlt : i < p.opts.length
    · have hlt' : (i : Int) < (p.opts.length : Int) := by omega
      have hi0 : (0 : Int) ≤ (i : Int) := by omega
      have hinv2 := hinv.out
      rw [fr_step opE (·.1) 2 p.opts hlt] at hinv2
      have hRz := row_bel hOX hb (Nat.le_refl _)
      have hsl2 : Hid (∀ y : List UInt8, (s ++ [y]).length ≤ 0 + (i + 1)) := ⟨fun y => by have := hsl.out; rw [List.length_append, List.length_singleton]; omega⟩
      have hs1000 : s.length ≤ 1000 := by have := hsl.out; omega
      have hl' : s.length + 1 ≤ maxLen := by unfold maxLen; omega
      have hbs := hb.size
      clear hinv hsl
      obtain ⟨ga, oa, rfl⟩ := hRz.some hlt
      obtain ⟨cs, -, -, ⟨ay, cy, rfl, hRy, hcy⟩, hcs⟩ := hRz.item hlt
      have kx : wz.cell? ⟨ga, oa + i * 2, none⟩ = some (.string ⟨(p.opts[i]).1.toArray⟩) ∧ wz.cell? ⟨ga, oa + i * 2 + 1, none⟩ = some (.slice ay (p.opts[i]).2.length cy) := ⟨hcs 0 (by decide), hcs 1 (by decide)⟩
      generalize p.opts[i] = y at *
      have hown' := hown
      obtain ⟨al, cl, rfl, hRs⟩ := st_row hown'
      have hcall := options_any y ay cy s al cl wz hRy hcy hRs (by omega)
      obtain ⟨E, hE⟩ : ∃ E, opE s y = E := ⟨_, rfl⟩
      rw [hE] at hcall hinv2
      have hgl : ga < wz.heap.size := World.block_lt_of_cell? _ _ kx.1
      have hIH : Hid (∀ w, Below wz.heap.size wz w → w.cell? ⟨ga, oa + i * 2, none⟩ = some (.string ⟨y.1.toArray⟩)) := ⟨fun w hw => (bel_cell hw hgl _).trans kx.1⟩
      obtain ⟨k0, k1⟩ := kx
      clear hE hcs hRz hRs
      by_cases h0 : E = 0
      rotate_left
      · have h0' : ((E : Int) != 0) = true := by simp; omega
        rw [if_neg h0] at hinv2
        have hRe : Hid (R = some (itF 2 i, E)) := ⟨hinv2.symm⟩
        clear hinv2 h0 hown
        go_wp2_with (first | (go_at_call 24; refine hcall.mono ?_; rintro e w3 ⟨rfl, hb3⟩; have hbJ3 := belT hb hb3) | (go_at_call 15; refine (at_any 2 (i : Int) (-1) _).mono ?_; rintro e w5 ⟨rfl, hb9⟩; have hbJ := belT hbJ3 hb9; have rkj := (hBxH.out w5 hbJ).2; have fkj0 := frozen_of_row _ _ 0 _ _ rkj; have fkj1 := frozen_of_row _ _ 1 _ _ rkj; have fkj2 := frozen_of_row _ _ 2 _ _ rkj; have fkj3 := frozen_of_row _ _ 3 _ _ rkj; have ckj0 : w5.cell? ⟨W.heap.size + 1, 0, none⟩ = some (.int .i64 0) := cell_of_row _ _ 0 _ _ _ rkj; have ckj1 : w5.cell? ⟨W.heap.size + 1, 1, none⟩ = some (.int .i64 0) := cell_of_row _ _ 1 _ _ _ rkj; have ckj2 : w5.cell? ⟨W.heap.size + 1, 2, none⟩ = some (.int .i64 0) := cell_of_row _ _ 2 _ _ _ rkj; have ckj3 : w5.cell? ⟨W.heap.size + 1, 3, none⟩ = some (.slice none 0 0) := cell_of_row _ _ 3 _ _ _ rkj))
        refine bodyPost_ret (v := .tuple #[.agg #[.int .i64 2, .int .i64 (i : Int), .int .i64 (-1), .slice none 0 0], .int .i64 (E : Int)]) (results_cellK Tryz.results16 _ _ (W.heap.size + 1) 33 _ (0, 0) _ rfl (row_four rkj _ _ _ _) Tryz.underlying33 rfl info_sp) rfl ?_
        rw [← hQH.out, hRe.out]
        exact fa_err (f := (itF 2 i, E)) (base := W.heap.size + 2) (belT hb0 hbJ) (by omega) (pt_nil _ _) (by omega)
      · subst h0
        rw [if_pos rfl] at hinv2
        have hnx := Hid.mk hinv2
        clear hinv2
        go_wp2_with (first | (go_at_call 24; refine hcall.mono ?_; rintro e w3 ⟨rfl, hb3⟩; have hbJ3 := belT hb hb3; obtain ⟨t0, t1, t2, t3, t4, t5, t6⟩ := hPH.out w3 hbJ3; have k9 := hIH.out w3 hb3; have hown3 := World.ownsRow.kept hown (gr_bel hb3) (Classical.em _); have qo := hown3.alloc (.cells #[.string ⟨y.1.toArray⟩] 9); have qb : X.heap.size ≤ (w3.alloc (.cells #[.string ⟨y.1.toArray⟩] 9)).heap.size := (hbJ3.alloc hbJ3.size _).size) | (at_builtin; refine wpList_append_own_at _ rfl _ _ 47 rfl X.heap.size 9 istr (.string ⟨#[]⟩) 1 16 Tryz.underlying47 hi1 hz0 hz1 hz2 rfl (by decide) _ _ _ rfl qo ⟨w3.heap.size, 0, none⟩ 1 1 [.string ⟨y.1.toArray⟩] rfl rfl (lit_at _ _ _) (by simp [Value.oneCell']) hl' (by omega) qb ?_; intro v4 w4 hown4 hgrow4 _ hat4))
        have hsn : s.length + 1 = (s ++ [y.1]).length := by rw [List.length_append, List.length_singleton]
        rw [stC_snoc, hsn] at hown4
        have hbA : Below X.heap.size X (w3.alloc (.cells #[.string ⟨y.1.toArray⟩] 9)) := hbJ3.alloc hbJ3.size _
        have hb4 : Below X.heap.size X w4 := grow_bel hbA hgrow4 hbA.size (fun b hb => (qo.lt b hb).1)
        exact ⟨⟨i + 1, s ++ [y.1], rfl, hlt, ⟨hsl2.out _⟩, hown4, hb4, hnx⟩, by simp only [intOf]; omega⟩
    · have hlt' : ¬ (i : Int) < (p.opts.length : Int) := by omega
      have hinv2 := hinv.out
      rw [List.drop_eq_nil_of_le (by omega)] at hinv2
      replace hsl := hsl.out
      have hst2 : Hid (pa2 p (frF tbE (·.1) 3 (p.tabs.drop 0) 0 s) = R) := ⟨hinv2⟩
      have hsl2 : Hid (s.length ≤ 4 + 0) := ⟨by omega⟩
      have hown2 := hown
      have hbX := hb
      clear hinv2 hown hb hsl hlt hi
      go_wp2
      clear q0 q1 q2 q3 q4 q5 q6
      go_loopw [4, 7] (fun av iv wr => ∃ (i : Nat) (s : Sn), iv = .int .i64 (i : Int) ∧ i ≤ p.tabs.length ∧ Hid (s.length ≤ 4 + i) ∧ wr.ownsRow X.heap.size 9 1 av s.length (stC s) ∧ Below X.heap.size X wr ∧ Hid (pa2 p (frF tbE (·.1) 3 (p.tabs.drop i) i s) = R)) (fun _ iv _ => p.tabs.length - (intOf iv).toNat)
      case atStart => exact ⟨0, _, rfl, Nat.zero_le _, hsl2, hown2, hbX, hst2⟩
      case round =>
        clear hst2 hsl2 hown2 hbX
        obtain ⟨i, s, rfl, hi, hsl, hown, hb, hinv⟩ := hrel
        obtain ⟨wz, hwz⟩ : ∃ wz, wz = wr := ⟨_, rfl⟩
        subst hwz
        obtain ⟨q0, q1, q2, q3, q4, q5, q6⟩ := hPH.out wz hb
        by_cases hlt : i < p.tabs.length
        · have hlt' : (i : Int) < (p.tabs.length : Int) := by omega
          have hi0 : (0 : Int) ≤ (i : Int) := by omega
          have hinv2 := hinv.out
          rw [fr_step tbE (·.1) 3 p.tabs hlt] at hinv2
          have hRz := row_bel hTX hb (Nat.le_refl _)
          have hsl2 : Hid (∀ y : List UInt8, (s ++ [y]).length ≤ 4 + (i + 1)) := ⟨fun y => by have := hsl.out; rw [List.length_append, List.length_singleton]; omega⟩
          have hs1000 : s.length ≤ 1000 := by have := hsl.out; omega
          have hl' : s.length + 1 ≤ maxLen := by unfold maxLen; omega
          have hbs := hb.size
          clear hinv hsl
          obtain ⟨ga, oa, rfl⟩ := hRz.some hlt
          obtain ⟨cs, -, -, ⟨ay, cy, rfl, hRy⟩, hcs⟩ := hRz.item hlt
          have kx : wz.cell? ⟨ga, oa + i * 2, none⟩ = some (.string ⟨(p.tabs[i]).1.toArray⟩) ∧ wz.cell? ⟨ga, oa + i * 2 + 1, none⟩ = some (.slice ay (p.tabs[i]).2.length cy) := ⟨hcs 0 (by decide), hcs 1 (by decide)⟩
          generalize p.tabs[i] = y at *
          have hown' := hown
          obtain ⟨al, cl, rfl, hRs⟩ := st_row hown'
          have hcall := table_any y ay cy s al cl wz hRy hRs (by omega)
          obtain ⟨E, hE⟩ : ∃ E, tbE s y = E := ⟨_, rfl⟩
          rw [hE] at hcall hinv2
          have hgl : ga < wz.heap.size := World.block_lt_of_cell? _ _ kx.1
          have hIH : Hid (∀ w, Below wz.heap.size wz w → w.cell? ⟨ga, oa + i * 2, none⟩ = some (.string ⟨y.1.toArray⟩)) := ⟨fun w hw => (bel_cell hw hgl _).trans kx.1⟩
          obtain ⟨k0, k1⟩ := kx
          clear hE hcs hRz hRs
          by_cases h0 : E = 0
          rotate_left
          · have h0' : ((E : Int) != 0) = true := by simp; omega
            rw [if_neg h0] at hinv2
            have hRe : Hid (R = some (itF 3 i, E)) := ⟨hinv2.symm⟩
            clear hinv2 h0 hown
            go_wp2_with (first | (go_at_call 25; refine hcall.mono ?_; rintro e w3 ⟨rfl, hb3⟩; have hbJ3 := belT hb hb3) | (go_at_call 15; refine (at_any 3 (i : Int) (-1) _).mono ?_; rintro e w5 ⟨rfl, hb9⟩; have hbJ := belT hbJ3 hb9; have rkj := (hBxH.out w5 hbJ).2; have fkj0 := frozen_of_row _ _ 0 _ _ rkj; have fkj1 := frozen_of_row _ _ 1 _ _ rkj; have fkj2 := frozen_of_row _ _ 2 _ _ rkj; have fkj3 := frozen_of_row _ _ 3 _ _ rkj; have ckj0 : w5.cell? ⟨W.heap.size + 1, 0, none⟩ = some (.int .i64 0) := cell_of_row _ _ 0 _ _ _ rkj; have ckj1 : w5.cell? ⟨W.heap.size + 1, 1, none⟩ = some (.int .i64 0) := cell_of_row _ _ 1 _ _ _ rkj; have ckj2 : w5.cell? ⟨W.heap.size + 1, 2, none⟩ = some (.int .i64 0) := cell_of_row _ _ 2 _ _ _ rkj; have ckj3 : w5.cell? ⟨W.heap.size + 1, 3, none⟩ = some (.slice none 0 0) := cell_of_row _ _ 3 _ _ _ rkj))
            refine bodyPost_ret (v := .tuple #[.agg #[.int .i64 3, .int .i64 (i : Int), .int .i64 (-1), .slice none 0 0], .int .i64 (E : Int)]) (results_cellK Tryz.results16 _ _ (W.heap.size + 1) 33 _ (0, 0) _ rfl (row_four rkj _ _ _ _) Tryz.underlying33 rfl info_sp) rfl ?_
            rw [← hQH.out, hRe.out]
            exact fa_err (f := (itF 3 i, E)) (base := W.heap.size + 2) (belT hb0 hbJ) (by omega) (pt_nil _ _) (by omega)
          · subst h0
            rw [if_pos rfl] at hinv2
            have hnx := Hid.mk hinv2
            clear hinv2
            go_wp2_with (first | (go_at_call 25; refine hcall.mono ?_; rintro e w3 ⟨rfl, hb3⟩; have hbJ3 := belT hb hb3; obtain ⟨t0, t1, t2, t3, t4, t5, t6⟩ := hPH.out w3 hbJ3; have k9 := hIH.out w3 hb3; have hown3 := World.ownsRow.kept hown (gr_bel hb3) (Classical.em _); have qo := hown3.alloc (.cells #[.string ⟨y.1.toArray⟩] 9); have qb : X.heap.size ≤ (w3.alloc (.cells #[.string ⟨y.1.toArray⟩] 9)).heap.size := (hbJ3.alloc hbJ3.size _).size) | (at_builtin; refine wpList_append_own_at _ rfl _ _ 47 rfl X.heap.size 9 istr (.string ⟨#[]⟩) 1 16 Tryz.underlying47 hi1 hz0 hz1 hz2 rfl (by decide) _ _ _ rfl qo ⟨w3.heap.size, 0, none⟩ 1 1 [.string ⟨y.1.toArray⟩] rfl rfl (lit_at _ _ _) (by simp [Value.oneCell']) hl' (by omega) qb ?_; intro v4 w4 hown4 hgrow4 _ hat4))
            have hsn : s.length + 1 = (s ++ [y.1]).length := by rw [List.length_append, List.length_singleton]
            rw [stC_snoc, hsn] at hown4
            have hbA : Below X.heap.size X (w3.alloc (.cells #[.string ⟨y.1.toArray⟩] 9)) := hbJ3.alloc hbJ3.size _
            have hb4 : Below X.heap.size X w4 := grow_bel hbA hgrow4 hbA.size (fun b hb => (qo.lt b hb).1)
            exact ⟨⟨i + 1, s ++ [y.1], rfl, hlt, ⟨hsl2.out _⟩, hown4, hb4, hnx⟩, by simp only [intOf]; omega⟩
        · have hlt' : ¬ (i : Int) < (p.tabs.length : Int) := by omega
          have hinv2 := hinv.out
          rw [List.drop_eq_nil_of_le (by omega)] at hinv2
          replace hsl := hsl.out
          have hst3 : Hid (pa3 p (frF gpE (·.1) 4 (p.grps.drop 0) 0 s) = R) := ⟨hinv2⟩
          have hsl3 : Hid (s.length ≤ 8 + 0) := ⟨by omega⟩
          have hown3 := hown
          have hbX := hb
          clear hinv2 hown hb hsl hlt hi
          go_wp2
          clear q0 q1 q2 q3 q4 q5 q6
          go_loopw [4, 9] (fun av iv wr => ∃ (i : Nat) (s : Sn), iv = .int .i64 (i : Int) ∧ i ≤ p.grps.length ∧ Hid (s.length ≤ 8 + i) ∧ wr.ownsRow X.heap.size 9 1 av s.length (stC s) ∧ Below X.heap.size X wr ∧ Hid (pa3 p (frF gpE (·.1) 4 (p.grps.drop i) i s) = R)) (fun _ iv _ => p.grps.length - (intOf iv).toNat)
          case atStart => exact ⟨0, _, rfl, Nat.zero_le _, hsl3, hown3, hbX, hst3⟩
          case round =>
            clear hst3 hsl3 hown3 hbX
            obtain ⟨i, s, rfl, hi, hsl, hown, hb, hinv⟩ := hrel
            obtain ⟨wz, hwz⟩ : ∃ wz, wz = wr := ⟨_, rfl⟩
            subst hwz
            obtain ⟨q0, q1, q2, q3, q4, q5, q6⟩ := hPH.out wz hb
            by_cases hlt : i < p.grps.length
            · have hlt' : (i : Int) < (p.grps.length : Int) := by omega
              have hi0 : (0 : Int) ≤ (i : Int) := by omega
              have hinv2 := hinv.out
              rw [fr_step gpE (·.1) 4 p.grps hlt] at hinv2
              have hRz := row_bel hGX hb (Nat.le_refl _)
              have hsl2 : Hid (∀ y : List UInt8, (s ++ [y]).length ≤ 8 + (i + 1)) := ⟨fun y => by have := hsl.out; rw [List.length_append, List.length_singleton]; omega⟩
              have hs1000 : s.length ≤ 1000 := by have := hsl.out; omega
              have hl' : s.length + 1 ≤ maxLen := by unfold maxLen; omega
              have hbs := hb.size
              clear hinv hsl
              obtain ⟨ga, oa, rfl⟩ := hRz.some hlt
              obtain ⟨cs, -, -, ⟨rfl, -⟩, hcs⟩ := hRz.item hlt
              have kx : wz.cell? ⟨ga, oa + i * 2, none⟩ = some (.string ⟨(p.grps[i]).1.toArray⟩) ∧ wz.cell? ⟨ga, oa + i * 2 + 1, none⟩ = some (.int .i64 (p.grps[i]).2) := ⟨hcs 0 (by decide), hcs 1 (by decide)⟩
              generalize p.grps[i] = y at *
              have hown' := hown
              obtain ⟨al, cl, rfl, hRs⟩ := st_row hown'
              have hcall := look_any s al cl y.1 wz hRs (by omega)
              obtain ⟨E, hE⟩ : ∃ E, lkN s y.1 = E := ⟨_, rfl⟩
              rw [hE] at hcall
              obtain ⟨k0, k1⟩ := kx
              clear hcs hRz hRs
              obtain ⟨N, hN⟩ : ∃ N, gpE s y = N := ⟨_, rfl⟩
              rw [hN] at hinv2
              unfold gpE at hN
              rw [hE] at hN
              clear hE
              by_cases h0 : E = 0
              rotate_left
              · have h0' : ((E : Int) != 0) = true := by simp; omega
                rw [if_pos h0] at hN
                subst hN
                rw [if_neg h0] at hinv2
                have hRe : Hid (R = some (itF 4 i, E)) := ⟨hinv2.symm⟩
                clear hinv2 h0 hown
                go_wp2_with (first | (go_at_call 26; refine hcall.mono ?_; rintro e w1 ⟨rfl, hw⟩; subst w1) | (go_at_call 15; refine (at_any 4 (i : Int) (-1) _).mono ?_; rintro e w5 ⟨rfl, hb9⟩; have hbJ := belT hb hb9; have rkj := (hBxH.out w5 hbJ).2; have fkj0 := frozen_of_row _ _ 0 _ _ rkj; have fkj1 := frozen_of_row _ _ 1 _ _ rkj; have fkj2 := frozen_of_row _ _ 2 _ _ rkj; have fkj3 := frozen_of_row _ _ 3 _ _ rkj; have ckj0 : w5.cell? ⟨W.heap.size + 1, 0, none⟩ = some (.int .i64 0) := cell_of_row _ _ 0 _ _ _ rkj; have ckj1 : w5.cell? ⟨W.heap.size + 1, 1, none⟩ = some (.int .i64 0) := cell_of_row _ _ 1 _ _ _ rkj; have ckj2 : w5.cell? ⟨W.heap.size + 1, 2, none⟩ = some (.int .i64 0) := cell_of_row _ _ 2 _ _ _ rkj; have ckj3 : w5.cell? ⟨W.heap.size + 1, 3, none⟩ = some (.slice none 0 0) := cell_of_row _ _ 3 _ _ _ rkj))
                refine bodyPost_ret (v := .tuple #[.agg #[.int .i64 4, .int .i64 (i : Int), .int .i64 (-1), .slice none 0 0], .int .i64 (E : Int)]) (results_cellK Tryz.results16 _ _ (W.heap.size + 1) 33 _ (0, 0) _ rfl (row_four rkj _ _ _ _) Tryz.underlying33 rfl info_sp) rfl ?_
                rw [← hQH.out, hRe.out]
                exact fa_err (f := (itF 4 i, E)) (base := W.heap.size + 2) (belT hb0 hbJ) (by omega) (pt_nil _ _) (by omega)
              subst h0
              rw [if_neg (by simp)] at hN
              by_cases g1 : y.2 < 1
              · rw [if_pos (Or.inl g1)] at hN
                subst hN
                rw [if_neg (by decide)] at hinv2
                have hRe : Hid (R = some (itF 4 i, 64)) := ⟨hinv2.symm⟩
                clear hinv2 hown
                go_wp2_with (first | (go_at_call 26; refine hcall.mono ?_; rintro e w1 ⟨rfl, hw⟩; subst w1) | (go_at_call 15; refine (at_any 4 (i : Int) (-1) _).mono ?_; rintro e w5 ⟨rfl, hb9⟩; have hbJ := belT hb hb9; have rkj := (hBxH.out w5 hbJ).2; have fkj0 := frozen_of_row _ _ 0 _ _ rkj; have fkj1 := frozen_of_row _ _ 1 _ _ rkj; have fkj2 := frozen_of_row _ _ 2 _ _ rkj; have fkj3 := frozen_of_row _ _ 3 _ _ rkj; have ckj0 : w5.cell? ⟨W.heap.size + 1, 0, none⟩ = some (.int .i64 0) := cell_of_row _ _ 0 _ _ _ rkj; have ckj1 : w5.cell? ⟨W.heap.size + 1, 1, none⟩ = some (.int .i64 0) := cell_of_row _ _ 1 _ _ _ rkj; have ckj2 : w5.cell? ⟨W.heap.size + 1, 2, none⟩ = some (.int .i64 0) := cell_of_row _ _ 2 _ _ _ rkj; have ckj3 : w5.cell? ⟨W.heap.size + 1, 3, none⟩ = some (.slice none 0 0) := cell_of_row _ _ 3 _ _ _ rkj))
                refine bodyPost_ret (v := .tuple #[.agg #[.int .i64 4, .int .i64 (i : Int), .int .i64 (-1), .slice none 0 0], .int .i64 64]) (results_cellK Tryz.results16 _ _ (W.heap.size + 1) 33 _ (0, 0) _ rfl (row_four rkj _ _ _ _) Tryz.underlying33 rfl info_sp) rfl ?_
                rw [← hQH.out, hRe.out]
                exact fa_err (f := (itF 4 i, 64)) (base := W.heap.size + 2) (belT hb0 hbJ) (by omega) (pt_nil _ _) (by omega)
              have g0 : ¬ y.2 < 1 := g1
              clear g1
              by_cases g1 : 8 < y.2
              · rw [if_pos (Or.inr g1)] at hN
                subst hN
                rw [if_neg (by decide)] at hinv2
                have hRe : Hid (R = some (itF 4 i, 64)) := ⟨hinv2.symm⟩
                clear hinv2 hown
                go_wp2_with (first | (go_at_call 26; refine hcall.mono ?_; rintro e w1 ⟨rfl, hw⟩; subst w1) | (go_at_call 15; refine (at_any 4 (i : Int) (-1) _).mono ?_; rintro e w5 ⟨rfl, hb9⟩; have hbJ := belT hb hb9; have rkj := (hBxH.out w5 hbJ).2; have fkj0 := frozen_of_row _ _ 0 _ _ rkj; have fkj1 := frozen_of_row _ _ 1 _ _ rkj; have fkj2 := frozen_of_row _ _ 2 _ _ rkj; have fkj3 := frozen_of_row _ _ 3 _ _ rkj; have ckj0 : w5.cell? ⟨W.heap.size + 1, 0, none⟩ = some (.int .i64 0) := cell_of_row _ _ 0 _ _ _ rkj; have ckj1 : w5.cell? ⟨W.heap.size + 1, 1, none⟩ = some (.int .i64 0) := cell_of_row _ _ 1 _ _ _ rkj; have ckj2 : w5.cell? ⟨W.heap.size + 1, 2, none⟩ = some (.int .i64 0) := cell_of_row _ _ 2 _ _ _ rkj; have ckj3 : w5.cell? ⟨W.heap.size + 1, 3, none⟩ = some (.slice none 0 0) := cell_of_row _ _ 3 _ _ _ rkj))
                refine bodyPost_ret (v := .tuple #[.agg #[.int .i64 4, .int .i64 (i : Int), .int .i64 (-1), .slice none 0 0], .int .i64 64]) (results_cellK Tryz.results16 _ _ (W.heap.size + 1) 33 _ (0, 0) _ rfl (row_four rkj _ _ _ _) Tryz.underlying33 rfl info_sp) rfl ?_
                rw [← hQH.out, hRe.out]
                exact fa_err (f := (itF 4 i, 64)) (base := W.heap.size + 2) (belT hb0 hbJ) (by omega) (pt_nil _ _) (by omega)
              rw [if_neg (by omega)] at hN
              subst hN
              rw [if_pos rfl] at hinv2
              have hnx := Hid.mk hinv2
              clear hinv2
              obtain ⟨w3, hw3⟩ : ∃ w3, w3 = wz := ⟨_, rfl⟩
              subst hw3
              have hbJ3 := hb
              have qo := hown.alloc (.cells #[.string ⟨y.1.toArray⟩] 9)
              have qb : X.heap.size ≤ (w3.alloc (.cells #[.string ⟨y.1.toArray⟩] 9)).heap.size := (hbJ3.alloc hbJ3.size _).size
              go_wp2_with (first | (go_at_call 26; refine hcall.mono ?_; rintro e w1 ⟨rfl, hw⟩; subst w1) | (at_builtin; refine wpList_append_own_at _ rfl _ _ 47 rfl X.heap.size 9 istr (.string ⟨#[]⟩) 1 16 Tryz.underlying47 hi1 hz0 hz1 hz2 rfl (by decide) _ _ _ rfl qo ⟨w3.heap.size, 0, none⟩ 1 1 [.string ⟨y.1.toArray⟩] rfl rfl (lit_at _ _ _) (by simp [Value.oneCell']) hl' (by omega) qb ?_; intro v4 w4 hown4 hgrow4 _ hat4))
              have hsn : s.length + 1 = (s ++ [y.1]).length := by rw [List.length_append, List.length_singleton]
              rw [stC_snoc, hsn] at hown4
              have hbA : Below X.heap.size X (w3.alloc (.cells #[.string ⟨y.1.toArray⟩] 9)) := hbJ3.alloc hbJ3.size _
              have hb4 : Below X.heap.size X w4 := grow_bel hbA hgrow4 hbA.size (fun b hb => (qo.lt b hb).1)
              exact ⟨⟨i + 1, s ++ [y.1], rfl, hlt, ⟨hsl2.out _⟩, hown4, hb4, hnx⟩, by simp only [intOf]; omega⟩
            · have hlt' : ¬ (i : Int) < (p.grps.length : Int) := by omega
              have hinv2 := hinv.out
              rw [List.drop_eq_nil_of_le (by omega)] at hinv2
              replace hsl := hsl.out
              have hst4 : Hid (pa4 p (lsF p (p.lns.drop 0) 0 s) = R) := ⟨hinv2⟩
              have hsl4 : Hid (s.length ≤ 12 + 0) := ⟨by omega⟩
              have hown4 := hown
              have hbX := hb
              clear hinv2 hown hb hsl hlt hi
              go_wp2
              clear q0 q1 q2 q3 q4 q5 q6
              go_loopw [4, 11] (fun av iv wr => ∃ (i : Nat) (s : Sn), iv = .int .i64 (i : Int) ∧ i ≤ p.lns.length ∧ Hid (s.length ≤ 12 + i) ∧ wr.ownsRow X.heap.size 9 1 av s.length (stC s) ∧ Below X.heap.size X wr ∧ Hid (pa4 p (lsF p (p.lns.drop i) i s) = R)) (fun _ iv _ => p.lns.length - (intOf iv).toNat)
              case atStart => exact ⟨0, _, rfl, Nat.zero_le _, hsl4, hown4, hbX, hst4⟩
              case round =>
                clear hst4 hsl4 hown4 hbX
                obtain ⟨i, s, rfl, hi, hsl, hown, hb, hinv⟩ := hrel
                obtain ⟨wz, hwz⟩ : ∃ wz, wz = wr := ⟨_, rfl⟩
                subst hwz
                obtain ⟨q0, q1, q2, q3, q4, q5, q6⟩ := hPH.out wz hb
                by_cases hlt : i < p.lns.length
                · have hlt' : (i : Int) < (p.lns.length : Int) := by omega
                  have hi0 : (0 : Int) ≤ (i : Int) := by omega
                  have hinv2 := hinv.out
                  rw [ls_step p p.lns hlt] at hinv2
                  have hRz := row_bel hLX hb (Nat.le_refl _)
                  have hsl2 : Hid (∀ y : List UInt8, (s ++ [y]).length ≤ 12 + (i + 1)) := ⟨fun y => by have := hsl.out; rw [List.length_append, List.length_singleton]; omega⟩
                  have hs1000 : s.length ≤ 1000 := by have := hsl.out; omega
                  have hl' : s.length + 1 ≤ maxLen := by unfold maxLen; omega
                  have hbs := hb.size
                  clear hinv hsl
                  obtain ⟨ga, oa, rfl⟩ := hRz.some hlt
                  obtain ⟨cs, -, -, ⟨ay, cy, rfl, -, hRy⟩, hcs⟩ := hRz.item hlt
                  have kx : wz.cell? ⟨ga, oa + i * 7, none⟩ = some (.string ⟨(p.lns[i]).name.toArray⟩) ∧ wz.cell? ⟨ga, oa + i * 7 + 1, none⟩ = some (.bool (p.lns[i]).input) ∧ wz.cell? ⟨ga, oa + i * 7 + 2, none⟩ = some (.bool (p.lns[i]).must) ∧ wz.cell? ⟨ga, oa + i * 7 + 3, none⟩ = some (.int .i64 (p.lns[i]).type) ∧ wz.cell? ⟨ga, oa + i * 7 + 4, none⟩ = some (.int .i64 (p.lns[i]).opts) ∧ wz.cell? ⟨ga, oa + i * 7 + 5, none⟩ = some (.int .i64 (p.lns[i]).group) ∧ wz.cell? ⟨ga, oa + i * 7 + 6, none⟩ = some (.slice ay (p.lns[i]).cls.length cy) := ⟨hcs 0 (by decide), hcs 1 (by decide), hcs 2 (by decide), hcs 3 (by decide), hcs 4 (by decide), hcs 5 (by decide), hcs 6 (by decide)⟩
                  generalize p.lns[i] = y at *
                  have hown' := hown
                  obtain ⟨al, cl, rfl, hRs⟩ := st_row hown'
                  have hBd : Below wz.heap.size wz wz.drew := (Below.refl _ _).drew
                  have hbD := belT hb hBd
                  have hcall := oneLine_any p a3 a4 a5 (some ⟨ga, oa, none⟩) a7 c3 c4 c5 c6 c7 y ay cy s al cl wz.drew (row_bel hRy hBd (Nat.le_refl _)) (row_bel hRs hBd (Nat.le_refl _)) (by omega)
                  obtain ⟨⟨E, K⟩, hE⟩ : ∃ r, lnE p s y = r := ⟨_, rfl⟩
                  rw [hE] at hcall hinv2
                  simp only at hcall hinv2
                  have hgl : ga < wz.heap.size := World.block_lt_of_cell? _ _ kx.1
                  have hSH : Hid (∀ w, Below wz.heap.size wz w → w.cell? ⟨W.heap.size, 0, none⟩ = some (.string ⟨p.name.toArray⟩) ∧ w.cell? ⟨W.heap.size, 1, none⟩ = some (.int .i64 p.year) ∧ w.cell? ⟨W.heap.size, 2, none⟩ = some (.slice a3 p.opts.length c3) ∧ w.cell? ⟨W.heap.size, 3, none⟩ = some (.slice a4 p.tabs.length c4) ∧ w.cell? ⟨W.heap.size, 4, none⟩ = some (.slice a5 p.grps.length c5) ∧ w.cell? ⟨W.heap.size, 5, none⟩ = some (.slice (some ⟨ga, oa, none⟩) p.lns.length c6) ∧ w.cell? ⟨W.heap.size, 6, none⟩ = some (.slice a7 p.cks.length c7) ∧ w.cell? ⟨ga, oa + i * 7, none⟩ = some (.string ⟨y.name.toArray⟩) ∧ w.cell? ⟨ga, oa + i * 7 + 1, none⟩ = some (.bool y.input) ∧ w.cell? ⟨ga, oa + i * 7 + 2, none⟩ = some (.bool y.must) ∧ w.cell? ⟨ga, oa + i * 7 + 3, none⟩ = some (.int .i64 y.type) ∧ w.cell? ⟨ga, oa + i * 7 + 4, none⟩ = some (.int .i64 y.opts) ∧ w.cell? ⟨ga, oa + i * 7 + 5, none⟩ = some (.int .i64 y.group) ∧ w.cell? ⟨ga, oa + i * 7 + 6, none⟩ = some (.slice ay y.cls.length cy)) := ⟨fun w hw => by
                    obtain ⟨p0, p1, p2, p3, p4, p5, p6⟩ := hPH.out w (belT hb hw)
                    obtain ⟨d0, d1, d2, d3, d4, d5, d6⟩ := kx
                    have hm : ∀ q, w.cell? ⟨ga, q, none⟩ = wz.cell? ⟨ga, q, none⟩ := fun q => bel_cell hw hgl q
                    exact ⟨p0, p1, p2, p3, p4, p5, p6, (hm _).trans d0, (hm _).trans d1, (hm _).trans d2, (hm _).trans d3, (hm _).trans d4, (hm _).trans d5, (hm _).trans d6⟩⟩
                  have hIH : Hid (∀ w, Below wz.heap.size wz w → w.cell? ⟨ga, oa + i * 7, none⟩ = some (.string ⟨y.name.toArray⟩)) := ⟨fun w hw => (bel_cell hw hgl _).trans kx.1⟩
                  have hS0 := hSH.out wz.drew hBd
                  clear hE hcs hRz hRs kx
                  by_cases h0 : E = 0
                  rotate_left
                  · have h0' : ((E : Int) != 0) = true := by simp; omega
                    rw [if_neg h0] at hinv2
                    have hRe : Hid (R = some (⟨5, i, K, []⟩, E)) := ⟨hinv2.symm⟩
                    clear hinv2 h0 hown
                    go_wp2_with fail
                    go_region_held3 (fun Z => Z.cell? ⟨W.heap.size, 0, none⟩ = some (.string ⟨p.name.toArray⟩) ∧ Z.cell? ⟨W.heap.size, 1, none⟩ = some (.int .i64 p.year) ∧ Z.cell? ⟨W.heap.size, 2, none⟩ = some (.slice a3 p.opts.length c3) ∧ Z.cell? ⟨W.heap.size, 3, none⟩ = some (.slice a4 p.tabs.length c4) ∧ Z.cell? ⟨W.heap.size, 4, none⟩ = some (.slice a5 p.grps.length c5) ∧ Z.cell? ⟨W.heap.size, 5, none⟩ = some (.slice (some ⟨ga, oa, none⟩) p.lns.length c6) ∧ Z.cell? ⟨W.heap.size, 6, none⟩ = some (.slice a7 p.cks.length c7) ∧ Z.cell? ⟨ga, oa + i * 7, none⟩ = some (.string ⟨y.name.toArray⟩) ∧ Z.cell? ⟨ga, oa + i * 7 + 1, none⟩ = some (.bool y.input) ∧ Z.cell? ⟨ga, oa + i * 7 + 2, none⟩ = some (.bool y.must) ∧ Z.cell? ⟨ga, oa + i * 7 + 3, none⟩ = some (.int .i64 y.type) ∧ Z.cell? ⟨ga, oa + i * 7 + 4, none⟩ = some (.int .i64 y.opts) ∧ Z.cell? ⟨ga, oa + i * 7 + 5, none⟩ = some (.int .i64 y.group) ∧ Z.cell? ⟨ga, oa + i * 7 + 6, none⟩ = some (.slice ay y.cls.length cy)) (with_reducible assumption)
                      (first | (go_at_call 27; refine hcall.mono ?_; rintro e w3 ⟨rfl, hb3⟩; have hb33 := belT hBd hb3; have hbJ3 := belT hb hb33; have hS3 := hSH.out w3 hb33))
                    clear hS0 hS3 hcall
                    go_wp2_with (go_at_call 15; refine (at_any 5 (i : Int) K _).mono ?_; rintro e w5 ⟨rfl, hb9⟩; have hbJ := belT hbJ3 hb9; have rkj := (hBxH.out w5 hbJ).2; have fkj0 := frozen_of_row _ _ 0 _ _ rkj; have fkj1 := frozen_of_row _ _ 1 _ _ rkj; have fkj2 := frozen_of_row _ _ 2 _ _ rkj; have fkj3 := frozen_of_row _ _ 3 _ _ rkj; have ckj0 : w5.cell? ⟨W.heap.size + 1, 0, none⟩ = some (.int .i64 0) := cell_of_row _ _ 0 _ _ _ rkj; have ckj1 : w5.cell? ⟨W.heap.size + 1, 1, none⟩ = some (.int .i64 0) := cell_of_row _ _ 1 _ _ _ rkj; have ckj2 : w5.cell? ⟨W.heap.size + 1, 2, none⟩ = some (.int .i64 0) := cell_of_row _ _ 2 _ _ _ rkj; have ckj3 : w5.cell? ⟨W.heap.size + 1, 3, none⟩ = some (.slice none 0 0) := cell_of_row _ _ 3 _ _ _ rkj)
                    refine bodyPost_ret (v := .tuple #[.agg #[.int .i64 5, .int .i64 (i : Int), .int .i64 K, .slice none 0 0], .int .i64 (E : Int)]) (results_cellK Tryz.results16 _ _ (W.heap.size + 1) 33 _ (0, 0) _ rfl (row_four rkj _ _ _ _) Tryz.underlying33 rfl info_sp) rfl ?_
                    rw [← hQH.out, hRe.out]
                    exact fa_err (f := (⟨5, i, K, []⟩, E)) (base := W.heap.size + 2) (belT hb0 hbJ) (by omega) (pt_nil _ _) (by omega)
                  · subst h0
                    rw [if_pos rfl] at hinv2
                    have hnx := Hid.mk hinv2
                    clear hinv2
                    go_wp2_with fail
                    go_region_held3 (fun Z => Z.cell? ⟨W.heap.size, 0, none⟩ = some (.string ⟨p.name.toArray⟩) ∧ Z.cell? ⟨W.heap.size, 1, none⟩ = some (.int .i64 p.year) ∧ Z.cell? ⟨W.heap.size, 2, none⟩ = some (.slice a3 p.opts.length c3) ∧ Z.cell? ⟨W.heap.size, 3, none⟩ = some (.slice a4 p.tabs.length c4) ∧ Z.cell? ⟨W.heap.size, 4, none⟩ = some (.slice a5 p.grps.length c5) ∧ Z.cell? ⟨W.heap.size, 5, none⟩ = some (.slice (some ⟨ga, oa, none⟩) p.lns.length c6) ∧ Z.cell? ⟨W.heap.size, 6, none⟩ = some (.slice a7 p.cks.length c7) ∧ Z.cell? ⟨ga, oa + i * 7, none⟩ = some (.string ⟨y.name.toArray⟩) ∧ Z.cell? ⟨ga, oa + i * 7 + 1, none⟩ = some (.bool y.input) ∧ Z.cell? ⟨ga, oa + i * 7 + 2, none⟩ = some (.bool y.must) ∧ Z.cell? ⟨ga, oa + i * 7 + 3, none⟩ = some (.int .i64 y.type) ∧ Z.cell? ⟨ga, oa + i * 7 + 4, none⟩ = some (.int .i64 y.opts) ∧ Z.cell? ⟨ga, oa + i * 7 + 5, none⟩ = some (.int .i64 y.group) ∧ Z.cell? ⟨ga, oa + i * 7 + 6, none⟩ = some (.slice ay y.cls.length cy)) (with_reducible assumption)
                      (first | (go_at_call 27; refine hcall.mono ?_; rintro e w3 ⟨rfl, hb3⟩; have hb33 := belT hBd hb3; have hbJ3 := belT hb hb33; have hS3 := hSH.out w3 hb33; obtain ⟨t0, t1, t2, t3, t4, t5, t6⟩ := hPH.out w3 hbJ3; have k9 := hIH.out w3 hb33; have hown3 := World.ownsRow.kept hown (gr_bel hb33) (Classical.em _); have qo := hown3.alloc (.cells #[.string ⟨y.name.toArray⟩] 9); have qb : X.heap.size ≤ (w3.alloc (.cells #[.string ⟨y.name.toArray⟩] 9)).heap.size := (hbJ3.alloc hbJ3.size _).size))
                    clear hS0 hcall
                    go_wp2_with (at_builtin; refine wpList_append_own_at _ rfl _ _ 47 rfl X.heap.size 9 istr (.string ⟨#[]⟩) 1 16 Tryz.underlying47 hi1 hz0 hz1 hz2 rfl (by decide) _ _ _ rfl qo ⟨w3.heap.size, 0, none⟩ 1 1 [.string ⟨y.name.toArray⟩] rfl rfl (lit_at _ _ _) (by simp [Value.oneCell']) hl' (by omega) qb ?_; intro v4 w4 hown4 hgrow4 _ hat4)
                    have hsn : s.length + 1 = (s ++ [y.name]).length := by rw [List.length_append, List.length_singleton]
                    rw [stC_snoc, hsn] at hown4
                    have hbA : Below X.heap.size X (w3.alloc (.cells #[.string ⟨y.name.toArray⟩] 9)) := hbJ3.alloc hbJ3.size _
                    have hb4 : Below X.heap.size X w4 := grow_bel hbA hgrow4 hbA.size (fun b hb => (qo.lt b hb).1)
                    exact ⟨⟨i + 1, s ++ [y.name], rfl, hlt, ⟨hsl2.out _⟩, hown4, hb4, hnx⟩, by simp only [intOf]; omega⟩
                · have hlt' : ¬ (i : Int) < (p.lns.length : Int) := by omega
                  have hinv2 := hinv.out
                  rw [List.drop_eq_nil_of_le (by omega)] at hinv2
                  replace hsl := hsl.out
                  have hst5 : Hid (pa5 p (frF (ckE p) (·.name) 6 (p.cks.drop 0) 0 s) = R) := ⟨hinv2⟩
                  have hsl5 : Hid (s.length ≤ 60 + 0) := ⟨by omega⟩
                  have hown5 := hown
                  have hbX := hb
                  clear hinv2 hown hb hsl hlt hi
                  go_wp2
                  clear q0 q1 q2 q3 q4 q5 q6
                  go_loopw [4, 14] (fun av iv wr => ∃ (i : Nat) (s : Sn), iv = .int .i64 (i : Int) ∧ i ≤ p.cks.length ∧ Hid (s.length ≤ 60 + i) ∧ wr.ownsRow X.heap.size 9 1 av s.length (stC s) ∧ Below X.heap.size X wr ∧ Hid (pa5 p (frF (ckE p) (·.name) 6 (p.cks.drop i) i s) = R)) (fun _ iv _ => p.cks.length - (intOf iv).toNat)
                  case atStart => exact ⟨0, _, rfl, Nat.zero_le _, hsl5, hown5, hbX, hst5⟩
                  case round =>
                    clear hst5 hsl5 hown5 hbX
                    obtain ⟨i, s, rfl, hi, hsl, hown, hb, hinv⟩ := hrel
                    obtain ⟨wz, hwz⟩ : ∃ wz, wz = wr := ⟨_, rfl⟩
                    subst hwz
                    obtain ⟨q0, q1, q2, q3, q4, q5, q6⟩ := hPH.out wz hb
                    by_cases hlt : i < p.cks.length
                    · have hlt' : (i : Int) < (p.cks.length : Int) := by omega
                      have hi0 : (0 : Int) ≤ (i : Int) := by omega
                      have hinv2 := hinv.out
                      rw [fr_step (ckE p) (·.name) 6 p.cks hlt] at hinv2
                      have hRz := row_bel hKX hb (Nat.le_refl _)
                      have hsl2 : Hid (∀ y : List UInt8, (s ++ [y]).length ≤ 60 + (i + 1)) := ⟨fun y => by have := hsl.out; rw [List.length_append, List.length_singleton]; omega⟩
                      have hs1000 : s.length ≤ 1000 := by have := hsl.out; omega
                      have hl' : s.length + 1 ≤ maxLen := by unfold maxLen; omega
                      have hbs := hb.size
                      clear hinv hsl
                      obtain ⟨ga, oa, rfl⟩ := hRz.some hlt
                      obtain ⟨cs, -, -, ⟨ay, cy, rfl, -, -, -⟩, hcs⟩ := hRz.item hlt
                      have kx : wz.cell? ⟨ga, oa + i * 9, none⟩ = some (.string ⟨(p.cks[i]).name.toArray⟩) ∧ wz.cell? ⟨ga, oa + i * 9 + 1, none⟩ = some (.bool (p.cks[i]).hard) ∧ wz.cell? ⟨ga, oa + i * 9 + 2, none⟩ = some (.int .i64 (p.cks[i]).group) ∧ wz.cell? ⟨ga, oa + i * 9 + 3, none⟩ = some (.int .i64 (p.cks[i]).when_.op) ∧ wz.cell? ⟨ga, oa + i * 9 + 4, none⟩ = some (.int .i64 (p.cks[i]).when_.num) ∧ wz.cell? ⟨ga, oa + i * 9 + 5, none⟩ = some (.int .i64 (p.cks[i]).when_.den) ∧ wz.cell? ⟨ga, oa + i * 9 + 6, none⟩ = some (.int .i64 (p.cks[i]).when_.mode) ∧ wz.cell? ⟨ga, oa + i * 9 + 7, none⟩ = some (.slice ay (p.cks[i]).when_.args.len cy) ∧ wz.cell? ⟨ga, oa + i * 9 + 8, none⟩ = some (.string ⟨(p.cks[i]).text.toArray⟩) := ⟨hcs 0 (by decide), hcs 1 (by decide), hcs 2 (by decide), hcs 3 (by decide), hcs 4 (by decide), hcs 5 (by decide), hcs 6 (by decide), hcs 7 (by decide), hcs 8 (by decide)⟩
                      generalize p.cks[i] = y at *
                      have hown' := hown
                      obtain ⟨al, cl, rfl, hRs⟩ := st_row hown'
                      have hBd : Below wz.heap.size wz wz.drew := (Below.refl _ _).drew
                      have hbD := belT hb hBd
                      have hcall := oneCheck_any p a3 a4 a5 a6 (some ⟨ga, oa, none⟩) c3 c4 c5 c6 c7 y ay cy s al cl wz.drew (row_bel hRs hBd (Nat.le_refl _)) (by omega)
                      obtain ⟨E, hE⟩ : ∃ E, ckE p s y = E := ⟨_, rfl⟩
                      rw [hE] at hcall hinv2
                      have hgl : ga < wz.heap.size := World.block_lt_of_cell? _ _ kx.1
                      have hSH : Hid (∀ w, Below wz.heap.size wz w → w.cell? ⟨W.heap.size, 0, none⟩ = some (.string ⟨p.name.toArray⟩) ∧ w.cell? ⟨W.heap.size, 1, none⟩ = some (.int .i64 p.year) ∧ w.cell? ⟨W.heap.size, 2, none⟩ = some (.slice a3 p.opts.length c3) ∧ w.cell? ⟨W.heap.size, 3, none⟩ = some (.slice a4 p.tabs.length c4) ∧ w.cell? ⟨W.heap.size, 4, none⟩ = some (.slice a5 p.grps.length c5) ∧ w.cell? ⟨W.heap.size, 5, none⟩ = some (.slice a6 p.lns.length c6) ∧ w.cell? ⟨W.heap.size, 6, none⟩ = some (.slice (some ⟨ga, oa, none⟩) p.cks.length c7) ∧ w.cell? ⟨ga, oa + i * 9, none⟩ = some (.string ⟨y.name.toArray⟩) ∧ w.cell? ⟨ga, oa + i * 9 + 1, none⟩ = some (.bool y.hard) ∧ w.cell? ⟨ga, oa + i * 9 + 2, none⟩ = some (.int .i64 y.group) ∧ w.cell? ⟨ga, oa + i * 9 + 3, none⟩ = some (.int .i64 y.when_.op) ∧ w.cell? ⟨ga, oa + i * 9 + 4, none⟩ = some (.int .i64 y.when_.num) ∧ w.cell? ⟨ga, oa + i * 9 + 5, none⟩ = some (.int .i64 y.when_.den) ∧ w.cell? ⟨ga, oa + i * 9 + 6, none⟩ = some (.int .i64 y.when_.mode) ∧ w.cell? ⟨ga, oa + i * 9 + 7, none⟩ = some (.slice ay y.when_.args.len cy) ∧ w.cell? ⟨ga, oa + i * 9 + 8, none⟩ = some (.string ⟨y.text.toArray⟩)) := ⟨fun w hw => by
                        obtain ⟨p0, p1, p2, p3, p4, p5, p6⟩ := hPH.out w (belT hb hw)
                        obtain ⟨d0, d1, d2, d3, d4, d5, d6, d7, d8⟩ := kx
                        have hm : ∀ q, w.cell? ⟨ga, q, none⟩ = wz.cell? ⟨ga, q, none⟩ := fun q => bel_cell hw hgl q
                        exact ⟨p0, p1, p2, p3, p4, p5, p6, (hm _).trans d0, (hm _).trans d1, (hm _).trans d2, (hm _).trans d3, (hm _).trans d4, (hm _).trans d5, (hm _).trans d6, (hm _).trans d7, (hm _).trans d8⟩⟩
                      have hIH : Hid (∀ w, Below wz.heap.size wz w → w.cell? ⟨ga, oa + i * 9, none⟩ = some (.string ⟨y.name.toArray⟩)) := ⟨fun w hw => (bel_cell hw hgl _).trans kx.1⟩
                      have hS0 := hSH.out wz.drew hBd
                      clear hE hcs hRz hRs kx
                      by_cases h0 : E = 0
                      rotate_left
                      · have h0' : ((E : Int) != 0) = true := by simp; omega
                        rw [if_neg h0] at hinv2
                        have hRe : Hid (R = some (itF 6 i, E)) := ⟨hinv2.symm⟩
                        clear hinv2 h0 hown
                        go_wp2_with fail
                        go_region_held3 (fun Z => Z.cell? ⟨W.heap.size, 0, none⟩ = some (.string ⟨p.name.toArray⟩) ∧ Z.cell? ⟨W.heap.size, 1, none⟩ = some (.int .i64 p.year) ∧ Z.cell? ⟨W.heap.size, 2, none⟩ = some (.slice a3 p.opts.length c3) ∧ Z.cell? ⟨W.heap.size, 3, none⟩ = some (.slice a4 p.tabs.length c4) ∧ Z.cell? ⟨W.heap.size, 4, none⟩ = some (.slice a5 p.grps.length c5) ∧ Z.cell? ⟨W.heap.size, 5, none⟩ = some (.slice a6 p.lns.length c6) ∧ Z.cell? ⟨W.heap.size, 6, none⟩ = some (.slice (some ⟨ga, oa, none⟩) p.cks.length c7) ∧ Z.cell? ⟨ga, oa + i * 9, none⟩ = some (.string ⟨y.name.toArray⟩) ∧ Z.cell? ⟨ga, oa + i * 9 + 1, none⟩ = some (.bool y.hard) ∧ Z.cell? ⟨ga, oa + i * 9 + 2, none⟩ = some (.int .i64 y.group) ∧ Z.cell? ⟨ga, oa + i * 9 + 3, none⟩ = some (.int .i64 y.when_.op) ∧ Z.cell? ⟨ga, oa + i * 9 + 4, none⟩ = some (.int .i64 y.when_.num) ∧ Z.cell? ⟨ga, oa + i * 9 + 5, none⟩ = some (.int .i64 y.when_.den) ∧ Z.cell? ⟨ga, oa + i * 9 + 6, none⟩ = some (.int .i64 y.when_.mode) ∧ Z.cell? ⟨ga, oa + i * 9 + 7, none⟩ = some (.slice ay y.when_.args.len cy) ∧ Z.cell? ⟨ga, oa + i * 9 + 8, none⟩ = some (.string ⟨y.text.toArray⟩)) (with_reducible assumption)
                          (first | (go_at_call 28; refine hcall.mono ?_; rintro e w3 ⟨rfl, hb3⟩; have hb33 := belT hBd hb3; have hbJ3 := belT hb hb33; have hS3 := hSH.out w3 hb33))
                        clear hS0 hS3 hcall
                        go_wp2_with (go_at_call 15; refine (at_any 6 (i : Int) (-1) _).mono ?_; rintro e w5 ⟨rfl, hb9⟩; have hbJ := belT hbJ3 hb9; have rkj := (hBxH.out w5 hbJ).2; have fkj0 := frozen_of_row _ _ 0 _ _ rkj; have fkj1 := frozen_of_row _ _ 1 _ _ rkj; have fkj2 := frozen_of_row _ _ 2 _ _ rkj; have fkj3 := frozen_of_row _ _ 3 _ _ rkj; have ckj0 : w5.cell? ⟨W.heap.size + 1, 0, none⟩ = some (.int .i64 0) := cell_of_row _ _ 0 _ _ _ rkj; have ckj1 : w5.cell? ⟨W.heap.size + 1, 1, none⟩ = some (.int .i64 0) := cell_of_row _ _ 1 _ _ _ rkj; have ckj2 : w5.cell? ⟨W.heap.size + 1, 2, none⟩ = some (.int .i64 0) := cell_of_row _ _ 2 _ _ _ rkj; have ckj3 : w5.cell? ⟨W.heap.size + 1, 3, none⟩ = some (.slice none 0 0) := cell_of_row _ _ 3 _ _ _ rkj)
                        refine bodyPost_ret (v := .tuple #[.agg #[.int .i64 6, .int .i64 (i : Int), .int .i64 (-1), .slice none 0 0], .int .i64 (E : Int)]) (results_cellK Tryz.results16 _ _ (W.heap.size + 1) 33 _ (0, 0) _ rfl (row_four rkj _ _ _ _) Tryz.underlying33 rfl info_sp) rfl ?_
                        rw [← hQH.out, hRe.out]
                        exact fa_err (f := (itF 6 i, E)) (base := W.heap.size + 2) (belT hb0 hbJ) (by omega) (pt_nil _ _) (by omega)
                      · subst h0
                        rw [if_pos rfl] at hinv2
                        have hnx := Hid.mk hinv2
                        clear hinv2
                        go_wp2_with fail
                        go_region_held3 (fun Z => Z.cell? ⟨W.heap.size, 0, none⟩ = some (.string ⟨p.name.toArray⟩) ∧ Z.cell? ⟨W.heap.size, 1, none⟩ = some (.int .i64 p.year) ∧ Z.cell? ⟨W.heap.size, 2, none⟩ = some (.slice a3 p.opts.length c3) ∧ Z.cell? ⟨W.heap.size, 3, none⟩ = some (.slice a4 p.tabs.length c4) ∧ Z.cell? ⟨W.heap.size, 4, none⟩ = some (.slice a5 p.grps.length c5) ∧ Z.cell? ⟨W.heap.size, 5, none⟩ = some (.slice a6 p.lns.length c6) ∧ Z.cell? ⟨W.heap.size, 6, none⟩ = some (.slice (some ⟨ga, oa, none⟩) p.cks.length c7) ∧ Z.cell? ⟨ga, oa + i * 9, none⟩ = some (.string ⟨y.name.toArray⟩) ∧ Z.cell? ⟨ga, oa + i * 9 + 1, none⟩ = some (.bool y.hard) ∧ Z.cell? ⟨ga, oa + i * 9 + 2, none⟩ = some (.int .i64 y.group) ∧ Z.cell? ⟨ga, oa + i * 9 + 3, none⟩ = some (.int .i64 y.when_.op) ∧ Z.cell? ⟨ga, oa + i * 9 + 4, none⟩ = some (.int .i64 y.when_.num) ∧ Z.cell? ⟨ga, oa + i * 9 + 5, none⟩ = some (.int .i64 y.when_.den) ∧ Z.cell? ⟨ga, oa + i * 9 + 6, none⟩ = some (.int .i64 y.when_.mode) ∧ Z.cell? ⟨ga, oa + i * 9 + 7, none⟩ = some (.slice ay y.when_.args.len cy) ∧ Z.cell? ⟨ga, oa + i * 9 + 8, none⟩ = some (.string ⟨y.text.toArray⟩)) (with_reducible assumption)
                          (first | (go_at_call 28; refine hcall.mono ?_; rintro e w3 ⟨rfl, hb3⟩; have hb33 := belT hBd hb3; have hbJ3 := belT hb hb33; have hS3 := hSH.out w3 hb33; obtain ⟨t0, t1, t2, t3, t4, t5, t6⟩ := hPH.out w3 hbJ3; have k9 := hIH.out w3 hb33; have hown3 := World.ownsRow.kept hown (gr_bel hb33) (Classical.em _); have qo := hown3.alloc (.cells #[.string ⟨y.name.toArray⟩] 9); have qb : X.heap.size ≤ (w3.alloc (.cells #[.string ⟨y.name.toArray⟩] 9)).heap.size := (hbJ3.alloc hbJ3.size _).size))
                        clear hS0 hcall
                        go_wp2_with (at_builtin; refine wpList_append_own_at _ rfl _ _ 47 rfl X.heap.size 9 istr (.string ⟨#[]⟩) 1 16 Tryz.underlying47 hi1 hz0 hz1 hz2 rfl (by decide) _ _ _ rfl qo ⟨w3.heap.size, 0, none⟩ 1 1 [.string ⟨y.name.toArray⟩] rfl rfl (lit_at _ _ _) (by simp [Value.oneCell']) hl' (by omega) qb ?_; intro v4 w4 hown4 hgrow4 _ hat4)
                        have hsn : s.length + 1 = (s ++ [y.name]).length := by rw [List.length_append, List.length_singleton]
                        rw [stC_snoc, hsn] at hown4
                        have hbA : Below X.heap.size X (w3.alloc (.cells #[.string ⟨y.name.toArray⟩] 9)) := hbJ3.alloc hbJ3.size _
                        have hb4 : Below X.heap.size X w4 := grow_bel hbA hgrow4 hbA.size (fun b hb => (qo.lt b hb).1)
                        exact ⟨⟨i + 1, s ++ [y.name], rfl, hlt, ⟨hsl2.out _⟩, hown4, hb4, hnx⟩, by simp only [intOf]; omega⟩
                    · have hlt' : ¬ (i : Int) < (p.cks.length : Int) := by omega
                      have hinv2 := hinv.out
                      rw [List.drop_eq_nil_of_le (by omega)] at hinv2
                      replace hsl := hsl.out
                      have hRc : (if 256 < cesF p then some (itF 1 0, 60) else none) = R := hinv2
                      have hce := rcells_any p a3 a4 a5 a6 a7 c3 c4 c5 c6 c7 wz (row_bel hGX hb (Nat.le_refl _)) (row_bel hLX hb (Nat.le_refl _)) (row_bel hKX hb (Nat.le_refl _)) (by omega) (by omega) (by omega)
                      generalize cesF p = N at hRc hce
                      clear hinv2 hown hsl
                      by_cases hN : 256 < N
                      · rw [if_pos hN] at hRc
                        have hRe : Hid (R = some (itF 1 0, 60)) := ⟨hRc.symm⟩
                        clear hRc
                        go_wp2_with (first | (go_at_call 29; refine hce.mono ?_; rintro e w3 ⟨rfl, hb3⟩; have hbJ3 := belT hb hb3) | (go_at_call 15; refine (at_any 1 0 (-1) _).mono ?_; rintro e w5 ⟨rfl, hb9⟩; have hbJ := belT hbJ3 hb9; have rkj := (hBxH.out w5 hbJ).2; have fkj0 := frozen_of_row _ _ 0 _ _ rkj; have fkj1 := frozen_of_row _ _ 1 _ _ rkj; have fkj2 := frozen_of_row _ _ 2 _ _ rkj; have fkj3 := frozen_of_row _ _ 3 _ _ rkj; have ckj0 : w5.cell? ⟨W.heap.size + 1, 0, none⟩ = some (.int .i64 0) := cell_of_row _ _ 0 _ _ _ rkj; have ckj1 : w5.cell? ⟨W.heap.size + 1, 1, none⟩ = some (.int .i64 0) := cell_of_row _ _ 1 _ _ _ rkj; have ckj2 : w5.cell? ⟨W.heap.size + 1, 2, none⟩ = some (.int .i64 0) := cell_of_row _ _ 2 _ _ _ rkj; have ckj3 : w5.cell? ⟨W.heap.size + 1, 3, none⟩ = some (.slice none 0 0) := cell_of_row _ _ 3 _ _ _ rkj))
                        refine bodyPost_ret (v := .tuple #[.agg #[.int .i64 1, .int .i64 0, .int .i64 (-1), .slice none 0 0], .int .i64 60]) (results_cellK Tryz.results16 _ _ (W.heap.size + 1) 33 _ (0, 0) _ rfl (row_four rkj _ _ _ _) Tryz.underlying33 rfl info_sp) rfl ?_
                        rw [← hQH.out, hRe.out]
                        exact fa_err (f := (itF 1 0, 60)) (base := W.heap.size + 2) (belT hb0 hbJ) (by omega) (pt_nil _ _) (by omega)
                      · rw [if_neg hN] at hRc
                        have hRe : Hid (R = none) := ⟨hRc.symm⟩
                        clear hRc
                        go_wp2_with (go_at_call 29; refine hce.mono ?_; rintro e w3 ⟨rfl, hb3⟩; have hbJ := belT hb hb3; have rkj := (hBxH.out w3 hbJ).2; have fkj0 := frozen_of_row _ _ 0 _ _ rkj; have fkj1 := frozen_of_row _ _ 1 _ _ rkj; have fkj2 := frozen_of_row _ _ 2 _ _ rkj; have fkj3 := frozen_of_row _ _ 3 _ _ rkj; have ckj0 : w3.cell? ⟨W.heap.size + 1, 0, none⟩ = some (.int .i64 0) := cell_of_row _ _ 0 _ _ _ rkj; have ckj1 : w3.cell? ⟨W.heap.size + 1, 1, none⟩ = some (.int .i64 0) := cell_of_row _ _ 1 _ _ _ rkj; have ckj2 : w3.cell? ⟨W.heap.size + 1, 2, none⟩ = some (.int .i64 0) := cell_of_row _ _ 2 _ _ _ rkj; have ckj3 : w3.cell? ⟨W.heap.size + 1, 3, none⟩ = some (.slice none 0 0) := cell_of_row _ _ 3 _ _ _ rkj)
                        refine bodyPost_ret (v := .tuple #[.agg #[.int .i64 0, .int .i64 0, .int .i64 0, .slice none 0 0], .int .i64 0]) (results_cellK Tryz.results16 _ _ (W.heap.size + 1) 33 _ (0, 0) _ rfl (row_four rkj _ _ _ _) Tryz.underlying33 rfl info_sp) rfl ?_
                        rw [← hQH.out, hRe.out]
                        exact fa_ok (belT hb0 hbJ) (by omega)
end Go.Proofs.YtmklkcefbabhbaaGreat.R6

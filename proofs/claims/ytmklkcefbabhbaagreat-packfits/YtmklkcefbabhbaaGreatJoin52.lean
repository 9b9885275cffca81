import Derived.Test.YtmklkcefbabhbaaGreatTurnYrX5
import Derived.Test.YtmklkcefbabhbaaGreatJoin20
/- Check, whole. -/
namespace Go.Proofs.YtmklkcefbabhbaaGreat.R6
open Go.RowKit

theorem fr_pos {α : Type} (f : Sn → α → Nat) (nm : α → List UInt8) (part : Nat) : ∀ (l : List α) (i : Nat) (s s' : Sn) (fa : Sp × Nat), frF f nm part l i s = (s', some fa) → 0 < fa.2
  | [], i, s, s', fa, h => by
    unfold frF at h
    injection h with _ h
    cases h
  | y :: l, i, s, s', fa, h => by
    unfold frF at h
    by_cases h0 : f s y = 0
    · rw [if_pos h0] at h
      exact fr_pos f nm part l (i + 1) _ s' fa h
    · rw [if_neg h0] at h
      injection h with _ h
      injection h with h
      rw [← h]
      exact Nat.pos_of_ne_zero h0
theorem ls_pos (p : Pk) : ∀ (l : List Ln) (i : Nat) (s s' : Sn) (fa : Sp × Nat), lsF p l i s = (s', some fa) → 0 < fa.2
  | [], i, s, s', fa, h => by
    unfold lsF at h
    injection h with _ h
    cases h
  | y :: l, i, s, s', fa, h => by
    unfold lsF at h
    by_cases h0 : (lnE p s y).1 = 0
    · rw [if_pos h0] at h
      exact ls_pos p l (i + 1) _ s' fa h
    · rw [if_neg h0] at h
      injection h with _ h
      injection h with h
      rw [← h]
      exact Nat.pos_of_ne_zero h0
theorem pa5_pos (p : Pk) (r : Sn × Fau) (hr : ∀ fa, r.2 = some fa → 0 < fa.2) {f : Sp × Nat} (h : pa5 p r = some f) : 0 < f.2 := by
  obtain ⟨s, o⟩ := r
  cases o with
  | some g => injection h with h; rw [← h]; exact hr g rfl
  | none =>
    have h : (if 256 < cesF p then some (itF 1 0, 60) else none) = some f := h
    split at h
    · injection h with h; rw [← h]; decide
    · cases h
theorem pa4_pos (p : Pk) (r : Sn × Fau) (hr : ∀ fa, r.2 = some fa → 0 < fa.2) {f : Sp × Nat} (h : pa4 p r = some f) : 0 < f.2 := by
  obtain ⟨s, o⟩ := r
  cases o with
  | some g => injection h with h; rw [← h]; exact hr g rfl
  | none => exact pa5_pos p _ (fun fa e => fr_pos (ckE p) (·.name) 6 p.cks 0 s _ fa (Prod.ext rfl e)) h
theorem pa3_pos (p : Pk) (r : Sn × Fau) (hr : ∀ fa, r.2 = some fa → 0 < fa.2) {f : Sp × Nat} (h : pa3 p r = some f) : 0 < f.2 := by
  obtain ⟨s, o⟩ := r
  cases o with
  | some g => injection h with h; rw [← h]; exact hr g rfl
  | none => exact pa4_pos p _ (fun fa e => ls_pos p p.lns 0 s _ fa (Prod.ext rfl e)) h
theorem pa2_pos (p : Pk) (r : Sn × Fau) (hr : ∀ fa, r.2 = some fa → 0 < fa.2) {f : Sp × Nat} (h : pa2 p r = some f) : 0 < f.2 := by
  obtain ⟨s, o⟩ := r
  cases o with
  | some g => injection h with h; rw [← h]; exact hr g rfl
  | none => exact pa3_pos p _ (fun fa e => fr_pos gpE (·.1) 4 p.grps 0 s _ fa (Prod.ext rfl e)) h
theorem pa1_pos (p : Pk) (r : Sn × Fau) (hr : ∀ fa, r.2 = some fa → 0 < fa.2) {f : Sp × Nat} (h : pa1 p r = some f) : 0 < f.2 := by
  obtain ⟨s, o⟩ := r
  cases o with
  | some g => injection h with h; rw [← h]; exact hr g rfl
  | none => exact pa2_pos p _ (fun fa e => fr_pos tbE (·.1) 3 p.tabs 0 s _ fa (Prod.ext rfl e)) h
theorem pa_pos {p : Pk} {f : Sp × Nat} (h : paF p = some f) : 0 < f.2 := by
  rw [pa_is] at h
  cases hh : hdF p with
  | some g =>
    rw [hh] at h
    injection h with h
    rw [← h]
    unfold hdF at hh
    split at hh
    · split at hh
      · injection hh with hh; rw [← hh]; decide
      · cases hh
    · injection hh with hh; rw [← hh]; decide
  | none =>
    rw [hh] at h
    exact pa1_pos p _ (fun fa e => fr_pos opE (·.1) 2 p.opts 0 [] _ fa (Prod.ext rfl e)) h
theorem ls_six (p : Pk) : ∀ (l : List Ln) (i : Nat) (s : Sn), (lsF p l i s).2 = none → ∀ x ∈ l, x.cls.length ≤ 6
  | [], i, s, _, x, hx => by cases hx
  | y :: l, i, s, h, x, hx => by
    unfold lsF at h
    by_cases h0 : (lnE p s y).1 = 0
    · rw [if_pos h0] at h
      rcases List.mem_cons.1 hx with rfl | hx
      · unfold lnE at h0
        by_cases q0 : lkN s x.name ≠ 0
        · rw [if_pos q0] at h0
          exact absurd h0 q0
        rw [if_neg q0] at h0
        by_cases q1 : tyB p x = false
        · rw [if_pos q1] at h0
          cases h0
        rw [if_neg q1] at h0
        by_cases q2 : inG p x.group = false
        · rw [if_pos q2] at h0
          cases h0
        rw [if_neg q2] at h0
        by_cases q3 : lnB x = false
        · rw [if_pos q3] at h0
          cases h0
        have q3 : lnB x = true := by simpa using q3
        unfold lnB at q3
        split at q3
        · simp only [decide_eq_true_eq] at q3
          omega
        · simp only [Bool.and_eq_true, decide_eq_true_eq] at q3
          omega
      · exact ls_six p l (i + 1) _ h x hx
    · rw [if_neg h0] at h
      cases h
theorem pa_six {p : Pk} (h : paF p = none) : ∀ x ∈ p.lns, x.cls.length ≤ 6 := by
  rw [pa_is] at h
  cases hh : hdF p with
  | some g => rw [hh] at h; cases h
  | none =>
    rw [hh] at h
    have h : pa1 p (frF opE (·.1) 2 p.opts 0 []) = none := h
    rcases h1 : frF opE (·.1) 2 p.opts 0 [] with ⟨s1, _ | f1⟩
    rotate_left
    · rw [h1] at h; cases h
    rw [h1] at h
    have h : pa2 p (frF tbE (·.1) 3 p.tabs 0 s1) = none := h
    rcases h2 : frF tbE (·.1) 3 p.tabs 0 s1 with ⟨s2, _ | f2⟩
    rotate_left
    · rw [h2] at h; cases h
    rw [h2] at h
    have h : pa3 p (frF gpE (·.1) 4 p.grps 0 s2) = none := h
    rcases h3 : frF gpE (·.1) 4 p.grps 0 s2 with ⟨s3, _ | f3⟩
    rotate_left
    · rw [h3] at h; cases h
    rw [h3] at h
    have h : pa4 p (lsF p p.lns 0 s3) = none := h
    rcases h4 : lsF p p.lns 0 s3 with ⟨s4, _ | f4⟩
    rotate_left
    · rw [h4] at h; cases h
    exact ls_six p p.lns 0 s3 (by rw [h4])
theorem ch_is (p : Pk) : chF p = orF (szF p) (orF (paF p) (exF p)) := by
  unfold chF exF
  cases szF p with
  | some f => rfl
  | none => cases paF p with
    | some f => rfl
    | none => cases leF p p.lns 0 <;> rfl
set_option maxRecDepth 20000 in
set_option maxHeartbeats 2000000 in
theorem rcheck_any (p : Pk) (a3 a4 a5 a6 a7 : Option Addr) (c3 c4 c5 c6 c7 : Nat) (W : World) (hO : RowR eOq W AnyB p.opts a3) (hT : RowR eT W AnyB p.tabs a4) (hG : RowR eG W AnyB p.grps a5) (hL : RowR eL W AnyB p.lns a6) (hK : RowR eK W AnyB p.cks a7) : Calls Tryz.prog 6 #[.agg #[.string ⟨p.name.toArray⟩, .int .i64 p.year, .slice a3 p.opts.length c3, .slice a4 p.tabs.length c4, .slice a5 p.grps.length c5, .slice a6 p.lns.length c6, .slice a7 p.cks.length c7]] W (FaP W (chF p)) := by
  obtain ⟨X, hXe, hb0, hXs, hBxH⟩ := box2 W #[.string ⟨p.name.toArray⟩, .int .i64 p.year, .slice a3 p.opts.length c3, .slice a4 p.tabs.length c4, .slice a5 p.grps.length c5, .slice a6 p.lns.length c6, .slice a7 p.cks.length c7] #[.int .i64 0, .int .i64 0, .int .i64 0, .slice none 0 0] 28 33
  have hX1 : W.heap.size + 1 < X.heap.size := by omega
  clear hXs
  have hLX := row_bel hL hb0 (Nat.le_refl _)
  have hOX := row_bel hO hb0 (Nat.le_refl _)
  have hTX := row_bel hT hb0 (Nat.le_refl _)
  have hGX := row_bel hG hb0 (Nat.le_refl _)
  have hKX := row_bel hK hb0 (Nat.le_refl _)
  have hPH : Hid (∀ w, Below X.heap.size X w → w.cell? ⟨W.heap.size, 0, none⟩ = some (.string ⟨p.name.toArray⟩) ∧ w.cell? ⟨W.heap.size, 1, none⟩ = some (.int .i64 p.year) ∧ w.cell? ⟨W.heap.size, 2, none⟩ = some (.slice a3 p.opts.length c3) ∧ w.cell? ⟨W.heap.size, 3, none⟩ = some (.slice a4 p.tabs.length c4) ∧ w.cell? ⟨W.heap.size, 4, none⟩ = some (.slice a5 p.grps.length c5) ∧ w.cell? ⟨W.heap.size, 5, none⟩ = some (.slice a6 p.lns.length c6) ∧ w.cell? ⟨W.heap.size, 6, none⟩ = some (.slice a7 p.cks.length c7)) := ⟨fun w hw => by
    have h := (hBxH.out w hw).1
    exact ⟨h.2.1 0 (by simp), h.2.1 1 (by simp), h.2.1 2 (by simp), h.2.1 3 (by simp), h.2.1 4 (by simp), h.2.1 5 (by simp), h.2.1 6 (by simp)⟩⟩
  obtain ⟨x0, x1, x2, x3, x4, x5, x6⟩ := hPH.out X (Below.refl _ _)
  rw [ch_is]
  have hsz := sizes_any p a3 a4 a5 a6 a7 c3 c4 c5 c6 c7 X
  obtain ⟨N, hN⟩ : ∃ N, szN p = N := ⟨_, rfl⟩
  rw [hN] at hsz
  rw [sz_is, hN]
  by_cases h0 : 0 < N
  · have h0' : (0 : Int) < (N : Int) := by omega
    have hpa : Hid (∀ w, Below X.heap.size X w → True) := ⟨fun _ _ => trivial⟩
    rw [if_pos h0]
    clear hN h0 hL hO hT hG hK hLX hOX hTX hGX hKX
    go_enter Tryz.func6, Tryz.ntmps6
    go_wp2_with (first | (go_at_call 14; refine hsz.mono ?_; rintro e w1 ⟨rfl, hb1⟩; obtain ⟨y0, y1, y2, y3, y4, y5, y6⟩ := hPH.out w1 hb1; have hpaw := hpa.out w1 hb1) | (go_at_call 15; refine (at_any (N : Int) 0 (-1) _).mono ?_; rintro e w5 ⟨rfl, hb9⟩; have hbJ := belT hb1 hb9; have rkj := (hBxH.out w5 hbJ).2; have fkj0 := frozen_of_row _ _ 0 _ _ rkj; have fkj1 := frozen_of_row _ _ 1 _ _ rkj; have fkj2 := frozen_of_row _ _ 2 _ _ rkj; have fkj3 := frozen_of_row _ _ 3 _ _ rkj; have ckj0 : w5.cell? ⟨W.heap.size + 1, 0, none⟩ = some (.int .i64 0) := cell_of_row _ _ 0 _ _ _ rkj; have ckj1 : w5.cell? ⟨W.heap.size + 1, 1, none⟩ = some (.int .i64 0) := cell_of_row _ _ 1 _ _ _ rkj; have ckj2 : w5.cell? ⟨W.heap.size + 1, 2, none⟩ = some (.int .i64 0) := cell_of_row _ _ 2 _ _ _ rkj; have ckj3 : w5.cell? ⟨W.heap.size + 1, 3, none⟩ = some (.slice none 0 0) := cell_of_row _ _ 3 _ _ _ rkj))
    refine bodyPost_ret (v := .tuple #[.agg #[.int .i64 (N : Int), .int .i64 0, .int .i64 (-1), .slice none 0 0], .int .i64 60]) (results_cellK Tryz.results6 _ _ (W.heap.size + 1) 33 _ (0, 0) _ rfl (row_four rkj _ _ _ _) Tryz.underlying33 rfl info_sp) rfl ?_
    exact fa_err (f := (itF N 0, 60)) (base := W.heap.size + 2) (belT hb0 hbJ) (by omega) (pt_nil _ _) (by omega)
  have h0' : ¬ (0 : Int) < (N : Int) := by omega
  rw [if_neg h0]
  have hbd : p.opts.length ≤ 4 ∧ p.tabs.length ≤ 4 ∧ p.grps.length ≤ 4 ∧ p.lns.length ≤ 48 ∧ p.cks.length ≤ 16 := by
    have hN0 : szN p = 0 := by omega
    unfold szN at hN0
    by_cases c1 : 4 < p.opts.length
    · rw [if_pos c1] at hN0; cases hN0
    rw [if_neg c1] at hN0
    by_cases c2 : 4 < p.tabs.length
    · rw [if_pos c2] at hN0; cases hN0
    rw [if_neg c2] at hN0
    by_cases c3 : 4 < p.grps.length
    · rw [if_pos c3] at hN0; cases hN0
    rw [if_neg c3] at hN0
    by_cases c4 : p.lns.length < 1 ∨ 48 < p.lns.length
    · rw [if_pos c4] at hN0; cases hN0
    rw [if_neg c4] at hN0
    by_cases c5 : 16 < p.cks.length
    · rw [if_pos c5] at hN0; cases hN0
    omega
  obtain ⟨b1, b2, b3, b4, b5⟩ := hbd
  obtain ⟨O, hOe⟩ : ∃ O, paF p = O := ⟨_, rfl⟩
  have hpa : Hid (∀ w, Below X.heap.size X w → Calls Tryz.prog 16 #[.agg #[.string ⟨p.name.toArray⟩, .int .i64 p.year, .slice a3 p.opts.length c3, .slice a4 p.tabs.length c4, .slice a5 p.grps.length c5, .slice a6 p.lns.length c6, .slice a7 p.cks.length c7]] w (FaP w O)) := ⟨fun w hw => hOe ▸ parts_any p a3 a4 a5 a6 a7 c3 c4 c5 c6 c7 w (row_bel hOX hw (Nat.le_refl _)) (row_bel hTX hw (Nat.le_refl _)) (row_bel hGX hw (Nat.le_refl _)) (row_bel hLX hw (Nat.le_refl _)) (row_bel hKX hw (Nat.le_refl _)) b1 b2 b3 b4 b5⟩
  cases O with
  | some f =>
    have hp := pa_pos hOe
    have hp' : ((f.2 : Int) != 0) = true := by simp; omega
    rw [hOe]
    obtain ⟨QQ, hQQ⟩ : ∃ QQ, FaP W (orF none (orF (some f) (exF p))) = QQ := ⟨_, rfl⟩
    rw [hQQ]
    have hQH : Hid (QQ = FaP W (some f)) := ⟨hQQ.symm⟩
    clear hQQ hN h0 hL hO hT hG hK hLX hOX hTX hGX hKX hOe hp b1 b2 b3 b4 b5
    go_enter Tryz.func6, Tryz.ntmps6
    go_wp2_with (first | (go_at_call 14; refine hsz.mono ?_; rintro e w1 ⟨rfl, hb1⟩; obtain ⟨y0, y1, y2, y3, y4, y5, y6⟩ := hPH.out w1 hb1; have hpaw := hpa.out w1 hb1) | (go_at_call 16; fail))
    refine hpaw.mono ?_
    rintro e w2 ⟨hb2, pv, rfl, hpt⟩
    obtain ⟨av, nv, cv, rfl⟩ := hpt.sl
    have hbJ0 := belT hb1 hb2
    have hB3 : Below w2.heap.size w2 (w2.alloc (.cells #[.int .i64 f.1.part, .int .i64 f.1.at_, .int .i64 f.1.clause, .slice av nv cv] 33)) := (Below.refl _ _).alloc (Nat.le_refl _) _
    have hbJ := belT hbJ0 hB3
    have gs := bx_new w2 #[.int .i64 f.1.part, .int .i64 f.1.at_, .int .i64 f.1.clause, .slice av nv cv] 33
    have hpt3 := hpt.bel hB3 (Nat.le_refl _)
    have hbase : W.heap.size + 1 < w1.heap.size := Nat.lt_of_lt_of_le hX1 hb1.size
    obtain ⟨w3, hw3⟩ : ∃ w3, w2.alloc (.cells #[.int .i64 f.1.part, .int .i64 f.1.at_, .int .i64 f.1.clause, .slice av nv cv] 33) = w3 := ⟨_, rfl⟩
    have hw3H := Hid.mk hw3
    rw [hw3] at hB3 hbJ gs hpt3
    have s0 : w3.cell? ⟨w2.heap.size, 0, none⟩ = some (.int .i64 f.1.part) := gs.2.1 0 (by simp)
    have s1 : w3.cell? ⟨w2.heap.size, 1, none⟩ = some (.int .i64 f.1.at_) := gs.2.1 1 (by simp)
    have s2 : w3.cell? ⟨w2.heap.size, 2, none⟩ = some (.int .i64 f.1.clause) := gs.2.1 2 (by simp)
    have s3 : w3.cell? ⟨w2.heap.size, 3, none⟩ = some (.slice av nv cv) := gs.2.1 3 (by simp)
    have rkj := (hBxH.out w3 hbJ).2
    have fkj0 := frozen_of_row _ _ 0 _ _ rkj
    have fkj1 := frozen_of_row _ _ 1 _ _ rkj
    have fkj2 := frozen_of_row _ _ 2 _ _ rkj
    have fkj3 := frozen_of_row _ _ 3 _ _ rkj
    have ckj0 : w3.cell? ⟨W.heap.size + 1, 0, none⟩ = some (.int .i64 0) := cell_of_row _ _ 0 _ _ _ rkj
    have ckj1 : w3.cell? ⟨W.heap.size + 1, 1, none⟩ = some (.int .i64 0) := cell_of_row _ _ 1 _ _ _ rkj
    have ckj2 : w3.cell? ⟨W.heap.size + 1, 2, none⟩ = some (.int .i64 0) := cell_of_row _ _ 2 _ _ _ rkj
    have ckj3 : w3.cell? ⟨W.heap.size + 1, 3, none⟩ = some (.slice none 0 0) := cell_of_row _ _ 3 _ _ _ rkj
    clear gs hw3 hpaw hpa hsz
    go_upto_region 5 with fail
    rw [hw3H.out]
    go_wp2
    refine bodyPost_ret (v := .tuple #[.agg #[.int .i64 f.1.part, .int .i64 f.1.at_, .int .i64 f.1.clause, .slice av nv cv], .int .i64 (f.2 : Int)]) (results_cellK Tryz.results6 _ _ (W.heap.size + 1) 33 _ (0, 0) _ rfl (row_four rkj _ _ _ _) Tryz.underlying33 rfl info_sp) rfl ?_
    rw [hQH.out]
    exact fa_err (f := f) (belT hb0 hbJ) (by omega) hpt3 hbase
  | none =>
    have h6 := pa_six hOe
    rw [hOe]
    obtain ⟨R, hR⟩ : ∃ R, exF p = R := ⟨_, rfl⟩
    obtain ⟨QQ, hQQ⟩ : ∃ QQ, FaP W (orF none (orF none (exF p))) = QQ := ⟨_, rfl⟩
    rw [hQQ]
    have hQH : Hid (QQ = FaP W R) := ⟨by rw [← hR]; exact hQQ.symm⟩
    have hex : Hid (∀ w, Below X.heap.size X w → Calls Tryz.prog 17 #[.agg #[.string ⟨p.name.toArray⟩, .int .i64 p.year, .slice a3 p.opts.length c3, .slice a4 p.tabs.length c4, .slice a5 p.grps.length c5, .slice a6 p.lns.length c6, .slice a7 p.cks.length c7]] w (FaP w R)) := ⟨fun w hw => hR ▸ exprs_any p a3 a4 a5 a6 a7 c3 c4 c5 c6 c7 w (row_bel hLX hw (Nat.le_refl _)) (oq_o (row_bel hOX hw (Nat.le_refl _))) (row_bel hKX hw (Nat.le_refl _)) b4 b5 h6⟩
    clear hQQ hN h0 hL hO hT hG hK hLX hOX hTX hGX hKX hOe b1 b2 b3 b4 b5 h6 hR
    go_enter Tryz.func6, Tryz.ntmps6
    go_wp2_with (first | (go_at_call 14; refine hsz.mono ?_; rintro e w1 ⟨rfl, hb1⟩; obtain ⟨y0, y1, y2, y3, y4, y5, y6⟩ := hPH.out w1 hb1; have hpaw := hpa.out w1 hb1) | (go_at_call 16; fail))
    refine hpaw.mono ?_
    rintro e w2 ⟨hb2, rfl⟩
    have hbJ0 := belT hb1 hb2
    have hB3 : Below w2.heap.size w2 (w2.alloc (.cells #[.int .i64 0, .int .i64 0, .int .i64 0, .slice none 0 0] 33)) := (Below.refl _ _).alloc (Nat.le_refl _) _
    have hbJ3 := belT hbJ0 hB3
    obtain ⟨w3, hw3⟩ : ∃ w3, w2.alloc (.cells #[.int .i64 0, .int .i64 0, .int .i64 0, .slice none 0 0] 33) = w3 := ⟨_, rfl⟩
    have hw3H := Hid.mk hw3
    rw [hw3] at hB3 hbJ3
    obtain ⟨z0, z1, z2, z3, z4, z5, z6⟩ := hPH.out w3 hbJ3
    have hexw := hex.out w3 hbJ3
    have hbase : W.heap.size + 1 < w3.heap.size := Nat.lt_of_lt_of_le hX1 hbJ3.size
    clear hw3 hpaw hpa hsz hex
    go_upto_region 5 with fail
    rw [hw3H.out]
    cases R with
    | none =>
      go_wp2_with (go_at_call 17; refine hexw.mono ?_; rintro e w4 ⟨hb4, rfl⟩; have hbJ := belT hbJ3 hb4; have rkj := (hBxH.out w4 hbJ).2; have fkj0 := frozen_of_row _ _ 0 _ _ rkj; have fkj1 := frozen_of_row _ _ 1 _ _ rkj; have fkj2 := frozen_of_row _ _ 2 _ _ rkj; have fkj3 := frozen_of_row _ _ 3 _ _ rkj; have ckj0 : w4.cell? ⟨W.heap.size + 1, 0, none⟩ = some (.int .i64 0) := cell_of_row _ _ 0 _ _ _ rkj; have ckj1 : w4.cell? ⟨W.heap.size + 1, 1, none⟩ = some (.int .i64 0) := cell_of_row _ _ 1 _ _ _ rkj; have ckj2 : w4.cell? ⟨W.heap.size + 1, 2, none⟩ = some (.int .i64 0) := cell_of_row _ _ 2 _ _ _ rkj; have ckj3 : w4.cell? ⟨W.heap.size + 1, 3, none⟩ = some (.slice none 0 0) := cell_of_row _ _ 3 _ _ _ rkj)
      refine bodyPost_ret (v := .tuple #[.agg #[.int .i64 0, .int .i64 0, .int .i64 0, .slice none 0 0], .int .i64 0]) (results_cellK Tryz.results6 _ _ (W.heap.size + 1) 33 _ (0, 0) _ rfl (row_four rkj _ _ _ _) Tryz.underlying33 rfl info_sp) rfl ?_
      rw [hQH.out]
      exact fa_ok (belT hb0 hbJ) (by omega)
    | some f =>
      go_wp2_with (go_at_call 17; refine hexw.mono ?_; rintro e w4 ⟨hb4, pv, rfl, hpt⟩; obtain ⟨av, nv, cv, rfl⟩ := hpt.sl; have hbJ := belT hbJ3 hb4; have rkj := (hBxH.out w4 hbJ).2; have fkj0 := frozen_of_row _ _ 0 _ _ rkj; have fkj1 := frozen_of_row _ _ 1 _ _ rkj; have fkj2 := frozen_of_row _ _ 2 _ _ rkj; have fkj3 := frozen_of_row _ _ 3 _ _ rkj; have ckj0 : w4.cell? ⟨W.heap.size + 1, 0, none⟩ = some (.int .i64 0) := cell_of_row _ _ 0 _ _ _ rkj; have ckj1 : w4.cell? ⟨W.heap.size + 1, 1, none⟩ = some (.int .i64 0) := cell_of_row _ _ 1 _ _ _ rkj; have ckj2 : w4.cell? ⟨W.heap.size + 1, 2, none⟩ = some (.int .i64 0) := cell_of_row _ _ 2 _ _ _ rkj; have ckj3 : w4.cell? ⟨W.heap.size + 1, 3, none⟩ = some (.slice none 0 0) := cell_of_row _ _ 3 _ _ _ rkj)
      refine bodyPost_ret (v := .tuple #[.agg #[.int .i64 f.1.part, .int .i64 f.1.at_, .int .i64 f.1.clause, .slice av nv cv], .int .i64 (f.2 : Int)]) (results_cellK Tryz.results6 _ _ (W.heap.size + 1) 33 _ (0, 0) _ rfl (row_four rkj _ _ _ _) Tryz.underlying33 rfl info_sp) rfl ?_
      rw [hQH.out]
      exact fa_err (f := f) (belT hb0 hbJ) (by omega) hpt hbase
end Go.Proofs.YtmklkcefbabhbaaGreat.R6


namespace Go.Proofs.YtmklkcefbabhbaaGreat
open Go.RowKit

/-- A number, whatever it is. -/
def NmP (W : World) (e : Ending) (W' : World) : Prop := Below W.heap.size W W' ∧ ∃ n : Int, e = .returned (.int .i64 n)
set_option maxRecDepth 8000 in
set_option maxHeartbeats 1000000 in
theorem nodes_any : ∀ (k : Nat) (x : Ex) (a : Option Addr) (c : Nat) (most : Int) (W : World), deepE x ≤ k → SzE x → FoAt W AnyB x.args a → Calls Tryz.prog 13 #[.agg #[.int .i64 x.op, .int .i64 x.num, .int .i64 x.den, .int .i64 x.mode, .slice a x.args.len c], .int .i64 most] W (NmP W)
  | 0, x, a, c, most, W, hd, hz, hF => by unfold deepE at hd; omega
  | k + 1, x, a, c, most, W, hd, hz, hF => by
    have ih := nodes_any k
    have hB : Below W.heap.size W (W.alloc (.cells #[.int .i64 x.op, .int .i64 x.num, .int .i64 x.den, .int .i64 x.mode, .slice a x.args.len c] 59)) := (Below.refl _ _).alloc (Nat.le_refl _) _
    have hsz : (W.alloc (.cells #[.int .i64 x.op, .int .i64 x.num, .int .i64 x.den, .int .i64 x.mode, .slice a x.args.len c] 59)).heap.size = W.heap.size + 1 := by simp
    have hx1 := (bx_new W #[.int .i64 x.op, .int .i64 x.num, .int .i64 x.den, .int .i64 x.mode, .slice a x.args.len c] 59).2.1 4 (by simp)
    have hF2 := row_bel (row_of_fo hF) hB (Nat.le_refl _)
    have hxl := hz.1
    have hdx : ∀ z ∈ toL x.args, deepE z ≤ k ∧ SzE z := fun z hz2 => by
      have := deepF_toL _ _ hz2
      refine ⟨?_, toL_sz _ hz.2 z hz2⟩
      unfold deepE at hd ⊢
      unfold deepE at this
      omega
    obtain ⟨Q, hQ⟩ : ∃ Q, NmP W = Q := ⟨_, rfl⟩
    rw [hQ]
    have hQ := Hid.mk hQ
    clear hF
    go_enter Tryz.func13, Tryz.ntmps13
    go_wp2
    go_loopw [5, 6] (fun nv iv wr => ∃ (i : Nat) (n : Int), nv = .int .i64 n ∧ iv = .int .i64 (i : Int) ∧ i ≤ x.args.len ∧ Below (W.alloc (.cells #[.int .i64 x.op, .int .i64 x.num, .int .i64 x.den, .int .i64 x.mode, .slice a x.args.len c] 59)).heap.size (W.alloc (.cells #[.int .i64 x.op, .int .i64 x.num, .int .i64 x.den, .int .i64 x.mode, .slice a x.args.len c] 59)) wr) (fun _ iv _ => x.args.len - (intOf iv).toNat)
    case atStart => exact ⟨0, 1, rfl, rfl, Nat.zero_le _, Below.refl _ _⟩
    case round =>
      obtain ⟨i, n, rfl, rfl, hi, hBr⟩ := hrel
      have q1 := (bel_cell hBr (show W.heap.size < (W.alloc (.cells #[.int .i64 x.op, .int .i64 x.num, .int .i64 x.den, .int .i64 x.mode, .slice a x.args.len c] 59)).heap.size by rw [hsz]; omega) 4).trans hx1
      have hfin : Q (.returned (.int .i64 n)) wr := by
        rw [← hQ.out]
        exact ⟨Below.tr hB hBr (by rw [hsz]; omega), n, rfl⟩
      by_cases hlt : i < x.args.len
      · have hlt' : (i : Int) < (x.args.len : Int) := by omega
        have hi0 : (0 : Int) ≤ (i : Int) := by omega
        by_cases hnm : n ≤ most
        · have hix : i < (toL x.args).length := by rw [toL_len]; exact hlt
          obtain ⟨g, o, hga⟩ := hF2.some hix
          have hFr := row_bel hF2 hBr (Nat.le_refl _)
          rw [hga] at hFr q1
          clear hga hfin
          obtain ⟨cx, -, -, ⟨a8, c8, rfl, -, hFx⟩, hcx⟩ := hFr.item hix
          have hdi := hdx _ (List.getElem_mem hix)
          generalize (toL x.args)[i] = xi at hcx hFx hdi
          have kx0 : wr.cell? ⟨g, o + i * 5, none⟩ = some (.int .i64 xi.op) := hcx 0 (by decide)
          have kx1 : wr.cell? ⟨g, o + i * 5 + 1, none⟩ = some (.int .i64 xi.num) := hcx 1 (by decide)
          have kx2 : wr.cell? ⟨g, o + i * 5 + 2, none⟩ = some (.int .i64 xi.den) := hcx 2 (by decide)
          have kx3 : wr.cell? ⟨g, o + i * 5 + 3, none⟩ = some (.int .i64 xi.mode) := hcx 3 (by decide)
          have kx4 : wr.cell? ⟨g, o + i * 5 + 4, none⟩ = some (.slice a8 xi.args.len c8) := hcx 4 (by decide)
          have hcall := fun m => ih xi a8 c8 m wr hdi.1 hdi.2 hFx
          clear hcx hFr hF2 hx1 hFx
          go_wp2_with (go_at_call 13; go_loud (refine (hcall _).mono ?_; clear hcall; rintro e w5 ⟨hB5, n5, rfl⟩; have hB6 := Below.tr hBr hB5 hBr.size))
          go_roundw
          case rel => exact ⟨i + 1, _, rfl, by go_num, by omega, hB6⟩
          case measure => simp [intOf]; omega
        · go_wp2
          exact hfin
      · have hlt' : ¬ (i : Int) < (x.args.len : Int) := by omega
        go_wp2
        exact hfin
end Go.Proofs.YtmklkcefbabhbaaGreat


namespace Go.Proofs.YtmklkcefbabhbaaGreat
open Go.RowKit

theorem pke_any {W : World} {p : Pk} {cs : List Value} (h : PkE W AnyB p cs) : PkE W (fun b => b < W.heap.size) p cs := pke_mo h (fun _ hb _ => hb)
theorem pke_bel {W W' : World} {n : Nat} {p : Pk} {cs : List Value} (h : PkE W AnyB p cs) (hB : Below n W W') (hn : W.heap.size ≤ n) : PkE W' AnyB p cs := pke_fr h hB.size (fun b _ hlt => hB.block b (Nat.lt_of_lt_of_le hlt hn))
end Go.Proofs.YtmklkcefbabhbaaGreat


namespace Go.Proofs.YtmklkcefbabhbaaGreat
open Go.RowKit

/-- What has bytes. -/
def Has (p : Pk) : Prop := ((encP p ++ sum4 (fnvB (encP p))).length ≤ 131072 ∧ okP p)
theorem put_has (p : Pk) (cs : List Value) (hsz : SzP p) (W : World) (hE : PkE W AnyB p cs) : Calls Tryz.prog 7 #[.agg cs.toArray] W fun e W' => Below W.heap.size W W' ∧ ((e = .returned (.tuple #[.slice none 0 0, .int .i64 72]) ∧ Hid (¬ Has p)) ∨ ∃ a cap l, e = .returned (.tuple #[.slice a (List.length l) cap, .int .i64 0]) ∧ InB W' a cap l ∧ Hid (l = encP p ++ sum4 (fnvB (encP p)) ∧ Has p)) := by
  refine (put_any p cs hsz W (pke_any hE)).mono ?_
  rintro e W' ⟨hB, acc, b, hr, h⟩
  refine ⟨hB, ?_⟩
  rcases h with ⟨hb, rfl⟩ | ⟨hb, pa, cap, rfl, ho, hl⟩
  · refine .inl ⟨rfl, ⟨fun hh => ?_⟩⟩
    have := hr.2 rfl (by simpa using hh.1) hh.2
    rw [hb] at this
    cases this
  · obtain ⟨-, hacc, hok⟩ := hr.1 hb
    rw [List.nil_append] at hacc
    exact .inr ⟨pa, cap, acc, rfl, InB.of_own ho, ⟨hacc, by rw [← hacc]; exact hl, hok⟩⟩
end Go.Proofs.YtmklkcefbabhbaaGreat

import Derived.Test.YtoippgmecnlhcaaGreatDoorJoin43
import Derived.Test.YtoippgmecnlhcaaGreatDoorJoin41
import Derived.Test.YtoippgmecnlhcaaGreatDoorJoin40
import Derived.Test.YtoippgmecnlhcaaGreatDoorJoin39
namespace Go.Proofs.YtoippgmecnlhcaaGreatDoor.Q
open Go.RowKit Go.Shelf
open Go.Lib (decDigits)

/-- A token in a block of its own. -/
def BoxT (w : World) (b : Nat) (K A N D : Int) (T : ByteArray) : Prop := w.cell? ⟨b, 0, none⟩ = some (.int .i64 K) ∧ w.cell? ⟨b, 1, none⟩ = some (.int .i64 A) ∧ w.cell? ⟨b, 2, none⟩ = some (.string T) ∧ w.cell? ⟨b, 3, none⟩ = some (.int .i64 N) ∧ w.cell? ⟨b, 4, none⟩ = some (.int .i64 D) ∧ ∀ j, w.frozen? ⟨b, j, none⟩ = false
theorem BoxT.later {w w' : World} {b : Nat} {K A N D : Int} {T : ByteArray} (h : BoxT w b K A N D T) (hb : Below w.heap.size w w') : BoxT w' b K A N D T := by
  obtain ⟨h0, h1, h2, h3, h4, hf⟩ := h
  have hlt : b < w.heap.size := World.block_lt_of_cell? _ _ h0
  exact ⟨(hb.cell (p := ⟨b, 0, none⟩) hlt).trans h0, (hb.cell (p := ⟨b, 1, none⟩) hlt).trans h1, (hb.cell (p := ⟨b, 2, none⟩) hlt).trans h2, (hb.cell (p := ⟨b, 3, none⟩) hlt).trans h3, (hb.cell (p := ⟨b, 4, none⟩) hlt).trans h4, fun j => (hb.frozen (p := ⟨b, j, none⟩) hlt).trans (hf j)⟩
theorem boxt_new (W : World) (K A N D : Int) (T : ByteArray) (t : TypeId) : BoxT (W.alloc (.cells #[.int .i64 K, .int .i64 A, .string T, .int .i64 N, .int .i64 D] t)) W.heap.size K A N D T :=
  ⟨by simp, by simp, by simp, by simp, by simp, fun j => World.frozen?_alloc_new _ _ _ _⟩
theorem boxt_set {w : World} {b : Nat} {K A N D : Int} {T : ByteArray} (h : BoxT w b K A N D T) : (w.setCell ⟨b, 1, none⟩ (.int .i64 0)).cell? ⟨b, 0, none⟩ = some (.int .i64 K) ∧ (w.setCell ⟨b, 1, none⟩ (.int .i64 0)).cell? ⟨b, 1, none⟩ = some (.int .i64 0) ∧ (w.setCell ⟨b, 1, none⟩ (.int .i64 0)).cell? ⟨b, 2, none⟩ = some (.string T) ∧ (w.setCell ⟨b, 1, none⟩ (.int .i64 0)).cell? ⟨b, 3, none⟩ = some (.int .i64 N) ∧ (w.setCell ⟨b, 1, none⟩ (.int .i64 0)).cell? ⟨b, 4, none⟩ = some (.int .i64 D) := by
  obtain ⟨h0, h1, h2, h3, h4, hf⟩ := h
  have o : ∀ (i : Nat), i ≠ 1 → (w.setCell ⟨b, 1, none⟩ (.int .i64 0)).cell? ⟨b, i, none⟩ = w.cell? ⟨b, i, none⟩ := fun i hij => World.cell?_setCell_other _ _ _ _ (fun e => hij (by cases e; rfl))
  exact ⟨(o 0 (by decide)).trans h0, World.cell?_setCell_same _ _ _ h1, (o 2 (by decide)).trans h2, (o 3 (by decide)).trans h3, (o 4 (by decide)).trans h4⟩
theorem set_far (w : World) {g b : Nat} (h : g ≠ b) (i : Nat) (v : Value) : (w.setCell ⟨b, 1, none⟩ v).cell? ⟨g, i, none⟩ = w.cell? ⟨g, i, none⟩ := World.cell?_setCell_other _ _ _ _ (fun e => h (by cases e; rfl))

/-- What the document's Scan says of a token's own text. -/
theorem rscan_say (t : Tk) (V : World) (hS : RSgn V) : Calls Tryz.prog 48 #[.string ⟨(sayK t).toArray⟩] V fun e V' => Below V.heap.size V V' ∧
    (((okW t).isSome = false ∧ ∃ (q n : Nat), n ≠ 0 ∧ e = .returned (.tuple #[.slice none 0 0, .int .i64 (q : Int), .int .i64 (n : Int)])) ∨
     ((okW t).isSome = false ∧ ∃ (p : Option Addr) (m c : Nat), m ≠ 2 ∧ e = .returned (.tuple #[.slice p m c, .int .i64 0, .int .i64 0])) ∨
     ∃ (g c : Nat) (k0 a0 n0 d0 : Int) (t0 : ByteArray), e = .returned (.tuple #[.slice (some ⟨g, 0, none⟩) 2 c, .int .i64 0, .int .i64 0]) ∧ V.heap.size ≤ g ∧ g < V'.heap.size ∧ V'.cell? ⟨g, 0, none⟩ = some (.int .i64 k0) ∧ V'.cell? ⟨g, 1, none⟩ = some (.int .i64 a0) ∧ V'.cell? ⟨g, 2, none⟩ = some (.string t0) ∧ V'.cell? ⟨g, 3, none⟩ = some (.int .i64 n0) ∧ V'.cell? ⟨g, 4, none⟩ = some (.int .i64 d0) ∧
       (okW t).isSome = decide (k0 = t.1 ∧ a0 = 0 ∧ t0 = ⟨t.2.2.1.toArray⟩ ∧ n0 = t.2.2.2.1 ∧ d0 = t.2.2.2.2)) := by
  obtain ⟨L, hL⟩ : ∃ L, foundL (ByteArray.mk (sayK t).toArray).data.toList = L := ⟨_, rfl⟩
  have hL' : foundL (sayK t) = L := hL
  have hyes : ∀ w, okW t = some w → ∃ k, L = [(w, 0, 0), ((8, [], 0, 0), k, 0)] := fun w h => by
    obtain ⟨k, hk⟩ := okW_found h
    exact ⟨k, by rw [← hL', hk]⟩
  have hno : (¬ ∃ w k, L = [(w, 0, 0), ((8, [], 0, 0), k, 0)]) → (okW t).isSome = false := fun h => by
    cases ho : okW t with
    | none => rfl
    | some w =>
      obtain ⟨k, hk⟩ := hyes w ho
      exact absurd ⟨w, k, hk⟩ h
  refine (rscan_any ⟨(sayK t).toArray⟩ V hS).mono ?_
  rintro e w' ⟨hb, ⟨pre, x, hLx, hx, rfl⟩ | ⟨hall, v, rfl, ho⟩⟩
  · rw [hL] at hLx
    refine ⟨hb, .inl ⟨hno ?_, x.2.1, x.2.2, hx, rfl⟩⟩
    rintro ⟨w, k, hw⟩
    have hm : x ∈ L := by rw [hLx]; simp
    rw [hw] at hm
    simp only [List.mem_cons, List.not_mem_nil, or_false] at hm
    rcases hm with rfl | rfl <;> exact absurd rfl hx
  · rw [hL] at hall ho
    refine ⟨hb, .inr ?_⟩
    by_cases h2 : L.length = 2
    · match L, h2 with
      | [x, y], _ =>
        obtain ⟨g, cap, rfl⟩ := own_lit ho (by simp)
        have hg := ho.lt g rfl
        have hc := fun j hj => ho.cellAt j hj
        refine .inr ⟨g, cap, (x.1.1 : Int), (x.2.1 : Int), (x.1.2.2.1 : Int), (x.1.2.2.2 : Int), ⟨x.1.2.1.toArray⟩, rfl, hg.1, hg.2, hc 0 (by simp), hc 1 (by simp), hc 2 (by simp), hc 3 (by simp), hc 4 (by simp), ?_⟩
        by_cases hq : (x.1.1 : Int) = t.1 ∧ (x.2.1 : Int) = 0 ∧ (ByteArray.mk x.1.2.1.toArray) = ⟨t.2.2.1.toArray⟩ ∧ (x.1.2.2.1 : Int) = t.2.2.2.1 ∧ (x.1.2.2.2 : Int) = t.2.2.2.2
        · rw [decide_eq_true hq]
          obtain ⟨q1, q2, q3, q4, q5⟩ := hq
          have q3' : x.1.2.1 = t.2.2.1 := by
            have := congrArg (fun b : ByteArray => b.data.toList) q3
            simpa using this
          rw [found_ok hL' (hall x (by simp)) (by omega) (by unfold ofT ofW; rw [q1, q3', q4, q5])]
          rfl
        · rw [decide_eq_false hq]
          cases hk : okW t with
          | none => rfl
          | some w =>
            exfalso
            obtain ⟨k, hk2⟩ := hyes w hk
            simp only [List.cons.injEq] at hk2
            obtain ⟨rfl, -⟩ := hk2
            have h3 := (okW_some hk).2.2
            simp only [ofT, ofW, Prod.mk.injEq] at h3
            exact hq ⟨h3.1.symm, rfl, by rw [h3.2], by rw [h3.2], by rw [h3.2]⟩
    · obtain ⟨p, m, c, rfl⟩ := own_slice ho
      have hm : m = L.length := by
        obtain ⟨_, ⟨e, h0⟩ | ⟨g, cap, cur, e, _⟩⟩ := ho
        · injection e with e1 e2 e3
          omega
        · injection e with e1 e2 e3
      refine .inl ⟨hno ?_, p, m, c, by omega, rfl⟩
      rintro ⟨w, k, hw⟩
      rw [hw] at h2
      exact h2 rfl
def RwP (ok : Bool) (S : List UInt8) (W : World) (e : Ending) (W' : World) : Prop := (∃ s, e = .returned (.tuple #[.string s, .bool ok]) ∧ (ok = true → s = ⟨S.toArray⟩)) ∧ Below W.heap.size W W'
theorem eqlTok_eq (a b n d a' b' n' d' : Int) (t t' : ByteArray) (h : a = a' ∧ b = b' ∧ t = t' ∧ n = n' ∧ d = d') (w : World) : (binOp .eql 60 (.agg #[.int .i64 a, .int .i64 b, .string t, .int .i64 n, .int .i64 d]) (.agg #[.int .i64 a', .int .i64 b', .string t', .int .i64 n', .int .i64 d'])).run Tryz.prog w = .ok (.bool true) w := by
  obtain ⟨rfl, rfl, rfl, rfl, rfl⟩ := h
  exact eqlTok _ _ _ _ _ w
theorem ok_nil {t : Tk} (h : sayK t = []) : (okW t).isSome = false := by
  cases ho : okW t with
  | none => rfl
  | some w =>
    have := (okW_word ho).2.2
    rw [h] at this
    simp at this
theorem ok_neg {t : Tk} (h : t.2.2.2.1 < 0) : (okW t).isSome = false := by
  cases ho : okW t with
  | none => rfl
  | some w =>
    have h3 := (okW_some ho).2.2
    simp only [ofT, ofW, Prod.mk.injEq] at h3
    have h4 : t.2.2.2.1 = (w.2.2.1 : Int) := by rw [h3.2]
    omega
theorem ok_cnt {t : Tk} (hk : t.1 = 3) (h : 1000000000 < t.2.2.2.1) : (okW t).isSome = false := by
  cases ho : okW t with
  | none => rfl
  | some w =>
    have h0 := okW_some ho
    have h3 := h0.2.2
    have hf := gw_ft h0.1
    simp only [ofT, ofW, Prod.mk.injEq] at h3
    have h4 : t.2.2.2.1 = (w.2.2.1 : Int) := by rw [h3.2]
    have h5 : w.1 = 3 := by omega
    rcases hf with ⟨h, _⟩ | ⟨h, _⟩ | ⟨h, _⟩ | ⟨h, hn⟩ | ⟨h, _⟩ | ⟨h, _⟩ | ⟨h, _⟩ <;> omega

set_option maxRecDepth 8000 in
set_option maxHeartbeats 4000000 in
theorem rwritten_any (t : Tk) (hr : Rng t) (W : World) (hS : RSgn W) : Calls Tryz.prog 16 #[.agg #[.int .i64 t.1, .int .i64 t.2.1, .string ⟨t.2.2.1.toArray⟩, .int .i64 t.2.2.2.1, .int .i64 t.2.2.2.2]] W (RwP (okW t).isSome (sayK t) W) := by
  have hsc := fun V h => rscan_say t V h
  have hnil := ok_nil (t := t)
  have hneg := ok_neg (t := t)
  have hcnt := ok_cnt (t := t)
  have hR := hr
  obtain ⟨S, hS0⟩ : ∃ S, sayK t = S := ⟨_, rfl⟩
  obtain ⟨ok, hok⟩ : ∃ ok, (okW t).isSome = ok := ⟨_, rfl⟩
  rw [hS0, hok] at hsc ⊢
  rw [hS0] at hnil
  rw [hok] at hnil hneg hcnt
  clear hok
  obtain ⟨K, A, T, N, D0⟩ := t
  obtain ⟨hT, hN, hD⟩ := hr
  simp only at hT hN hD hsc hneg hcnt hnil ⊢
  have hb := (Below.refl W.heap.size W).alloc (Nat.le_refl _) (.cells #[.int .i64 K, .int .i64 A, .string ⟨T.toArray⟩, .int .i64 N, .int .i64 D0] 60)
  have hbox := boxt_new W K A N D0 ⟨T.toArray⟩ 60
  have hsz1 : (W.alloc (.cells #[.int .i64 K, .int .i64 A, .string ⟨T.toArray⟩, .int .i64 N, .int .i64 D0] 60)).heap.size = W.heap.size + 1 := by simp
  have hrf := Below.refl (W.alloc (.cells #[.int .i64 K, .int .i64 A, .string ⟨T.toArray⟩, .int .i64 N, .int .i64 D0] 60)).heap.size (W.alloc (.cells #[.int .i64 K, .int .i64 A, .string ⟨T.toArray⟩, .int .i64 N, .int .i64 D0] 60))
  clear hT hR
  by_cases h1 : K = 1
  · subst h1
    obtain rfl : T = S := hS0
    clear hnil hneg hcnt
    go_enter Tryz.func16, Tryz.ntmps16
    go_wp2_with (first | (go_at_call 48; refine (hsc _ (hS.later hb)).mono ?_; rintro e w2 ⟨hb2, hout⟩; have hV2 := below_step hrf hb2; have hB2 := below_step hb hb2; have hbx := hbox.later hV2; obtain ⟨q0, q1, q2, q3, q4⟩ := boxt_set hbx; obtain ⟨c0, c1, c2, c3, c4, hf⟩ := hbx; have f1 := hf 1; have hB3 := hB2.setCell (p := ⟨W.heap.size, 1, none⟩) (Nat.le_refl _) (.int .i64 0); have hVs := hV2.size; have hVs0 := hrf.size; have hsx := hsz1; rcases hout with ⟨hno, q, n, hn, rfl⟩ | ⟨hno, p, m, c, hm, rfl⟩ | ⟨g, c, k0, a0, n0, d0, t0, rfl, hg0, hg1, e0, e1, e2, e3, e4, hdec⟩))
    · subst hno
      have hn' : ((n : Int) == 0) = false := by simp; omega
      clear hsc hbox hS
      go_wp2_with fail
      try (go_quiet (fail); have hB3 := below_drewN hB3 nq; go_wp2)
      exact bodyPost_ret (v := .tuple #[.string ⟨T.toArray⟩, .bool false]) (by simp [results, Tryz.results16, go_sem]) rfl ⟨⟨_, rfl, fun h => by cases h⟩, hB3⟩
    · subst hno
      have hm' : ((m : Int) == 2) = false := by simp; omega
      clear hsc hbox hS
      go_wp2_with fail
      try (go_quiet (fail); have hB3 := below_drewN hB3 nq; go_wp2)
      exact bodyPost_ret (v := .tuple #[.string ⟨T.toArray⟩, .bool false]) (by simp [results, Tryz.results16, go_sem]) rfl ⟨⟨_, rfl, fun h => by cases h⟩, hB3⟩
    · have hgb : g ≠ W.heap.size := by omega
      have r0 := (set_far w2 hgb 0 (.int .i64 0)).trans e0
      have r1 := (set_far w2 hgb 1 (.int .i64 0)).trans e1
      have r2 := (set_far w2 hgb 2 (.int .i64 0)).trans e2
      have r3 := (set_far w2 hgb 3 (.int .i64 0)).trans e3
      have r4 := (set_far w2 hgb 4 (.int .i64 0)).trans e4
      clear hsc hbox hS
      by_cases hq : k0 = 1 ∧ a0 = 0 ∧ t0 = ⟨T.toArray⟩ ∧ n0 = N ∧ d0 = D0
      · obtain rfl : ok = true := by rw [hdec]; exact decide_eq_true hq
        have he := eqlTok_eq k0 a0 n0 d0 1 0 N D0 t0 ⟨T.toArray⟩ hq
        clear hdec hq
        go_wp2_with fail
        try (go_quiet (fail); have hB3 := below_drewN hB3 nq; go_wp2)
        exact bodyPost_ret (v := .tuple #[.string ⟨T.toArray⟩, .bool true]) (by simp [results, Tryz.results16, go_sem]) rfl ⟨⟨_, rfl, fun _ => rfl⟩, hB3⟩
      · obtain rfl : ok = false := by rw [hdec]; exact decide_eq_false hq
        have he := eqlTok_ne k0 a0 n0 d0 1 0 N D0 t0 ⟨T.toArray⟩ (fun ⟨h1, h2, h3, h4, h5⟩ => hq ⟨h1, h2, h3, h4, h5⟩)
        clear hdec hq
        go_wp2_with fail
        try (go_quiet (fail); have hB3 := below_drewN hB3 nq; go_wp2)
        exact bodyPost_ret (v := .tuple #[.string ⟨T.toArray⟩, .bool false]) (by simp [results, Tryz.results16, go_sem]) rfl ⟨⟨_, rfl, fun h => by cases h⟩, hB3⟩
  by_cases h7 : K = 7
  · subst h7
    obtain rfl : T = S := hS0
    clear hnil hneg hcnt
    go_enter Tryz.func16, Tryz.ntmps16
    go_wp2_with (first | (go_at_call 48; refine (hsc _ (hS.later hb)).mono ?_; rintro e w2 ⟨hb2, hout⟩; have hV2 := below_step hrf hb2; have hB2 := below_step hb hb2; have hbx := hbox.later hV2; obtain ⟨q0, q1, q2, q3, q4⟩ := boxt_set hbx; obtain ⟨c0, c1, c2, c3, c4, hf⟩ := hbx; have f1 := hf 1; have hB3 := hB2.setCell (p := ⟨W.heap.size, 1, none⟩) (Nat.le_refl _) (.int .i64 0); have hVs := hV2.size; have hVs0 := hrf.size; have hsx := hsz1; rcases hout with ⟨hno, q, n, hn, rfl⟩ | ⟨hno, p, m, c, hm, rfl⟩ | ⟨g, c, k0, a0, n0, d0, t0, rfl, hg0, hg1, e0, e1, e2, e3, e4, hdec⟩))
    · subst hno
      have hn' : ((n : Int) == 0) = false := by simp; omega
      clear hsc hbox hS
      go_wp2_with fail
      try (go_quiet (fail); have hB3 := below_drewN hB3 nq; go_wp2)
      exact bodyPost_ret (v := .tuple #[.string ⟨T.toArray⟩, .bool false]) (by simp [results, Tryz.results16, go_sem]) rfl ⟨⟨_, rfl, fun h => by cases h⟩, hB3⟩
    · subst hno
      have hm' : ((m : Int) == 2) = false := by simp; omega
      clear hsc hbox hS
      go_wp2_with fail
      try (go_quiet (fail); have hB3 := below_drewN hB3 nq; go_wp2)
      exact bodyPost_ret (v := .tuple #[.string ⟨T.toArray⟩, .bool false]) (by simp [results, Tryz.results16, go_sem]) rfl ⟨⟨_, rfl, fun h => by cases h⟩, hB3⟩
    · have hgb : g ≠ W.heap.size := by omega
      have r0 := (set_far w2 hgb 0 (.int .i64 0)).trans e0
      have r1 := (set_far w2 hgb 1 (.int .i64 0)).trans e1
      have r2 := (set_far w2 hgb 2 (.int .i64 0)).trans e2
      have r3 := (set_far w2 hgb 3 (.int .i64 0)).trans e3
      have r4 := (set_far w2 hgb 4 (.int .i64 0)).trans e4
      clear hsc hbox hS
      by_cases hq : k0 = 7 ∧ a0 = 0 ∧ t0 = ⟨T.toArray⟩ ∧ n0 = N ∧ d0 = D0
      · obtain rfl : ok = true := by rw [hdec]; exact decide_eq_true hq
        have he := eqlTok_eq k0 a0 n0 d0 7 0 N D0 t0 ⟨T.toArray⟩ hq
        clear hdec hq
        go_wp2_with fail
        try (go_quiet (fail); have hB3 := below_drewN hB3 nq; go_wp2)
        exact bodyPost_ret (v := .tuple #[.string ⟨T.toArray⟩, .bool true]) (by simp [results, Tryz.results16, go_sem]) rfl ⟨⟨_, rfl, fun _ => rfl⟩, hB3⟩
      · obtain rfl : ok = false := by rw [hdec]; exact decide_eq_false hq
        have he := eqlTok_ne k0 a0 n0 d0 7 0 N D0 t0 ⟨T.toArray⟩ (fun ⟨h1, h2, h3, h4, h5⟩ => hq ⟨h1, h2, h3, h4, h5⟩)
        clear hdec hq
        go_wp2_with fail
        try (go_quiet (fail); have hB3 := below_drewN hB3 nq; go_wp2)
        exact bodyPost_ret (v := .tuple #[.string ⟨T.toArray⟩, .bool false]) (by simp [results, Tryz.results16, go_sem]) rfl ⟨⟨_, rfl, fun h => by cases h⟩, hB3⟩
  by_cases h2 : K = 2
  · subst h2
    have hc := fun V => X.R.ramount_any N hN.1 hN.2 V
    have e : X.amtL N = S := hS0
    rw [e] at hc
    clear e hS0
    by_cases hneg0 : N < 0
    · have hneg' : decide ((0 : Int) ≤ N) = false := decide_eq_false (by omega)
      obtain rfl : ok = false := hneg hneg0
      clear hnil hneg hcnt hN hD hsc
      go_enter Tryz.func16, Tryz.ntmps16
      go_wp2_with (first | (go_at_call 43; refine (hc _).mono ?_; rintro e w1 ⟨rfl, hb1⟩; have hB1 := below_step hb hb1; obtain ⟨y0, y1, y2, y3, y4, -⟩ := hbox.later hb1))
      exact bodyPost_ret (v := .tuple #[.string ⟨#[]⟩, .bool false]) (by simp [results, Tryz.results16, go_sem]) rfl ⟨⟨_, rfl, fun h => by cases h⟩, hB1⟩
    · have hneg' : (0 : Int) ≤ N := by omega
      clear hnil hneg hcnt hD
      go_enter Tryz.func16, Tryz.ntmps16
      go_wp2_with (first | (go_at_call 43; refine (hc _).mono ?_; rintro e w1 ⟨rfl, hb1⟩; have hB1 := below_step hb hb1; obtain ⟨y0, y1, y2, y3, y4, -⟩ := hbox.later hb1) | (go_at_call 48; refine (hsc _ (hS.later hB1)).mono ?_; rintro e w2 ⟨hb2, hout⟩; have hV2 := below_step hb1 hb2; have hB2 := below_step hB1 hb2; have hbx := hbox.later hV2; obtain ⟨q0, q1, q2, q3, q4⟩ := boxt_set hbx; obtain ⟨c0, c1, c2, c3, c4, hf⟩ := hbx; have f1 := hf 1; have hB3 := hB2.setCell (p := ⟨W.heap.size, 1, none⟩) (Nat.le_refl _) (.int .i64 0); have hVs := hV2.size; have hVs0 := hb1.size; have hsx := hsz1; rcases hout with ⟨hno, q, n, hn, rfl⟩ | ⟨hno, p, m, c, hm, rfl⟩ | ⟨g, c, k0, a0, n0, d0, t0, rfl, hg0, hg1, e0, e1, e2, e3, e4, hdec⟩))
      · subst hno
        have hn' : ((n : Int) == 0) = false := by simp; omega
        clear hsc hbox hS
        go_wp2_with fail
        try (go_quiet (fail); have hB3 := below_drewN hB3 nq; go_wp2)
        exact bodyPost_ret (v := .tuple #[.string ⟨S.toArray⟩, .bool false]) (by simp [results, Tryz.results16, go_sem]) rfl ⟨⟨_, rfl, fun h => by cases h⟩, hB3⟩
      · subst hno
        have hm' : ((m : Int) == 2) = false := by simp; omega
        clear hsc hbox hS
        go_wp2_with fail
        try (go_quiet (fail); have hB3 := below_drewN hB3 nq; go_wp2)
        exact bodyPost_ret (v := .tuple #[.string ⟨S.toArray⟩, .bool false]) (by simp [results, Tryz.results16, go_sem]) rfl ⟨⟨_, rfl, fun h => by cases h⟩, hB3⟩
      · have hgb : g ≠ W.heap.size := by omega
        have r0 := (set_far w2 hgb 0 (.int .i64 0)).trans e0
        have r1 := (set_far w2 hgb 1 (.int .i64 0)).trans e1
        have r2 := (set_far w2 hgb 2 (.int .i64 0)).trans e2
        have r3 := (set_far w2 hgb 3 (.int .i64 0)).trans e3
        have r4 := (set_far w2 hgb 4 (.int .i64 0)).trans e4
        clear hsc hbox hS
        by_cases hq : k0 = 2 ∧ a0 = 0 ∧ t0 = ⟨T.toArray⟩ ∧ n0 = N ∧ d0 = D0
        · obtain rfl : ok = true := by rw [hdec]; exact decide_eq_true hq
          have he := eqlTok_eq k0 a0 n0 d0 2 0 N D0 t0 ⟨T.toArray⟩ hq
          clear hdec hq
          go_wp2_with fail
          try (go_quiet (fail); have hB3 := below_drewN hB3 nq; go_wp2)
          exact bodyPost_ret (v := .tuple #[.string ⟨S.toArray⟩, .bool true]) (by simp [results, Tryz.results16, go_sem]) rfl ⟨⟨_, rfl, fun _ => rfl⟩, hB3⟩
        · obtain rfl : ok = false := by rw [hdec]; exact decide_eq_false hq
          have he := eqlTok_ne k0 a0 n0 d0 2 0 N D0 t0 ⟨T.toArray⟩ (fun ⟨h1, h2, h3, h4, h5⟩ => hq ⟨h1, h2, h3, h4, h5⟩)
          clear hdec hq
          go_wp2_with fail
          try (go_quiet (fail); have hB3 := below_drewN hB3 nq; go_wp2)
          exact bodyPost_ret (v := .tuple #[.string ⟨S.toArray⟩, .bool false]) (by simp [results, Tryz.results16, go_sem]) rfl ⟨⟨_, rfl, fun h => by cases h⟩, hB3⟩
  by_cases h3 : K = 3
  · subst h3
    by_cases hin : 0 ≤ N ∧ N ≤ 1000000000
    · obtain ⟨u, rfl⟩ : ∃ u : Nat, N = (u : Int) := ⟨N.toNat, by omega⟩
      have hc := fun V => X.R.digitsOf_any u (by omega) V
      have e : decDigits u = S := by
        rw [← hS0]
        show _ = Go.Lib.itoa (u : Int)
        unfold Go.Lib.itoa
        rw [if_neg (by omega)]
        simp
      rw [e] at hc
      have hi1 : (0 : Int) ≤ (u : Int) := hin.1
      have hi2 : (u : Int) ≤ 1000000000 := hin.2
      clear e hS0 hnil hneg hcnt hD hin
      go_enter Tryz.func16, Tryz.ntmps16
      go_wp2_with (first | (go_at_call 44; refine (hc _).mono ?_; rintro e w1 ⟨rfl, hb1⟩; have hB1 := below_step hb hb1) | (go_at_call 48; refine (hsc _ (hS.later hB1)).mono ?_; rintro e w2 ⟨hb2, hout⟩; have hV2 := below_step hb1 hb2; have hB2 := below_step hB1 hb2; have hbx := hbox.later hV2; obtain ⟨q0, q1, q2, q3, q4⟩ := boxt_set hbx; obtain ⟨c0, c1, c2, c3, c4, hf⟩ := hbx; have f1 := hf 1; have hB3 := hB2.setCell (p := ⟨W.heap.size, 1, none⟩) (Nat.le_refl _) (.int .i64 0); have hVs := hV2.size; have hVs0 := hb1.size; have hsx := hsz1; rcases hout with ⟨hno, q, n, hn, rfl⟩ | ⟨hno, p, m, c, hm, rfl⟩ | ⟨g, c, k0, a0, n0, d0, t0, rfl, hg0, hg1, e0, e1, e2, e3, e4, hdec⟩))
      · subst hno
        have hn' : ((n : Int) == 0) = false := by simp; omega
        clear hsc hbox hS
        go_wp2_with fail
        try (go_quiet (fail); have hB3 := below_drewN hB3 nq; go_wp2)
        exact bodyPost_ret (v := .tuple #[.string ⟨S.toArray⟩, .bool false]) (by simp [results, Tryz.results16, go_sem]) rfl ⟨⟨_, rfl, fun h => by cases h⟩, hB3⟩
      · subst hno
        have hm' : ((m : Int) == 2) = false := by simp; omega
        clear hsc hbox hS
        go_wp2_with fail
        try (go_quiet (fail); have hB3 := below_drewN hB3 nq; go_wp2)
        exact bodyPost_ret (v := .tuple #[.string ⟨S.toArray⟩, .bool false]) (by simp [results, Tryz.results16, go_sem]) rfl ⟨⟨_, rfl, fun h => by cases h⟩, hB3⟩
      · have hgb : g ≠ W.heap.size := by omega
        have r0 := (set_far w2 hgb 0 (.int .i64 0)).trans e0
        have r1 := (set_far w2 hgb 1 (.int .i64 0)).trans e1
        have r2 := (set_far w2 hgb 2 (.int .i64 0)).trans e2
        have r3 := (set_far w2 hgb 3 (.int .i64 0)).trans e3
        have r4 := (set_far w2 hgb 4 (.int .i64 0)).trans e4
        clear hsc hbox hS
        by_cases hq : k0 = 3 ∧ a0 = 0 ∧ t0 = ⟨T.toArray⟩ ∧ n0 = (u : Int) ∧ d0 = D0
        · obtain rfl : ok = true := by rw [hdec]; exact decide_eq_true hq
          have he := eqlTok_eq k0 a0 n0 d0 3 0 (u : Int) D0 t0 ⟨T.toArray⟩ hq
          clear hdec hq
          go_wp2_with fail
          try (go_quiet (fail); have hB3 := below_drewN hB3 nq; go_wp2)
          exact bodyPost_ret (v := .tuple #[.string ⟨S.toArray⟩, .bool true]) (by simp [results, Tryz.results16, go_sem]) rfl ⟨⟨_, rfl, fun _ => rfl⟩, hB3⟩
        · obtain rfl : ok = false := by rw [hdec]; exact decide_eq_false hq
          have he := eqlTok_ne k0 a0 n0 d0 3 0 (u : Int) D0 t0 ⟨T.toArray⟩ (fun ⟨h1, h2, h3, h4, h5⟩ => hq ⟨h1, h2, h3, h4, h5⟩)
          clear hdec hq
          go_wp2_with fail
          try (go_quiet (fail); have hB3 := below_drewN hB3 nq; go_wp2)
          exact bodyPost_ret (v := .tuple #[.string ⟨S.toArray⟩, .bool false]) (by simp [results, Tryz.results16, go_sem]) rfl ⟨⟨_, rfl, fun h => by cases h⟩, hB3⟩
    · obtain rfl : ok = false := by
        by_cases h0 : N < 0
        · exact hneg h0
        · exact hcnt rfl (by omega)
      clear hnil hneg hcnt hN hD hsc hS0
      by_cases h0 : (0 : Int) ≤ N
      · have h1 : ¬ N ≤ (1000000000 : Int) := fun h => hin ⟨h0, h⟩
        clear hin
        go_enter Tryz.func16, Tryz.ntmps16
        go_wp2
        exact bodyPost_ret (v := .tuple #[.string ⟨#[]⟩, .bool false]) (by simp [results, Tryz.results16, go_sem]) rfl ⟨⟨_, rfl, fun h => by cases h⟩, hb⟩
      · clear hin
        go_enter Tryz.func16, Tryz.ntmps16
        go_wp2
        exact bodyPost_ret (v := .tuple #[.string ⟨#[]⟩, .bool false]) (by simp [results, Tryz.results16, go_sem]) rfl ⟨⟨_, rfl, fun h => by cases h⟩, hb⟩
  by_cases h4 : K = 4
  · subst h4
    have hc := fun V => X.R.rpercent_any N D0 hN hD V
    have hS' : (X.pct N D0).getD [] = S := hS0
    unfold X.pctV at hc
    rw [hS'] at hc
    by_cases hsm : (X.pct N D0).isSome = true
    · rw [hsm] at hc
      clear hS0 hS' hsm hnil hneg hcnt hN hD
      go_enter Tryz.func16, Tryz.ntmps16
      go_wp2_with (first | (go_at_call 45; refine (hc _).mono ?_; rintro e w1 ⟨rfl, hb1⟩; have hB1 := below_step hb hb1) | (go_at_call 48; refine (hsc _ (hS.later hB1)).mono ?_; rintro e w2 ⟨hb2, hout⟩; have hV2 := below_step hb1 hb2; have hB2 := below_step hB1 hb2; have hbx := hbox.later hV2; obtain ⟨q0, q1, q2, q3, q4⟩ := boxt_set hbx; obtain ⟨c0, c1, c2, c3, c4, hf⟩ := hbx; have f1 := hf 1; have hB3 := hB2.setCell (p := ⟨W.heap.size, 1, none⟩) (Nat.le_refl _) (.int .i64 0); have hVs := hV2.size; have hVs0 := hb1.size; have hsx := hsz1; rcases hout with ⟨hno, q, n, hn, rfl⟩ | ⟨hno, p, m, c, hm, rfl⟩ | ⟨g, c, k0, a0, n0, d0, t0, rfl, hg0, hg1, e0, e1, e2, e3, e4, hdec⟩))
      · subst hno
        have hn' : ((n : Int) == 0) = false := by simp; omega
        clear hsc hbox hS
        go_wp2_with fail
        try (go_quiet (fail); have hB3 := below_drewN hB3 nq; go_wp2)
        exact bodyPost_ret (v := .tuple #[.string ⟨S.toArray⟩, .bool false]) (by simp [results, Tryz.results16, go_sem]) rfl ⟨⟨_, rfl, fun h => by cases h⟩, hB3⟩
      · subst hno
        have hm' : ((m : Int) == 2) = false := by simp; omega
        clear hsc hbox hS
        go_wp2_with fail
        try (go_quiet (fail); have hB3 := below_drewN hB3 nq; go_wp2)
        exact bodyPost_ret (v := .tuple #[.string ⟨S.toArray⟩, .bool false]) (by simp [results, Tryz.results16, go_sem]) rfl ⟨⟨_, rfl, fun h => by cases h⟩, hB3⟩
      · have hgb : g ≠ W.heap.size := by omega
        have r0 := (set_far w2 hgb 0 (.int .i64 0)).trans e0
        have r1 := (set_far w2 hgb 1 (.int .i64 0)).trans e1
        have r2 := (set_far w2 hgb 2 (.int .i64 0)).trans e2
        have r3 := (set_far w2 hgb 3 (.int .i64 0)).trans e3
        have r4 := (set_far w2 hgb 4 (.int .i64 0)).trans e4
        clear hsc hbox hS
        by_cases hq : k0 = 4 ∧ a0 = 0 ∧ t0 = ⟨T.toArray⟩ ∧ n0 = N ∧ d0 = D0
        · obtain rfl : ok = true := by rw [hdec]; exact decide_eq_true hq
          have he := eqlTok_eq k0 a0 n0 d0 4 0 N D0 t0 ⟨T.toArray⟩ hq
          clear hdec hq
          go_wp2_with fail
          try (go_quiet (fail); have hB3 := below_drewN hB3 nq; go_wp2)
          exact bodyPost_ret (v := .tuple #[.string ⟨S.toArray⟩, .bool true]) (by simp [results, Tryz.results16, go_sem]) rfl ⟨⟨_, rfl, fun _ => rfl⟩, hB3⟩
        · obtain rfl : ok = false := by rw [hdec]; exact decide_eq_false hq
          have he := eqlTok_ne k0 a0 n0 d0 4 0 N D0 t0 ⟨T.toArray⟩ (fun ⟨h1, h2, h3, h4, h5⟩ => hq ⟨h1, h2, h3, h4, h5⟩)
          clear hdec hq
          go_wp2_with fail
          try (go_quiet (fail); have hB3 := below_drewN hB3 nq; go_wp2)
          exact bodyPost_ret (v := .tuple #[.string ⟨S.toArray⟩, .bool false]) (by simp [results, Tryz.results16, go_sem]) rfl ⟨⟨_, rfl, fun h => by cases h⟩, hB3⟩
    · have hsm' : (X.pct N D0).isSome = false := by simpa using hsm
      rw [hsm'] at hc
      obtain rfl : ok = false := hnil (by
        rw [← hS']
        cases hp : X.pct N D0 with
        | none => rfl
        | some s => rw [hp] at hsm'; cases hsm')
      clear hS0 hS' hsm hsm' hnil hneg hcnt hN hD hsc
      go_enter Tryz.func16, Tryz.ntmps16
      go_wp2_with (first | (go_at_call 45; refine (hc _).mono ?_; rintro e w1 ⟨rfl, hb1⟩; have hB1 := below_step hb hb1))
      exact bodyPost_ret (v := .tuple #[.string ⟨#[]⟩, .bool false]) (by simp [results, Tryz.results16, go_sem]) rfl ⟨⟨_, rfl, fun h => by cases h⟩, hB1⟩
  by_cases h5 : K = 5
  · subst h5
    by_cases hin : 0 ≤ N ∧ N ≤ 109572
    · have hc : ∀ V, Calls Tryz.prog 46 #[.int .i64 N] V fun e w' => e = .returned (.tuple #[.string ⟨S.toArray⟩, .int .i64 0]) ∧ w' = V := fun V => by
        obtain ⟨k, d, hA⟩ := D.at_ex N hin.1 hin.2
        have k1 := hA.k0
        have d1 := hA.d0
        obtain ⟨Y, hY⟩ : ∃ Y : Nat, (Y : Int) = 1900 + k / 12 := ⟨(1900 + k / 12).toNat, by omega⟩
        obtain ⟨M, hMM⟩ : ∃ M : Nat, (M : Int) = k % 12 + 1 := ⟨(k % 12 + 1).toNat, by omega⟩
        obtain ⟨K, hK⟩ : ∃ K : Nat, (K : Int) = d + 1 := ⟨(d + 1).toNat, by omega⟩
        obtain ⟨m, rfl⟩ : ∃ m : Nat, N = (m : Int) := ⟨N.toNat, by omega⟩
        have h := rprint_yes _ k d hA Y M K hY hMM hK V
        rw [day_txt, ← dtx_at hA hY hMM hK] at h
        have e : dtx m = S := by
          rw [← hS0]
          show _ = (if 0 ≤ (m : Int) ∧ (m : Int) ≤ 109572 then dtx (m : Int).toNat else [])
          rw [if_pos hin]
          rfl
        rw [← e]
        exact h
      have hi1 : ¬ N < 0 := by omega
      have hi2 : ¬ (1000000 : Int) < N := by omega
      clear hS0 hnil hneg hcnt hD hin
      go_enter Tryz.func16, Tryz.ntmps16
      go_wp2_with (first | (go_at_call 46; refine (hc _).mono ?_; rintro e w9 ⟨rfl, hw9⟩; subst w9) | (go_at_call 48; refine (hsc _ (hS.later hb)).mono ?_; rintro e w2 ⟨hb2, hout⟩; have hV2 := below_step hrf hb2; have hB2 := below_step hb hb2; have hbx := hbox.later hV2; obtain ⟨q0, q1, q2, q3, q4⟩ := boxt_set hbx; obtain ⟨c0, c1, c2, c3, c4, hf⟩ := hbx; have f1 := hf 1; have hB3 := hB2.setCell (p := ⟨W.heap.size, 1, none⟩) (Nat.le_refl _) (.int .i64 0); have hVs := hV2.size; have hVs0 := hrf.size; have hsx := hsz1; rcases hout with ⟨hno, q, n, hn, rfl⟩ | ⟨hno, p, m, c, hm, rfl⟩ | ⟨g, c, k0, a0, n0, d0, t0, rfl, hg0, hg1, e0, e1, e2, e3, e4, hdec⟩))
      · subst hno
        have hn' : ((n : Int) == 0) = false := by simp; omega
        clear hsc hbox hS
        go_wp2_with fail
        try (go_quiet (fail); have hB3 := below_drewN hB3 nq; go_wp2)
        exact bodyPost_ret (v := .tuple #[.string ⟨S.toArray⟩, .bool false]) (by simp [results, Tryz.results16, go_sem]) rfl ⟨⟨_, rfl, fun h => by cases h⟩, hB3⟩
      · subst hno
        have hm' : ((m : Int) == 2) = false := by simp; omega
        clear hsc hbox hS
        go_wp2_with fail
        try (go_quiet (fail); have hB3 := below_drewN hB3 nq; go_wp2)
        exact bodyPost_ret (v := .tuple #[.string ⟨S.toArray⟩, .bool false]) (by simp [results, Tryz.results16, go_sem]) rfl ⟨⟨_, rfl, fun h => by cases h⟩, hB3⟩
      · have hgb : g ≠ W.heap.size := by omega
        have r0 := (set_far w2 hgb 0 (.int .i64 0)).trans e0
        have r1 := (set_far w2 hgb 1 (.int .i64 0)).trans e1
        have r2 := (set_far w2 hgb 2 (.int .i64 0)).trans e2
        have r3 := (set_far w2 hgb 3 (.int .i64 0)).trans e3
        have r4 := (set_far w2 hgb 4 (.int .i64 0)).trans e4
        clear hsc hbox hS
        by_cases hq : k0 = 5 ∧ a0 = 0 ∧ t0 = ⟨T.toArray⟩ ∧ n0 = N ∧ d0 = D0
        · obtain rfl : ok = true := by rw [hdec]; exact decide_eq_true hq
          have he := eqlTok_eq k0 a0 n0 d0 5 0 N D0 t0 ⟨T.toArray⟩ hq
          clear hdec hq
          go_wp2_with fail
          try (go_quiet (fail); have hB3 := below_drewN hB3 nq; go_wp2)
          exact bodyPost_ret (v := .tuple #[.string ⟨S.toArray⟩, .bool true]) (by simp [results, Tryz.results16, go_sem]) rfl ⟨⟨_, rfl, fun _ => rfl⟩, hB3⟩
        · obtain rfl : ok = false := by rw [hdec]; exact decide_eq_false hq
          have he := eqlTok_ne k0 a0 n0 d0 5 0 N D0 t0 ⟨T.toArray⟩ (fun ⟨h1, h2, h3, h4, h5⟩ => hq ⟨h1, h2, h3, h4, h5⟩)
          clear hdec hq
          go_wp2_with fail
          try (go_quiet (fail); have hB3 := below_drewN hB3 nq; go_wp2)
          exact bodyPost_ret (v := .tuple #[.string ⟨S.toArray⟩, .bool false]) (by simp [results, Tryz.results16, go_sem]) rfl ⟨⟨_, rfl, fun h => by cases h⟩, hB3⟩
    · obtain rfl : ok = false := hnil (by rw [← hS0]; show (if 0 ≤ N ∧ N ≤ 109572 then dtx N.toNat else []) = []; rw [if_neg hin])
      have hc := fun V => rprint_no N hin V
      clear hnil hneg hcnt hD hsc hS0
      by_cases h0 : N < 0
      · clear hin
        go_enter Tryz.func16, Tryz.ntmps16
        go_wp2
        exact bodyPost_ret (v := .tuple #[.string ⟨#[]⟩, .bool false]) (by simp [results, Tryz.results16, go_sem]) rfl ⟨⟨_, rfl, fun h => by cases h⟩, hb⟩
      · by_cases h1 : (1000000 : Int) < N
        · clear hin
          go_enter Tryz.func16, Tryz.ntmps16
          go_wp2
          exact bodyPost_ret (v := .tuple #[.string ⟨#[]⟩, .bool false]) (by simp [results, Tryz.results16, go_sem]) rfl ⟨⟨_, rfl, fun h => by cases h⟩, hb⟩
        · clear hin
          go_enter Tryz.func16, Tryz.ntmps16
          go_wp2_with (first | (go_at_call 46; refine (hc _).mono ?_; rintro e w9 ⟨rfl, hw9⟩; subst w9))
          exact bodyPost_ret (v := .tuple #[.string ⟨#[]⟩, .bool false]) (by simp [results, Tryz.results16, go_sem]) rfl ⟨⟨_, rfl, fun h => by cases h⟩, hb⟩
  by_cases h6 : K = 6
  · subst h6
    have hc := fun V => X.R.rquote_any ⟨T.toArray⟩ V
    have hS' : (X.qt (ByteArray.mk T.toArray).data.toList).getD [] = S := hS0
    unfold X.pctV at hc
    rw [hS'] at hc
    by_cases hsm : (X.qt (ByteArray.mk T.toArray).data.toList).isSome = true
    · rw [hsm] at hc
      clear hS0 hS' hsm hnil hneg hcnt hN hD
      go_enter Tryz.func16, Tryz.ntmps16
      go_wp2_with (first | (go_at_call 47; refine (hc _).mono ?_; rintro e w1 ⟨rfl, hb1⟩; have hB1 := below_step hb hb1) | (go_at_call 48; refine (hsc _ (hS.later hB1)).mono ?_; rintro e w2 ⟨hb2, hout⟩; have hV2 := below_step hb1 hb2; have hB2 := below_step hB1 hb2; have hbx := hbox.later hV2; obtain ⟨q0, q1, q2, q3, q4⟩ := boxt_set hbx; obtain ⟨c0, c1, c2, c3, c4, hf⟩ := hbx; have f1 := hf 1; have hB3 := hB2.setCell (p := ⟨W.heap.size, 1, none⟩) (Nat.le_refl _) (.int .i64 0); have hVs := hV2.size; have hVs0 := hb1.size; have hsx := hsz1; rcases hout with ⟨hno, q, n, hn, rfl⟩ | ⟨hno, p, m, c, hm, rfl⟩ | ⟨g, c, k0, a0, n0, d0, t0, rfl, hg0, hg1, e0, e1, e2, e3, e4, hdec⟩))
      · subst hno
        have hn' : ((n : Int) == 0) = false := by simp; omega
        clear hsc hbox hS
        go_wp2_with fail
        try (go_quiet (fail); have hB3 := below_drewN hB3 nq; go_wp2)
        exact bodyPost_ret (v := .tuple #[.string ⟨S.toArray⟩, .bool false]) (by simp [results, Tryz.results16, go_sem]) rfl ⟨⟨_, rfl, fun h => by cases h⟩, hB3⟩
      · subst hno
        have hm' : ((m : Int) == 2) = false := by simp; omega
        clear hsc hbox hS
        go_wp2_with fail
        try (go_quiet (fail); have hB3 := below_drewN hB3 nq; go_wp2)
        exact bodyPost_ret (v := .tuple #[.string ⟨S.toArray⟩, .bool false]) (by simp [results, Tryz.results16, go_sem]) rfl ⟨⟨_, rfl, fun h => by cases h⟩, hB3⟩
      · have hgb : g ≠ W.heap.size := by omega
        have r0 := (set_far w2 hgb 0 (.int .i64 0)).trans e0
        have r1 := (set_far w2 hgb 1 (.int .i64 0)).trans e1
        have r2 := (set_far w2 hgb 2 (.int .i64 0)).trans e2
        have r3 := (set_far w2 hgb 3 (.int .i64 0)).trans e3
        have r4 := (set_far w2 hgb 4 (.int .i64 0)).trans e4
        clear hsc hbox hS
        by_cases hq : k0 = 6 ∧ a0 = 0 ∧ t0 = ⟨T.toArray⟩ ∧ n0 = N ∧ d0 = D0
        · obtain rfl : ok = true := by rw [hdec]; exact decide_eq_true hq
          have he := eqlTok_eq k0 a0 n0 d0 6 0 N D0 t0 ⟨T.toArray⟩ hq
          clear hdec hq
          go_wp2_with fail
          try (go_quiet (fail); have hB3 := below_drewN hB3 nq; go_wp2)
          exact bodyPost_ret (v := .tuple #[.string ⟨S.toArray⟩, .bool true]) (by simp [results, Tryz.results16, go_sem]) rfl ⟨⟨_, rfl, fun _ => rfl⟩, hB3⟩
        · obtain rfl : ok = false := by rw [hdec]; exact decide_eq_false hq
          have he := eqlTok_ne k0 a0 n0 d0 6 0 N D0 t0 ⟨T.toArray⟩ (fun ⟨h1, h2, h3, h4, h5⟩ => hq ⟨h1, h2, h3, h4, h5⟩)
          clear hdec hq
          go_wp2_with fail
          try (go_quiet (fail); have hB3 := below_drewN hB3 nq; go_wp2)
          exact bodyPost_ret (v := .tuple #[.string ⟨S.toArray⟩, .bool false]) (by simp [results, Tryz.results16, go_sem]) rfl ⟨⟨_, rfl, fun h => by cases h⟩, hB3⟩
    · have hsm' : (X.qt (ByteArray.mk T.toArray).data.toList).isSome = false := by simpa using hsm
      rw [hsm'] at hc
      obtain rfl : ok = false := hnil (by
        rw [← hS']
        cases hp : X.qt (ByteArray.mk T.toArray).data.toList with
        | none => rfl
        | some s => rw [hp] at hsm'; cases hsm')
      clear hS0 hS' hsm hsm' hnil hneg hcnt hN hD hsc
      go_enter Tryz.func16, Tryz.ntmps16
      go_wp2_with (first | (go_at_call 47; refine (hc _).mono ?_; rintro e w1 ⟨rfl, hb1⟩; have hB1 := below_step hb hb1))
      exact bodyPost_ret (v := .tuple #[.string ⟨#[]⟩, .bool false]) (by simp [results, Tryz.results16, go_sem]) rfl ⟨⟨_, rfl, fun h => by cases h⟩, hB1⟩
  obtain rfl : ok = false := hnil (by
    rw [← hS0]
    unfold sayK
    simp [h1, h2, h3, h4, h5, h6, h7])
  have k1 : (K == 1) = false := by simp [h1]
  have k2 : (K == 2) = false := by simp [h2]
  have k3 : (K == 3) = false := by simp [h3]
  have k4 : (K == 4) = false := by simp [h4]
  have k5 : (K == 5) = false := by simp [h5]
  have k6 : (K == 6) = false := by simp [h6]
  have k7 : (K == 7) = false := by simp [h7]
  clear hS0 hnil hneg hcnt hN hD hsc
  go_enter Tryz.func16, Tryz.ntmps16
  go_wp2
  exact bodyPost_ret (v := .tuple #[.string ⟨#[]⟩, .bool false]) (by simp [results, Tryz.results16, go_sem]) rfl ⟨⟨_, rfl, fun h => by cases h⟩, hb⟩

end Go.Proofs.YtoippgmecnlhcaaGreatDoor.Q

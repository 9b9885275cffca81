import Derived.Test.YteiplejamciddaaYN5
namespace Go.Proofs.Yteiplejamciddaa
open Go.RowKit

/-- Another row of its own grows. -/
theorem LkS.gr {p : Pk} {sv : List Value} {lb s : Nat} {W X : World} {n : Nat} {path : List Nat} {pv : Value} {r : Option Nat} (h : LkS p sv lb s W n path pv) (hg : W.grownBy X r) (hr : ∀ b, r = some b → pB lb s ≤ b) (hne : ∀ b, r = some b → some b ≠ pv.ownBlock) : LkS p sv lb s X n path pv := by
  have h1 := pB_lb lb s
  have h2 := pB_s lb s
  have nb : ∀ c, c < pB lb s → some c ≠ r := fun c hc e => by
    have := hr c e.symm
    omega
  have k := fun j => gr_cell hg h.lt (nb lb (by omega)) j
  have hlo := h.lo
  exact ⟨fun j hj => (k j).trans (h.sc j hj), (k 8).trans h.c8, (k 9).trans h.c9, (k 10).trans h.c10, fun j => (gr_frozen hg h.lt (nb lb (by omega)) j).trans (h.fz j), h.own.kept hg (by cases hv : pv.ownBlock with
    | none => exact .inl rfl
    | some g => exact .inr (fun e => hne g e.symm hv.symm)), h.ops.kept (fun c _ hlt => hg.block c (by have := h.ops.1; omega) (nb c (by omega))) hg.size, h.lo, pke_fr h.pk hg.size (fun c hc hlt => hg.block c hlt (nb c (by omega)))⟩
theorem Fr.gr {lb : Nat} {W X Y : World} {p q : Value} {r : Option Nat} (h : Fr lb W p X q) (hg : X.grownBy Y r) (hr : ∀ b, r = some b → W.heap.size ≤ b) : Fr lb W p Y q :=
  ⟨hg.os.trans h.os, hg.tape.trans h.tape, hg.output.trans h.output, Nat.le_trans h.size hg.size, fun b hb h1 h2 => (hg.block b (Nat.lt_of_lt_of_le hb h.size) (fun e => by have := hr b e.symm; omega)).trans (h.blk b hb h1 h2), h.new⟩
theorem own_pos {W : World} {base n : Nat} {v : Value} {xs : List Value} (h : W.ownsRow base 3 1 v (n + 1) xs) : ∃ g cap, v = .slice (some ⟨g, 0, none⟩) (n + 1) cap ∧ n + 1 ≤ cap := by
  obtain ⟨_, ⟨e, h0⟩ | ⟨g, cap, cur, e, _, _, h1, _⟩⟩ := h
  · cases h0
  · exact ⟨g, cap, e, h1⟩
set_option maxRecDepth 20000 in
set_option maxHeartbeats 4000000 in
theorem args_any (p : Pk) (g : Int) (a3 a4 a5 a6 a7 : Option Addr) (c3 c4 c5 c6 c7 : Nat) (lb s d : Nat) (ih : NodeIs p g a3 a4 a5 a6 a7 c3 c4 c5 c6 c7 lb s d) (her : ∀ x n m e, tN p g d x n = (m, .error e) → 0 < e.2) (l : List Ex) (al : Option Addr) (cl : Nat) (W : World) (n : Nat) (path : List Nat) (pv : Value) (h : LkS p [.string ⟨p.name.toArray⟩, .int .i64 p.year, .slice a3 p.opts.length c3, .slice a4 p.tabs.length c4, .slice a5 p.grps.length c5, .slice a6 p.lns.length c6, .slice a7 p.cks.length c7, .int .i64 g] lb s W n path pv) (hn : n ≤ 60) (hd : path.length + 1 + d = 8) (hR : RowR eE W (fun b => b < lb) l al) (hz : ∀ x ∈ l, SzE x) (hl : l.length ≤ 6) : Calls Try.prog 35 #[.pointer (some ⟨lb, 0, none⟩), .slice al l.length cl] W (ArP p [.string ⟨p.name.toArray⟩, .int .i64 p.year, .slice a3 p.opts.length c3, .slice a4 p.tabs.length c4, .slice a5 p.grps.length c5, .slice a6 p.lns.length c6, .slice a7 p.cks.length c7, .int .i64 g] lb s path pv (tFold (tN p g d) l 0 n []) W) := by
  obtain ⟨R, hRe⟩ : ∃ R, R = tFold (tN p g d) l 0 n [] := ⟨_, rfl⟩
  rw [← hRe]
  obtain ⟨i0, hi1, hz0, hz1, hz2⟩ := info_parts infoInt
  obtain ⟨ik, hik, hk0, hk1, hk2⟩ := info_parts infoKind
  have hst : Hid (tFold (tN p g d) (l.drop 0) 0 n [] = R) := ⟨by rw [hRe]; rfl⟩
  have hlb := h.lt
  obtain ⟨Q, hQ⟩ : ∃ Q, ArP p [.string ⟨p.name.toArray⟩, .int .i64 p.year, .slice a3 p.opts.length c3, .slice a4 p.tabs.length c4, .slice a5 p.grps.length c5, .slice a6 p.lns.length c6, .slice a7 p.cks.length c7, .int .i64 g] lb s path pv R W = Q := ⟨_, rfl⟩
  rw [hQ]
  have hQH := Hid.mk hQ
  clear hRe hQ
  go_enter Try.func35, Try.ntmps35
  go_wp2
  go_loopw [6, 13] (fun kv iv wr => ∃ (i : Nat) (ks : List Kd) (m : Nat) (qv : Value), iv = .int .i64 (i : Int) ∧ i ≤ l.length ∧ Hid (ks.length = i) ∧ wr.ownsRow W.heap.size 57 2 kv ks.length (kdC ks) ∧ (∀ b, kv.ownBlock = some b → some b ≠ qv.ownBlock) ∧ LkS p [.string ⟨p.name.toArray⟩, .int .i64 p.year, .slice a3 p.opts.length c3, .slice a4 p.tabs.length c4, .slice a5 p.grps.length c5, .slice a6 p.lns.length c6, .slice a7 p.cks.length c7, .int .i64 g] lb s wr m path qv ∧ m ≤ 60 ∧ Fr lb W pv wr qv ∧ Hid (tFold (tN p g d) (l.drop i) i m ks = R)) (fun _ iv _ => l.length - (intOf iv).toNat)
  case atStart => exact ⟨0, [], n, pv, rfl, Nat.zero_le _, ⟨rfl⟩, World.ownsRow_nil _ _ _ _, (fun b hb => by cases hb), h, hn, Fr.refl _ _ _, hst⟩
  case round =>
    obtain ⟨i, ks, m, qv, rfl, hi, hks, hkv, hkq, hL, hm, hF, hinv⟩ := hrel
    by_cases hlt : i < l.length
    · have hlt' : (i : Int) < (l.length : Int) := by omega
      have hi0 : (0 : Int) ≤ (i : Int) := by omega
      have hRr : RowR eE wr (fun b => b < lb) l al := hR.fr hF.size (fun b hb hbl => hF.blk b hbl (by omega) (fun e => by have := (h.pg b e.symm).1; omega))
      obtain ⟨ge, oe, rfl⟩ := hRr.some hlt
      obtain ⟨cs, -, hge, ⟨ay, cy, rfl, -, hFy⟩, hcs⟩ := hRr.item hlt
      have kx : wr.cell? ⟨ge, oe + i * 5, none⟩ = some (.int .i64 (l[i]).op) ∧ wr.cell? ⟨ge, oe + i * 5 + 1, none⟩ = some (.int .i64 (l[i]).num) ∧ wr.cell? ⟨ge, oe + i * 5 + 2, none⟩ = some (.int .i64 (l[i]).den) ∧ wr.cell? ⟨ge, oe + i * 5 + 3, none⟩ = some (.int .i64 (l[i]).mode) ∧ wr.cell? ⟨ge, oe + i * 5 + 4, none⟩ = some (.slice ay (l[i]).args.len cy) := ⟨hcs 0 (by decide), hcs 1 (by decide), hcs 2 (by decide), hcs 3 (by decide), hcs 4 (by decide)⟩
      have hzy := hz _ (List.getElem_mem hlt)
      have hinv := hinv.out
      rw [fold_step _ _ hlt] at hinv
      generalize l[i] = y at kx hFy hzy hinv
      obtain ⟨e0, e1, e2, e3, e4⟩ := kx
      obtain ⟨qa, qcap, rfl, hqa, hqc⟩ := own_int hL.own
      obtain ⟨X1, hX1⟩ : ∃ X1, X1 = wr.alloc (.cells #[.int .i64 y.op, .int .i64 y.num, .int .i64 y.den, .int .i64 y.mode, .slice ay y.args.len cy] 31) := ⟨_, rfl⟩
      have hB1 : Below wr.heap.size wr X1 := by rw [hX1]; exact (Below.refl _ _).alloc (Nat.le_refl _) _
      have hs1 : X1.heap.size = wr.heap.size + 1 := by rw [hX1]; simp
      have hL1 := hL.bel hB1
      have hbe : Bx X1 wr.heap.size [.int .i64 y.op, .int .i64 y.num, .int .i64 y.den, .int .i64 y.mode, .slice ay y.args.len cy] := by rw [hX1]; exact bx_new _ _ _
      have q10 := hL.c10
      have hlr := hL.lt
      have qo := hL1.own.alloc (.cells #[.int .i64 (i : Int)] 3)
      have qb : pB lb s ≤ (X1.alloc (.cells #[.int .i64 (i : Int)] 3)).heap.size := Nat.le_trans hL1.base (by simp)
      have hpl : path.length ≤ 7 := by omega
      have hXH := Hid.mk hX1
      subst hX1
      have hne1 : wr.heap.size ≠ lb := by omega
      have hnq : some wr.heap.size ≠ (Value.slice qa path.length qcap).ownBlock := fun e => by
        have := (hL.pg _ e.symm).2
        omega
      clear hcs hRr
      go_wp2_with (at_builtin; refine wpList_append_own_at _ rfl _ _ 33 rfl (pB lb s) 3 i0 (.int .i64 0) 1 8 Try.underlying33 hi1 hz0 hz1 hz2 rfl (by decide) _ _ _ rfl qo ⟨wr.heap.size + 1, 0, none⟩ 1 1 [.int .i64 (i : Int)] rfl rfl (by have hcn := cell_one_new (wr.alloc (.cells #[.int .i64 y.op, .int .i64 y.num, .int .i64 y.den, .int .i64 y.mode, .slice ay y.args.len cy] 31)) (.int .i64 (i : Int)) 3; rw [hs1] at hcn; exact hcn) (by simp [Value.oneCell']) (by unfold maxLen; omega) (by omega) qb ?_; intro v4 w4 hown4 hgrow4 _ hat4; obtain ⟨hL4, hF4, ⟨u4, hu4⟩, hz4⟩ := hL1.push hgrow4 hown4 hat4; obtain ⟨p4, cap4, rfl, -, -⟩ := own_int hown4; have hbe4 := hF4.box hbe hne1 hnq; have b0 := hbe4.2.1 0 (by simp); have b1 := hbe4.2.1 1 (by simp); have b2 := hbe4.2.1 2 (by simp); have b3 := hbe4.2.1 3 (by simp); have b4 := hbe4.2.1 4 (by simp))
      have hkv1 := hkv.alloc (.cells #[.int .i64 y.op, .int .i64 y.num, .int .i64 y.den, .int .i64 y.mode, .slice ay y.args.len cy] 31)
      have hkv4 := own_fr hlb hkv1 hF4 hkq
      have hkq4 : ∀ b, u6.ownBlock = some b → some b ≠ (Value.slice p4 (path.length + 1) cap4).ownBlock := fun b hb => by
        have hb2 := (hkv1.lt b hb).2
        rcases hF4.new with e | ⟨c, e, hc⟩
        · rw [e]; exact hkq b hb
        · rw [e]; intro e2; injection e2 with e2; omega
      have hFw4 := (hF.trans (Fr.bel hB1 _)).trans hF4
      obtain ⟨X2, hX2⟩ : ∃ X2, X2 = w4.setCell ⟨lb, 10, none⟩ (.slice p4 (path.length + 1) cap4) := ⟨_, rfl⟩
      rw [← hX2] at hL4 hF4 hbe4 hkv4 hFw4 b0 b1 b2 b3 b4 ⊢
      have hFy4 : FoAt X2 (fun b => b < lb) y.args ay := FoAt.fr (Nat.le_trans hB1.size hF4.size) (fun b hb hbl => (hF4.blk b (Nat.lt_of_lt_of_le hbl hB1.size) (by omega) (fun e => by have := (hL.pg b e.symm).1; omega)).trans (hB1.block b hbl)) _ _ hFy
      have hnode := ih y ay cy X2 m (path ++ [i]) (.slice p4 (path.length + 1) cap4) hL4 hm (by rw [List.length_append, List.length_singleton]; omega) hzy hFy4
      clear hX2 hgrow4 hown4 hat4 hu4 hz4 hL1 hbe hkv1 qo qb e0 e1 e2 e3 e4 q10 hXH
      obtain ⟨m5, r5, hmr⟩ : ∃ m5 r5, tN p g d y m = (m5, r5) := ⟨_, _, rfl⟩
      have hle := tN_le p g d y m m5
      have her := her y m m5
      rw [hmr] at hnode hinv hle her
      clear hmr
      cases r5 with
      | error e5 =>
        have he5 := her e5 rfl
        have he5' : ((e5.2 : Int) != 0) = true := by simp; omega
        have hnode2 : Calls Try.prog 11 #[.pointer (some ⟨lb, 0, none⟩), .agg #[.int .i64 y.op, .int .i64 y.num, .int .i64 y.den, .int .i64 y.mode, .slice ay y.args.len cy]] X2 (fun e W' => e = .returned (.tuple #[.agg #[.int .i64 0, .int .i64 0], .int .i64 (e5.2 : Int)]) ∧ ∃ pv5, LkS p [.string ⟨p.name.toArray⟩, .int .i64 p.year, .slice a3 p.opts.length c3, .slice a4 p.tabs.length c4, .slice a5 p.grps.length c5, .slice a6 p.lns.length c6, .slice a7 p.cks.length c7, .int .i64 g] lb s W' m5 (path ++ [i] ++ e5.1) pv5 ∧ Fr lb X2 (.slice p4 (path.length + 1) cap4) W' pv5) := hnode
        have hfin : ∀ w5 pv5 Y, LkS p [.string ⟨p.name.toArray⟩, .int .i64 p.year, .slice a3 p.opts.length c3, .slice a4 p.tabs.length c4, .slice a5 p.grps.length c5, .slice a6 p.lns.length c6, .slice a7 p.cks.length c7, .int .i64 g] lb s w5 m5 (path ++ [i] ++ e5.1) pv5 → Fr lb X2 (.slice p4 (path.length + 1) cap4) w5 pv5 → Below w5.heap.size w5 Y → Q (.returned (.tuple #[.slice none 0 0, .int .i64 (e5.2 : Int)])) Y := fun w5 pv5 Y g1 g2 hY => by
          rw [← hQH.out, ← hinv]
          refine ⟨pv5, (hFw4.trans g2).trans (Fr.bel hY _), rfl, ?_⟩
          have := g1.bel hY
          rw [List.append_assoc] at this
          exact this
        have hfinH := Hid.mk hfin
        clear hfin hnode hinv hle her
        refine hnode2.mono ?_
        clear hnode2
        rintro e w5 ⟨rfl, pv5, hL5, hF5⟩
        have hff := hfinH.out w5 pv5 (w5.alloc (.cells #[.int .i64 0, .int .i64 0] 57)) hL5 hF5 ((Below.refl _ _).alloc (Nat.le_refl _) _)
        go_wp2
        exact hff
      | ok k =>
        have hm5 := hle k rfl
        have hnode2 : Calls Try.prog 11 #[.pointer (some ⟨lb, 0, none⟩), .agg #[.int .i64 y.op, .int .i64 y.num, .int .i64 y.den, .int .i64 y.mode, .slice ay y.args.len cy]] X2 (fun e W' => e = .returned (.tuple #[.agg #[.int .i64 k.1, .int .i64 k.2], .int .i64 0]) ∧ ∃ pv5, LkS p [.string ⟨p.name.toArray⟩, .int .i64 p.year, .slice a3 p.opts.length c3, .slice a4 p.tabs.length c4, .slice a5 p.grps.length c5, .slice a6 p.lns.length c6, .slice a7 p.cks.length c7, .int .i64 g] lb s W' m5 (path ++ [i]) pv5 ∧ Fr lb X2 (.slice p4 (path.length + 1) cap4) W' pv5) := hnode
        have hinvH := Hid.mk hinv
        clear hnode hinv hle her
        refine hnode2.mono ?_
        clear hnode2
        rintro e w5 ⟨rfl, pv5, hL5, hF5⟩
        have ho5 : w5.ownsRow (pB lb s) 3 1 pv5 (path.length + 1) (ptC (path ++ [i])) := by
          have := hL5.own
          rwa [List.length_append, List.length_singleton] at this
        obtain ⟨g5, cap5, rfl, hc5⟩ := own_pos ho5
        have q5 := hL5.c10
        have z5 := hL5.fz 10
        have l5 := hL5.lt
        obtain ⟨X6, hX6⟩ : ∃ X6, X6 = w5.setCell ⟨lb, 10, none⟩ (.slice (some ⟨g5, 0, none⟩) path.length cap5) := ⟨_, rfl⟩
        have hL6 : LkS p [.string ⟨p.name.toArray⟩, .int .i64 p.year, .slice a3 p.opts.length c3, .slice a4 p.tabs.length c4, .slice a5 p.grps.length c5, .slice a6 p.lns.length c6, .slice a7 p.cks.length c7, .int .i64 g] lb s X6 m5 path (.slice (some ⟨g5, 0, none⟩) path.length cap5) := by
          rw [hX6]
          have ho6 := own_cut ho5 (Nat.le_succ path.length) (by simp)
          rw [ptC_take, List.take_left'  rfl] at ho6
          exact (hL5.set10 (gr_refl _ _) ho6).1
        have hF6 : Fr lb X2 (.slice p4 (path.length + 1) cap4) X6 (.slice (some ⟨g5, 0, none⟩) path.length cap5) := by
          rw [hX6]
          exact hF5.trans (Fr.set _ _ _ 10 _ rfl)
        have hs6 : X6.heap.size = w5.heap.size := by rw [hX6]; simp [World.setCell]
        obtain ⟨X7, hX7⟩ : ∃ X7, X7 = (X6.alloc (.cells #[.int .i64 k.1, .int .i64 k.2] 57)).drew := ⟨_, rfl⟩
        have hB7 : Below X6.heap.size X6 X7 := by rw [hX7]; exact ((Below.refl _ _).alloc (Nat.le_refl _) _).drew
        have hbk : Bx X7 w5.heap.size [.int .i64 k.1, .int .i64 k.2] := by
          rw [← hs6, hX7]
          exact bx_new X6 #[.int .i64 k.1, .int .i64 k.2] 57
        have hL7 := hL6.bel hB7
        have hF7 := hF6.trans (Fr.bel hB7 _)
        have hkv7 := own_fr hlb hkv4 hF7 hkq4
        have hkq7 : ∀ b, u6.ownBlock = some b → some b ≠ (Value.slice (some ⟨g5, 0, none⟩) path.length cap5).ownBlock := fun b hb => by
          have hb2 := (hkv4.lt b hb).2
          rcases hF7.new with e | ⟨c, e, hc⟩
          · rw [e]; exact hkq4 b hb
          · rw [e]; intro e2; injection e2 with e2; omega
        have hFw7 := hFw4.trans hF7
        go_wp2
        go_region
        rw [← hX6, ← hX7]
        clear hX6 hX7 q5 z5 l5 hL5 hF5 ho5
        have k0 := hbk.2.1 0 (by simp)
        have k1 := hbk.2.1 1 (by simp)
        have hk6 : ks.length ≤ 6 := by have := hks.out; omega
        have hws : W.heap.size ≤ (X7.alloc (.cells #[.int .i64 k.1, .int .i64 k.2] 57)).heap.size := Nat.le_trans hFw7.size (by simp)
        go_wp2_with (at_builtin; refine wpList_append_own_at _ rfl _ _ 86 rfl W.heap.size 57 ik (.agg #[.int .i64 0, .int .i64 0]) 2 16 Try.underlying86 hik hk0 hk1 hk2 rfl (by decide) _ _ _ rfl (hkv7.alloc _) ⟨X7.heap.size, 0, none⟩ 1 1 [.int .i64 k.1, .int .i64 k.2] rfl rfl (lit_at _ _ _) (by simp [Value.oneCell']) (by unfold maxLen; omega) (by omega) hws ?_; intro v8 w8 hown8 hgrow8 _ hat8)
        have hB8 : Below X7.heap.size X7 (X7.alloc (.cells #[.int .i64 k.1, .int .i64 k.2] 57)) := (Below.refl _ _).alloc (Nat.le_refl _) _
        have hsz : ks.length + 1 = (ks ++ [k]).length := by rw [List.length_append, List.length_singleton]
        rw [kdC_snoc, hsz] at hown8
        have hbs := h.base
        refine ⟨⟨i + 1, ks ++ [k], m5, _, rfl, hlt, ⟨by rw [← hsz, hks.out]⟩, hown8, ?_, (hL7.bel hB8).gr hgrow8 (fun b hb => Nat.le_trans hbs (hkv7.lt b hb).1) hkq7, hm5, (hFw7.trans (Fr.bel hB8 _)).gr hgrow8 (fun b hb => (hkv7.lt b hb).1), hinvH⟩, ?_⟩
        · intro b hb e
          rcases hat8 with e2 | e2
          · exact hkq7 b (e2.symm.trans hb) e
          · have := (hL7.pg b e.symm).2
            rw [e2] at hb
            injection hb with hb
            have := hB8.size
            omega
        · simp only [intOf]
          omega
    · have hlt' : ¬ (i : Int) < (l.length : Int) := by omega
      obtain ⟨ak, ck, rfl, hRk⟩ := kd_row hkv
      have hRi := hinv.out
      rw [List.drop_eq_nil_of_le (by omega)] at hRi
      have hf : Q (.returned (.tuple #[.slice ak ks.length ck, .int .i64 0])) wr := by
        rw [← hQH.out, ← hRi]
        exact ⟨qv, hF, ak, ck, rfl, hL, hRk⟩
      clear hinv hRi
      go_wp2
      exact hf
end Go.Proofs.Yteiplejamciddaa

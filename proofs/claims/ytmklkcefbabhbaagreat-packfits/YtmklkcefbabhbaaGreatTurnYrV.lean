import Derived.Test.YtmklkcefbabhbaaGreatTurnYrU
/- The kind of an expression: the arguments. -/
namespace Go.Proofs.YtmklkcefbabhbaaGreat.R6
open Go.RowKit

/-- What comes of the arguments' kinds. -/
def fin (p : Pk) (x : Ex) : Nat × Except Ft (List Kd) → Nat × Except Ft Kd
  | (m, .error e) => (m, .error e)
  | (m, .ok ks) => (m, wrK p x ks)
theorem fo_ar {x : Ex} (h : foB x = true) : 0 ≤ (arF x.op).1 ∧ (arF x.op).1 ≤ (x.args.len : Int) ∧ (x.args.len : Int) ≤ (arF x.op).2 := by
  unfold foB at h
  simp only [Bool.and_eq_true, decide_eq_true_eq] at h
  exact ⟨h.1.1.1.1, h.1.1.1.2, h.1.1.2⟩
theorem ar_six (op : Int) : (arF op).2 ≤ 6 := by
  unfold arF
  repeat (first | (split; · decide) | decide)
theorem fo_six {x : Ex} (h : foB x = true) : x.args.len ≤ 6 := by
  have h1 := fo_ar h
  have h2 := ar_six x.op
  omega
theorem own_gr {W w w' : World} {wb : Nat} {v : Value} {t : TypeId} {k n : Nat} {xs : List Value} (h : w.ownsRow (W.heap.size + 2) t k v n xs) (hlt : wb < W.heap.size) (hg : w.grownBy w' (some wb)) : w'.ownsRow (W.heap.size + 2) t k v n xs := h.kept hg (by
    cases hv : v.ownBlock with
    | none => exact .inl rfl
    | some b =>
      refine .inr (fun e => ?_)
      have h1 := (h.lt b hv).1
      injection e with e
      omega)
set_option maxRecDepth 20000 in
set_option maxHeartbeats 2000000 in
theorem kd_args (p : Pk) (a3 a4 a5 a6 a7 : Option Addr) (c3 c4 c5 c6 c7 : Nat) (g : Int) (wb : Nat) (x : Ex) (ax : Option Addr) (cx : Nat) (W : World) (n : Nat) (dp : Int) (d : Nat) (ih : KindIs p a3 a4 a5 a6 a7 c3 c4 c5 c6 c7 g wb d) (Z : Nat × Except Ft Kd) (hd : dp ≤ 8) (hdp : dp = 9 - ((d + 1 : Nat) : Int)) (hd8 : d + 1 ≤ 9) (hm : n + 1 ≤ 60) (hf : foB x = true) (ht : thB p g x = true) (hZ : fin p x (kFo (kiF p g d) (toL x.args) 0 (n + 1) []) = Z) (hW : WkB W p a3 a4 a5 a6 a7 c3 c4 c5 c6 c7 g wb n) (hn : n ≤ 60) (hL : RowR eL W (fun b => b < wb) p.lns a6) (hO : RowR eO W (fun b => b < wb) p.opts a3) (hF : FoAt W (fun b => b < wb) x.args ax) : Calls Tryz.prog 90 #[.pointer (some ⟨wb, 0, none⟩), .agg #[.int .i64 x.op, .int .i64 x.num, .int .i64 x.den, .int .i64 x.mode, .slice ax x.args.len cx], .int .i64 dp] W (KiP p a3 a4 a5 a6 a7 c3 c4 c5 c6 c7 g wb W (Z)) := by
  obtain ⟨X, hXe⟩ : ∃ X, (W.alloc (.cells #[.int .i64 x.op, .int .i64 x.num, .int .i64 x.den, .int .i64 x.mode, .slice ax x.args.len cx] 59)).alloc (.cells #[.int .i64 0, .int .i64 0] 88) = X := ⟨_, rfl⟩
  have hX : KdS p a3 a4 a5 a6 a7 c3 c4 c5 c6 c7 g wb x ax cx W X n := by rw [← hXe]; exact kd_box hW hL hO hF
  obtain ⟨Y, hYe⟩ : ∃ Y, X.setCell ⟨wb, 8, none⟩ (.int .i64 ((n : Int) + 1)) = Y := ⟨_, rfl⟩
  have hY : KdS p a3 a4 a5 a6 a7 c3 c4 c5 c6 c7 g wb x ax cx W Y (n + 1) := by rw [← hYe]; exact hX.mv (gr_set _ _ _ _) (fun b e => .inl (by injection e with e; exact e.symm)) (hX.wk.set8 (n + 1))
  have x8 : X.cell? ⟨wb, 8, none⟩ = some (.int .i64 (n : Int)) := hX.wk.2.1 8 (by simp)
  have f8 := hX.wk.2.2 8
  have y8 : Y.cell? ⟨wb, 8, none⟩ = some (.int .i64 ((n : Int) + 1)) := hY.wk.2.1 8 (by simp)
  have hn' : (n : Int) ≤ 60 := by omega
  have hlt := hX.lt
  have hne1 : W.heap.size ≠ wb := by omega
  have hne2 : W.heap.size + 1 ≠ wb := by omega
  have rk := hY.kr; have fk0 := frozen_of_row _ _ 0 _ _ rk; have fk1 := frozen_of_row _ _ 1 _ _ rk; have ck0 := cell_of_row _ _ 0 _ _ _ rk; have ck1 := cell_of_row _ _ 1 _ _ _ rk; have e0 := hY.bx.2.1 0 (by simp); have e1 := hY.bx.2.1 1 (by simp); have e2 := hY.bx.2.1 2 (by simp); have e3 := hY.bx.2.1 3 (by simp); have e4 := hY.bx.2.1 4 (by simp)
  have hd' : ¬ 8 < dp := by omega
  have hd0 : 0 ≤ dp := by omega
  have hm' : ¬ (60 : Int) < (n : Int) + 1 := by omega
  have hfo := formed_any x ax cx Y (FoAt.mo (fun _ _ _ => trivial) _ _ hY.hF)
  rw [hf] at hfo
  have hth : Hid (∀ w, KdS p a3 a4 a5 a6 a7 c3 c4 c5 c6 c7 g wb x ax cx W w (n + 1) → Calls Tryz.prog 98 #[.pointer (some ⟨wb, 0, none⟩), .agg #[.int .i64 x.op, .int .i64 x.num, .int .i64 x.den, .int .i64 x.mode, .slice ax x.args.len cx]] w (Lk (.bool true) w)) := ⟨fun w h => by
    have := there_any p a3 a4 a5 a6 a7 c3 c4 c5 c6 c7 g (n + 1) wb x ax cx w h.wk.at_ (h.hL.mo (fun _ _ _ => trivial)) (h.hO.mo (fun _ _ _ => trivial))
    rwa [ht] at this⟩
  obtain ⟨ik, hik, hk0, hk1, hk2⟩ := info_ps infoK
  obtain ⟨l, hl⟩ : ∃ l, toL x.args = l := ⟨_, rfl⟩
  have hll : l.length = x.args.len := by rw [← hl, toL_len]
  have hl6 : l.length ≤ 6 := by rw [hll]; exact fo_six hf
  have hst : Hid (fin p x (kFo (kiF p g d) (l.drop 0) 0 (n + 1) []) = Z) := ⟨by rw [← hZ, ← hl]; rfl⟩
  have hlH := Hid.mk hl
  have hllH := Hid.mk hll
  have harH := Hid.mk (fo_ar hf)
  have hdpH := Hid.mk hdp
  have hll' : (x.args.len : Int) = (l.length : Int) := by rw [hll]
  clear hW hL hO hF hm hd hf ht hZ hl hll hdp
  obtain ⟨na, hna⟩ : ∃ na, na = x.args.len := ⟨_, rfl⟩
  go_enter Tryz.func90, Tryz.ntmps90
  go_wp2_with (first | (go_at_call 97; refine hfo.mono ?_; rintro e w3 ⟨rfl, hb3⟩; have h3 := hY.bel hb3; have rkb := h3.kr; have fkb0 := frozen_of_row _ _ 0 _ _ rkb; have fkb1 := frozen_of_row _ _ 1 _ _ rkb; have ckb0 := cell_of_row _ _ 0 _ _ _ rkb; have ckb1 := cell_of_row _ _ 1 _ _ _ rkb; have eb0 := h3.bx.2.1 0 (by simp); have eb1 := h3.bx.2.1 1 (by simp); have eb2 := h3.bx.2.1 2 (by simp); have eb3 := h3.bx.2.1 3 (by simp); have eb4 := h3.bx.2.1 4 (by simp)) | (go_at_call 98; refine (hth.out w3 h3).mono ?_; rintro e w4 ⟨rfl, hb4⟩; have h4 := h3.bel hb4; have rkc := h4.kr; have fkc0 := frozen_of_row _ _ 0 _ _ rkc; have fkc1 := frozen_of_row _ _ 1 _ _ rkc; have ckc0 := cell_of_row _ _ 0 _ _ _ rkc; have ckc1 := cell_of_row _ _ 1 _ _ _ rkc; have ec0 := h4.bx.2.1 0 (by simp); have ec1 := h4.bx.2.1 1 (by simp); have ec2 := h4.bx.2.1 2 (by simp); have ec3 := h4.bx.2.1 3 (by simp); have ec4 := h4.bx.2.1 4 (by simp)))
  go_loopw [9, 10] (fun av iv wr => ∃ (i : Nat) (ks : List Kd) (m : Nat), iv = .int .i64 (i : Int) ∧ i ≤ l.length ∧ Hid (ks.length = i) ∧ wr.ownsRow (W.heap.size + 2) 88 2 av ks.length (kdC ks) ∧ KdS p a3 a4 a5 a6 a7 c3 c4 c5 c6 c7 g wb x ax cx W wr m ∧ m ≤ 60 ∧ Hid (fin p x (kFo (kiF p g d) (l.drop i) i m ks) = Z)) (fun _ iv _ => l.length - (intOf iv).toNat)
  case atStart => exact ⟨0, [], n + 1, rfl, Nat.zero_le _, ⟨rfl⟩, World.ownsRow_nil _ _ _ _, h4, by omega, hst⟩
  case round =>
    clear hst
    obtain ⟨i, ks, m, rfl, hi, hks, hkv, hS, hmm, hinv⟩ := hrel
    by_cases hlt1 : i < l.length
    · have hlt' : (i : Int) < (x.args.len : Int) := by rw [hll']; omega
      have hi0 : (0 : Int) ≤ (i : Int) := by omega
      have hRr : RowR eE wr (fun b => b < wb) l ax := by rw [← hlH.out]; exact row_of_fo hS.hF
      obtain ⟨ge, oe, hax⟩ := hRr.some hlt1
      have hRr2 := hRr
      rw [hax] at hRr2
      obtain ⟨cs, -, hge, ⟨ay, cy, rfl, -, hFy⟩, hcs⟩ := hRr2.item hlt1
      have kx : wr.cell? ⟨ge, oe + i * 5, none⟩ = some (.int .i64 (l[i]).op) ∧ wr.cell? ⟨ge, oe + i * 5 + 1, none⟩ = some (.int .i64 (l[i]).num) ∧ wr.cell? ⟨ge, oe + i * 5 + 2, none⟩ = some (.int .i64 (l[i]).den) ∧ wr.cell? ⟨ge, oe + i * 5 + 3, none⟩ = some (.int .i64 (l[i]).mode) ∧ wr.cell? ⟨ge, oe + i * 5 + 4, none⟩ = some (.slice ay (l[i]).args.len cy) := ⟨hcs 0 (by decide), hcs 1 (by decide), hcs 2 (by decide), hcs 3 (by decide), hcs 4 (by decide)⟩
      replace hinv := hinv.out
      rw [fo_step _ _ hlt1] at hinv
      generalize l[i] = y at kx hFy hinv
      obtain ⟨z0, z1, z2, z3, z4⟩ := kx
      have e4 : wr.cell? ⟨W.heap.size, 4, none⟩ = some (.slice (some ⟨ge, oe, none⟩) x.args.len cx) := (hS.bx.2.1 4 (by simp)).trans (by rw [hax]; rfl)
      have hk := ih y ay cy wr m (dp + 1) (by have := hdpH.out; omega) hS.wk hmm hS.hL hS.hO hFy
      clear hcs hRr hRr2 hax hFy
      obtain ⟨m5, r5, hmr⟩ : ∃ m5 r5, kiF p g d y m = (m5, r5) := ⟨_, _, rfl⟩
      have hle := ki_le p g d y m m5
      have her := ki_er p g d y m m5
      rw [hmr] at hk hinv hle her
      clear hmr
      cases r5 with
      | error e5 =>
        obtain ⟨hp5, hl5⟩ := her e5 rfl
        have he5' : ((e5.2 : Int) != 0) = true := by simp; omega
        have hinvH : Hid ((m5, Except.error (i :: e5.1, e5.2)) = Z) := ⟨hinv⟩
        clear her hle hinv hkv
        go_wp2_with (go_at_call 90; fail)
        refine hk.mono ?_
        rintro e w5 ⟨hg5, hwk5, pv5, rfl, hpt5⟩
        have h5 := hS.mv hg5 (fun b e => .inl (by injection e with e; exact e.symm)) hwk5
        have hB6 : Below w5.heap.size w5 (w5.alloc (.cells #[.int .i64 0, .int .i64 0] 88)) := (Below.refl _ _).alloc (Nat.le_refl _) _
        have h6 := h5.bel hB6
        have hah := ahead_any i e5.1 pv5 wr.heap.size _ (hpt5.bel hB6 (Nat.le_refl _)) (by omega)
        have hs6 := h6.sz
        clear hk
        go_wp2_with (go_at_call 31; refine hah.mono ?_; rintro e w7 ⟨v7, rfl, hpt7, hb7⟩; have h7 := h6.bel hb7; have rkd := h7.kr; have fkd0 := frozen_of_row _ _ 0 _ _ rkd; have fkd1 := frozen_of_row _ _ 1 _ _ rkd; have ckd0 := cell_of_row _ _ 0 _ _ _ rkd; have ckd1 := cell_of_row _ _ 1 _ _ _ rkd; have ed0 := h7.bx.2.1 0 (by simp); have ed1 := h7.bx.2.1 1 (by simp); have ed2 := h7.bx.2.1 2 (by simp); have ed3 := h7.bx.2.1 3 (by simp); have ed4 := h7.bx.2.1 4 (by simp))
        refine bodyPost_ret (v := .tuple #[.agg #[.int .i64 0, .int .i64 0], v7, .int .i64 (e5.2 : Int)]) (results_cell3 Tryz.results90 _ _ (W.heap.size + 1) 88 _ (0, 0) _ rfl (row_two rkd _ _) Tryz.underlying88 rfl info_kd) rfl ?_
        rw [← hinvH.out]
        exact h7.err (er := (i :: e5.1, e5.2)) (hpt7.mono (by omega))
      | ok k =>
        have hm5 := hle k rfl
        have hinvH := Hid.mk hinv
        clear her hle hinv
        go_wp2_with (go_at_call 90; fail)
        refine hk.mono ?_
        rintro e w5 ⟨hg5, hwk5, rfl⟩
        have h5 := hS.mv hg5 (fun b e => .inl (by injection e with e; exact e.symm)) hwk5
        have hkv5 := own_gr hkv hlt hg5
        have hB6 : Below w5.heap.size w5 (w5.alloc (.cells #[.int .i64 k.1, .int .i64 k.2] 88)) := (Below.refl _ _).alloc (Nat.le_refl _) _
        have h6 := h5.bel hB6
        have hkv6 := hkv5.alloc (.cells #[.int .i64 k.1, .int .i64 k.2] 88)
        have hbk : Bx (w5.alloc (.cells #[.int .i64 k.1, .int .i64 k.2] 88)) w5.heap.size (#[.int .i64 k.1, .int .i64 k.2] : Array Value).toList := bx_new _ _ _
        clear hk hkv
        obtain ⟨w6, hw6⟩ : ∃ w6, w5.alloc (.cells #[.int .i64 k.1, .int .i64 k.2] 88) = w6 := ⟨_, rfl⟩
        rw [hw6] at hB6 h6 hkv6 hbk
        have k0 := hbk.2.1 0 (by simp)
        have k1 := hbk.2.1 1 (by simp)
        have hk6 : ks.length ≤ 6 := by have := hks.out; omega
        have hs6 := h6.sz
        have hB7 : Below w6.heap.size w6 (w6.alloc (.cells #[.int .i64 k.1, .int .i64 k.2] 88)) := (Below.refl _ _).alloc (Nat.le_refl _) _
        have hws : W.heap.size + 2 ≤ (w6.alloc (.cells #[.int .i64 k.1, .int .i64 k.2] 88)).heap.size := Nat.le_trans hs6 hB7.size
        go_wp2_with (at_builtin; refine wpList_append_own_at _ rfl _ _ 158 rfl (W.heap.size + 2) 88 ik (.agg #[.int .i64 0, .int .i64 0]) 2 16 Tryz.underlying158 hik hk0 hk1 hk2 rfl (by decide) _ _ _ rfl (hkv6.alloc _) ⟨w6.heap.size, 0, none⟩ 1 1 [.int .i64 k.1, .int .i64 k.2] rfl rfl (lit_at _ _ _) (by simp [Value.oneCell']) (by unfold maxLen; omega) (by omega) hws ?_; intro v8 w8 hown8 hgrow8 _ hat8)
        have h7 := h6.bel hB7
        have hsz : ks.length + 1 = (ks ++ [k]).length := by rw [List.length_append, List.length_singleton]
        rw [kdC_snoc, hsz] at hown8
        refine ⟨⟨i + 1, ks ++ [k], m5, rfl, hlt1, ⟨by rw [← hsz, hks.out]⟩, hown8, h7.mv hgrow8 (fun b hb => .inr (hkv6.lt b hb).1) (Bx.kept h7.wk hgrow8 (fun e => by have := (hkv6.lt wb e.symm).1; omega)), hm5, hinvH⟩, ?_⟩
        simp only [intOf]
        omega
    · have hlt' : ¬ (i : Int) < (x.args.len : Int) := by rw [hll']; omega
      obtain ⟨ak, ck, rfl, hRk⟩ := kd_row hkv
      have hil : ks.length = l.length := by have := hks.out; omega
      replace hinv := hinv.out
      rw [List.drop_eq_nil_of_le (by omega)] at hinv
      have hinvH : Hid ((m, wrK p x ks) = Z) := ⟨hinv⟩
      have hSr := hS
      have rkg := hS.kr; have fkg0 := frozen_of_row _ _ 0 _ _ rkg; have fkg1 := frozen_of_row _ _ 1 _ _ rkg; have ckg0 := cell_of_row _ _ 0 _ _ _ rkg; have ckg1 := cell_of_row _ _ 1 _ _ _ rkg; have eg0 := hS.bx.2.1 0 (by simp); have eg1 := hS.bx.2.1 1 (by simp); have eg2 := hS.bx.2.1 2 (by simp); have eg3 := hS.bx.2.1 3 (by simp); have eg4 := hS.bx.2.1 4 (by simp)
      clear hinv hkv hks
      by_cases h0 : ks.length = 0
      · have h0' : ((ks.length : Int) == 0) = true := by simp; exact List.eq_nil_of_length_eq_zero h0
        have hlf := leaf_any p a3 a4 a5 a6 a7 c3 c4 c5 c6 c7 g m wb x ax cx wr hS.wk.at_ (hS.hL.mo (fun _ _ _ => trivial))
        have hw : wrK p x ks = if (lfK p x).2 then .ok (lfK p x).1 else .error ([], 69) := by unfold wrK; rw [if_pos h0]
        obtain ⟨lk, hlk⟩ : ∃ lk, lfK p x = lk := ⟨_, rfl⟩
        rw [hlk] at hlf hw
        obtain ⟨k, bb⟩ := lk
        clear hlk h0 hil
        cases bb with
        | false =>
          rw [if_neg (by simp)] at hw
          have hwH := Hid.mk hw
          clear hw
          go_wp2_with (go_at_call 99; refine hlf.mono ?_; rintro e w9 ⟨rfl, hb9⟩; have hB9 : Below w9.heap.size w9 (w9.alloc (.cells #[.int .i64 k.1, .int .i64 k.2] 88)) := (Below.refl _ _).alloc (Nat.le_refl _) _; have h9 := (hSr.bel hb9).bel hB9; have rkl := h9.kr; have fkl0 := frozen_of_row _ _ 0 _ _ rkl; have fkl1 := frozen_of_row _ _ 1 _ _ rkl; have ckl0 := cell_of_row _ _ 0 _ _ _ rkl; have ckl1 := cell_of_row _ _ 1 _ _ _ rkl; have el0 := h9.bx.2.1 0 (by simp); have el1 := h9.bx.2.1 1 (by simp); have el2 := h9.bx.2.1 2 (by simp); have el3 := h9.bx.2.1 3 (by simp); have el4 := h9.bx.2.1 4 (by simp))
          refine bodyPost_ret (v := .tuple #[.agg #[.int .i64 0, .int .i64 0], .slice none 0 0, .int .i64 69]) (results_cell3 Tryz.results90 _ _ (W.heap.size + 1) 88 _ (0, 0) _ rfl (row_two rkl _ _) Tryz.underlying88 rfl info_kd) rfl ?_
          rw [← hinvH.out, hwH.out]
          exact h9.err (er := ([], 69)) (pt_nil _ _)
        | true =>
          rw [if_pos rfl] at hw
          have hwH := Hid.mk hw
          clear hw
          go_wp2_with (go_at_call 99; refine hlf.mono ?_; rintro e w9 ⟨rfl, hb9⟩; have hB9 : Below w9.heap.size w9 (w9.alloc (.cells #[.int .i64 k.1, .int .i64 k.2] 88)) := (Below.refl _ _).alloc (Nat.le_refl _) _; have h9 := (hSr.bel hb9).bel hB9; have rkl := h9.kr; have fkl0 := frozen_of_row _ _ 0 _ _ rkl; have fkl1 := frozen_of_row _ _ 1 _ _ rkl; have ckl0 := cell_of_row _ _ 0 _ _ _ rkl; have ckl1 := cell_of_row _ _ 1 _ _ _ rkl; have el0 := h9.bx.2.1 0 (by simp); have el1 := h9.bx.2.1 1 (by simp); have el2 := h9.bx.2.1 2 (by simp); have el3 := h9.bx.2.1 3 (by simp); have el4 := h9.bx.2.1 4 (by simp))
          refine bodyPost_ret (v := .tuple #[.agg #[.int .i64 k.1, .int .i64 k.2], .slice none 0 0, .int .i64 0]) (results_cell3 Tryz.results90 _ _ (W.heap.size + 1) 88 _ (0, 0) _ rfl (row_two rkl _ _) Tryz.underlying88 rfl info_kd) rfl ?_
          rw [← hinvH.out, hwH.out]
          exact h9.fine k
      · have h0' : ((ks.length : Int) == 0) = false := by simp; exact fun e => h0 (by rw [e]; rfl)
        have har := harH.out
        have hllo := hllH.out
        have hnd := node_any x.op ks ak ck wr hRk (by omega) (by omega) har.1 (by omega) (by omega)
        have hw : wrK p x ks = if 0 ≤ (ndK x.op ks).2 then .error ([(ndK x.op ks).2.toNat], 69) else .ok (ndK x.op ks).1 := by unfold wrK; rw [if_neg h0]
        obtain ⟨lk, hlk⟩ : ∃ lk, ndK x.op ks = lk := ⟨_, rfl⟩
        rw [hlk] at hnd hw
        obtain ⟨k, bb⟩ := lk
        clear hlk h0 hil har hllo hRk
        by_cases hbb : 0 ≤ bb
        · obtain ⟨bn, rfl⟩ := Int.eq_ofNat_of_zero_le hbb
          rw [if_pos hbb, Int.toNat_natCast] at hw
          have hwH := Hid.mk hw
          have hbb' : (0 : Int) ≤ (bn : Int) := by omega
          clear hw hbb
          go_wp2_with (go_at_call 100; refine hnd.mono ?_; rintro e w9 ⟨rfl, hb9⟩; have hB9 : Below w9.heap.size w9 (w9.alloc (.cells #[.int .i64 k.1, .int .i64 k.2] 88)) := (Below.refl _ _).alloc (Nat.le_refl _) _; have h9 := (hSr.bel hb9).bel hB9; have rkl := h9.kr; have fkl0 := frozen_of_row _ _ 0 _ _ rkl; have fkl1 := frozen_of_row _ _ 1 _ _ rkl; have ckl0 := cell_of_row _ _ 0 _ _ _ rkl; have ckl1 := cell_of_row _ _ 1 _ _ _ rkl; have el0 := h9.bx.2.1 0 (by simp); have el1 := h9.bx.2.1 1 (by simp); have el2 := h9.bx.2.1 2 (by simp); have el3 := h9.bx.2.1 3 (by simp); have el4 := h9.bx.2.1 4 (by simp); have hBa := (Below.refl (w9.alloc (.cells #[.int .i64 k.1, .int .i64 k.2] 88)).heap.size (w9.alloc (.cells #[.int .i64 k.1, .int .i64 k.2] 88))).alloc (Nat.le_refl _) (.cells #[.int .i64 (bn : Int)] 3); have hA := h9.bel hBa; have rka := hA.kr; have fka0 := frozen_of_row _ _ 0 _ _ rka; have fka1 := frozen_of_row _ _ 1 _ _ rka; have cka0 := cell_of_row _ _ 0 _ _ _ rka; have cka1 := cell_of_row _ _ 1 _ _ _ rka; have ea0 := hA.bx.2.1 0 (by simp); have ea1 := hA.bx.2.1 1 (by simp); have ea2 := hA.bx.2.1 2 (by simp); have ea3 := hA.bx.2.1 3 (by simp); have ea4 := hA.bx.2.1 4 (by simp))
          refine bodyPost_ret (v := .tuple #[.agg #[.int .i64 0, .int .i64 0], .slice (some ⟨w9.heap.size + 1, 0, none⟩) 1 1, .int .i64 69]) (results_cell3 Tryz.results90 _ _ (W.heap.size + 1) 88 _ (0, 0) _ rfl (row_two rka _ _) Tryz.underlying88 rfl info_kd) rfl ?_
          rw [← hinvH.out, hwH.out]
          have hs9 := h9.sz
          have hq := own_lit (w9.alloc (.cells #[.int .i64 k.1, .int .i64 k.2] 88)) bn
          rw [show (w9.alloc (.cells #[.int .i64 k.1, .int .i64 k.2] 88)).heap.size = w9.heap.size + 1 by simp] at hq hs9
          exact hA.err (er := ([bn], 69)) (hq.mono (by omega))
        · rw [if_neg hbb] at hw
          have hwH := Hid.mk hw
          have hbb' : ¬ (0 : Int) ≤ bb := hbb
          clear hw hbb
          go_wp2_with (go_at_call 100; refine hnd.mono ?_; rintro e w9 ⟨rfl, hb9⟩; have hB9 : Below w9.heap.size w9 (w9.alloc (.cells #[.int .i64 k.1, .int .i64 k.2] 88)) := (Below.refl _ _).alloc (Nat.le_refl _) _; have h9 := (hSr.bel hb9).bel hB9; have rkl := h9.kr; have fkl0 := frozen_of_row _ _ 0 _ _ rkl; have fkl1 := frozen_of_row _ _ 1 _ _ rkl; have ckl0 := cell_of_row _ _ 0 _ _ _ rkl; have ckl1 := cell_of_row _ _ 1 _ _ _ rkl; have el0 := h9.bx.2.1 0 (by simp); have el1 := h9.bx.2.1 1 (by simp); have el2 := h9.bx.2.1 2 (by simp); have el3 := h9.bx.2.1 3 (by simp); have el4 := h9.bx.2.1 4 (by simp))
          refine bodyPost_ret (v := .tuple #[.agg #[.int .i64 k.1, .int .i64 k.2], .slice none 0 0, .int .i64 0]) (results_cell3 Tryz.results90 _ _ (W.heap.size + 1) 88 _ (0, 0) _ rfl (row_two rkl _ _) Tryz.underlying88 rfl info_kd) rfl ?_
          rw [← hinvH.out, hwH.out]
          exact h9.fine k

end Go.Proofs.YtmklkcefbabhbaaGreat.R6

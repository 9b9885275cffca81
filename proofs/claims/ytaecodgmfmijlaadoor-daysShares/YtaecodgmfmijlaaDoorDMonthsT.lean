import Derived.Test.YtaecodgmfmijlaaDoorDPieces
namespace Go.Proofs.YtaecodgmfmijlaaDoor
open Go.RowKit

/-- The months from m to hi, in order. -/
inductive Mo (hi : Int) : Int → List Pc → Prop
  | nil {m : Int} (h : hi < m) : Mo hi m []
  | cons {m : Int} (h : m ≤ hi) (k d : Int) (hk : D.At m k d) (en : Int) (he : en = if hi < m + D.ln k - (d + 1) then hi else m + D.ln k - (d + 1)) {l : List Pc} (hl : Mo hi (en + 1) l) : Mo hi m (⟨1900 + k / 12, k % 12 + 1, d + 1, en - m + 1⟩ :: l)

theorem mo_en {hi m k d : Int} (h : m ≤ hi) (hk : D.At m k d) : m ≤ (if hi < m + D.ln k - (d + 1) then hi else m + D.ln k - (d + 1)) ∧ (if hi < m + D.ln k - (d + 1) then hi else m + D.ln k - (d + 1)) ≤ hi := by
  have := hk.d1
  split <;> omega

theorem mo_ex (hi : Int) (hhi : hi ≤ 109572) : ∀ (n : Nat) (m : Int), 0 ≤ m → (hi - m + 1).toNat ≤ n → ∃ l, Mo hi m l
  | 0, m, _, hn => ⟨[], .nil (by omega)⟩
  | n + 1, m, h0, hn => by
    by_cases c : m ≤ hi
    · obtain ⟨k, d, hk⟩ := D.at_ex m h0 (by omega)
      have e := mo_en c hk
      obtain ⟨l, hl⟩ := mo_ex hi hhi n ((if hi < m + D.ln k - (d + 1) then hi else m + D.ln k - (d + 1)) + 1) (by omega) (by omega)
      exact ⟨_, .cons c k d hk _ rfl hl⟩
    · exact ⟨[], .nil (by omega)⟩

theorem Mo.len {hi m : Int} {l : List Pc} (h : Mo hi m l) (hhi : hi ≤ 109572) : ∀ k : Int, 0 ≤ k → k ≤ 3600 → D.bg k ≤ m → (l.length : Int) ≤ 3600 - k := by
  induction h with
  | nil h => intro k k0 k1 hk; simp; omega
  | @cons m h k' d hk' en he l hl ih =>
    intro k k0 k1 hk
    have hb := hk'.hi
    have hk1 := hk'.k1
    have hkk : k ≤ k' := by
      by_cases c : k ≤ k'
      · exact c
      · have := D.bg_mono (show k' + 1 ≤ k by omega)
        omega
    by_cases c : hi < m + D.ln k' - (d + 1)
    · rw [if_pos c] at he
      subst he
      cases hl with
      | nil => simp; omega
      | cons h' => omega
    · rw [if_neg c] at he
      have hs := D.bg_succ k'
      have heq := hk'.eq
      have := ih (k' + 1) (by have := hk'.k0; omega) (by omega) (by omega)
      simp
      omega

def cutP (most : Int) (l : List Pc) : List Pc := if 0 < most then l.take most.toNat else l

set_option maxRecDepth 4000 in
set_option maxHeartbeats 4000000 in
theorem months_taken (n1 gv gw gl gm g1 g2 n0 : Nat) (most lo hi : Int) (hlo : 0 ≤ lo) (hhi : hi ≤ 109572) (full : List Pc) (hfull : Mo hi lo full) (W : World) (hM : Mon W) (hn0 : 0 < n0) (hg2 : g2 < n0) (q1 : n0 ≤ gv) (q2 : n0 ≤ gw) (q3 : n0 ≤ gl) (q4 : n0 ≤ gm)
    (c1 : W.cell? ⟨g1, 0, none⟩ = some (.int .i64 lo)) (c2 : W.cell? ⟨g2, 0, none⟩ = some (.int .i64 hi)) (hT : Taken n1 gv gw gl gm most false [] W) :
    Calls Tryd.prog 21 #[.func (.func 23) #[] #[.pointer (some ⟨gv, 0, none⟩), .pointer (some ⟨gw, 0, none⟩), .pointer (some ⟨gl, 0, none⟩), .pointer (some ⟨gm, 0, none⟩)], .pointer (some ⟨g1, 0, none⟩), .pointer (some ⟨g2, 0, none⟩)] W
      fun e W' => (∃ v, e = .returned v) ∧ (∃ fl, Taken n1 gv gw gl gm most fl (cutP most full) W') ∧ Below n0 W W' := by
  have hlen := hfull.len hhi 0 (by omega) (by omega) (by rw [D.bg_0]; exact hlo)
  go_enter Tryd.func21, Tryd.ntmps21
  go_wp2
  go_loopw [4] (fun x wr => ∃ (m : Int) (pre rest : List Pc), x = .int .i64 m ∧ lo ≤ m ∧ Hid (full = pre ++ rest) ∧ Hid (Mo hi m rest) ∧ Hid (most ≤ 0 ∨ (pre.length : Int) < most) ∧ Taken n1 gv gw gl gm most false pre wr ∧ Below n0 W wr) (fun x _ => (109574 - intOf x).toNat)
  case atStart => exact ⟨lo, [], full, rfl, by omega, rfl, hfull, by unfold Hid; simp; omega, hT, Below.refl _ _⟩
  case round =>
    obtain ⟨m, pre, rest, rfl, m0, hfu, hmo, hmost, hTr, hBr⟩ := hrel
    have hMr := hM.low hBr hn0
    have hc2 := (hBr.cell (p := ⟨g2, 0, none⟩) hg2).trans c2
    by_cases hle : m ≤ hi
    · obtain ⟨k, d, hk, en, he, l, rfl, hl⟩ : ∃ k d, ∃ _ : D.At m k d, ∃ en, ∃ _ : en = (if hi < m + D.ln k - (d + 1) then hi else m + D.ln k - (d + 1)), ∃ l, rest = ⟨1900 + k / 12, k % 12 + 1, d + 1, en - m + 1⟩ :: l ∧ Hid (Mo hi (en + 1) l) := by
        cases hmo.out with
        | nil h => omega
        | cons h k d hk en he hl => exact ⟨k, d, hk, en, he, _, rfl, hl⟩
      have he2 := mo_en hle hk
      rw [← he] at he2
      obtain ⟨en0, en1⟩ := he2
      have hDa := dateOf_any m k d hk wr hMr
      have hLa := fun W hM => last_any (1900 + k / 12) (k % 12 + 1) W hM (D.ln k) rfl
      have dd0 := hk.d0
      have dd1 := hk.d1
      have lb := D.ln_bd k
      have hpl : pre.length + 1 < 4000 := by
        have := congrArg List.length hfu.out
        simp at this
        omega
      generalize 1900 + k / 12 = Y at *
      generalize k % 12 + 1 = M at *
      obtain ⟨K, hK⟩ : ∃ K, K = d + 1 := ⟨_, rfl⟩
      rw [← hK] at hDa he hfu
      have k0 : 1 ≤ K := by omega
      have k1 : K ≤ D.ln k := by omega
      generalize D.ln k = L at *
      clear hK hk dd0 dd1 hmo
      go_wp2_with (go_at_call 22; refine hDa.mono ?_; clear hDa; rintro _ w1 ⟨rfl, hb1⟩)
      have hX := Box3.new w1 (.int .i64 Y) (.int .i64 M) (.int .i64 K) 33
      have hB2 := below_step hb1 ((Below.refl w1.heap.size w1).alloc (Nat.le_refl _) (.cells #[.int .i64 Y, .int .i64 M, .int .i64 K] 33))
      have hM2 := hMr.later hB2
      have hc3 : (w1.alloc (.cells #[.int .i64 Y, .int .i64 M, .int .i64 K] 33)).cell? ⟨g2, 0, none⟩ = some (.int .i64 hi) := (hB2.cell (p := ⟨g2, 0, none⟩) (World.block_lt_of_cell? _ _ hc2)).trans hc2
      generalize w1.alloc (.cells #[.int .i64 Y, .int .i64 M, .int .i64 K] 33) = W2 at *
      obtain ⟨z0, z1, z2, -⟩ := id hX
      have e1 : IntKind.i64.wrap (m + L) = m + L := by rw [IntKind.wrap_i64]; omega
      have e2 : IntKind.i64.wrap (m + L - K) = m + L - K := by rw [IntKind.wrap_i64]; omega
      have hen : (if hi < m + L - K then hi else m + L - K) = en := he.symm
      clear he
      go_quiet ((go_at_call 12; exact Calls.quiet_of_same (hLa _ (hM2.drewN _))))
      have hB3 := below_drewN hB2 nq
      have hX3 := hX.drewN nq
      have hc4 : (W2.drewN nq).cell? ⟨g2, 0, none⟩ = some (.int .i64 hi) := (hB3.cell (p := ⟨g2, 0, none⟩) (World.block_lt_of_cell? _ _ hc2)).trans hc2
      clear hX hM2 hc3 z0 z1 z2 hLa e1 e2 hen hB2 hb1
      generalize W2.drewN nq = W3 at *
      have hT3 := hTr.later hB3
      obtain ⟨z0, z1, z2, -⟩ := id hX3
      have e3 : wrap64 (en - m) = en - m := wrap64_id (by omega) (by omega)
      have e4 : wrap64 (en - m + 1) = en - m + 1 := wrap64_id (by omega) (by omega)
      have e5 : wrap64 (en + 1) = en + 1 := wrap64_id (by omega) (by omega)
      obtain ⟨fl, hfl⟩ : ∃ fl, Hid (fl = decide ((pre.length : Int) + 1 = most)) := ⟨_, rfl⟩
      have hY := take_any n1 gv gw gl gm most pre ⟨Y, M, K, en - m + 1⟩ W3 hT3 hpl fl hfl
      have hB30 : Below n0 W W3 := hBr.trans (hB3.mono (Nat.le_trans q1 (Nat.le_trans (Nat.le_of_lt hTr.lv) hTr.sz)))
      cases fl with
      | false =>
        go_wp2_with (go_at_call 23; refine hY.mono ?_; clear hY; rintro _ W4 ⟨rfl, hT4, hk4⟩)
        refine ⟨⟨en + 1, pre ++ [⟨Y, M, K, en - m + 1⟩], l, rfl, by omega, ?_, hl, ?_, hT4, hB30.trans (hk4 n0 q1 q2 q3 q4)⟩, by simp [intOf]; omega⟩
        · unfold Hid
          rw [hfu.out]
          simp
        · have a := hmost.out
          have b : ¬ (pre.length : Int) + 1 = most := of_decide_eq_false hfl.out.symm
          unfold Hid
          simp
          omega
      | true =>
        go_wp2_with (go_at_call 23; refine hY.mono ?_; clear hY; rintro _ W4 ⟨rfl, hT4, hk4⟩)
        refine bodyPost_ret (results_none rfl _ _ _) rfl ?_
        refine ⟨⟨_, rfl⟩, ⟨true, ?_⟩, hB30.trans (hk4 n0 q1 q2 q3 q4)⟩
        have b : (pre.length : Int) + 1 = most := of_decide_eq_true hfl.out.symm
        have e : cutP most full = pre ++ [⟨Y, M, K, en - m + 1⟩] := by
          unfold cutP
          rw [if_pos (by omega), hfu.out, show most.toNat = pre.length + 1 by omega, List.take_append, List.take_of_length_le (by omega)]
          simp
        rw [e]
        exact hT4
    · obtain rfl : rest = [] := by
        cases hmo.out with
        | nil h => rfl
        | cons h => omega
      go_wp2
      go_end0
      refine ⟨⟨_, rfl⟩, .inl ?_, hBr⟩
      have e : cutP most full = pre := by
        have := hfu.out
        have := hmost.out
        simp only [List.append_nil] at *
        subst_vars
        unfold cutP
        split
        · exact List.take_of_length_le (by omega)
        · rfl
      rw [e]
      exact hTr

theorem own_base {w : World} {b b' n size : Nat} {e : TypeId} {v : Value} {xs : List Value} (h : w.ownsRow b e size v n xs) (hb : b' ≤ b) : w.ownsRow b' e size v n xs := by
  obtain ⟨hl, h | ⟨g, cap, cur, h1, h2, r⟩⟩ := h
  · exact ⟨hl, .inl h⟩
  · exact ⟨hl, .inr ⟨g, cap, cur, h1, Nat.le_trans hb h2, r⟩⟩

theorem fn_nil (fn : Fn) (a b : Array Value) (w : World) : Sem.run Tryd.prog (binOp .eql 25 (.func fn a b) .nilFunc) w = .ok (.bool false) w := by kernel_rfl

set_option maxRecDepth 4000 in
set_option maxHeartbeats 4000000 in
theorem pieces_any (g1 g2 : Nat) (most lo hi : Int) (hlo : 0 ≤ lo) (hhi : hi ≤ 109572) (full : List Pc) (hfull : Mo hi lo full) (W : World) (hM : Mon W) (c1 : W.cell? ⟨g1, 0, none⟩ = some (.int .i64 lo)) (c2 : W.cell? ⟨g2, 0, none⟩ = some (.int .i64 hi)) :
    Calls Tryd.prog 8 #[.func (.func 21) #[] #[.pointer (some ⟨g1, 0, none⟩), .pointer (some ⟨g2, 0, none⟩)], .int .i64 most] W
      fun e W' => ∃ v, e = .returned (.tuple #[v, .bool true]) ∧ W'.ownsRow W.heap.size 35 4 v (cutP most full).length (flatP (cutP most full)) ∧ Below W.heap.size W W' := by
  have hnil := fn_nil
  have b1 := Bx.new W (.int .i64 most) 3
  have b2 := Bx.new (W.alloc (.cells #[.int .i64 most] 3)) (.slice none 0 0) 27
  have b3 := Bx.new ((W.alloc (.cells #[.int .i64 most] 3)).alloc (.cells #[.slice none 0 0] 27)) (.bool false) 4
  have b4 := Bx.new (((W.alloc (.cells #[.int .i64 most] 3)).alloc (.cells #[.slice none 0 0] 27)).alloc (.cells #[.bool false] 4)) (.bool true) 4
  simp only [World.size_alloc] at b1 b2 b3 b4
  have hB4 : Below W.heap.size W ((((W.alloc (.cells #[.int .i64 most] 3)).alloc (.cells #[.slice none 0 0] 27)).alloc (.cells #[.bool false] 4)).alloc (.cells #[.bool true] 4)) := ((((Below.refl _ W).alloc (Nat.le_refl _) _).alloc (by simp) _).alloc (by simp; omega) _).alloc (by simp; omega) _
  have al : ∀ (X : World) (o : Obj), Below X.heap.size X (X.alloc o) := fun X o => (Below.refl _ X).alloc (Nat.le_refl _) o
  have hT : Taken (W.heap.size + 1 + 1 + 1 + 1) (W.heap.size + 1 + 1) (W.heap.size + 1 + 1 + 1) (W.heap.size + 1) W.heap.size most false [] ((((W.alloc (.cells #[.int .i64 most] 3)).alloc (.cells #[.slice none 0 0] 27)).alloc (.cells #[.bool false] 4)).alloc (.cells #[.bool true] 4)) :=
    ⟨by omega, by omega, by omega, by omega, by omega, by simp, b3.later (al _ _), b4, ((b1.later (al _ _)).later (al _ _)).later (al _ _), _, (b2.later (al _ _)).later (al _ _), World.ownsRow_nil _ _ _ _⟩
  have hm := months_taken (W.heap.size + 1 + 1 + 1 + 1) (W.heap.size + 1 + 1) (W.heap.size + 1 + 1 + 1) (W.heap.size + 1) W.heap.size g1 g2 W.heap.size most lo hi hlo hhi full hfull ((((W.alloc (.cells #[.int .i64 most] 3)).alloc (.cells #[.slice none 0 0] 27)).alloc (.cells #[.bool false] 4)).alloc (.cells #[.bool true] 4)) (hM.later hB4) hM.1 (World.block_lt_of_cell? _ _ c2) (by omega) (by omega) (by omega) (by omega)
    ((hB4.cell (p := ⟨g1, 0, none⟩) (World.block_lt_of_cell? _ _ c1)).trans c1) ((hB4.cell (p := ⟨g2, 0, none⟩) (World.block_lt_of_cell? _ _ c2)).trans c2) hT
  clear b1 b2 b3 b4 hT al
  go_enter Tryd.func8, Tryd.ntmps8
  go_wp2_with (go_at_call 21; refine hm.mono ?_; clear hm; rintro _ W5 ⟨⟨rv, rfl⟩, ⟨fl, hT5⟩, hB5⟩; obtain ⟨v, hv, ho⟩ := hT5.bl; have ⟨d1, e1⟩ := hv; have ⟨d2, e2⟩ := hT5.bw)
  go_quiet (fail)
  go_wp2
  go_ret2
  exact ⟨v, rfl, own_base (ho.kept (grown_of_below (below_drewN (Below.refl _ _) nq)) (by cases v.ownBlock <;> simp)) (by omega), below_drewN (hB4.trans hB5) nq⟩

end Go.Proofs.YtaecodgmfmijlaaDoor

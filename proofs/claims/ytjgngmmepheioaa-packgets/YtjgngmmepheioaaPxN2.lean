import Derived.Test.YtjgngmmepheioaaPxN
namespace Go.Proofs.Ytjgngmmepheioaa
open Go.RowKit

theorem and127 (k : Nat) (h : k < 256) : bits BinOp.and IntKind.u8 (k : Int) 127 = ((k % 128 : Nat) : Int) := by
  have := bits_mask .u8 8 (by decide) (fun n h0 h1 => by rw [IntKind.wrap_u8]; omega) 7 (by decide) (k : Int) (by omega) (by omega)
  rw [show (127 : Int) = 2 ^ 7 - 1 from by decide, this]
  omega
theorem pow128 (i : Nat) : (2 : Int) ^ (7 * i) = ((128 ^ i : Nat) : Int) := by
  rw [show (128 : Nat) ^ i = 2 ^ (7 * i) from by rw [Nat.pow_mul]]
  simp
theorem mul7 {k i : Nat} (hi : i ≤ 9) (h9 : i = 9 → k ≤ 1) : k % 128 * 128 ^ i < 18446744073709551616 := by
  by_cases h : i = 9
  · subst h
    have := h9 rfl
    have h2 : k % 128 ≤ 1 := by omega
    have := Nat.mul_le_mul_right (128 ^ 9) h2
    have e : (128 : Nat) ^ 9 = 9223372036854775808 := by decide
    omega
  · have h1 : 128 ^ i ≤ 128 ^ 8 := Nat.pow_le_pow_right (by decide) (by omega)
    have e : (128 : Nat) ^ 8 = 72057594037927936 := by decide
    have h2 : k % 128 ≤ 127 := by omega
    have := Nat.mul_le_mul h2 h1
    omega
theorem or7 {n k i : Nat} (hn : n < 128 ^ i) (hi : i ≤ 9) (h9 : i = 9 → k ≤ 1) : bits BinOp.or IntKind.u64 (n : Int) (IntKind.u64.wrap ((k : Int) % 128 * 2 ^ (7 * i))) = ((n + k % 128 * 128 ^ i : Nat) : Int) := by
  have hm := mul7 hi h9
  have e1 : (k : Int) % 128 * 2 ^ (7 * i) = ((k % 128 * 128 ^ i : Nat) : Int) := by
    rw [pow128, Int.natCast_mul]
    congr 1
  have hp : 128 ^ i ≤ 128 ^ 9 := Nat.pow_le_pow_right (by decide) hi
  have e9 : (128 : Nat) ^ 9 = 9223372036854775808 := by decide
  rw [e1, IntKind.wrap_u64, Int.emod_eq_of_lt (by omega) (by omega)]
  rw [bits_join_low .u64 64 (by decide) wraps_u64 (7 * i) (n : Int) ((k % 128 * 128 ^ i : Nat) : Int) (by omega) (by rw [pow128]; omega) (by omega) (by omega) ?_ (by omega)]
  · omega
  · rw [pow128, ← Int.natCast_emod, Nat.mul_mod_left]
    rfl

theorem nGo_cons {len at_ i n : Nat} {x : UInt8} {r : List UInt8} : nGo len at_ (x :: r) i n = if (i = 9 ∧ 1 < x.toNat) ∨ (0 < i ∧ x.toNat = 0) then .error (at_, 71) else if x.toNat < 128 then .ok (n + x.toNat % 128 * 128 ^ i, at_ + (i + 1)) else nGo len at_ r (i + 1) (n + x.toNat % 128 * 128 ^ i) := rfl
set_option maxRecDepth 8000 in
set_option maxHeartbeats 4000000 in
theorem number_some (c : Rc) (W : World) {at_ ft er : Nat} (h : RS c W at_ ft er) (hat : at_ < c.l.length) : Calls Try.prog 67 #[.pointer (some ⟨c.r, 0, none⟩)] W (Xc rN V64 c at_ ft er W) := by
  have c0 := h.c0
  have c1 := h.c1
  have hln := h.ln
  have hlc := h.lc
  obtain rfl : er = 0 := by
    apply Classical.byContradiction
    intro he
    have := h.en he
    omega
  have a0 : (0 : Int) ≤ (at_ : Int) := by omega
  have a1 : (at_ : Int) ≤ (c.l.length : Int) := by omega
  have a2 : (c.l.length : Int) ≤ (c.cap : Int) := by omega
  have hcap : ¬ c.cap = at_ := by omega
  have hto := fun p n V W' (hg : W.grownBy V (some c.r)) (hM : rN c.l at_ = .error (p, n)) (hn : n ≠ 0) (hf : Fl c p n ft 0 V W') => Fl.to (M := rN) (V := V64) (at_ := at_) (v := .int .u64 0) 0 hf hg ⟨rfl, by decide⟩ (fun _ => hM) hn
  rcases h.by_ with hnil | ⟨b, off, ha, hlt, hne, hc⟩
  · rw [hnil] at hat; simp at hat
  · rw [ha] at c0
    go_enter Try.func67, Try.ntmps67
    go_wp2
    go_quiet (fail)
    go_wp2
    clear c0 c1
    have hst : ∃ (i n : Nat), i ≤ 9 ∧ at_ + i ≤ c.l.length ∧ (Value.int .i64 0) = .int .i64 (i : Int) ∧ (Value.int .u64 0) = .int .u64 (n : Int) ∧ n < 128 ^ i ∧ Hid (rN c.l at_ = nGo c.l.length at_ (c.l.drop (at_ + i)) i n) ∧ RS c (W.drewN nq) at_ ft 0 ∧ W.grownBy (W.drewN nq) (some c.r) := ⟨0, 0, by omega, by omega, rfl, rfl, by decide, ⟨rfl⟩, h.drew nq, gr_drew _ _ _⟩
    clear h
    go_loopw [3, 16] (fun nv iv wr => ∃ (i n : Nat), i ≤ 9 ∧ at_ + i ≤ c.l.length ∧ iv = .int .i64 (i : Int) ∧ nv = .int .u64 (n : Int) ∧ n < 128 ^ i ∧ Hid (rN c.l at_ = nGo c.l.length at_ (c.l.drop (at_ + i)) i n) ∧ RS c wr at_ ft 0 ∧ W.grownBy wr (some c.r)) (fun _ iv _ => c.l.length - at_ - (intOf iv).toNat)
    case atStart => exact hst
    case round =>
      clear hst
      obtain ⟨i, n, hi9, hil, rfl, rfl, hv, hM, hR, hG⟩ := hrel
      by_cases hlti : i < c.l.length - at_
      · have hlt' : (i : Int) < ((c.l.length - at_ : Nat) : Int) := by omega
        have hai : at_ + i < c.l.length := by omega
        have ci := (gr_cell hG hlt (by simp; exact hne) (off + (at_ + i))).trans (hc (at_ + i) hai)
        rw [← Nat.add_assoc] at ci
        have hi0 : (0 : Int) ≤ (i : Int) := by omega
        have hM : Hid (rN c.l at_ = nGo c.l.length at_ (c.l[at_ + i] :: c.l.drop (at_ + (i + 1))) i n) := ⟨by
          rw [hM.out, List.drop_eq_getElem_cons hai]
          rfl⟩
        generalize c.l[at_ + i] = x at *
        obtain ⟨k, hk⟩ : ∃ k, x.toNat = k := ⟨_, rfl⟩
        have hk256 : k < 256 := by rw [← hk]; exact x.toNat_lt
        rw [hk] at ci
        have hM := Hid.mk (hM.out.trans nGo_cons)
        rw [hk] at hM
        have c1 := hR.c1
        have f1 := hR.fz 1
        by_cases hbad : (i = 9 ∧ 1 < k) ∨ (0 < i ∧ k = 0)
        · have hfl := fail_any c at_ 71 (by omega) (by omega) wr hR
          have hto' := fun W' hf => hto at_ 71 wr W' hG (by rw [hM.out, if_pos hbad]) (by decide) hf
          clear hto hM hk256 hR hG hc f1
          by_cases h9 : i = 9
          · have h9' : ((i : Int) == 9) = true := by rw [h9]; rfl
            by_cases hk1 : 1 < k
            · have hk1' : (1 : Int) < (k : Int) := by omega
              clear h9 hbad hk
              go_wp2_with (go_at_call 50; refine hfl.mono ?_; rintro e w1 ⟨rfl, hb1⟩)
              exact bodyPost_ret (v := .int .u64 0) (by simp [results, Try.results67, go_sem]) rfl (hto' _ hb1)
            · have hk1' : ¬ (1 : Int) < (k : Int) := by omega
              have hk0 : ((k : Int) == 0) = true := by have : k = 0 := by omega
                                                       rw [this]; rfl
              have hi1 : (0 : Int) < (i : Int) := by omega
              clear h9 hbad hk
              go_wp2_with (go_at_call 50; refine hfl.mono ?_; rintro e w1 ⟨rfl, hb1⟩)
              exact bodyPost_ret (v := .int .u64 0) (by simp [results, Try.results67, go_sem]) rfl (hto' _ hb1)
          · have h9' : ((i : Int) == 9) = false := by simp; omega
            have hk0 : ((k : Int) == 0) = true := by have : k = 0 := by omega
                                                     rw [this]; rfl
            have hi1 : (0 : Int) < (i : Int) := by omega
            clear h9 hbad hk
            go_wp2_with (go_at_call 50; refine hfl.mono ?_; rintro e w1 ⟨rfl, hb1⟩)
            exact bodyPost_ret (v := .int .u64 0) (by simp [results, Try.results67, go_sem]) rfl (hto' _ hb1)
        · have ha7 := and127 k hk256
          have hor := or7 (n := n) (k := k) hv hi9 (fun h => by omega)
          have hm7 := mul7 (k := k) hi9 (fun h => by omega)
          have hpw : 128 ^ i ≤ 9223372036854775808 := Nat.le_trans (Nat.pow_le_pow_right (by decide) hi9) (by decide)
          have hdone : ∀ m, n + k % 128 * 128 ^ i = m → k < 128 → Xc rN V64 c at_ ft 0 W (.returned (.int .u64 (m : Int))) (wr.setCell ⟨c.r, 1, none⟩ (.int .i64 ((at_ + (i + 1) : Nat) : Int))) := fun m hm hk8 => by
            refine ⟨m, _, at_ + (i + 1), ft, 0, rfl, ⟨rfl, ?_⟩, hR.set1 (by omega) (fun he => absurd rfl he), hG.trans (gr_set _ _ _ _), ?_⟩
            · by_cases h9 : i = 9
              · have hk1 : k = 1 := by omega
                subst h9 hk1
                have e9 : (128 : Nat) ^ 9 = 9223372036854775808 := by decide
                omega
              · have h1 : 128 ^ i ≤ 128 ^ 8 := Nat.pow_le_pow_right (by decide) (by omega)
                have e : (128 : Nat) ^ 8 = 72057594037927936 := by decide
                have h3 := Nat.mul_le_mul (show k % 128 ≤ 127 by omega) h1
                omega
            · rw [hM.out, if_neg hbad, if_pos hk8, hm]
              exact Xp.pure
          have hnext : ¬ k < 128 → n + k % 128 * 128 ^ i < 128 ^ (i + 1) ∧ Hid (rN c.l at_ = nGo c.l.length at_ (c.l.drop (at_ + (i + 1))) (i + 1) (n + k % 128 * 128 ^ i)) := fun h8 => by
            refine ⟨?_, ⟨by rw [hM.out, if_neg hbad, if_neg h8]⟩⟩
            have h3 := Nat.mul_le_mul_right (128 ^ i) (show k % 128 ≤ 127 by omega)
            rw [Nat.pow_succ]
            omega
          have hat2 : ((at_ + (i + 1) : Nat) : Int) = (at_ : Int) + ((i : Int) + 1) := by omega
          rw [hat2] at hdone
          have hnn : ¬ (i = 9 ∧ ¬ k < 128) := by omega
          have hor' : Hid (bits BinOp.or IntKind.u64 (n : Int) (IntKind.u64.wrap ((k : Int) % 128 * 2 ^ (7 * i))) = ((n + k % 128 * 128 ^ i : Nat) : Int)) := ⟨hor⟩
          clear hto hM hc hat2 hm7 hpw hv hk
          by_cases h9 : i = 9
          · have h9' : ((i : Int) == 9) = true := by rw [h9]; rfl
            have hk1' : ¬ (1 : Int) < (k : Int) := by omega
            have hi1 : (0 : Int) < (i : Int) := by omega
            have hk0 : ((k : Int) == 0) = false := by simp; omega
            have hk8 : k < 128 := by omega
            have hk8' : (k : Int) < 128 := by omega
            clear h9
            obtain ⟨m, hm⟩ : ∃ m, n + k % 128 * 128 ^ i = m := ⟨_, rfl⟩
            rw [hm] at hor
            have hfin := hdone m hm hk8
            clear hm hdone hnext hbad
            go_wp2
            exact bodyPost_ret (v := .int .u64 (m : Int)) (by simp [results, Try.results67, go_sem]) rfl hfin
          · have h9' : ((i : Int) == 9) = false := by simp; omega
            by_cases h0 : 0 < i
            · have hi1 : (0 : Int) < (i : Int) := by omega
              have hk0 : ((k : Int) == 0) = false := by simp; omega
              by_cases hk8 : k < 128
              · have hk8' : (k : Int) < 128 := by omega
                obtain ⟨m, hm⟩ : ∃ m, n + k % 128 * 128 ^ i = m := ⟨_, rfl⟩
                rw [hm] at hor
                have hfin := hdone m hm hk8
                clear hm hdone hnext hbad
                go_wp2
                exact bodyPost_ret (v := .int .u64 (m : Int)) (by simp [results, Try.results67, go_sem]) rfl hfin
              · have hk8' : ¬ (k : Int) < 128 := by omega
                have hn2 := hnext hk8
                clear hor hdone hnext hbad
                go_wp2
                go_roundw
                case rel => exact ⟨i + 1, n + k % 128 * 128 ^ i, by omega, by omega, by go_num, by rw [hor'.out], hn2.1, hn2.2, hR, hG⟩
                case measure => simp [intOf]; omega
            · have hi1 : ¬ (0 : Int) < (i : Int) := by omega
              by_cases hk8 : k < 128
              · have hk8' : (k : Int) < 128 := by omega
                obtain ⟨m, hm⟩ : ∃ m, n + k % 128 * 128 ^ i = m := ⟨_, rfl⟩
                rw [hm] at hor
                have hfin := hdone m hm hk8
                clear hm hdone hnext hbad
                go_wp2
                exact bodyPost_ret (v := .int .u64 (m : Int)) (by simp [results, Try.results67, go_sem]) rfl hfin
              · have hk8' : ¬ (k : Int) < 128 := by omega
                have hn2 := hnext hk8
                clear hor hdone hnext hbad
                go_wp2
                go_roundw
                case rel => exact ⟨i + 1, n + k % 128 * 128 ^ i, by omega, by omega, by go_num, by rw [hor'.out], hn2.1, hn2.2, hR, hG⟩
                case measure => simp [intOf]; omega
      · have hlt' : ¬ (i : Int) < ((c.l.length - at_ : Nat) : Int) := by omega
        have hsh := short_any c wr hR
        have hto' := fun W' hf => hto c.l.length 70 wr W' hG (by rw [hM.out, List.drop_eq_nil_of_le (by omega)]; rfl) (by decide) hf
        clear hto hc hM
        go_wp2_with (go_at_call 65; refine hsh.mono ?_; rintro e w1 ⟨rfl, hb1⟩)
        exact bodyPost_ret (v := .int .u64 0) (by simp [results, Try.results67, go_sem]) rfl (hto' _ hb1)
theorem number_any (c : Rc) (W : World) {at_ ft er : Nat} (h : RS c W at_ ft er) : Calls Try.prog 67 #[.pointer (some ⟨c.r, 0, none⟩)] W (Xc rN V64 c at_ ft er W) := by
  have := h.le
  by_cases hat : at_ = c.l.length
  · exact number_none c W h hat
  · exact number_some c W h (by omega)

end Go.Proofs.Ytjgngmmepheioaa

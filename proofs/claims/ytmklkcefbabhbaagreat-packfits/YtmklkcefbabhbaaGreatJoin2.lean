import Derived.Test.YtmklkcefbabhbaaGreatJoin1
import Derived.Laws.IdiomStrings
namespace Go.Proofs.YtmklkcefbabhbaaGreat
open Go.RowKit

theorem and127 (k : Nat) (h : k < 256) : bits BinOp.and IntKind.u8 (k : Int) 127 = ((k % 128 : Nat) : Int) := by
  have := bits_mask .u8 8 (by decide) (fun n h0 h1 => by rw [IntKind.wrap_u8]; omega) 7 (by decide) (k : Int) (by omega) (by omega)
  rw [show (127 : Int) = 2 ^ 7 - 1 from by decide, this]
  omega
theorem pow128 (i : Nat) : (2 : Int) ^ (7 * i) = ((128 ^ i : Nat) : Int) := by
  rw [show (128 : Nat) ^ i = 2 ^ (7 * i) from by rw [Nat.pow_mul]]
  simp
theorem mul7 {k i : Nat} (hi : i ≤ 9) (h9 : i = 9 → k ≤ 1) : k % 128 * 128 ^ i < 18446744073709551616 := by
  by_cases h : i = 9
  · subst h
    have := h9 rfl
    have h2 : k % 128 ≤ 1 := by omega
    have := Nat.mul_le_mul_right (128 ^ 9) h2
    have e : (128 : Nat) ^ 9 = 9223372036854775808 := by decide
    omega
  · have h1 : 128 ^ i ≤ 128 ^ 8 := Nat.pow_le_pow_right (by decide) (by omega)
    have e : (128 : Nat) ^ 8 = 72057594037927936 := by decide
    have h2 : k % 128 ≤ 127 := by omega
    have := Nat.mul_le_mul h2 h1
    omega
theorem or7 {n k i : Nat} (hn : n < 128 ^ i) (hi : i ≤ 9) (h9 : i = 9 → k ≤ 1) : bits BinOp.or IntKind.u64 (n : Int) (IntKind.u64.wrap ((k : Int) % 128 * 2 ^ (7 * i))) = ((n + k % 128 * 128 ^ i : Nat) : Int) := by
  have hm := mul7 hi h9
  have e1 : (k : Int) % 128 * 2 ^ (7 * i) = ((k % 128 * 128 ^ i : Nat) : Int) := by
    rw [pow128, Int.natCast_mul]
    congr 1
  have hp : 128 ^ i ≤ 128 ^ 9 := Nat.pow_le_pow_right (by decide) hi
  have e9 : (128 : Nat) ^ 9 = 9223372036854775808 := by decide
  rw [e1, IntKind.wrap_u64, Int.emod_eq_of_lt (by omega) (by omega)]
  rw [bits_join_low .u64 64 (by decide) wraps_u64 (7 * i) (n : Int) ((k % 128 * 128 ^ i : Nat) : Int) (by omega) (by rw [pow128]; omega) (by omega) (by omega) ?_ (by omega)]
  · omega
  · rw [pow128, ← Int.natCast_emod, Nat.mul_mod_left]
    rfl

theorem nGo_cons {len at_ i n : Nat} {x : UInt8} {r : List UInt8} : nGo len at_ (x :: r) i n = if (i = 9 ∧ 1 < x.toNat) ∨ (0 < i ∧ x.toNat = 0) then .error (at_, 71) else if x.toNat < 128 then .ok (n + x.toNat % 128 * 128 ^ i, at_ + (i + 1)) else nGo len at_ r (i + 1) (n + x.toNat % 128 * 128 ^ i) := rfl
set_option maxRecDepth 8000 in
set_option maxHeartbeats 4000000 in
theorem number_some (c : Rc) (W : World) {at_ ft er : Nat} (h : RS c W at_ ft er) (hat : at_ < c.l.length) : Calls Tryz.prog 81 #[.pointer (some ⟨c.r, 0, none⟩)] W (Xc rN V64 c at_ ft er W) := by
  have c0 := h.c0
  have c1 := h.c1
  have hln := h.ln
  have hlc := h.lc
  obtain rfl : er = 0 := by
    apply Classical.byContradiction
    intro he
    have := h.en he
    omega
  have a0 : (0 : Int) ≤ (at_ : Int) := by omega
  have a1 : (at_ : Int) ≤ (c.l.length : Int) := by omega
  have a2 : (c.l.length : Int) ≤ (c.cap : Int) := by omega
  have hcap : ¬ c.cap = at_ := by omega
  have hto := fun p n V W' (hg : W.grownBy V (some c.r)) (hM : rN c.l at_ = .error (p, n)) (hn : n ≠ 0) (hf : Fl c p n ft 0 V W') => Fl.to (M := rN) (V := V64) (at_ := at_) (v := .int .u64 0) 0 hf hg ⟨rfl, by decide⟩ (fun _ => hM) hn
  rcases h.by_ with hnil | ⟨b, off, ha, hlt, hne, hc⟩
  · rw [hnil] at hat; simp at hat
  · rw [ha] at c0
    go_enter Tryz.func81, Tryz.ntmps81
    go_wp2
    go_quiet (fail)
    go_wp2
    clear c0 c1
    have hst : ∃ (i n : Nat), i ≤ 9 ∧ at_ + i ≤ c.l.length ∧ (Value.int .i64 0) = .int .i64 (i : Int) ∧ (Value.int .u64 0) = .int .u64 (n : Int) ∧ n < 128 ^ i ∧ Hid (rN c.l at_ = nGo c.l.length at_ (c.l.drop (at_ + i)) i n) ∧ RS c (W.drewN nq) at_ ft 0 ∧ W.grownBy (W.drewN nq) (some c.r) := ⟨0, 0, by omega, by omega, rfl, rfl, by decide, ⟨rfl⟩, h.drew nq, gr_drew _ _ _⟩
    clear h
    go_loopw [3, 16] (fun nv iv wr => ∃ (i n : Nat), i ≤ 9 ∧ at_ + i ≤ c.l.length ∧ iv = .int .i64 (i : Int) ∧ nv = .int .u64 (n : Int) ∧ n < 128 ^ i ∧ Hid (rN c.l at_ = nGo c.l.length at_ (c.l.drop (at_ + i)) i n) ∧ RS c wr at_ ft 0 ∧ W.grownBy wr (some c.r)) (fun _ iv _ => c.l.length - at_ - (intOf iv).toNat)
    case atStart => exact hst
    case round =>
      clear hst
      obtain ⟨i, n, hi9, hil, rfl, rfl, hv, hM, hR, hG⟩ := hrel
      by_cases hlti : i < c.l.length - at_
      · have hlt' : (i : Int) < ((c.l.length - at_ : Nat) : Int) := by omega
        have hai : at_ + i < c.l.length := by omega
        have ci := (gr_cell hG hlt (by simp; exact hne) (off + (at_ + i))).trans (hc (at_ + i) hai)
        rw [← Nat.add_assoc] at ci
        have hi0 : (0 : Int) ≤ (i : Int) := by omega
        have hM : Hid (rN c.l at_ = nGo c.l.length at_ (c.l[at_ + i] :: c.l.drop (at_ + (i + 1))) i n) := ⟨by
          rw [hM.out, List.drop_eq_getElem_cons hai]
          rfl⟩
        generalize c.l[at_ + i] = x at *
        obtain ⟨k, hk⟩ : ∃ k, x.toNat = k := ⟨_, rfl⟩
        have hk256 : k < 256 := by rw [← hk]; exact x.toNat_lt
        rw [hk] at ci
        have hM := Hid.mk (hM.out.trans nGo_cons)
        rw [hk] at hM
        have c1 := hR.c1
        have f1 := hR.fz 1
        by_cases hbad : (i = 9 ∧ 1 < k) ∨ (0 < i ∧ k = 0)
        · have hfl := fail_any c at_ 71 (by omega) (by omega) wr hR
          have hto' := fun W' hf => hto at_ 71 wr W' hG (by rw [hM.out, if_pos hbad]) (by decide) hf
          clear hto hM hk256 hR hG hc f1
          by_cases h9 : i = 9
          · have h9' : ((i : Int) == 9) = true := by rw [h9]; rfl
            by_cases hk1 : 1 < k
            · have hk1' : (1 : Int) < (k : Int) := by omega
              clear h9 hbad hk
              go_wp2_with (go_at_call 48; refine hfl.mono ?_; rintro e w1 ⟨rfl, hb1⟩)
              exact bodyPost_ret (v := .int .u64 0) (by simp [results, Tryz.results81, go_sem]) rfl (hto' _ hb1)
            · have hk1' : ¬ (1 : Int) < (k : Int) := by omega
              have hk0 : ((k : Int) == 0) = true := by have : k = 0 := by omega
                                                       rw [this]; rfl
              have hi1 : (0 : Int) < (i : Int) := by omega
              clear h9 hbad hk
              go_wp2_with (go_at_call 48; refine hfl.mono ?_; rintro e w1 ⟨rfl, hb1⟩)
              exact bodyPost_ret (v := .int .u64 0) (by simp [results, Tryz.results81, go_sem]) rfl (hto' _ hb1)
          · have h9' : ((i : Int) == 9) = false := by simp; omega
            have hk0 : ((k : Int) == 0) = true := by have : k = 0 := by omega
                                                     rw [this]; rfl
            have hi1 : (0 : Int) < (i : Int) := by omega
            clear h9 hbad hk
            go_wp2_with (go_at_call 48; refine hfl.mono ?_; rintro e w1 ⟨rfl, hb1⟩)
            exact bodyPost_ret (v := .int .u64 0) (by simp [results, Tryz.results81, go_sem]) rfl (hto' _ hb1)
        · have ha7 := and127 k hk256
          have hor := or7 (n := n) (k := k) hv hi9 (fun h => by omega)
          have hm7 := mul7 (k := k) hi9 (fun h => by omega)
          have hpw : 128 ^ i ≤ 9223372036854775808 := Nat.le_trans (Nat.pow_le_pow_right (by decide) hi9) (by decide)
          have hdone : ∀ m, n + k % 128 * 128 ^ i = m → k < 128 → Xc rN V64 c at_ ft 0 W (.returned (.int .u64 (m : Int))) (wr.setCell ⟨c.r, 1, none⟩ (.int .i64 ((at_ + (i + 1) : Nat) : Int))) := fun m hm hk8 => by
            refine ⟨m, _, at_ + (i + 1), ft, 0, rfl, ⟨rfl, ?_⟩, hR.set1 (by omega) (fun he => absurd rfl he), hG.trans (gr_set _ _ _ _), ?_⟩
            · by_cases h9 : i = 9
              · have hk1 : k = 1 := by omega
                subst h9 hk1
                have e9 : (128 : Nat) ^ 9 = 9223372036854775808 := by decide
                omega
              · have h1 : 128 ^ i ≤ 128 ^ 8 := Nat.pow_le_pow_right (by decide) (by omega)
                have e : (128 : Nat) ^ 8 = 72057594037927936 := by decide
                have h3 := Nat.mul_le_mul (show k % 128 ≤ 127 by omega) h1
                omega
            · rw [hM.out, if_neg hbad, if_pos hk8, hm]
              exact Xp.pure
          have hnext : ¬ k < 128 → n + k % 128 * 128 ^ i < 128 ^ (i + 1) ∧ Hid (rN c.l at_ = nGo c.l.length at_ (c.l.drop (at_ + (i + 1))) (i + 1) (n + k % 128 * 128 ^ i)) := fun h8 => by
            refine ⟨?_, ⟨by rw [hM.out, if_neg hbad, if_neg h8]⟩⟩
            have h3 := Nat.mul_le_mul_right (128 ^ i) (show k % 128 ≤ 127 by omega)
            rw [Nat.pow_succ]
            omega
          have hat2 : ((at_ + (i + 1) : Nat) : Int) = (at_ : Int) + ((i : Int) + 1) := by omega
          rw [hat2] at hdone
          have hnn : ¬ (i = 9 ∧ ¬ k < 128) := by omega
          have hor' : Hid (bits BinOp.or IntKind.u64 (n : Int) (IntKind.u64.wrap ((k : Int) % 128 * 2 ^ (7 * i))) = ((n + k % 128 * 128 ^ i : Nat) : Int)) := ⟨hor⟩
          clear hto hM hc hat2 hm7 hpw hv hk
          by_cases h9 : i = 9
          · have h9' : ((i : Int) == 9) = true := by rw [h9]; rfl
            have hk1' : ¬ (1 : Int) < (k : Int) := by omega
            have hi1 : (0 : Int) < (i : Int) := by omega
            have hk0 : ((k : Int) == 0) = false := by simp; omega
            have hk8 : k < 128 := by omega
            have hk8' : (k : Int) < 128 := by omega
            clear h9
            obtain ⟨m, hm⟩ : ∃ m, n + k % 128 * 128 ^ i = m := ⟨_, rfl⟩
            rw [hm] at hor
            have hfin := hdone m hm hk8
            clear hm hdone hnext hbad
            go_wp2
            exact bodyPost_ret (v := .int .u64 (m : Int)) (by simp [results, Tryz.results81, go_sem]) rfl hfin
          · have h9' : ((i : Int) == 9) = false := by simp; omega
            by_cases h0 : 0 < i
            · have hi1 : (0 : Int) < (i : Int) := by omega
              have hk0 : ((k : Int) == 0) = false := by simp; omega
              by_cases hk8 : k < 128
              · have hk8' : (k : Int) < 128 := by omega
                obtain ⟨m, hm⟩ : ∃ m, n + k % 128 * 128 ^ i = m := ⟨_, rfl⟩
                rw [hm] at hor
                have hfin := hdone m hm hk8
                clear hm hdone hnext hbad
                go_wp2
                exact bodyPost_ret (v := .int .u64 (m : Int)) (by simp [results, Tryz.results81, go_sem]) rfl hfin
              · have hk8' : ¬ (k : Int) < 128 := by omega
                have hn2 := hnext hk8
                clear hor hdone hnext hbad
                go_wp2
                go_roundw
                case rel => exact ⟨i + 1, n + k % 128 * 128 ^ i, by omega, by omega, by go_num, by rw [hor'.out], hn2.1, hn2.2, hR, hG⟩
                case measure => simp [intOf]; omega
            · have hi1 : ¬ (0 : Int) < (i : Int) := by omega
              by_cases hk8 : k < 128
              · have hk8' : (k : Int) < 128 := by omega
                obtain ⟨m, hm⟩ : ∃ m, n + k % 128 * 128 ^ i = m := ⟨_, rfl⟩
                rw [hm] at hor
                have hfin := hdone m hm hk8
                clear hm hdone hnext hbad
                go_wp2
                exact bodyPost_ret (v := .int .u64 (m : Int)) (by simp [results, Tryz.results81, go_sem]) rfl hfin
              · have hk8' : ¬ (k : Int) < 128 := by omega
                have hn2 := hnext hk8
                clear hor hdone hnext hbad
                go_wp2
                go_roundw
                case rel => exact ⟨i + 1, n + k % 128 * 128 ^ i, by omega, by omega, by go_num, by rw [hor'.out], hn2.1, hn2.2, hR, hG⟩
                case measure => simp [intOf]; omega
      · have hlt' : ¬ (i : Int) < ((c.l.length - at_ : Nat) : Int) := by omega
        have hsh := short_any c wr hR
        have hto' := fun W' hf => hto c.l.length 70 wr W' hG (by rw [hM.out, List.drop_eq_nil_of_le (by omega)]; rfl) (by decide) hf
        clear hto hc hM
        go_wp2_with (go_at_call 79; refine hsh.mono ?_; rintro e w1 ⟨rfl, hb1⟩)
        exact bodyPost_ret (v := .int .u64 0) (by simp [results, Tryz.results81, go_sem]) rfl (hto' _ hb1)
theorem number_any (c : Rc) (W : World) {at_ ft er : Nat} (h : RS c W at_ ft er) : Calls Tryz.prog 81 #[.pointer (some ⟨c.r, 0, none⟩)] W (Xc rN V64 c at_ ft er W) := by
  have := h.le
  by_cases hat : at_ = c.l.length
  · exact number_none c W h hat
  · exact number_some c W h (by omega)

end Go.Proofs.YtmklkcefbabhbaaGreat


namespace Go.Proofs.YtmklkcefbabhbaaGreat
theorem xor_all {n : Nat} (h : n < 9223372036854775808) : bits BinOp.xor IntKind.i64 (-1) (n : Int) = -(n : Int) - 1 := by
  have e : (BitVec.ofInt 64 (-1)) ^^^ (BitVec.ofInt 64 (n : Int)) = ~~~ (BitVec.ofNat 64 n) := by
    have h1 : (BitVec.ofInt 64 (-1)) = BitVec.allOnes 64 := by decide
    rw [h1, BitVec.ofInt_natCast, BitVec.allOnes_xor]
  have e2 : (~~~ (BitVec.ofNat 64 n)).toNat = 18446744073709551615 - n := by
    rw [BitVec.toNat_not, BitVec.toNat_ofNat, Nat.mod_eq_of_lt (by omega)]
  show IntKind.i64.wrap (((BitVec.ofInt 64 (-1)) ^^^ (BitVec.ofInt 64 (n : Int))).toNat : Int) = _
  rw [e, e2]
  simp [IntKind.wrap, IntKind.bits, IntKind.signed]
  omega
end Go.Proofs.YtmklkcefbabhbaaGreat


namespace Go.Proofs.YtmklkcefbabhbaaGreat
open Go.RowKit

def VI (_ : World) (_ : Nat) (z : Int) (v : Value) : Prop := v = .int .i64 z ∧ -9223372036854775808 ≤ z ∧ z ≤ 9223372036854775807
def VS (_ : World) (_ : Nat) (s : List UInt8) (v : Value) : Prop := v = .string ⟨s.toArray⟩
def VB (_ : World) (_ : Nat) (b : Bool) (v : Value) : Prop := v = .bool b

theorem number_out (c : Rc) (W : World) {at_ ft er : Nat} (h : RS c W at_ ft er) : Calls Tryz.prog 81 #[.pointer (some ⟨c.r, 0, none⟩)] W fun e W' => ∃ (x at1 ft1 er1 : Nat), e = .returned (.int .u64 (x : Int)) ∧ Hid (x < 18446744073709551616) ∧ RS c W' at1 ft1 er1 ∧ W.grownBy W' (some c.r) ∧ Xp (rN c.l at_) ft er at1 ft1 er1 x := by
  refine (number_any c W h).mono fun e W' hP => ?_
  obtain ⟨x, v, at1, ft1, er1, he, hV, h1, hg1, hp1⟩ := hP
  unfold V64 at hV
  exact ⟨x, at1, ft1, er1, by rw [he, hV.1], ⟨hV.2⟩, h1, hg1, hp1⟩
/-- What length answers. -/
def LenP (c : Rc) (at_ ft er : Nat) (W : World) (e : Ending) (W' : World) : Prop := ∃ (n at2 ft2 er2 : Nat), e = .returned (.int .i64 (n : Int)) ∧ n ≤ c.l.length - at2 ∧ RS c W' at2 ft2 er2 ∧ W.grownBy W' (some c.r) ∧ Xp (rLen c.l at_) ft er at2 ft2 er2 n
set_option maxRecDepth 4000 in
set_option maxHeartbeats 2000000 in
theorem length_any (c : Rc) (W : World) {at_ ft er : Nat} (h : RS c W at_ ft er) : Calls Tryz.prog 80 #[.pointer (some ⟨c.r, 0, none⟩)] W (LenP c at_ ft er W) := by
  have hn := number_out c W h
  have hln := h.ln
  clear h
  go_enter Tryz.func80, Tryz.ntmps80
  go_wp2_with (first | (go_at_call 81; refine hn.mono ?_; clear hn; rintro e w1 ⟨x, at1, ft1, er1, rfl, hx, h1, hg1, hp1⟩; obtain ⟨d, hd⟩ : ∃ d, c.l.length - at1 = d := ⟨_, rfl⟩; have hd1 : (d : Int) < 18446744073709551616 := (by omega); have hlf := left_any c _ h1; rw [hd] at hlf; have hd' : Hid (c.l.length - at1 = d) := ⟨hd⟩; clear hd) | (go_at_call 78; refine hlf.mono ?_; clear hlf; rintro e wl ⟨rfl, nl, rfl⟩; by_cases hgt : d < x))
  · have hgt' : (d : Int) < (x : Int) := by omega
    have hs := short_any c _ (h1.drew nl)
    go_wp2_with (go_at_call 79; refine hs.mono ?_; rintro e w2 ⟨rfl, h2, hg2⟩)
    exact bodyPost_ret (v := .int .i64 0) (by simp [results, Tryz.results80, go_sem]) rfl ⟨0, _, _, _, rfl, Nat.zero_le _, h2, (hg1.trans (gr_drew _ _ _)).trans hg2, hp1.bd (Xp.fail (fun _ => if_pos (by rw [hd'.out]; exact hgt)) (by decide))⟩
  · have hgt' : ¬ (d : Int) < (x : Int) := by omega
    have hw : wrap64 (x : Int) = (x : Int) := by have := hd'.out; unfold wrap64; omega
    go_wp2
    exact bodyPost_ret (v := .int .i64 (x : Int)) (by simp [results, Tryz.results80, go_sem]) rfl ⟨x, _, _, _, rfl, by rw [hd'.out]; omega, h1.drew nl, hg1.trans (gr_drew _ _ _), hp1.bd (by rw [if_neg (by rw [hd'.out]; exact hgt)]; exact Xp.pure)⟩

theorem half_u {x : Nat} (h : x < 18446744073709551616) : wrap64 (IntKind.u64.wrap ((x : Int) / 2)) = ((x / 2 : Nat) : Int) := by
  rw [IntKind.wrap_u64]
  unfold wrap64
  omega
set_option maxRecDepth 4000 in
set_option maxHeartbeats 2000000 in
theorem integer_any (c : Rc) (W : World) {at_ ft er : Nat} (h : RS c W at_ ft er) : Calls Tryz.prog 50 #[.pointer (some ⟨c.r, 0, none⟩)] W (Xc rInt VI c at_ ft er W) := by
  have hn := number_out c W h
  clear h
  go_enter Tryz.func50, Tryz.ntmps50
  go_wp2_with (first | (go_at_call 81; refine hn.mono ?_; clear hn; rintro e w1 ⟨x, at1, ft1, er1, rfl, hx, h1, hg1, hp1⟩; by_cases hodd : x % 2 = 1))
  all_goals (have hx' := hx.out; have hh := half_u hx'; have hx2 : x / 2 < 9223372036854775808 := (by omega))
  · have ho : ((x : Int) % 2 == 1) = true := by have : (x : Int) % 2 = 1 := by omega
                                                rw [this]; rfl
    have hz : unz x = -((x / 2 : Nat) : Int) - 1 := if_pos hodd
    have hv := xor_all hx2
    rw [← hh] at hv
    have hfin : Xc rInt VI c at_ ft er W (.returned (.int .i64 (bits BinOp.xor IntKind.i64 (-1) (wrap64 (IntKind.u64.wrap ((x : Int) / 2)))))) w1 := by
      rw [hv, hh]
      exact ⟨_, _, _, _, _, rfl, ⟨rfl, by omega, by omega⟩, h1, hg1, hp1.bd (by rw [hz]; exact Xp.pure)⟩
    exact bodyPost_ret (v := .int .i64 (bits BinOp.xor IntKind.i64 (-1) (wrap64 (IntKind.u64.wrap ((x : Int) / 2))))) (by simp [results, Tryz.results50, go_sem]) rfl hfin
  · have ho : ((x : Int) % 2 == 1) = false := by have : (x : Int) % 2 = 0 := by omega
                                                 rw [this]; rfl
    have hz : unz x = ((x / 2 : Nat) : Int) := if_neg hodd
    have hfin : Xc rInt VI c at_ ft er W (.returned (.int .i64 (wrap64 (IntKind.u64.wrap ((x : Int) / 2))))) w1 := by
      rw [hh]
      exact ⟨_, _, _, _, _, rfl, ⟨rfl, by omega, by omega⟩, h1, hg1, hp1.bd (by rw [hz]; exact Xp.pure)⟩
    clear hx' hh hx2
    exact bodyPost_ret (v := .int .i64 (wrap64 (IntKind.u64.wrap ((x : Int) / 2)))) (by simp [results, Tryz.results50, go_sem]) rfl hfin

/-- What nonzero answers. -/
def NzP (c : Rc) (at_ ft er : Nat) (W : World) (e : Ending) (W' : World) : Prop := ∃ (z : Int) (at2 ft2 er2 : Nat), e = .returned (.int .i64 z) ∧ (-9223372036854775808 ≤ z ∧ z ≤ 9223372036854775807) ∧ RS c W' at2 ft2 er2 ∧ W.grownBy W' (some c.r) ∧ Xp (rNz c.l at_) ft er at2 ft2 er2 z
set_option maxRecDepth 4000 in
set_option maxHeartbeats 2000000 in
theorem nonzero_any (c : Rc) (W : World) {at_ ft er : Nat} (h : RS c W at_ ft er) : Calls Tryz.prog 95 #[.pointer (some ⟨c.r, 0, none⟩)] W (NzP c at_ ft er W) := by
  have hn := integer_any c W h
  have c1 := h.c1
  have hle := h.le
  clear h
  go_enter Tryz.func95, Tryz.ntmps95
  go_wp2_with (first | (go_at_call 50; refine hn.mono ?_; clear hn; rintro e w1 ⟨z, v, at1, ft1, er1, rfl, ⟨rfl, hz1, hz2⟩, h1, hg1, hp1⟩; by_cases hz0 : z = 0))
  · subst hz0
    have hf := fail_any c at_ 71 hle (by omega) w1 h1
    go_wp2_with (go_at_call 48; refine hf.mono ?_; rintro e w2 ⟨rfl, h2, hg2⟩)
    exact bodyPost_ret (v := .int .i64 0) (by simp [results, Tryz.results95, go_sem]) rfl ⟨0, _, _, _, rfl, ⟨hz1, hz2⟩, h2, hg1.trans hg2, hp1.bd (Xp.fail (fun _ => if_pos rfl) (by decide))⟩
  · have hz0' : (z == 0) = false := by simp [hz0]
    have hfin : NzP c at_ ft er W (.returned (.int .i64 z)) w1 := ⟨z, _, _, _, rfl, ⟨hz1, hz2⟩, h1, hg1, hp1.bd (by rw [if_neg hz0]; exact Xp.pure)⟩
    clear hz0 hp1
    go_wp2
    exact bodyPost_ret (v := .int .i64 z) (by simp [results, Tryz.results95, go_sem]) rfl hfin

/-- What oneByte answers. -/
def ByP (c : Rc) (most at_ ft er : Nat) (W : World) (e : Ending) (W' : World) : Prop := ∃ (b at2 ft2 er2 : Nat), e = .returned (.int .u8 (b : Int)) ∧ b ≤ most ∧ RS c W' at2 ft2 er2 ∧ W.grownBy W' (some c.r) ∧ Xp (rByte most c.l at_) ft er at2 ft2 er2 b
set_option maxRecDepth 4000 in
set_option maxHeartbeats 2000000 in
theorem oneByte_any (most : Nat) (c : Rc) (W : World) {at_ ft er : Nat} (h : RS c W at_ ft er) : Calls Tryz.prog 94 #[.pointer (some ⟨c.r, 0, none⟩), .int .u8 (most : Int)] W (ByP c most at_ ft er W) := by
  have hlf := left_any c W h
  have hle := h.le
  by_cases hat : at_ = c.l.length
  · have hd : c.l.length - at_ = 0 := by omega
    rw [hd] at hlf
    have hsh := fun n => short_any c (World.drewN W n) (h.drew n)
    have hM : rByte most c.l at_ = .error (c.l.length, 70) := by unfold rByte; rw [List.getElem?_eq_none (by omega)]
    have hM := Hid.mk hM
    clear hd h hat
    go_enter Tryz.func94, Tryz.ntmps94
    go_wp2_with (first | (go_at_call 78; refine hlf.mono ?_; clear hlf; rintro e wl ⟨rfl, nl, rfl⟩) | (go_at_call 79; refine (hsh _).mono ?_; rintro e w2 ⟨rfl, h2, hg2⟩))
    exact bodyPost_ret (v := .int .u8 0) (by simp [results, Tryz.results94, go_sem]) rfl ⟨0, _, _, _, rfl, Nat.zero_le _, h2, (gr_drew _ _ _).trans hg2, Xp.fail (fun _ => hM.out) (by decide)⟩
  · have hlt : at_ < c.l.length := by omega
    obtain ⟨d, hd⟩ : ∃ d, c.l.length - at_ = d := ⟨_, rfl⟩
    have hd0 : ((d : Int) == 0) = false := by simp; omega
    rw [hd] at hlf
    obtain rfl : er = 0 := by
      apply Classical.byContradiction
      intro he
      exact hat (h.en he)
    have hln := h.ln
    rcases h.by_ with hnil | ⟨b, off, ha, hblt, hne, hc⟩
    · rw [hnil] at hlt; simp at hlt
    have a0 : (0 : Int) ≤ (at_ : Int) := by omega
    have a1 : (at_ : Int) < (c.l.length : Int) := by omega
    have c0 := h.c0
    rw [ha] at c0
    have c1 := h.c1
    have f1 := h.fz 1
    have ci := hc at_ hlt
    have hby : Hid (rByte most c.l at_ = if most < (c.l[at_]).toNat then .error (at_, 71) else .ok ((c.l[at_]).toNat, at_ + 1)) := ⟨by unfold rByte; rw [List.getElem?_eq_getElem hlt]⟩
    generalize c.l[at_] = x at *
    obtain ⟨k, hk⟩ : ∃ k, x.toNat = k := ⟨_, rfl⟩
    have hk256 : k < 256 := by rw [← hk]; exact x.toNat_lt
    rw [hk] at ci
    rw [hk] at hby
    clear hc hd hk
    by_cases hgt : most < k
    · have hgt' : (most : Int) < (k : Int) := by omega
      have hf := fun n => fail_any c at_ 71 hle (by omega) (World.drewN W n) (h.drew n)
      clear h
      go_enter Tryz.func94, Tryz.ntmps94
      go_wp2_with (first | (go_at_call 78; refine hlf.mono ?_; clear hlf; rintro e wl ⟨rfl, nl, rfl⟩))
      go_quiet (fail)
      go_wp2_with (first | (go_at_call 48; refine (hf _).mono ?_; rintro e w2 ⟨rfl, h2, hg2⟩))
      exact bodyPost_ret (v := .int .u8 0) (by simp [results, Tryz.results94, go_sem]) rfl ⟨0, _, _, _, rfl, Nat.zero_le _, h2, (gr_drew _ _ _).trans hg2, Xp.fail (fun _ => by rw [hby.out, if_pos hgt]) (by decide)⟩
    · have hgt' : ¬ (most : Int) < (k : Int) := by omega
      have hs := fun n => (h.drew n).set1 (at2 := at_ + 1) (by omega) (fun he => absurd rfl he)
      have hfin : ∀ n, ByP c most at_ ft 0 W (.returned (.int .u8 (k : Int))) ((World.drewN W n).setCell ⟨c.r, 1, none⟩ (.int .i64 ((at_ + 1 : Nat) : Int))) := fun n =>
        ⟨k, _, _, _, rfl, by omega, hs n, (gr_drew _ _ _).trans (gr_set _ _ _ _), by rw [hby.out, if_neg hgt]; exact Xp.pure⟩
      have e1 : ((at_ + 1 : Nat) : Int) = (at_ : Int) + 1 := by omega
      rw [e1] at hfin
      clear h hs e1
      go_enter Tryz.func94, Tryz.ntmps94
      go_wp2_with (first | (go_at_call 78; refine hlf.mono ?_; clear hlf; rintro e wl ⟨rfl, nl, rfl⟩))
      go_quiet (fail)
      go_wp2
      exact bodyPost_ret (v := .int .u8 (k : Int)) (by simp [results, Tryz.results94, go_sem]) rfl (hfin _)
set_option maxRecDepth 4000 in
set_option maxHeartbeats 2000000 in
theorem flag_any (c : Rc) (W : World) {at_ ft er : Nat} (h : RS c W at_ ft er) : Calls Tryz.prog 85 #[.pointer (some ⟨c.r, 0, none⟩)] W (Xc rFlag VB c at_ ft er W) := by
  have hn := oneByte_any 1 c W h
  clear h
  go_enter Tryz.func85, Tryz.ntmps85
  go_wp2_with (first | (go_at_call 94; refine hn.mono ?_; clear hn; rintro e w1 ⟨b, at1, ft1, er1, rfl, hb, h1, hg1, hp1⟩; by_cases hb1 : b = 1))
  · subst hb1
    exact bodyPost_ret (v := .bool true) (by simp [results, Tryz.results85, go_sem]) rfl ⟨true, _, _, _, _, rfl, rfl, h1, hg1, hp1.bd Xp.pure⟩
  · obtain rfl : b = 0 := by omega
    exact bodyPost_ret (v := .bool false) (by simp [results, Tryz.results85, go_sem]) rfl ⟨false, _, _, _, _, rfl, rfl, h1, hg1, hp1.bd Xp.pure⟩

end Go.Proofs.YtmklkcefbabhbaaGreat

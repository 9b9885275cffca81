import Derived.Test.YtjgngmmepheioaaPxT
import Derived.Laws.IdiomStrings
namespace Go.Proofs.Ytjgngmmepheioaa
open Go.RowKit

def VI (_ : World) (_ : Nat) (z : Int) (v : Value) : Prop := v = .int .i64 z ∧ -9223372036854775808 ≤ z ∧ z ≤ 9223372036854775807
def VS (_ : World) (_ : Nat) (s : List UInt8) (v : Value) : Prop := v = .string ⟨s.toArray⟩
def VB (_ : World) (_ : Nat) (b : Bool) (v : Value) : Prop := v = .bool b

theorem number_out (c : Rc) (W : World) {at_ ft er : Nat} (h : RS c W at_ ft er) : Calls Try.prog 67 #[.pointer (some ⟨c.r, 0, none⟩)] W fun e W' => ∃ (x at1 ft1 er1 : Nat), e = .returned (.int .u64 (x : Int)) ∧ Hid (x < 18446744073709551616) ∧ RS c W' at1 ft1 er1 ∧ W.grownBy W' (some c.r) ∧ Xp (rN c.l at_) ft er at1 ft1 er1 x := by
  refine (number_any c W h).mono fun e W' hP => ?_
  obtain ⟨x, v, at1, ft1, er1, he, hV, h1, hg1, hp1⟩ := hP
  unfold V64 at hV
  exact ⟨x, at1, ft1, er1, by rw [he, hV.1], ⟨hV.2⟩, h1, hg1, hp1⟩
/-- What length answers. -/
def LenP (c : Rc) (at_ ft er : Nat) (W : World) (e : Ending) (W' : World) : Prop := ∃ (n at2 ft2 er2 : Nat), e = .returned (.int .i64 (n : Int)) ∧ n ≤ c.l.length - at2 ∧ RS c W' at2 ft2 er2 ∧ W.grownBy W' (some c.r) ∧ Xp (rLen c.l at_) ft er at2 ft2 er2 n
set_option maxRecDepth 4000 in
set_option maxHeartbeats 2000000 in
theorem length_any (c : Rc) (W : World) {at_ ft er : Nat} (h : RS c W at_ ft er) : Calls Try.prog 66 #[.pointer (some ⟨c.r, 0, none⟩)] W (LenP c at_ ft er W) := by
  have hn := number_out c W h
  have hln := h.ln
  clear h
  go_enter Try.func66, Try.ntmps66
  go_wp2_with (first | (go_at_call 67; refine hn.mono ?_; clear hn; rintro e w1 ⟨x, at1, ft1, er1, rfl, hx, h1, hg1, hp1⟩; obtain ⟨d, hd⟩ : ∃ d, c.l.length - at1 = d := ⟨_, rfl⟩; have hd1 : (d : Int) < 18446744073709551616 := (by omega); have hlf := left_any c _ h1; rw [hd] at hlf; have hd' : Hid (c.l.length - at1 = d) := ⟨hd⟩; clear hd) | (go_at_call 64; refine hlf.mono ?_; clear hlf; rintro e wl ⟨rfl, nl, rfl⟩; by_cases hgt : d < x))
  · have hgt' : (d : Int) < (x : Int) := by omega
    have hs := short_any c _ (h1.drew nl)
    go_wp2_with (go_at_call 65; refine hs.mono ?_; rintro e w2 ⟨rfl, h2, hg2⟩)
    exact bodyPost_ret (v := .int .i64 0) (by simp [results, Try.results66, go_sem]) rfl ⟨0, _, _, _, rfl, Nat.zero_le _, h2, (hg1.trans (gr_drew _ _ _)).trans hg2, hp1.bd (Xp.fail (fun _ => if_pos (by rw [hd'.out]; exact hgt)) (by decide))⟩
  · have hgt' : ¬ (d : Int) < (x : Int) := by omega
    have hw : wrap64 (x : Int) = (x : Int) := by have := hd'.out; unfold wrap64; omega
    go_wp2
    exact bodyPost_ret (v := .int .i64 (x : Int)) (by simp [results, Try.results66, go_sem]) rfl ⟨x, _, _, _, rfl, by rw [hd'.out]; omega, h1.drew nl, hg1.trans (gr_drew _ _ _), hp1.bd (by rw [if_neg (by rw [hd'.out]; exact hgt)]; exact Xp.pure)⟩

theorem zig_odd {n : Nat} (h : n % 2 = 1) : encI (-((n / 2 : Nat) : Int) - 1) = encN n := by
  unfold encI zig
  rw [if_pos (by omega)]
  congr 1
  omega
theorem zig_even {n : Nat} (h : n % 2 = 0) : encI ((n / 2 : Nat) : Int) = encN n := by
  unfold encI zig
  rw [if_neg (by omega)]
  congr 1
  omega
theorem half_u {x : Nat} (h : x < 18446744073709551616) : wrap64 (IntKind.u64.wrap ((x : Int) / 2)) = ((x / 2 : Nat) : Int) := by
  rw [IntKind.wrap_u64]
  unfold wrap64
  omega
set_option maxRecDepth 4000 in
set_option maxHeartbeats 2000000 in
theorem integer_any (c : Rc) (W : World) {at_ ft er : Nat} (h : RS c W at_ ft er) : Calls Try.prog 52 #[.pointer (some ⟨c.r, 0, none⟩)] W (Xc rInt VI c at_ ft er W) := by
  have hn := number_out c W h
  clear h
  go_enter Try.func52, Try.ntmps52
  go_wp2_with (first | (go_at_call 67; refine hn.mono ?_; clear hn; rintro e w1 ⟨x, at1, ft1, er1, rfl, hx, h1, hg1, hp1⟩; by_cases hodd : x % 2 = 1))
  all_goals (have hx' := hx.out; have hh := half_u hx'; have hx2 : x / 2 < 9223372036854775808 := (by omega))
  · have ho : ((x : Int) % 2 == 1) = true := by have : (x : Int) % 2 = 1 := by omega
                                                rw [this]; rfl
    have hz : unz x = -((x / 2 : Nat) : Int) - 1 := if_pos hodd
    have hv := xor_all hx2
    rw [← hh] at hv
    have hfin : Xc rInt VI c at_ ft er W (.returned (.int .i64 (bits BinOp.xor IntKind.i64 (-1) (wrap64 (IntKind.u64.wrap ((x : Int) / 2)))))) w1 := by
      rw [hv, hh]
      exact ⟨_, _, _, _, _, rfl, ⟨rfl, by omega, by omega⟩, h1, hg1, hp1.bd (by rw [hz]; exact Xp.pure)⟩
    exact bodyPost_ret (v := .int .i64 (bits BinOp.xor IntKind.i64 (-1) (wrap64 (IntKind.u64.wrap ((x : Int) / 2))))) (by simp [results, Try.results52, go_sem]) rfl hfin
  · have ho : ((x : Int) % 2 == 1) = false := by have : (x : Int) % 2 = 0 := by omega
                                                 rw [this]; rfl
    have hz : unz x = ((x / 2 : Nat) : Int) := if_neg hodd
    have hfin : Xc rInt VI c at_ ft er W (.returned (.int .i64 (wrap64 (IntKind.u64.wrap ((x : Int) / 2))))) w1 := by
      rw [hh]
      exact ⟨_, _, _, _, _, rfl, ⟨rfl, by omega, by omega⟩, h1, hg1, hp1.bd (by rw [hz]; exact Xp.pure)⟩
    clear hx' hh hx2
    exact bodyPost_ret (v := .int .i64 (wrap64 (IntKind.u64.wrap ((x : Int) / 2)))) (by simp [results, Try.results52, go_sem]) rfl hfin

/-- What nonzero answers. -/
def NzP (c : Rc) (at_ ft er : Nat) (W : World) (e : Ending) (W' : World) : Prop := ∃ (z : Int) (at2 ft2 er2 : Nat), e = .returned (.int .i64 z) ∧ (-9223372036854775808 ≤ z ∧ z ≤ 9223372036854775807) ∧ RS c W' at2 ft2 er2 ∧ W.grownBy W' (some c.r) ∧ Xp (rNz c.l at_) ft er at2 ft2 er2 z
set_option maxRecDepth 4000 in
set_option maxHeartbeats 2000000 in
theorem nonzero_any (c : Rc) (W : World) {at_ ft er : Nat} (h : RS c W at_ ft er) : Calls Try.prog 77 #[.pointer (some ⟨c.r, 0, none⟩)] W (NzP c at_ ft er W) := by
  have hn := integer_any c W h
  have c1 := h.c1
  have hle := h.le
  clear h
  go_enter Try.func77, Try.ntmps77
  go_wp2_with (first | (go_at_call 52; refine hn.mono ?_; clear hn; rintro e w1 ⟨z, v, at1, ft1, er1, rfl, ⟨rfl, hz1, hz2⟩, h1, hg1, hp1⟩; by_cases hz0 : z = 0))
  · subst hz0
    have hf := fail_any c at_ 71 hle (by omega) w1 h1
    go_wp2_with (go_at_call 50; refine hf.mono ?_; rintro e w2 ⟨rfl, h2, hg2⟩)
    exact bodyPost_ret (v := .int .i64 0) (by simp [results, Try.results77, go_sem]) rfl ⟨0, _, _, _, rfl, ⟨hz1, hz2⟩, h2, hg1.trans hg2, hp1.bd (Xp.fail (fun _ => if_pos rfl) (by decide))⟩
  · have hz0' : (z == 0) = false := by simp [hz0]
    have hfin : NzP c at_ ft er W (.returned (.int .i64 z)) w1 := ⟨z, _, _, _, rfl, ⟨hz1, hz2⟩, h1, hg1, hp1.bd (by rw [if_neg hz0]; exact Xp.pure)⟩
    clear hz0 hp1
    go_wp2
    exact bodyPost_ret (v := .int .i64 z) (by simp [results, Try.results77, go_sem]) rfl hfin

/-- What oneByte answers. -/
def ByP (c : Rc) (most at_ ft er : Nat) (W : World) (e : Ending) (W' : World) : Prop := ∃ (b at2 ft2 er2 : Nat), e = .returned (.int .u8 (b : Int)) ∧ b ≤ most ∧ RS c W' at2 ft2 er2 ∧ W.grownBy W' (some c.r) ∧ Xp (rByte most c.l at_) ft er at2 ft2 er2 b
set_option maxRecDepth 4000 in
set_option maxHeartbeats 2000000 in
theorem oneByte_any (most : Nat) (c : Rc) (W : World) {at_ ft er : Nat} (h : RS c W at_ ft er) : Calls Try.prog 76 #[.pointer (some ⟨c.r, 0, none⟩), .int .u8 (most : Int)] W (ByP c most at_ ft er W) := by
  have hlf := left_any c W h
  have hle := h.le
  by_cases hat : at_ = c.l.length
  · have hd : c.l.length - at_ = 0 := by omega
    rw [hd] at hlf
    have hsh := fun n => short_any c (World.drewN W n) (h.drew n)
    have hM : rByte most c.l at_ = .error (c.l.length, 70) := by unfold rByte; rw [List.getElem?_eq_none (by omega)]
    have hM := Hid.mk hM
    clear hd h hat
    go_enter Try.func76, Try.ntmps76
    go_wp2_with (first | (go_at_call 64; refine hlf.mono ?_; clear hlf; rintro e wl ⟨rfl, nl, rfl⟩) | (go_at_call 65; refine (hsh _).mono ?_; rintro e w2 ⟨rfl, h2, hg2⟩))
    exact bodyPost_ret (v := .int .u8 0) (by simp [results, Try.results76, go_sem]) rfl ⟨0, _, _, _, rfl, Nat.zero_le _, h2, (gr_drew _ _ _).trans hg2, Xp.fail (fun _ => hM.out) (by decide)⟩
  · have hlt : at_ < c.l.length := by omega
    obtain ⟨d, hd⟩ : ∃ d, c.l.length - at_ = d := ⟨_, rfl⟩
    have hd0 : ((d : Int) == 0) = false := by simp; omega
    rw [hd] at hlf
    obtain rfl : er = 0 := by
      apply Classical.byContradiction
      intro he
      exact hat (h.en he)
    have hln := h.ln
    rcases h.by_ with hnil | ⟨b, off, ha, hblt, hne, hc⟩
    · rw [hnil] at hlt; simp at hlt
    have a0 : (0 : Int) ≤ (at_ : Int) := by omega
    have a1 : (at_ : Int) < (c.l.length : Int) := by omega
    have c0 := h.c0
    rw [ha] at c0
    have c1 := h.c1
    have f1 := h.fz 1
    have ci := hc at_ hlt
    have hby : Hid (rByte most c.l at_ = if most < (c.l[at_]).toNat then .error (at_, 71) else .ok ((c.l[at_]).toNat, at_ + 1)) := ⟨by unfold rByte; rw [List.getElem?_eq_getElem hlt]⟩
    generalize c.l[at_] = x at *
    obtain ⟨k, hk⟩ : ∃ k, x.toNat = k := ⟨_, rfl⟩
    have hk256 : k < 256 := by rw [← hk]; exact x.toNat_lt
    rw [hk] at ci
    rw [hk] at hby
    clear hc hd hk
    by_cases hgt : most < k
    · have hgt' : (most : Int) < (k : Int) := by omega
      have hf := fun n => fail_any c at_ 71 hle (by omega) (World.drewN W n) (h.drew n)
      clear h
      go_enter Try.func76, Try.ntmps76
      go_wp2_with (first | (go_at_call 64; refine hlf.mono ?_; clear hlf; rintro e wl ⟨rfl, nl, rfl⟩))
      go_quiet (fail)
      go_wp2_with (first | (go_at_call 50; refine (hf _).mono ?_; rintro e w2 ⟨rfl, h2, hg2⟩))
      exact bodyPost_ret (v := .int .u8 0) (by simp [results, Try.results76, go_sem]) rfl ⟨0, _, _, _, rfl, Nat.zero_le _, h2, (gr_drew _ _ _).trans hg2, Xp.fail (fun _ => by rw [hby.out, if_pos hgt]) (by decide)⟩
    · have hgt' : ¬ (most : Int) < (k : Int) := by omega
      have hs := fun n => (h.drew n).set1 (at2 := at_ + 1) (by omega) (fun he => absurd rfl he)
      have hfin : ∀ n, ByP c most at_ ft 0 W (.returned (.int .u8 (k : Int))) ((World.drewN W n).setCell ⟨c.r, 1, none⟩ (.int .i64 ((at_ + 1 : Nat) : Int))) := fun n =>
        ⟨k, _, _, _, rfl, by omega, hs n, (gr_drew _ _ _).trans (gr_set _ _ _ _), by rw [hby.out, if_neg hgt]; exact Xp.pure⟩
      have e1 : ((at_ + 1 : Nat) : Int) = (at_ : Int) + 1 := by omega
      rw [e1] at hfin
      clear h hs e1
      go_enter Try.func76, Try.ntmps76
      go_wp2_with (first | (go_at_call 64; refine hlf.mono ?_; clear hlf; rintro e wl ⟨rfl, nl, rfl⟩))
      go_quiet (fail)
      go_wp2
      exact bodyPost_ret (v := .int .u8 (k : Int)) (by simp [results, Try.results76, go_sem]) rfl (hfin _)
set_option maxRecDepth 4000 in
set_option maxHeartbeats 2000000 in
theorem flag_any (c : Rc) (W : World) {at_ ft er : Nat} (h : RS c W at_ ft er) : Calls Try.prog 71 #[.pointer (some ⟨c.r, 0, none⟩)] W (Xc rFlag VB c at_ ft er W) := by
  have hn := oneByte_any 1 c W h
  clear h
  go_enter Try.func71, Try.ntmps71
  go_wp2_with (first | (go_at_call 76; refine hn.mono ?_; clear hn; rintro e w1 ⟨b, at1, ft1, er1, rfl, hb, h1, hg1, hp1⟩; by_cases hb1 : b = 1))
  · subst hb1
    exact bodyPost_ret (v := .bool true) (by simp [results, Try.results71, go_sem]) rfl ⟨true, _, _, _, _, rfl, rfl, h1, hg1, hp1.bd Xp.pure⟩
  · obtain rfl : b = 0 := by omega
    exact bodyPost_ret (v := .bool false) (by simp [results, Try.results71, go_sem]) rfl ⟨false, _, _, _, _, rfl, rfl, h1, hg1, hp1.bd Xp.pure⟩

end Go.Proofs.Ytjgngmmepheioaa

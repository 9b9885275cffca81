import Derived.Test.YtjgngmmepheioaaGwA
import Derived.Test.YtjgngmmepheioaaPxR2
namespace Go.Proofs.Ytjgngmmepheioaa.G
open Go.RowKit

/-- What int answers: 0 behind a fault. -/
def IntP (M : List UInt8 → Nat → Rd Int) (c : Rc) (at_ ft er : Nat) (W : World) (e : Ending) (W' : World) : Prop := ∃ (z : Int) (at2 ft2 er2 : Nat), e = .returned (.int .i64 z) ∧ Rg z ∧ CS c W' at2 ft2 er2 ∧ W.grownBy W' (some c.r) ∧ Xp (M c.l at_) ft er at2 ft2 er2 z
theorem unz_rg {n : Nat} (h : n < 18446744073709551616) : Rg (unz n) := by
  unfold unz Rg
  split <;> omega
set_option maxHeartbeats 1000000 in
theorem int_any (c : Rc) (W : World) {at_ ft er : Nat} (h : CS c W at_ ft er) : Calls Try.prog 18 #[.pointer (some ⟨c.r, 0, none⟩)] W (IntP rInt c at_ ft er W) := by
  have hn := num_any c W h
  clear h
  go_enter Try.func18, Try.ntmps18
  go_wp2_with (go_at_call 46; fail)
  refine hn.mono ?_
  rintro e w1 ⟨n, at2, ft2, er2, rfl, hnl, hn0, hC, hg, hp⟩
  have hfin : IntP rInt c at_ ft er W (.returned (.int .i64 (unz n))) w1 := ⟨unz n, at2, ft2, er2, rfl, unz_rg hnl, hC, hg, hp.bd Xp.pure⟩
  clear hn hC hg hp hn0
  by_cases h2 : n % 2 = 0
  · have h2' : ((n : Int) % 2 == 0) = true := by simp; omega
    have e : unz n = (n : Int) / 2 := by unfold unz; rw [if_neg (by omega)]; omega
    rw [e] at hfin
    have hb : (n : Int) / 2 ≤ 9223372036854775807 := by omega
    have hb0 : 0 ≤ (n : Int) / 2 := by omega
    clear e h2
    go_wp2
    exact bodyPost_ret (v := .int .i64 ((n : Int) / 2)) (by simp [results, Try.results18, go_sem]) rfl hfin
  · have h2' : ((n : Int) % 2 == 0) = false := by simp; omega
    have e : unz n = -((n : Int) / 2) - 1 := by unfold unz; rw [if_pos (by omega)]; omega
    rw [e] at hfin
    have hb : (n : Int) / 2 ≤ 9223372036854775807 := by omega
    have hb0 : 0 ≤ (n : Int) / 2 := by omega
    clear e h2
    go_wp2
    exact bodyPost_ret (v := .int .i64 (-((n : Int) / 2) - 1)) (by simp [results, Try.results18, go_sem]) rfl hfin

/-- What byte answers. -/
def ByP (most : Nat) (c : Rc) (at_ ft er : Nat) (W : World) (e : Ending) (W' : World) : Prop := ∃ (x at2 ft2 er2 : Nat), e = .returned (.int .u8 (x : Int)) ∧ x ≤ most ∧ CS c W' at2 ft2 er2 ∧ W.grownBy W' (some c.r) ∧ Xp (rByte most c.l at_) ft er at2 ft2 er2 x
set_option maxRecDepth 4000 in
set_option maxHeartbeats 2000000 in
theorem byte_any (most : Nat) (_hm : most < 256) (c : Rc) (W : World) {at_ ft er : Nat} (h : CS c W at_ ft er) : Calls Try.prog 47 #[.pointer (some ⟨c.r, 0, none⟩), .int .u8 (most : Int)] W (ByP most c at_ ft er W) := by
  have c3 := h.c3
  by_cases he : er = 0
  · subst he
    have c0 := h.c0
    have c1 := h.c1
    have hle := h.le rfl
    have hln := h.ln
    by_cases hlt : at_ < c.l.length
    · have hlt' : ¬ (c.l.length : Int) ≤ (at_ : Int) := by omega
      have a0 : (0 : Int) ≤ (at_ : Int) := by omega
      have a1 : (at_ : Int) < (c.l.length : Int) := by omega
      rcases h.by_ with hnil | ⟨b, off, ha, hblt, hne, hc⟩
      · rw [hnil] at hlt; simp at hlt
      rw [ha] at c0
      have ci := hc at_ hlt
      have hM : rByte most c.l at_ = if most < (c.l[at_]).toNat then .error (at_, 71) else .ok ((c.l[at_]).toNat, at_ + 1) := by
        unfold rByte
        rw [List.getElem?_eq_getElem hlt]
      generalize c.l[at_] = x at *
      obtain ⟨k, hk⟩ : ∃ k, x.toNat = k := ⟨_, rfl⟩
      have hk256 : k < 256 := by rw [← hk]; exact x.toNat_lt
      rw [hk] at ci hM
      have ciN : ∀ n, (W.drewN n).cell? ⟨b, off + at_, none⟩ = some (.int .u8 (k : Int)) := fun n => ci
      have hft := fun n => fault_any c at_ 71 hle (by omega) (W.drewN n) (h.drew n)
      have hsetN := fun n => (h.drew n).set1 (at2 := at_ + 1) (by omega)
      have hcast : ((at_ + 1 : Nat) : Int) = (at_ : Int) + 1 := by omega
      rw [hcast] at hsetN
      have f1 := fun n => (h.drew n).fz 1
      have c1n := fun n => (h.drew n).c1
      by_cases hgt : most < k
      · have hgt' : (most : Int) < (k : Int) := by omega
        rw [if_pos hgt] at hM
        have hto : ∀ n W', Fc c at_ 71 at_ ft 0 (W.drewN n) W' → ByP most c at_ ft 0 W (.returned (.int .u8 0)) W' := fun n W' hf => ⟨0, _, _, _, rfl, Nat.zero_le _, hf.1, (gr_drew _ _ _).trans hf.2, Xp.fail (fun _ => hM) (by decide)⟩
        have htoH := Hid.mk hto
        have hftH := Hid.mk hft
        clear hM h hc hk hto hft hsetN hcast hne ciN
        have ciD := ci
        go_enter Try.func47, Try.ntmps47
        go_wp2
        go_quiet (fail)
        rename Nat => m1
        go_wp2
        go_quiet (fail)
        rename Nat => m2
        go_wp2_with (go_at_call 12; fail)
        refine (hftH.out _).mono ?_
        rintro e w1 ⟨rfl, hb1⟩
        have hfin := htoH.out _ _ hb1
        clear hb1
        go_wp2
        exact bodyPost_ret (v := .int .u8 0) (by simp [results, Try.results47, go_sem]) rfl hfin
      · have hgt' : ¬ (most : Int) < (k : Int) := by omega
        rw [if_neg hgt] at hM
        have hto : ∀ n, ByP most c at_ ft 0 W (.returned (.int .u8 (k : Int))) ((W.drewN n).setCell ⟨c.r, 1, none⟩ (.int .i64 ((at_ : Int) + 1))) := fun n => ⟨k, at_ + 1, ft, 0, rfl, by omega, hsetN n, (gr_drew _ _ _).trans (gr_set _ _ _ _), by rw [hM]; exact Xp.pure⟩
        have htoH := Hid.mk hto
        clear hM h hc hk hto hft hsetN hcast hne ciN
        go_enter Try.func47, Try.ntmps47
        go_wp2
        go_quiet (fail)
        rename Nat => m1
        go_wp2
        go_quiet (fail)
        rename Nat => m2
        have hfin := htoH.out (m1 + m2)
        have f1' := f1 (m1 + m2)
        have c1' := c1n (m1 + m2)
        clear f1 c1n
        go_wp2
        exact bodyPost_ret (v := .int .u8 (k : Int)) (by simp [results, Try.results47, go_sem]) rfl hfin
    · have hlt' : (c.l.length : Int) ≤ (at_ : Int) := by omega
      have hM : rByte most c.l at_ = .error (c.l.length, 70) := by
        unfold rByte
        rw [List.getElem?_eq_none (by omega)]
      have hsh := fun n => short_any c (W.drewN n) (h.drew n)
      have hto : ∀ n W', Fc c c.l.length 70 at_ ft 0 (W.drewN n) W' → ByP most c at_ ft 0 W (.returned (.int .u8 0)) W' := fun n W' hf => ⟨0, _, _, _, rfl, Nat.zero_le _, hf.1, (gr_drew _ _ _).trans hf.2, Xp.fail (fun _ => hM) (by decide)⟩
      have htoH := Hid.mk hto
      have hshH := Hid.mk hsh
      clear hM h hto hsh
      go_enter Try.func47, Try.ntmps47
      go_wp2
      go_quiet (fail)
      rename Nat => m1
      go_wp2_with (go_at_call 11; fail)
      refine (hshH.out _).mono ?_
      rintro e w1 ⟨rfl, hb1⟩
      have hfin := htoH.out _ _ hb1
      clear hb1
      go_wp2
      exact bodyPost_ret (v := .int .u8 0) (by simp [results, Try.results47, go_sem]) rfl hfin
  · have he' : ((er : Int) != 0) = true := by simp; omega
    have hfin : ByP most c at_ ft er W (.returned (.int .u8 0)) W := ⟨0, at_, ft, er, rfl, Nat.zero_le _, h, gr_refl _ _, Xp.stuck he⟩
    clear h
    go_enter Try.func47, Try.ntmps47
    go_wp2
    exact bodyPost_ret (v := .int .u8 0) (by simp [results, Try.results47, go_sem]) rfl hfin
/-- What flag answers. -/
def FgP (c : Rc) (at_ ft er : Nat) (W : World) (e : Ending) (W' : World) : Prop := ∃ (x : Bool) (at2 ft2 er2 : Nat), e = .returned (.bool x) ∧ CS c W' at2 ft2 er2 ∧ W.grownBy W' (some c.r) ∧ Xp (rFlag c.l at_) ft er at2 ft2 er2 x
set_option maxHeartbeats 1000000 in
theorem flag_any (c : Rc) (W : World) {at_ ft er : Nat} (h : CS c W at_ ft er) : Calls Try.prog 17 #[.pointer (some ⟨c.r, 0, none⟩)] W (FgP c at_ ft er W) := by
  have hn : Calls Try.prog 47 #[.pointer (some ⟨c.r, 0, none⟩), .int .u8 1] W _ := byte_any 1 (by decide) c W h
  clear h
  go_enter Try.func17, Try.ntmps17
  go_wp2_with (go_at_call 47; fail)
  refine hn.mono ?_
  rintro e w1 ⟨x, at2, ft2, er2, rfl, hx, hC, hg, hp⟩
  have hfin : FgP c at_ ft er W (.returned (.bool (decide (x = 1)))) w1 := ⟨decide (x = 1), at2, ft2, er2, rfl, hC, hg, hp.bd Xp.pure⟩
  clear hn hC hg hp
  by_cases h1 : x = 1
  · have h1' : ((x : Int) == 1) = true := by rw [h1]; rfl
    rw [decide_eq_true h1] at hfin
    clear h1
    go_wp2
    exact bodyPost_ret (v := .bool true) (by simp [results, Try.results17, go_sem]) rfl hfin
  · have h1' : ((x : Int) == 1) = false := by simp; omega
    rw [decide_eq_false h1] at hfin
    clear h1
    go_wp2
    exact bodyPost_ret (v := .bool false) (by simp [results, Try.results17, go_sem]) rfl hfin
/-- What list answers: 0 behind a fault. -/
def LsP (c : Rc) (at_ ft er : Nat) (W : World) (e : Ending) (W' : World) : Prop := ∃ (n at2 ft2 er2 : Nat), e = .returned (.int .i64 (n : Int)) ∧ n ≤ 262144 ∧ (er2 ≠ 0 → n = 0) ∧ CS c W' at2 ft2 er2 ∧ W.grownBy W' (some c.r) ∧ Xp (rLen c.l at_) ft er at2 ft2 er2 n
set_option maxRecDepth 4000 in
set_option maxHeartbeats 2000000 in
theorem list_any (c : Rc) (W : World) {at_ ft er : Nat} (h : CS c W at_ ft er) : Calls Try.prog 14 #[.pointer (some ⟨c.r, 0, none⟩)] W (LsP c at_ ft er W) := by
  have hn := num_any c W h
  clear h
  go_enter Try.func14, Try.ntmps14
  go_wp2_with (go_at_call 46; fail)
  refine hn.mono ?_
  rintro e w1 ⟨n, at2, ft2, er2, rfl, hnl, hn0, hC, hg, hp⟩
  have c0 := hC.c0
  have c1 := hC.c1
  have c3 := hC.c3
  have hln := hC.ln
  clear hn
  by_cases he : er2 = 0
  · subst he
    have hle := hC.le rfl
    have hd : ((c.l.length : Int) - (at2 : Int)) % 18446744073709551616 = (c.l.length : Int) - (at2 : Int) := by omega
    by_cases hgt : c.l.length - at2 < n
    · have hgt' : (c.l.length : Int) - (at2 : Int) < (n : Int) := by omega
      have hto : ∀ k W', Fc c c.l.length 70 at2 ft2 0 (w1.drewN k) W' → LsP c at_ ft er W (.returned (.int .i64 0)) W' ∧ W'.cell? ⟨c.r, 3, none⟩ = some (.int .i64 70) := fun k W' hf => ⟨⟨0, _, _, _, rfl, Nat.zero_le _, fun _ => rfl, hf.1, (hg.trans (gr_drew _ _ _)).trans hf.2, hp.bd (Xp.fail (fun _ => if_pos hgt) (by decide))⟩, hf.1.c3⟩
      have hsh := fun k => short_any c (w1.drewN k) (hC.drew k)
      have htoH := Hid.mk hto
      have hshH := Hid.mk hsh
      clear hC hg hp hto hsh hn0
      go_wp2_with fail
      go_quiet (fail)
      rename Nat => m1
      go_wp2_with (go_at_call 11; fail)
      refine (hshH.out _).mono ?_
      rintro e w2 ⟨rfl, hb1⟩
      obtain ⟨hfin, c3'⟩ := htoH.out _ _ hb1
      clear hb1
      go_wp2
      exact bodyPost_ret (v := .int .i64 0) (by simp [results, Try.results14, go_sem]) rfl hfin
    · have hgt' : ¬ (c.l.length : Int) - (at2 : Int) < (n : Int) := by omega
      have hto : ∀ k, LsP c at_ ft er W (.returned (.int .i64 (n : Int))) (w1.drewN k) := fun k => ⟨n, at2, ft2, 0, rfl, by omega, fun h => absurd rfl h, hC.drew k, hg.trans (gr_drew _ _ _), hp.bd (by rw [show (if c.l.length - at2 < n then (.error (c.l.length, 70) : Rd Nat) else .ok (n, at2)) = .ok (n, at2) from if_neg hgt]; exact Xp.pure)⟩
      have htoH := Hid.mk hto
      have hnb : (n : Int) ≤ 262144 := by omega
      clear hC hg hp hto hn0
      go_wp2_with fail
      go_quiet (fail)
      rename Nat => m1
      have hfin := htoH.out m1
      go_wp2
      exact bodyPost_ret (v := .int .i64 (n : Int)) (by simp [results, Try.results14, go_sem]) rfl hfin
  · have he' : ((er2 : Int) == 0) = false := by simp; omega
    have he2 : ((er2 : Int) != 0) = true := by simp; omega
    have hto : ∀ k, LsP c at_ ft er W (.returned (.int .i64 0)) (w1.drewN k) := fun k => ⟨0, at2, ft2, er2, rfl, Nat.zero_le _, fun _ => rfl, hC.drew k, hg.trans (gr_drew _ _ _), hp.bd (Xp.stuck he)⟩
    have htoH := Hid.mk hto
    clear hC hg hp hto hn0 he
    go_wp2_with fail
    go_quiet (fail)
    rename Nat => m1
    have hfin := htoH.out m1
    go_wp2
    exact bodyPost_ret (v := .int .i64 0) (by simp [results, Try.results14, go_sem]) rfl hfin

end Go.Proofs.Ytjgngmmepheioaa.G

import Derived.Test.YtjgngmmepheioaaPxH
import Derived.Test.YtjgngmmepheioaaPxP
import Derived.Deep.CutBlock
import Derived.Deep.DeepCutAuto
/- THE DOCUMENT'S READER (levyref7's cursor): its state, its small calls. -/
namespace Go.Proofs.Ytjgngmmepheioaa.G
open Go.RowKit

/-- The cursor's state: how far it is, its fault, its error. -/
structure CS (c : Rc) (W : World) (at_ ft er : Nat) : Prop where
  c0 : W.cell? ⟨c.r, 0, none⟩ = some (.slice c.a c.l.length c.cap)
  c1 : W.cell? ⟨c.r, 1, none⟩ = some (.int .i64 (at_ : Int))
  c2 : W.cell? ⟨c.r, 2, none⟩ = some (.int .i64 (ft : Int))
  c3 : W.cell? ⟨c.r, 3, none⟩ = some (.int .i64 (er : Int))
  fz : ∀ j, W.frozen? ⟨c.r, j, none⟩ = false
  by_ : BytR c W
  le : er = 0 → at_ ≤ c.l.length
  fl : ft ≤ c.l.length
  e9 : er < 100
  ln : c.l.length ≤ 262144
  cp : c.a = none → c.cap = 0
  lc : c.l.length ≤ c.cap
  l4 : at_ ≤ c.l.length + 4
theorem CS.lt {c : Rc} {W : World} {at_ ft er : Nat} (h : CS c W at_ ft er) : c.r < W.heap.size := World.block_lt_of_cell? _ _ h.c0
theorem CS.other {c : Rc} {W W' : World} {at_ ft er : Nat} {r : Option Nat} (h : CS c W at_ ft er) (hg : W.grownBy W' r) (hr : some c.r ≠ r) (hb : c.l ≠ [] → ∀ b off, c.a = some ⟨b, off, none⟩ → some b ≠ r) : CS c W' at_ ft er := by
  have o := fun i => gr_cell hg h.lt hr i
  refine ⟨(o 0).trans h.c0, (o 1).trans h.c1, (o 2).trans h.c2, (o 3).trans h.c3, fun j => (gr_frozen hg h.lt hr j).trans (h.fz j), ?_, h.le, h.fl, h.e9, h.ln, h.cp, h.lc, h.l4⟩
  rcases h.by_ with h0 | ⟨b, off, ha, hlt, hne, hc⟩
  · exact .inl h0
  · by_cases h0 : c.l = []
    · exact .inl h0
    · exact .inr ⟨b, off, ha, Nat.lt_of_lt_of_le hlt hg.size, hne, fun i hi => (gr_cell hg hlt (hb h0 b off ha) _).trans (hc i hi)⟩
theorem CS.below {c : Rc} {W : World} {at_ ft er : Nat} (h : CS c W at_ ft er) : c.l ≠ [] → ∀ b off, c.a = some ⟨b, off, none⟩ → b < W.heap.size := fun h0 b off ha => by
  rcases h.by_ with h1 | ⟨b2, off2, ha2, hlt, -, -⟩
  · exact absurd h1 h0
  · rw [ha2] at ha
    cases ha
    exact hlt
theorem CS.alloc {c : Rc} {W : World} {at_ ft er : Nat} (h : CS c W at_ ft er) (o : Obj) : CS c (W.alloc o) at_ ft er := h.other (World.grownBy_alloc W o none) (by simp) (by simp)
theorem CS.drew {c : Rc} {W : World} {at_ ft er : Nat} (h : CS c W at_ ft er) (n : Nat) : CS c (World.drewN W n) at_ ft er := h.other (gr_drew W n none) (by simp) (by simp)
theorem CS.drew1 {c : Rc} {W : World} {at_ ft er : Nat} (h : CS c W at_ ft er) : CS c W.drew at_ ft er := h.other (⟨rfl, rfl, rfl, Nat.le_refl _, fun _ _ _ => rfl⟩ : W.grownBy W.drew none) (by simp) (by simp)
theorem byr_set {c : Rc} {W : World} {i : Nat} {v : Value} (h : BytR c W) : BytR c (W.setCell ⟨c.r, i, none⟩ v) := by
  have hg := gr_set W c.r i v
  rcases h with h0 | ⟨b, off, ha, hlt, hne, hc⟩
  · exact .inl h0
  · exact .inr ⟨b, off, ha, Nat.lt_of_lt_of_le hlt hg.size, hne, fun i hi => (gr_cell hg hlt (by simp; exact hne) _).trans (hc i hi)⟩
theorem CS.set1 {c : Rc} {W : World} {at_ ft er at2 : Nat} (h : CS c W at_ ft er) (h2 : at2 ≤ c.l.length) : CS c (W.setCell ⟨c.r, 1, none⟩ (.int .i64 (at2 : Int))) at2 ft er := by
  have o : ∀ i, i ≠ 1 → (W.setCell ⟨c.r, 1, none⟩ (.int .i64 (at2 : Int))).cell? ⟨c.r, i, none⟩ = W.cell? ⟨c.r, i, none⟩ := fun i hi => World.cell?_setCell_other _ _ _ _ (fun e => hi (by cases e; rfl))
  exact ⟨(o 0 (by decide)).trans h.c0, World.cell?_setCell_same _ _ _ h.c1, (o 2 (by decide)).trans h.c2, (o 3 (by decide)).trans h.c3, fun j => by rw [World.frozen?_setCell]; exact h.fz j, byr_set h.by_, fun _ => h2, h.fl, h.e9, h.ln, h.cp, h.lc, by omega⟩
theorem CS.failed {c : Rc} {W : World} {at_ ft : Nat} (h : CS c W at_ ft 0) {f2 e2 : Nat} (hf : f2 ≤ c.l.length) (he : e2 < 100) : CS c ((W.setCell ⟨c.r, 2, none⟩ (.int .i64 (f2 : Int))).setCell ⟨c.r, 3, none⟩ (.int .i64 (e2 : Int))) at_ f2 e2 := by
  have o : ∀ (X : World) (i j : Nat) (v : Value), i ≠ j → (X.setCell ⟨c.r, j, none⟩ v).cell? ⟨c.r, i, none⟩ = X.cell? ⟨c.r, i, none⟩ := fun X i j v hij => World.cell?_setCell_other _ _ _ _ (fun e => hij (by cases e; rfl))
  refine ⟨?_, ?_, ?_, ?_, fun j => ?_, byr_set (byr_set h.by_), fun _ => h.le rfl, hf, he, h.ln, h.cp, h.lc, h.l4⟩
  · rw [o _ 0 3 _ (by decide), o _ 0 2 _ (by decide)]
    exact h.c0
  · rw [o _ 1 3 _ (by decide), o _ 1 2 _ (by decide)]
    exact h.c1
  · rw [o _ 2 3 _ (by decide)]
    exact World.cell?_setCell_same _ _ _ h.c2
  · exact World.cell?_setCell_same _ _ _ (u := .int .i64 ((0 : Nat) : Int)) (by rw [o _ 3 2 _ (by decide)]; exact h.c3)
  · rw [World.frozen?_setCell, World.frozen?_setCell]; exact h.fz j
/-- What a piece answers: the value, how far the cursor is then. -/
def Xd {β : Type} (M : List UInt8 → Nat → Rd β) (V : World → Nat → β → Value → Prop) (c : Rc) (at_ ft er : Nat) (W : World) (e : Ending) (W' : World) : Prop :=
  ∃ (x : β) (v : Value) (at2 ft2 er2 : Nat), e = .returned v ∧ V W' W.heap.size x v ∧ CS c W' at2 ft2 er2 ∧ W.grownBy W' (some c.r) ∧ Xp (M c.l at_) ft er at2 ft2 er2 x
/-- Behind a fault. -/
def Fc (c : Rc) (p n at_ ft er : Nat) (W W' : World) : Prop := CS c W' at_ (if er = 0 then p else ft) (if er = 0 then n else er) ∧ W.grownBy W' (some c.r)

set_option maxRecDepth 4000 in
set_option maxHeartbeats 1000000 in
theorem fault_any (c : Rc) (p n : Nat) (hp : p ≤ c.l.length) (hn : n < 100) (W : World) {at_ ft er : Nat} (h : CS c W at_ ft er) : Calls Try.prog 12 #[.pointer (some ⟨c.r, 0, none⟩), .int .i64 (p : Int), .int .i64 (n : Int)] W fun e W' => e = .returned (.tuple #[]) ∧ Fc c p n at_ ft er W W' := by
  have c2 := h.c2
  have c3 := h.c3
  have f2 := h.fz 2
  have f3 := h.fz 3
  by_cases he : er = 0
  · subst he
    have hf := h.failed hp hn
    have hg := (gr_set W c.r 2 (.int .i64 (p : Int))).trans (gr_set _ c.r 3 (.int .i64 (n : Int)))
    clear h
    go_enter Try.func12, Try.ntmps12
    go_wp2
    exact bodyPost_end (v := .tuple #[]) (by simp [results, Try.results12, go_sem]) rfl ⟨rfl, by rw [if_pos rfl, if_pos rfl]; exact hf, hg⟩
  · have he' : ((er : Int) == 0) = false := by simp; omega
    have hg := gr_refl W (some c.r)
    have hfin : Fc c p n at_ ft er W W := ⟨by rw [if_neg he, if_neg he]; exact h, hg⟩
    clear h
    go_enter Try.func12, Try.ntmps12
    go_wp2
    exact bodyPost_end (v := .tuple #[]) (by simp [results, Try.results12, go_sem]) rfl ⟨rfl, hfin⟩
set_option maxHeartbeats 1000000 in
theorem short_any (c : Rc) (W : World) {at_ ft er : Nat} (h : CS c W at_ ft er) : Calls Try.prog 11 #[.pointer (some ⟨c.r, 0, none⟩)] W fun e W' => e = .returned (.tuple #[]) ∧ Fc c c.l.length 70 at_ ft er W W' := by
  have c0 := h.c0
  have hf := fault_any c c.l.length 70 (Nat.le_refl _) (by omega) W h
  clear h
  go_enter Try.func11, Try.ntmps11
  go_wp2_with (go_at_call 12; refine hf.mono ?_; rintro e w1 ⟨rfl, hb1⟩)
  exact bodyPost_end (v := .tuple #[]) (by simp [results, Try.results11, go_sem]) rfl ⟨rfl, hb1⟩
/-- What num answers: 0 behind a fault. -/
def NmP (c : Rc) (at_ ft er : Nat) (W : World) (e : Ending) (W' : World) : Prop := ∃ (n at2 ft2 er2 : Nat), e = .returned (.int .u64 (n : Int)) ∧ n < 18446744073709551616 ∧ (er2 ≠ 0 → n = 0) ∧ CS c W' at2 ft2 er2 ∧ W.grownBy W' (some c.r) ∧ Xp (rN c.l at_) ft er at2 ft2 er2 n
theorem pow128 (k : Nat) (h : k ≤ 9) : 128 ^ k ≤ 9223372036854775808 := by
  have : ∀ k : Fin 10, 128 ^ k.val ≤ 9223372036854775808 := by decide
  exact this ⟨k, by omega⟩

set_option maxRecDepth 8000 in
set_option maxHeartbeats 4000000 in
theorem num_any (c : Rc) (W : World) {at_ ft er : Nat} (h : CS c W at_ ft er) : Calls Try.prog 46 #[.pointer (some ⟨c.r, 0, none⟩)] W (NmP c at_ ft er W) := by
  have c3 := h.c3
  by_cases he : er = 0
  · subst he
    have c0 := h.c0
    have c1 := h.c1
    have hle := h.le rfl
    have hln := h.ln
    have f1 := h.fz 1
    have hsh := short_any c W h
    have hft := fault_any c at_ 71 hle (by omega) W h
    have hby := h.by_
    have hset := fun a2 h2 => h.set1 (at2 := a2) h2
    have hto0 : Hid (∀ p n W', rN c.l at_ = .error (p, n) → n ≠ 0 → Fc c p n at_ ft 0 W W' → NmP c at_ ft 0 W (.returned (.int .u64 0)) W') := ⟨fun p n W' hM hn hf => ⟨0, at_, _, _, rfl, by omega, fun _ => rfl, hf.1, hf.2, Xp.fail (fun _ => hM) hn⟩⟩
    clear h
    go_enter Try.func46, Try.ntmps46
    go_wp2
    go_loopw [4, 5, 6] (fun nv uv kv wr => ∃ k n : Nat, k ≤ 10 ∧ kv = .int .i64 (k : Int) ∧ nv = .int .u64 (n : Int) ∧ (k ≤ 9 → uv = .int .u64 ((128 ^ k : Nat) : Int)) ∧ (∃ u : Nat, u < 18446744073709551616 ∧ uv = .int .u64 (u : Int)) ∧ n < 18446744073709551616 ∧ (k ≤ 9 → n < 128 ^ k) ∧ at_ + k ≤ c.l.length ∧ Hid (rN c.l at_ = if k = 10 then .error (at_, 71) else nGo c.l.length at_ (c.l.drop (at_ + k)) k n) ∧ wr = W) (fun _ _ kv _ => 10 - (intOf kv).toNat)
    case atStart => exact ⟨0, 0, by omega, rfl, rfl, fun _ => rfl, ⟨1, by omega, rfl⟩, by omega, fun _ => by simp, by omega, ⟨rfl⟩, rfl⟩
    case round =>
      obtain ⟨i, n, hi, rfl, rfl, hu, ⟨u, hul, rfl⟩, hn, hnk, hat, hM, rfl⟩ := hrel
      by_cases hi10 : i < 10
      · have hi10' : (i : Int) < 10 := by omega
        have hue : u = 128 ^ i := by have h := hu (by omega); simp only [Value.int.injEq, true_and] at h; omega
        by_cases hlt : at_ + i < c.l.length
        · have hlt' : ¬ (c.l.length : Int) ≤ (at_ : Int) + (i : Int) := by omega
          rcases hby with hnil | ⟨b, off, ha, hblt, hne, hc⟩
          · rw [hnil] at hlt; simp at hlt
          rw [ha] at c0
          have ci := hc (at_ + i) hlt
          obtain ⟨j, hj⟩ : ∃ j, j = at_ + i := ⟨_, rfl⟩
          have hjI : (at_ : Int) + (i : Int) = (j : Int) := by omega
          have hj0 : (0 : Int) ≤ (j : Int) := by omega
          have hjl : (j : Int) < (c.l.length : Int) := by omega
          have hM2 : Hid (rN c.l at_ = nGo c.l.length at_ (c.l[at_ + i] :: c.l.drop (at_ + (i + 1))) i n) := ⟨by rw [hM.out, if_neg (by omega), List.drop_eq_getElem_cons hlt]; rfl⟩
          generalize c.l[at_ + i] = x at *
          rw [← hj] at ci
          obtain ⟨k, hk⟩ : ∃ k, x.toNat = k := ⟨_, rfl⟩
          have hk256 : k < 256 := by rw [← hk]; exact x.toNat_lt
          rw [hk] at ci
          replace hM2 := Hid.mk (hM2.out.trans nGo_cons)
          rw [hk] at hM2
          obtain ⟨m, hm⟩ : ∃ m, m = u * (k % 128) % 18446744073709551616 := ⟨_, rfl⟩
          obtain ⟨n2, hn2⟩ : ∃ n2, n2 = (n + m) % 18446744073709551616 := ⟨_, rfl⟩
          obtain ⟨u2, hu2⟩ : ∃ u2, u2 = u * 128 % 18446744073709551616 := ⟨_, rfl⟩
          have wm : ((u : Int) * ((k : Int) % 128)) % 18446744073709551616 = (m : Int) := by rw [hm, show ((k : Int) % 128) = ((k % 128 : Nat) : Int) by omega, ← Int.natCast_mul]; omega
          have wn : ((n : Int) + (m : Int)) % 18446744073709551616 = (n2 : Int) := by rw [hn2]; omega
          have wu : ((u : Int) * 128) % 18446744073709551616 = (u2 : Int) := by rw [hu2]; omega
          have wm' := wm
          rw [← IntKind.wrap_u64] at wm'
          have wn' := wn
          rw [← IntKind.wrap_u64] at wn'
          have wu' := wu
          rw [← IntKind.wrap_u64] at wu'
          have hn2l : n2 < 18446744073709551616 := by omega
          have hu2l : u2 < 18446744073709551616 := by omega
          have hml : m < 18446744073709551616 := by omega
          have hval : Hid (i ≤ 8 ∨ k ≤ 1 → m = k % 128 * 128 ^ i ∧ n2 = n + k % 128 * 128 ^ i) := ⟨fun hc => by
            have h7 : k % 128 * 128 ^ i < 18446744073709551616 := mul7 (by omega) (fun h => by omega)
            have e1 : u * (k % 128) = k % 128 * 128 ^ i := by rw [hue, Nat.mul_comm]
            have e2 : m = k % 128 * 128 ^ i := by rw [hm, e1]; omega
            have hnn := hnk (by omega)
            refine ⟨e2, ?_⟩
            have h8 : n + k % 128 * 128 ^ i < 18446744073709551616 := by
              rcases Nat.lt_or_ge i 9 with h | h
              · have q1 : 128 ^ i ≤ 128 ^ 8 := Nat.pow_le_pow_right (by decide) (by omega)
                have q2 : (128 : Nat) ^ 8 = 72057594037927936 := by decide
                have q3 := Nat.mul_le_mul (show k % 128 ≤ 127 by omega) q1
                omega
              · obtain rfl : i = 9 := by omega
                have q2 : (128 : Nat) ^ 9 = 9223372036854775808 := by decide
                have q3 := Nat.mul_le_mul_right (128 ^ 9) (show k % 128 ≤ 1 by omega)
                omega
            rw [hn2, e2]
            omega⟩
          have hnxt : Hid (i ≤ 8 → u2 = 128 ^ (i + 1) ∧ n + k % 128 * 128 ^ i < 128 ^ (i + 1)) := ⟨fun hc => by
            have hnn := hnk (by omega)
            have e : 128 ^ (i + 1) = 128 ^ i * 128 := Nat.pow_succ ..
            have q1 : 128 ^ (i + 1) ≤ 128 ^ 9 := Nat.pow_le_pow_right (by decide) (by omega)
            have q2 : (128 : Nat) ^ 9 = 9223372036854775808 := by decide
            have q3 := Nat.mul_le_mul_right (128 ^ i) (show k % 128 ≤ 127 by omega)
            exact ⟨by rw [hu2, hue, ← e]; omega, by omega⟩⟩
          have hukeep : Hid (u = 128 ^ i) := ⟨hue⟩
          have hjH := Hid.mk hj
          have hnkH := Hid.mk hnk
          clear hue hu hnk hM hm hn2 hu2 hc hj hk hne
          by_cases h8 : k < 128
          · have h8' : (k : Int) < 128 := by omega
            have hkm : (k : Int) % 128 = (k : Int) := by omega
            by_cases h9 : i = 9
            · have h9' : ((i : Int) == 9) = true := by rw [h9]; rfl
              by_cases hk1 : 1 < k
              · have hk1' : (1 : Int) < (k : Int) % 128 := by omega
                have hto := fun W' hf => hto0.out at_ 71 W' (by rw [hM2.out, if_pos (by omega)]) (by decide) hf
                clear hval hnxt hM2
                clear h9 hkm
                go_wp2_with (go_at_call 12; refine hft.mono ?_; rintro e w1 ⟨rfl, hb1⟩)
                exact bodyPost_ret (v := .int .u64 0) (by simp [results, Try.results46, go_sem]) rfl (hto _ hb1)
              · have hk1' : ¬ (1 : Int) < (k : Int) % 128 := by omega
                by_cases hk0 : k = 0
                · have hk0' : ((k : Int) == 0) = true := by rw [hk0]; rfl
                  have hi1 : (0 : Int) < (i : Int) := by omega
                  have hto := fun W' hf => hto0.out at_ 71 W' (by rw [hM2.out, if_pos (by omega)]) (by decide) hf
                  clear hval hnxt hM2
                  clear h9 hk0 hkm
                  go_wp2_with (go_at_call 12; refine hft.mono ?_; rintro e w1 ⟨rfl, hb1⟩)
                  exact bodyPost_ret (v := .int .u64 0) (by simp [results, Try.results46, go_sem]) rfl (hto _ hb1)
                · have hk0' : ((k : Int) == 0) = false := by simp; omega
                  have hvv := (hval.out (by omega)).2
                  have hcs := hset (j + 1) (by omega)
                  have hcast : ((j + 1 : Nat) : Int) = (j : Int) + 1 := by omega
                  rw [hcast] at hcs
                  have hfin : NmP c at_ ft 0 wr (.returned (.int .u64 (n2 : Int))) (wr.setCell ⟨c.r, 1, none⟩ (.int .i64 ((j : Int) + 1))) := ⟨n2, j + 1, ft, 0, rfl, hn2l, fun h => absurd rfl h, hcs, gr_set _ _ _ _, by rw [hM2.out, if_neg (by omega), if_pos (by omega), ← hvv, show at_ + (i + 1) = j + 1 by have := hjH.out; omega]; exact Xp.pure⟩
                  clear hval hnxt hM2 hvv hcast hcs h9 hkm
                  go_wp2
                  exact bodyPost_ret (v := .int .u64 (n2 : Int)) (by simp [results, Try.results46, go_sem]) rfl hfin
            · have h9' : ((i : Int) == 9) = false := by simp; omega
              by_cases hk0 : k = 0
              · have hk0' : ((k : Int) == 0) = true := by rw [hk0]; rfl
                by_cases hi0 : i = 0
                · have hi1 : ¬ (0 : Int) < (i : Int) := by omega
                  have hvv := (hval.out (by omega)).2
                  have hcs := hset (j + 1) (by omega)
                  have hcast : ((j + 1 : Nat) : Int) = (j : Int) + 1 := by omega
                  rw [hcast] at hcs
                  have hfin : NmP c at_ ft 0 wr (.returned (.int .u64 (n2 : Int))) (wr.setCell ⟨c.r, 1, none⟩ (.int .i64 ((j : Int) + 1))) := ⟨n2, j + 1, ft, 0, rfl, hn2l, fun h => absurd rfl h, hcs, gr_set _ _ _ _, by rw [hM2.out, if_neg (by omega), if_pos (by omega), ← hvv, show at_ + (i + 1) = j + 1 by have := hjH.out; omega]; exact Xp.pure⟩
                  clear hval hnxt hM2 hvv hcast hcs hkm hk0 hi0
                  go_wp2
                  exact bodyPost_ret (v := .int .u64 (n2 : Int)) (by simp [results, Try.results46, go_sem]) rfl hfin
                · have hi1 : (0 : Int) < (i : Int) := by omega
                  have hto := fun W' hf => hto0.out at_ 71 W' (by rw [hM2.out, if_pos (by omega)]) (by decide) hf
                  clear hval hnxt hM2
                  clear hk0 hkm
                  go_wp2_with (go_at_call 12; refine hft.mono ?_; rintro e w1 ⟨rfl, hb1⟩)
                  exact bodyPost_ret (v := .int .u64 0) (by simp [results, Try.results46, go_sem]) rfl (hto _ hb1)
              · have hk0' : ((k : Int) == 0) = false := by simp; omega
                have hvv := (hval.out (by omega)).2
                have hcs := hset (j + 1) (by omega)
                have hcast : ((j + 1 : Nat) : Int) = (j : Int) + 1 := by omega
                rw [hcast] at hcs
                have hfin : NmP c at_ ft 0 wr (.returned (.int .u64 (n2 : Int))) (wr.setCell ⟨c.r, 1, none⟩ (.int .i64 ((j : Int) + 1))) := ⟨n2, j + 1, ft, 0, rfl, hn2l, fun h => absurd rfl h, hcs, gr_set _ _ _ _, by rw [hM2.out, if_neg (by omega), if_pos (by omega), ← hvv, show at_ + (i + 1) = j + 1 by have := hjH.out; omega]; exact Xp.pure⟩
                clear hval hnxt hM2 hvv hcast hcs hkm
                go_wp2
                exact bodyPost_ret (v := .int .u64 (n2 : Int)) (by simp [results, Try.results46, go_sem]) rfl hfin
          · have h8' : ¬ (k : Int) < 128 := by omega
            by_cases h9 : i = 9
            · have h9' : ((i : Int) == 9) = true := by rw [h9]; rfl
              by_cases hk1 : 1 < k % 128
              · have hk1' : (1 : Int) < (k : Int) % 128 := by omega
                have hMn : Hid (rN c.l at_ = if i + 1 = 10 then .error (at_, 71) else nGo c.l.length at_ (c.l.drop (at_ + (i + 1))) (i + 1) n2) := ⟨by rw [hM2.out, if_pos (by omega), if_pos (by omega)]⟩
                have hq : Hid ((i + 1 ≤ 9 → u2 = 128 ^ (i + 1)) ∧ (i + 1 ≤ 9 → n2 < 128 ^ (i + 1))) := ⟨fun h => by omega, fun h => by omega⟩
                clear hval hnxt hM2 h9
                go_wp2
                go_roundw
                case rel => exact ⟨i + 1, n2, by omega, by go_num, rfl, fun h => by rw [hq.out.1 h], ⟨u2, hu2l, rfl⟩, hn2l, hq.out.2, by have := hjH.out; omega, hMn, trivial⟩
                case measure => simp [intOf]; omega
              · have hk1' : ¬ (1 : Int) < (k : Int) % 128 := by omega
                have hMn : Hid (rN c.l at_ = if i + 1 = 10 then .error (at_, 71) else nGo c.l.length at_ (c.l.drop (at_ + (i + 1))) (i + 1) n2) := ⟨by rw [hM2.out, if_pos (by omega), if_pos (by omega)]⟩
                have hq : Hid ((i + 1 ≤ 9 → u2 = 128 ^ (i + 1)) ∧ (i + 1 ≤ 9 → n2 < 128 ^ (i + 1))) := ⟨fun h => by omega, fun h => by omega⟩
                clear hval hnxt hM2 h9
                go_wp2
                go_roundw
                case rel => exact ⟨i + 1, n2, by omega, by go_num, rfl, fun h => by rw [hq.out.1 h], ⟨u2, hu2l, rfl⟩, hn2l, hq.out.2, by have := hjH.out; omega, hMn, trivial⟩
                case measure => simp [intOf]; omega
            · have h9' : ((i : Int) == 9) = false := by simp; omega
              have hvv := (hval.out (by omega)).2
              have hMn : Hid (rN c.l at_ = if i + 1 = 10 then .error (at_, 71) else nGo c.l.length at_ (c.l.drop (at_ + (i + 1))) (i + 1) n2) := ⟨by rw [hM2.out, if_neg (by omega), if_neg (by omega), if_neg (by omega), hvv]⟩
              have hq : Hid ((i + 1 ≤ 9 → u2 = 128 ^ (i + 1)) ∧ (i + 1 ≤ 9 → n2 < 128 ^ (i + 1))) := ⟨fun h => (hnxt.out (by omega)).1, fun h => by rw [hvv]; exact (hnxt.out (by omega)).2⟩
              clear hvv
              clear hval hnxt hM2
              go_wp2
              go_roundw
              case rel => exact ⟨i + 1, n2, by omega, by go_num, rfl, fun h => by rw [hq.out.1 h], ⟨u2, hu2l, rfl⟩, hn2l, hq.out.2, by have := hjH.out; omega, hMn, trivial⟩
              case measure => simp [intOf]; omega
        · have hlt' : (c.l.length : Int) ≤ (at_ : Int) + (i : Int) := by omega
          have hM2 : rN c.l at_ = .error (c.l.length, 70) := by rw [hM.out, if_neg (by omega), List.drop_eq_nil_of_le (by omega)]; rfl
          have hto := fun W' hf => hto0.out c.l.length 70 W' hM2 (by decide) hf
          clear hM hM2
          go_wp2_with (go_at_call 11; refine hsh.mono ?_; rintro e w1 ⟨rfl, hb1⟩)
          exact bodyPost_ret (v := .int .u64 0) (by simp [results, Try.results46, go_sem]) rfl (hto _ hb1)
      · have hi10' : ¬ (i : Int) < 10 := by omega
        have hM2 : rN c.l at_ = .error (at_, 71) := by rw [hM.out, if_pos (by omega)]
        have hto := fun W' hf => hto0.out at_ 71 W' hM2 (by decide) hf
        clear hM hM2 hu
        go_wp2_with (go_at_call 12; refine hft.mono ?_; rintro e w1 ⟨rfl, hb1⟩)
        exact bodyPost_ret (v := .int .u64 0) (by simp [results, Try.results46, go_sem]) rfl (hto _ hb1)
  · have he' : ((er : Int) != 0) = true := by simp; omega
    have hfin : NmP c at_ ft er W (.returned (.int .u64 0)) W := ⟨0, at_, ft, er, rfl, by omega, fun _ => rfl, h, gr_refl _ _, Xp.stuck he⟩
    clear h
    go_enter Try.func46, Try.ntmps46
    go_wp2
    exact bodyPost_ret (v := .int .u64 0) (by simp [results, Try.results46, go_sem]) rfl hfin

end Go.Proofs.Ytjgngmmepheioaa.G

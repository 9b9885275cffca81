import Derived.Test.YtjgngmmepheioaaGwB
namespace Go.Proofs.Ytjgngmmepheioaa.G
open Go.RowKit

set_option maxRecDepth 4000 in
set_option maxHeartbeats 2000000 in
theorem some_any (is : Bool) (c : Rc) (W : World) {at_ ft er : Nat} (h : CS c W at_ ft er) : Calls Try.prog 48 #[.pointer (some ⟨c.r, 0, none⟩), .bool is] W (IntP (rOpt is) c at_ ft er W) := by
  have c3 := h.c3
  have c1 := h.c1
  cases is with
  | false =>
    have hfin : IntP (rOpt false) c at_ ft er W (.returned (.int .i64 0)) W := ⟨0, at_, ft, er, rfl, ⟨by decide, by decide⟩, h, gr_refl _ _, Xp.pure⟩
    clear h
    go_enter Try.func48, Try.ntmps48
    go_wp2
    exact bodyPost_ret (v := .int .i64 0) (by simp [results, Try.results48, go_sem]) rfl hfin
  | true =>
    by_cases he : er = 0
    · subst he
      have hle := h.le rfl
      have hn := int_any c W h
      clear h
      go_enter Try.func48, Try.ntmps48
      go_wp2_with (go_at_call 18; fail)
      refine hn.mono ?_
      rintro e w1 ⟨z, at2, ft2, er2, rfl, hz, hC, hg, hp⟩
      clear hn c3 c1
      have c3 := hC.c3
      by_cases he2 : er2 = 0
      · subst he2
        by_cases hz0 : z = 0
        · have hz0' : (z == 0) = true := by rw [hz0]; rfl
          have hft := fault_any c at_ 71 hle (by omega) w1 hC
          have hto : ∀ W', Fc c at_ 71 at2 ft2 0 w1 W' → IntP (rOpt true) c at_ ft 0 W (.returned (.int .i64 z)) W' := fun W' hf => ⟨z, _, _, _, rfl, hz, hf.1, hg.trans hf.2, hp.bd (Xp.fail (fun _ => if_pos hz0) (by decide))⟩
          have htoH := Hid.mk hto
          clear hto hC hg hp hz0 hz
          go_wp2_with (go_at_call 12; fail)
          refine hft.mono ?_
          rintro e w2 ⟨rfl, hb1⟩
          have hfin := htoH.out _ hb1
          clear hb1 hft
          go_wp2
          exact bodyPost_ret (v := .int .i64 z) (by simp [results, Try.results48, go_sem]) rfl hfin
        · have hz0' : (z == 0) = false := by simp [hz0]
          have hfin : IntP (rOpt true) c at_ ft 0 W (.returned (.int .i64 z)) w1 := ⟨z, at2, ft2, 0, rfl, hz, hC, hg, hp.bd (by rw [show (if z = 0 then (.error (at_, 71) : Rd Int) else .ok (z, at2)) = .ok (z, at2) from if_neg hz0]; exact Xp.pure)⟩
          clear hC hg hp hz0 hz
          go_wp2
          exact bodyPost_ret (v := .int .i64 z) (by simp [results, Try.results48, go_sem]) rfl hfin
      · have he' : ((er2 : Int) == 0) = false := by simp; omega
        have hfin : IntP (rOpt true) c at_ ft 0 W (.returned (.int .i64 z)) w1 := ⟨z, at2, ft2, er2, rfl, hz, hC, hg, hp.bd (Xp.stuck he2)⟩
        clear hC hg hp hz he2
        go_wp2
        exact bodyPost_ret (v := .int .i64 z) (by simp [results, Try.results48, go_sem]) rfl hfin
    · have he' : ((er : Int) != 0) = true := by simp; omega
      have hfin : IntP (rOpt true) c at_ ft er W (.returned (.int .i64 0)) W := ⟨0, at_, ft, er, rfl, ⟨by decide, by decide⟩, h, gr_refl _ _, Xp.stuck he⟩
      clear h he
      go_enter Try.func48, Try.ntmps48
      go_wp2
      exact bodyPost_ret (v := .int .i64 0) (by simp [results, Try.results48, go_sem]) rfl hfin

/-- What text answers. -/
def TxP (c : Rc) (at_ ft er : Nat) (W : World) (e : Ending) (W' : World) : Prop := ∃ (s : List UInt8) (at2 ft2 er2 : Nat), e = .returned (.string ⟨s.toArray⟩) ∧ CS c W' at2 ft2 er2 ∧ W.grownBy W' (some c.r) ∧ Xp (rTxt c.l at_) ft er at2 ft2 er2 s
set_option maxRecDepth 4000 in
set_option maxHeartbeats 4000000 in
theorem text_any (c : Rc) (W : World) {at_ ft er : Nat} (h : CS c W at_ ft er) : Calls Try.prog 16 #[.pointer (some ⟨c.r, 0, none⟩)] W (TxP c at_ ft er W) := by
  have hn := num_any c W h
  clear h
  go_enter Try.func16, Try.ntmps16
  go_wp2_with (go_at_call 46; fail)
  refine hn.mono ?_
  rintro e w1 ⟨n, at2, ft2, er2, rfl, hnl, hn0, hC, hg, hp⟩
  have c0 := hC.c0
  have c1 := hC.c1
  have c3 := hC.c3
  have hln := hC.ln
  clear hn
  by_cases he : er2 = 0
  · subst he
    have hle := hC.le rfl
    have hd : ((c.l.length : Int) - (at2 : Int)) % 18446744073709551616 = (c.l.length : Int) - (at2 : Int) := by omega
    by_cases hgt : c.l.length - at2 < n
    · have hgt' : (c.l.length : Int) - (at2 : Int) < (n : Int) := by omega
      have hM : Xp (rLen c.l at_) ft er at2 c.l.length 70 0 := hp.bd (K := fun n a => if c.l.length - a < n then .error (c.l.length, 70) else .ok (n, a)) (Xp.fail (fun _ => if_pos hgt) (by decide))
      have hto : ∀ k W', Fc c c.l.length 70 at2 ft2 0 (w1.drewN k) W' → TxP c at_ ft er W (.returned (.string ⟨#[]⟩)) W' ∧ W'.cell? ⟨c.r, 3, none⟩ = some (.int .i64 70) := fun k W' hf => ⟨⟨[], _, _, _, rfl, hf.1, (hg.trans (gr_drew _ _ _)).trans hf.2, hM.bd (Xp.stuck (by decide))⟩, hf.1.c3⟩
      have hsh := fun k => short_any c (w1.drewN k) (hC.drew k)
      have htoH := Hid.mk hto
      have hshH := Hid.mk hsh
      clear hC hg hp hto hsh hn0 hM
      go_wp2_with fail
      go_quiet (fail)
      rename Nat => m1
      go_wp2_with (go_at_call 11; fail)
      refine (hshH.out _).mono ?_
      rintro e w2 ⟨rfl, hb1⟩
      obtain ⟨hfin, c3'⟩ := htoH.out _ _ hb1
      clear hb1
      go_wp2
      exact bodyPost_ret (v := .string ⟨#[]⟩) (by simp [results, Try.results16, go_sem]) rfl hfin
    · have hgt' : ¬ (c.l.length : Int) - (at2 : Int) < (n : Int) := by omega
      have hlc := hC.lc
      have hcp := hC.cp
      have hby := hC.by_
      obtain ⟨s, hs⟩ : ∃ s, (c.l.drop at2).take n = s := ⟨_, rfl⟩
      have hsl : s.length = n := by rw [← hs, List.length_take, List.length_drop]; omega
      have hcast : ((at2 + n : Nat) : Int) = (at2 : Int) + (n : Int) := by omega
      have hst := fun k => (hC.drew k).set1 (at2 := at2 + n) (by omega)
      rw [hcast] at hst
      have hM : Xp (rTxt c.l at_) ft er (at2 + n) ft2 0 s := by
        have h1 : Xp (rLen c.l at_) ft er at2 ft2 0 n := hp.bd (K := fun n a => if c.l.length - a < n then .error (c.l.length, 70) else .ok (n, a)) (by rw [show (if c.l.length - at2 < n then (.error (c.l.length, 70) : Rd Nat) else .ok (n, at2)) = .ok (n, at2) from if_neg hgt]; exact Xp.pure)
        refine h1.bd ?_
        rw [show rRaw n c.l at2 = .ok (s, at2 + n) from by unfold rRaw; rw [if_neg hgt, hs]]
        exact Xp.pure
      have hto : ∀ k, TxP c at_ ft er W (.returned (.string ⟨s.toArray⟩)) ((w1.drewN k).setCell ⟨c.r, 1, none⟩ (.int .i64 ((at2 : Int) + (n : Int)))) := fun k => ⟨s, at2 + n, ft2, 0, rfl, hst k, (hg.trans (gr_drew _ _ _)).trans (gr_set _ _ _ _), hM⟩
      have htoH := Hid.mk hto
      have f1 := fun k => (hC.drew k).fz 1
      have c1n := fun k => (hC.drew k).c1
      have hnb : (n : Int) ≤ 262144 := by omega
      have a0 : (0 : Int) ≤ (at2 : Int) := by omega
      have a1 : (at2 : Int) + (n : Int) ≤ (c.l.length : Int) := by omega
      have a2 : (c.l.length : Int) ≤ (c.cap : Int) := by omega
      have a3 : (at2 : Int) ≤ (at2 : Int) + (n : Int) := by omega
      have hlen : Hid (s.length = n) := ⟨hsl⟩
      have hsg : ∀ j (hj : j < s.length) (h2 : at2 + j < c.l.length), s[j] = c.l[at2 + j] := fun j hj h2 => by
        subst hs
        rw [List.getElem_take, List.getElem_drop]
      clear hC hg hp hto hst hM hs hcast hsl hn0 hgt
      by_cases hn0 : n = 0
      · subst hn0
        have hs0 : s = [] := List.eq_nil_of_length_eq_zero hlen.out
        subst hs0
        clear hby hsg hlen
        have hcv : ∀ (X : World) (p : Addr) (k : Nat), (convert 22 9 (.slice (some p) 0 k)).run Try.prog X = .ok (.string ⟨#[]⟩) X := fun X p k => conv_at X p k [] (fun j hj => by simp at hj)
        have hnil : ∀ X : World, (convert 22 9 (.slice none 0 0)).run Try.prog X = .ok (.string ⟨#[]⟩) X := fun X => run_convert_bytes_nil X 22 5 Try.underlying22 Try.underlying5 0 0 9 Try.underlying9
        simp only [Int.natCast_zero, Int.add_zero] at htoH a1 a3 hgt'
        have a4 : at2 ≤ c.cap := by omega
        cases ha : c.a with
        | none =>
          rw [ha] at c0
          have hcz := hcp ha
          have hcap : c.cap = at2 := by omega
          go_wp2_with fail
          go_quiet (fail)
          rename Nat => m1
          go_wp2_with fail
          go_quiet (fail)
          rename Nat => m2
          have hfin := htoH.out (m1 + m2)
          have f1' := f1 (m1 + m2)
          have c1' := c1n (m1 + m2)
          clear f1 c1n
          go_wp2
          exact bodyPost_ret (v := .string ⟨#[]⟩) (by simp [results, Try.results16, go_sem]) rfl hfin
        | some p =>
          rw [ha] at c0
          by_cases hcap : c.cap = at2
          · go_wp2_with fail
            go_quiet (fail)
            rename Nat => m1
            go_wp2_with fail
            go_quiet (fail)
            rename Nat => m2
            have hfin := htoH.out (m1 + m2)
            have f1' := f1 (m1 + m2)
            have c1' := c1n (m1 + m2)
            clear f1 c1n
            go_wp2
            exact bodyPost_ret (v := .string ⟨#[]⟩) (by simp [results, Try.results16, go_sem]) rfl hfin
          · go_wp2_with fail
            go_quiet (fail)
            rename Nat => m1
            go_wp2_with fail
            go_quiet (fail)
            rename Nat => m2
            have hfin := htoH.out (m1 + m2)
            have f1' := f1 (m1 + m2)
            have c1' := c1n (m1 + m2)
            clear f1 c1n
            go_wp2
            exact bodyPost_ret (v := .string ⟨#[]⟩) (by simp [results, Try.results16, go_sem]) rfl hfin
      · have hcap : ¬ c.cap = at2 := by omega
        rcases hby with hnil | ⟨b, off, ha, -, -, hc⟩
        · rw [hnil] at a1; simp at a1; omega
        have hcv : ∀ k, (convert 22 9 (.slice (some ⟨b, off + at2, none⟩) n (c.cap - at2))).run Try.prog (World.drewN w1 k) = .ok (.string ⟨s.toArray⟩) (World.drewN w1 k) := fun k => by
          have := conv_at (World.drewN w1 k) ⟨b, off + at2, none⟩ (c.cap - at2) s (fun j hj => by
            have hj2 : at2 + j < c.l.length := by have := hlen.out; omega
            rw [hsg j hj hj2]
            have := hc (at2 + j) hj2
            rw [Go.WideShapes.add_plain, Nat.add_assoc]
            exact this)
          rwa [hlen.out] at this
        rw [ha] at c0
        clear hsg ha hn0 hcp hc
        go_wp2_with fail
        go_quiet (fail)
        rename Nat => m1
        go_wp2_with fail
        go_quiet (fail)
        rename Nat => m2
        have hfin := htoH.out (m1 + m2)
        have f1' := f1 (m1 + m2)
        have c1' := c1n (m1 + m2)
        clear f1 c1n hcv
        go_wp2
        exact bodyPost_ret (v := .string ⟨s.toArray⟩) (by simp [results, Try.results16, go_sem]) rfl hfin
  · have he' : ((er2 : Int) == 0) = false := by simp; omega
    have he2 : ((er2 : Int) != 0) = true := by simp; omega
    have hM : Xp (rTxt c.l at_) ft er at2 ft2 er2 [] := (hp.bd (K := fun n a => if c.l.length - a < n then .error (c.l.length, 70) else .ok (n, a)) (y := 0) (a2 := at2) (Xp.stuck he)).bd (Xp.stuck he)
    have hto : ∀ k, TxP c at_ ft er W (.returned (.string ⟨#[]⟩)) (w1.drewN k) := fun k => ⟨[], at2, ft2, er2, rfl, hC.drew k, hg.trans (gr_drew _ _ _), hM⟩
    have htoH := Hid.mk hto
    clear hC hg hp hto hn0 he hM
    go_wp2_with fail
    go_quiet (fail)
    rename Nat => m1
    have hfin := htoH.out m1
    go_wp2
    exact bodyPost_ret (v := .string ⟨#[]⟩) (by simp [results, Try.results16, go_sem]) rfl hfin

end Go.Proofs.Ytjgngmmepheioaa.G

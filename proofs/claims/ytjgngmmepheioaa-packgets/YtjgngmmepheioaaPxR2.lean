import Derived.Test.YtjgngmmepheioaaPxR
namespace Go.Proofs.Ytjgngmmepheioaa
open Go.RowKit

/-- What raw answers. -/
def RawP (c : Rc) (n at_ ft er : Nat) (W : World) (e : Ending) (W' : World) : Prop := ∃ (s : List UInt8) (at2 ft2 er2 : Nat), e = .returned (.string ⟨s.toArray⟩) ∧ RS c W' at2 ft2 er2 ∧ W.grownBy W' (some c.r) ∧ Xp (rRaw n c.l at_) ft er at2 ft2 er2 s
theorem conv_at (X : World) (p : Addr) (cap : Nat) (s : List UInt8) (h : ∀ j (hj : j < s.length), X.cell? (p.add j) = some (.int .u8 (s[j].toNat : Int))) : (convert 22 9 (.slice (some p) s.length cap)).run Try.prog X = .ok (.string ⟨s.toArray⟩) X :=
  run_convert_bytes_back (P := Try.prog) X 22 9 5 p cap s Try.underlying22 Try.underlying5 Try.underlying9 (fun j hj => h j hj)
set_option maxRecDepth 4000 in
set_option maxHeartbeats 2000000 in
theorem raw_any (n : Nat) (hn : n ≤ 262144) (c : Rc) (W : World) {at_ ft er : Nat} (h : RS c W at_ ft er) : Calls Try.prog 49 #[.pointer (some ⟨c.r, 0, none⟩), .int .i64 (n : Int)] W (RawP c n at_ ft er W) := by
  have hlf := left_any c W h
  have hle := h.le
  have hln := h.ln
  have hlc := h.lc
  have hcp := h.cp
  obtain ⟨d, hd⟩ : ∃ d, c.l.length - at_ = d := ⟨_, rfl⟩
  rw [hd] at hlf
  by_cases hgt : d < n
  · have hgt' : (d : Int) < (n : Int) := by omega
    have hsh := fun n => short_any c (World.drewN W n) (h.drew n)
    have hM := Hid.mk (show rRaw n c.l at_ = .error (c.l.length, 70) from if_pos (by omega))
    clear h hd hgt
    go_enter Try.func49, Try.ntmps49
    go_wp2_with (first | (go_at_call 64; refine hlf.mono ?_; clear hlf; rintro e wl ⟨rfl, nl, rfl⟩) | (go_at_call 65; refine (hsh _).mono ?_; rintro e w2 ⟨rfl, h2, hg2⟩))
    exact bodyPost_ret (v := .string ⟨#[]⟩) (by simp [results, Try.results49, go_sem]) rfl ⟨[], _, _, _, rfl, h2, (gr_drew _ _ _).trans hg2, Xp.fail (fun _ => hM.out) (by decide)⟩
  · have hgt' : ¬ (d : Int) < (n : Int) := by omega
    obtain ⟨s, hs⟩ : ∃ s, (c.l.drop at_).take n = s := ⟨_, rfl⟩
    have hsl : s.length = n := by rw [← hs, List.length_take, List.length_drop]; omega
    have hst := fun k => (h.drew k).set1 (at2 := at_ + n) (by omega) (fun he => by have := h.en he; omega)
    have hfin : ∀ k m, RawP c n at_ ft er W (.returned (.string ⟨s.toArray⟩)) (World.drewN ((World.drewN W k).setCell ⟨c.r, 1, none⟩ (.int .i64 ((at_ + n : Nat) : Int))) m) := fun k m =>
      ⟨s, _, _, _, rfl, (hst k).drew m, ((gr_drew _ _ _).trans (gr_set _ _ _ _)).trans (gr_drew _ _ _), by rw [show rRaw n c.l at_ = .ok (s, at_ + n) from by unfold rRaw; rw [if_neg (by omega), hs]]; exact Xp.pure⟩
    have e1 : ((at_ + n : Nat) : Int) = (at_ : Int) + (n : Int) := by omega
    rw [e1] at hfin hst
    have c1 := h.c1
    have f1 := h.fz 1
    have c1' := fun k => (hst k).c1
    have c0' := fun k => (hst k).c0
    rw [e1] at c1'
    have a0 : (0 : Int) ≤ (at_ : Int) := by omega
    have a1 : (at_ : Int) + (n : Int) ≤ (c.l.length : Int) := by omega
    have a2 : (c.l.length : Int) ≤ (c.cap : Int) := by omega
    have a3 : (at_ : Int) ≤ (at_ : Int) + (n : Int) := by omega
    have hby := fun k => (hst k).by_
    have hlen : Hid (s.length = n) := ⟨hsl⟩
    have hsg : ∀ j (hj : j < s.length) (h2 : at_ + j < c.l.length), s[j] = c.l[at_ + j] := fun j hj h2 => by
      subst hs
      rw [List.getElem_take, List.getElem_drop]
    clear h hst hd hgt hs e1 hsl
    by_cases hn0 : n = 0
    · subst hn0
      have hs0 : s = [] := List.eq_nil_of_length_eq_zero hlen.out
      subst hs0
      clear hby hsg
      have hcv : ∀ (X : World) (p : Addr) (k : Nat), (convert 22 9 (.slice (some p) 0 k)).run Try.prog X = .ok (.string ⟨#[]⟩) X := fun X p k => conv_at X p k [] (fun j hj => by simp at hj)
      simp only [Int.natCast_zero, Int.add_zero] at hfin c0' c1' a1 a3
      have a4 : at_ ≤ c.cap := by omega
      by_cases hcap : c.cap = at_
      · cases ha : c.a with
        | none =>
          rw [ha] at c0'
          have hcz := hcp ha
          have hnil : ∀ X : World, (convert 22 9 (.slice none 0 0)).run Try.prog X = .ok (.string ⟨#[]⟩) X := fun X => run_convert_bytes_nil X 22 5 Try.underlying22 Try.underlying5 0 0 9 Try.underlying9
          go_enter Try.func49, Try.ntmps49
          go_wp2_with (first | (go_at_call 64; refine hlf.mono ?_; clear hlf; rintro e wl ⟨rfl, nl, rfl⟩))
          have c0n := c0' nl
          have c1n := c1' nl
          have hfn := hfin nl
          clear c0' c1' hfin
          go_quiet (fail)
          go_wp2
          exact bodyPost_ret (v := .string ⟨#[]⟩) (by simp [results, Try.results49, go_sem]) rfl (hfn _)
        | some p =>
          rw [ha] at c0'
          go_enter Try.func49, Try.ntmps49
          go_wp2_with (first | (go_at_call 64; refine hlf.mono ?_; clear hlf; rintro e wl ⟨rfl, nl, rfl⟩))
          have c0n := c0' nl
          have c1n := c1' nl
          have hfn := hfin nl
          clear c0' c1' hfin
          go_quiet (fail)
          go_wp2
          exact bodyPost_ret (v := .string ⟨#[]⟩) (by simp [results, Try.results49, go_sem]) rfl (hfn _)
      · cases ha : c.a with
        | none => exact absurd (hcp ha) (by omega)
        | some p =>
          rw [ha] at c0'
          go_enter Try.func49, Try.ntmps49
          go_wp2_with (first | (go_at_call 64; refine hlf.mono ?_; clear hlf; rintro e wl ⟨rfl, nl, rfl⟩))
          have c0n := c0' nl
          have c1n := c1' nl
          have hfn := hfin nl
          clear c0' c1' hfin
          go_quiet (fail)
          go_wp2
          exact bodyPost_ret (v := .string ⟨#[]⟩) (by simp [results, Try.results49, go_sem]) rfl (hfn _)
    · have hcap : ¬ c.cap = at_ := by omega
      rcases hby 0 with hnil | ⟨b, off, ha, -, -, -⟩
      · rw [hnil] at a1; simp at a1; omega
      have hcv : ∀ k m, (convert 22 9 (.slice (some ⟨b, off + at_, none⟩) n (c.cap - at_))).run Try.prog (World.drewN ((World.drewN W k).setCell ⟨c.r, 1, none⟩ (.int .i64 ((at_ : Int) + (n : Int)))) m) = .ok (.string ⟨s.toArray⟩) (World.drewN ((World.drewN W k).setCell ⟨c.r, 1, none⟩ (.int .i64 ((at_ : Int) + (n : Int)))) m) := fun k m => by
        rcases hby k with hnil | ⟨b2, off2, ha2, -, -, hc⟩
        · rw [hnil] at a1; simp at a1; omega
        rw [ha] at ha2
        cases ha2
        have := conv_at (World.drewN ((World.drewN W k).setCell ⟨c.r, 1, none⟩ (.int .i64 ((at_ : Int) + (n : Int)))) m) ⟨b, off + at_, none⟩ (c.cap - at_) s (fun j hj => by
          have hj2 : at_ + j < c.l.length := by have := hlen.out; omega
          rw [hsg j hj hj2]
          have := hc (at_ + j) hj2
          rw [Go.WideShapes.add_plain, Nat.add_assoc]
          exact this)
        rwa [hlen.out] at this
      rw [ha] at c0'
      clear hby hsg ha hn0 hcp
      go_enter Try.func49, Try.ntmps49
      go_wp2_with (first | (go_at_call 64; refine hlf.mono ?_; clear hlf; rintro e wl ⟨rfl, nl, rfl⟩))
      have c0n := c0' nl
      have c1n := c1' nl
      have hcvn := hcv nl
      have hfn := hfin nl
      clear c0' c1' hcv hfin
      go_quiet (fail)
      go_wp2
      exact bodyPost_ret (v := .string ⟨s.toArray⟩) (by simp [results, Try.results49, go_sem]) rfl (hfn _)

set_option maxRecDepth 4000 in
set_option maxHeartbeats 2000000 in
theorem text_any (c : Rc) (W : World) {at_ ft er : Nat} (h : RS c W at_ ft er) : Calls Try.prog 51 #[.pointer (some ⟨c.r, 0, none⟩)] W (Xc rTxt VS c at_ ft er W) := by
  have hn := length_any c W h
  have hln := h.ln
  clear h
  go_enter Try.func51, Try.ntmps51
  go_wp2_with (first | (go_at_call 66; refine hn.mono ?_; clear hn; rintro e w1 ⟨n, at1, ft1, er1, rfl, hn1, h1, hg1, hp1⟩; have hr := raw_any n (by omega) c w1 h1; clear hn1) | (go_at_call 49; refine hr.mono ?_; clear hr; rintro e w2 ⟨s, at2, ft2, er2, rfl, h2, hg2, hp2⟩))
  have hfin : Xc rTxt VS c at_ ft er W (.returned (.string ⟨s.toArray⟩)) w2 := ⟨s, _, _, _, _, rfl, rfl, h2, hg1.trans hg2, hp1.bd hp2⟩
  clear hp1 hp2
  exact bodyPost_ret (v := .string ⟨s.toArray⟩) (by simp [results, Try.results51, go_sem]) rfl hfin

end Go.Proofs.Ytjgngmmepheioaa

import Derived.Test.YtjgngmmepheioaaPxL
namespace Go.Proofs.Ytjgngmmepheioaa
open Go.RowKit

theorem lit_at (W : World) (a : Array Value) (t : TypeId) : ∀ j u, a.toList[j]? = some u → (W.alloc (.cells a t)).cell? ((⟨W.heap.size, 0, none⟩ : Addr).add j) = some u := fun j u h => by
  rw [Go.WideShapes.add_plain, Nat.zero_add]
  simpa using h
def eS : Elt (List UInt8) where
  k := 1
  E := fun _ _ s cs => cs = [.string ⟨s.toArray⟩]
  len := fun h => by rw [h]; rfl
  fr := fun h _ _ => h
  mo := fun h _ => h

theorem info_str : (Try.prog.info? 9).map (fun i => (i.zero, i.size, i.bytes)) = some (some (.string ⟨#[]⟩), 1, 16) := by kernel_rfl
set_option maxRecDepth 8000 in
set_option maxHeartbeats 4000000 in
theorem getList_str (c : Rc) (W : World) {at_ ft er : Nat} (h : RS c W at_ ft er)  : Calls Try.prog 68 #[.pointer (some ⟨c.r, 0, none⟩), .func (Fn.func 51) #[.pointer (some ⟨c.r, 0, none⟩)] #[]] W (Xc (rLst rTxt) (VL eS) c at_ ft er W) := by
  obtain ⟨i0, hi, hz0, hz1, hz2⟩ := info_parts info_str
  have hn := length_any c W h
  have hln := h.ln
  have hr := h.lt
  have hbW := h.below
  clear h
  go_enter Try.func68, Try.ntmps68
  go_wp2_with (go_at_call 66; refine hn.mono ?_; clear hn; rintro e w1 ⟨n, at1, ft1, er1, rfl, hn1, h1, hg1, hp1⟩)
  have hn2 : n ≤ 262144 := by omega
  have hst : ∃ (i : Nat) (xs : List _) (at2 ft2 er2 : Nat), i ≤ n ∧ (Value.int .i64 0) = .int .i64 (i : Int) ∧ Hid (xs.length = i) ∧ GS eS 9 W.heap.size w1 (.slice none 0 0) xs ∧ RS c w1 at2 ft2 er2 ∧ W.grownBy w1 (some c.r) ∧ Lp (rTxt c.l) (rLst rTxt c.l at_) n i ft er at2 ft2 er2 xs := ⟨0, [], at1, ft1, er1, Nat.zero_le _, rfl, ⟨rfl⟩, gs_nil _ _ _ _, h1, hg1, Lp.start hp1 (fun he => by have := h1.en he; omega)⟩
  clear h1 hg1 hp1 hn1
  go_loopw [5, 8] (fun lv iv wr => ∃ (i : Nat) (xs : List _) (at2 ft2 er2 : Nat), i ≤ n ∧ iv = .int .i64 (i : Int) ∧ Hid (xs.length = i) ∧ GS eS 9 W.heap.size wr lv xs ∧ RS c wr at2 ft2 er2 ∧ W.grownBy wr (some c.r) ∧ Lp (rTxt c.l) (rLst rTxt c.l at_) n i ft er at2 ft2 er2 xs) (fun _ iv _ => n - (intOf iv).toNat)
  case atStart => exact hst
  case round =>
    clear hst
    obtain ⟨i, xs, at2, ft2, er2, hin, rfl, hxl, hGS, hR, hG, hp⟩ := hrel
    have hown := fun g (e : u5.ownBlock = some g) => (hGS.choose_spec.1.lt g e)
    have hsW := hG.size
    by_cases hlt : i < n
    · have hlt' : (i : Int) < (n : Int) := by omega
      have hcall := text_any c wr hR
      have hrn : some c.r ≠ u5.ownBlock := fun e => by have := (hown _ e.symm).1; omega
      have hbn : c.l ≠ [] → ∀ b off, c.a = some ⟨b, off, none⟩ → some b ≠ u5.ownBlock := fun h0 b off ha e => by
        have := (hown _ e.symm).1
        have := hbW h0 b off ha
        omega
      go_wp2_with (first | (go_at_call 51; refine hcall.mono ?_; clear hcall; rintro e w2 hP; obtain ⟨x, v, at3, ft3, er3, he, hV, h3, hg3, hp3⟩ := hP; have hv : v = .string ⟨x.toArray⟩ := hV; subst hv; subst he; have hE3 := (show eS.E w2 (fun b => wr.heap.size ≤ b) x [.string ⟨x.toArray⟩] from rfl); have hGS2 := gs_alloc (gs_kept hGS hr hg3) (.cells #[.string ⟨x.toArray⟩] 9); obtain ⟨cs, ho2, hEl2⟩ := hGS2; have hc3 := (h3.alloc (.cells #[.string ⟨x.toArray⟩] 9)); have hs3 := hg3.size) | (at_builtin; refine wpList_append_own_at _ rfl _ _ 90 rfl W.heap.size 9 i0 _ 1 16 Try.underlying90 hi hz0 hz1 hz2 rfl (by decide) _ _ _ rfl ho2 ⟨w2.heap.size, 0, none⟩ 1 1 [.string ⟨x.toArray⟩] rfl rfl (lit_at w2 #[.string ⟨x.toArray⟩] 9) (by simp [Value.oneCell']) (by have := hxl.out; unfold maxLen; omega) (by have := hxl.out; omega) (by simp; omega) ?_; intro lv2 w4 hown4 hgrow4 _ hat4; have hR4 := hc3.other hgrow4 hrn hbn; have hG4 : W.grownBy w4 (some c.r) := ((hG.trans hg3).trans (World.grownBy_alloc w2 (.cells #[.string ⟨x.toArray⟩] 9) (some c.r))).andThen hgrow4 (fun j hj => .inl (hown j hj).1); have c43 := hR4.c3; by_cases he3 : er3 = 0))
      · have he3' : ((er3 : Int) != 0) = false := by rw [he3]; rfl
        have hGS4 := gs_step (b0 := wr.heap.size) hEl2 (eS.fr hE3 (World.grownBy_alloc w2 (.cells #[.string ⟨x.toArray⟩] 9) none).size (fun b _ hlt => (World.grownBy_alloc w2 (.cells #[.string ⟨x.toArray⟩] 9) none).block b hlt (by simp))) hsW (fun g e => (hown g e).2) hgrow4 hat4 hown4
        have hp4 : Lp (rTxt c.l) (rLst rTxt c.l at_) n (i + 1) ft er at3 ft3 er3 (xs ++ [x]) := by
          rw [he3] at hp3 ⊢
          exact hp.step hlt hp3
        clear he3
        go_wp2
        go_roundw
        case rel => exact ⟨i + 1, xs ++ [x], _, _, _, by omega, by go_num, ⟨by rw [List.length_append, hxl.out]; rfl⟩, hGS4, hR4, hG4, hp4⟩
        case measure => simp [intOf]; omega
      · have he3' : ((er3 : Int) != 0) = true := by simp; omega
        have hfin : Xc (rLst rTxt) (VL eS) c at_ ft er W (.returned (.slice none 0 0)) w4 := ⟨[], _, _, _, _, rfl, ⟨none, 0, rfl, .inl rfl⟩, hR4, hG4, hp.bad hlt hp3 he3⟩
        clear he3
        go_wp2
        exact bodyPost_ret (v := .slice none 0 0) (by simp [results, Try.results68, go_sem]) rfl hfin
    · have hlt' : ¬ (i : Int) < (n : Int) := by omega
      have hfin : Xc (rLst rTxt) (VL eS) c at_ ft er W (.returned u5) wr := ⟨xs, _, _, _, _, rfl, gs_done hGS, hR, hG, hp.done (by omega) hxl.out hin⟩
      clear hown hp hGS
      go_wp2
      exact bodyPost_ret (v := u5) (by simp [results, Try.results68, go_sem]) rfl hfin

end Go.Proofs.Ytjgngmmepheioaa

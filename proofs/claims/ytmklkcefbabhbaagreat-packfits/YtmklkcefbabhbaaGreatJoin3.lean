import Derived.Test.YtmklkcefbabhbaaGreatJoin2
namespace Go.Proofs.YtmklkcefbabhbaaGreat
open Go.RowKit

/-- What raw answers. -/
def RawP (c : Rc) (n at_ ft er : Nat) (W : World) (e : Ending) (W' : World) : Prop := ∃ (s : List UInt8) (at2 ft2 er2 : Nat), e = .returned (.string ⟨s.toArray⟩) ∧ RS c W' at2 ft2 er2 ∧ W.grownBy W' (some c.r) ∧ Xp (rRaw n c.l at_) ft er at2 ft2 er2 s
theorem conv_at (X : World) (p : Addr) (cap : Nat) (s : List UInt8) (h : ∀ j (hj : j < s.length), X.cell? (p.add j) = some (.int .u8 (s[j].toNat : Int))) : (convert 36 9 (.slice (some p) s.length cap)).run Tryz.prog X = .ok (.string ⟨s.toArray⟩) X :=
  run_convert_bytes_back (P := Tryz.prog) X 36 9 5 p cap s Tryz.underlying36 Tryz.underlying5 Tryz.underlying9 (fun j hj => h j hj)
set_option maxRecDepth 4000 in
set_option maxHeartbeats 2000000 in
theorem raw_any (n : Nat) (hn : n ≤ 262144) (c : Rc) (W : World) {at_ ft er : Nat} (h : RS c W at_ ft er) : Calls Tryz.prog 47 #[.pointer (some ⟨c.r, 0, none⟩), .int .i64 (n : Int)] W (RawP c n at_ ft er W) := by
  have hlf := left_any c W h
  have hle := h.le
  have hln := h.ln
  have hlc := h.lc
  have hcp := h.cp
  obtain ⟨d, hd⟩ : ∃ d, c.l.length - at_ = d := ⟨_, rfl⟩
  rw [hd] at hlf
  by_cases hgt : d < n
  · have hgt' : (d : Int) < (n : Int) := by omega
    have hsh := fun n => short_any c (World.drewN W n) (h.drew n)
    have hM := Hid.mk (show rRaw n c.l at_ = .error (c.l.length, 70) from if_pos (by omega))
    clear h hd hgt
    go_enter Tryz.func47, Tryz.ntmps47
    go_wp2_with (first | (go_at_call 78; refine hlf.mono ?_; clear hlf; rintro e wl ⟨rfl, nl, rfl⟩) | (go_at_call 79; refine (hsh _).mono ?_; rintro e w2 ⟨rfl, h2, hg2⟩))
    exact bodyPost_ret (v := .string ⟨#[]⟩) (by simp [results, Tryz.results47, go_sem]) rfl ⟨[], _, _, _, rfl, h2, (gr_drew _ _ _).trans hg2, Xp.fail (fun _ => hM.out) (by decide)⟩
  · have hgt' : ¬ (d : Int) < (n : Int) := by omega
    obtain ⟨s, hs⟩ : ∃ s, (c.l.drop at_).take n = s := ⟨_, rfl⟩
    have hsl : s.length = n := by rw [← hs, List.length_take, List.length_drop]; omega
    have hst := fun k => (h.drew k).set1 (at2 := at_ + n) (by omega) (fun he => by have := h.en he; omega)
    have hfin : ∀ k m, RawP c n at_ ft er W (.returned (.string ⟨s.toArray⟩)) (World.drewN ((World.drewN W k).setCell ⟨c.r, 1, none⟩ (.int .i64 ((at_ + n : Nat) : Int))) m) := fun k m =>
      ⟨s, _, _, _, rfl, (hst k).drew m, ((gr_drew _ _ _).trans (gr_set _ _ _ _)).trans (gr_drew _ _ _), by rw [show rRaw n c.l at_ = .ok (s, at_ + n) from by unfold rRaw; rw [if_neg (by omega), hs]]; exact Xp.pure⟩
    have e1 : ((at_ + n : Nat) : Int) = (at_ : Int) + (n : Int) := by omega
    rw [e1] at hfin hst
    have c1 := h.c1
    have f1 := h.fz 1
    have c1' := fun k => (hst k).c1
    have c0' := fun k => (hst k).c0
    rw [e1] at c1'
    have a0 : (0 : Int) ≤ (at_ : Int) := by omega
    have a1 : (at_ : Int) + (n : Int) ≤ (c.l.length : Int) := by omega
    have a2 : (c.l.length : Int) ≤ (c.cap : Int) := by omega
    have a3 : (at_ : Int) ≤ (at_ : Int) + (n : Int) := by omega
    have hby := fun k => (hst k).by_
    have hlen : Hid (s.length = n) := ⟨hsl⟩
    have hsg : ∀ j (hj : j < s.length) (h2 : at_ + j < c.l.length), s[j] = c.l[at_ + j] := fun j hj h2 => by
      subst hs
      rw [List.getElem_take, List.getElem_drop]
    clear h hst hd hgt hs e1 hsl
    by_cases hn0 : n = 0
    · subst hn0
      have hs0 : s = [] := List.eq_nil_of_length_eq_zero hlen.out
      subst hs0
      clear hby hsg
      have hcv : ∀ (X : World) (p : Addr) (k : Nat), (convert 36 9 (.slice (some p) 0 k)).run Tryz.prog X = .ok (.string ⟨#[]⟩) X := fun X p k => conv_at X p k [] (fun j hj => by simp at hj)
      simp only [Int.natCast_zero, Int.add_zero] at hfin c0' c1' a1 a3
      have a4 : at_ ≤ c.cap := by omega
      by_cases hcap : c.cap = at_
      · cases ha : c.a with
        | none =>
          rw [ha] at c0'
          have hcz := hcp ha
          have hnil : ∀ X : World, (convert 36 9 (.slice none 0 0)).run Tryz.prog X = .ok (.string ⟨#[]⟩) X := fun X => run_convert_bytes_nil X 36 5 Tryz.underlying36 Tryz.underlying5 0 0 9 Tryz.underlying9
          go_enter Tryz.func47, Tryz.ntmps47
          go_wp2_with (first | (go_at_call 78; refine hlf.mono ?_; clear hlf; rintro e wl ⟨rfl, nl, rfl⟩))
          have c0n := c0' nl
          have c1n := c1' nl
          have hfn := hfin nl
          clear c0' c1' hfin
          go_quiet (fail)
          go_wp2
          exact bodyPost_ret (v := .string ⟨#[]⟩) (by simp [results, Tryz.results47, go_sem]) rfl (hfn _)
        | some p =>
          rw [ha] at c0'
          go_enter Tryz.func47, Tryz.ntmps47
          go_wp2_with (first | (go_at_call 78; refine hlf.mono ?_; clear hlf; rintro e wl ⟨rfl, nl, rfl⟩))
          have c0n := c0' nl
          have c1n := c1' nl
          have hfn := hfin nl
          clear c0' c1' hfin
          go_quiet (fail)
          go_wp2
          exact bodyPost_ret (v := .string ⟨#[]⟩) (by simp [results, Tryz.results47, go_sem]) rfl (hfn _)
      · cases ha : c.a with
        | none => exact absurd (hcp ha) (by omega)
        | some p =>
          rw [ha] at c0'
          go_enter Tryz.func47, Tryz.ntmps47
          go_wp2_with (first | (go_at_call 78; refine hlf.mono ?_; clear hlf; rintro e wl ⟨rfl, nl, rfl⟩))
          have c0n := c0' nl
          have c1n := c1' nl
          have hfn := hfin nl
          clear c0' c1' hfin
          go_quiet (fail)
          go_wp2
          exact bodyPost_ret (v := .string ⟨#[]⟩) (by simp [results, Tryz.results47, go_sem]) rfl (hfn _)
    · have hcap : ¬ c.cap = at_ := by omega
      rcases hby 0 with hnil | ⟨b, off, ha, -, -, -⟩
      · rw [hnil] at a1; simp at a1; omega
      have hcv : ∀ k m, (convert 36 9 (.slice (some ⟨b, off + at_, none⟩) n (c.cap - at_))).run Tryz.prog (World.drewN ((World.drewN W k).setCell ⟨c.r, 1, none⟩ (.int .i64 ((at_ : Int) + (n : Int)))) m) = .ok (.string ⟨s.toArray⟩) (World.drewN ((World.drewN W k).setCell ⟨c.r, 1, none⟩ (.int .i64 ((at_ : Int) + (n : Int)))) m) := fun k m => by
        rcases hby k with hnil | ⟨b2, off2, ha2, -, -, hc⟩
        · rw [hnil] at a1; simp at a1; omega
        rw [ha] at ha2
        cases ha2
        have := conv_at (World.drewN ((World.drewN W k).setCell ⟨c.r, 1, none⟩ (.int .i64 ((at_ : Int) + (n : Int)))) m) ⟨b, off + at_, none⟩ (c.cap - at_) s (fun j hj => by
          have hj2 : at_ + j < c.l.length := by have := hlen.out; omega
          rw [hsg j hj hj2]
          have := hc (at_ + j) hj2
          rw [Go.WideShapes.add_plain, Nat.add_assoc]
          exact this)
        rwa [hlen.out] at this
      rw [ha] at c0'
      clear hby hsg ha hn0 hcp
      go_enter Tryz.func47, Tryz.ntmps47
      go_wp2_with (first | (go_at_call 78; refine hlf.mono ?_; clear hlf; rintro e wl ⟨rfl, nl, rfl⟩))
      have c0n := c0' nl
      have c1n := c1' nl
      have hcvn := hcv nl
      have hfn := hfin nl
      clear c0' c1' hcv hfin
      go_quiet (fail)
      go_wp2
      exact bodyPost_ret (v := .string ⟨s.toArray⟩) (by simp [results, Tryz.results47, go_sem]) rfl (hfn _)

set_option maxRecDepth 4000 in
set_option maxHeartbeats 2000000 in
theorem text_any (c : Rc) (W : World) {at_ ft er : Nat} (h : RS c W at_ ft er) : Calls Tryz.prog 49 #[.pointer (some ⟨c.r, 0, none⟩)] W (Xc rTxt VS c at_ ft er W) := by
  have hn := length_any c W h
  have hln := h.ln
  clear h
  go_enter Tryz.func49, Tryz.ntmps49
  go_wp2_with (first | (go_at_call 80; refine hn.mono ?_; clear hn; rintro e w1 ⟨n, at1, ft1, er1, rfl, hn1, h1, hg1, hp1⟩; have hr := raw_any n (by omega) c w1 h1; clear hn1) | (go_at_call 47; refine hr.mono ?_; clear hr; rintro e w2 ⟨s, at2, ft2, er2, rfl, h2, hg2, hp2⟩))
  have hfin : Xc rTxt VS c at_ ft er W (.returned (.string ⟨s.toArray⟩)) w2 := ⟨s, _, _, _, _, rfl, rfl, h2, hg1.trans hg2, hp1.bd hp2⟩
  clear hp1 hp2
  exact bodyPost_ret (v := .string ⟨s.toArray⟩) (by simp [results, Tryz.results49, go_sem]) rfl hfin

end Go.Proofs.YtmklkcefbabhbaaGreat


namespace Go.Proofs.YtmklkcefbabhbaaGreat
open Go.RowKit

/-- How a thing lies in its cells: E says it, of blocks of which S is true; k cells. -/
structure Elt (α : Type) where
  k : Nat
  E : World → (Nat → Prop) → α → List Value → Prop
  len : ∀ {W S x cs}, E W S x cs → cs.length = k
  fr : ∀ {W W' : World} {S x cs}, E W S x cs → W.heap.size ≤ W'.heap.size → (∀ b, S b → b < W.heap.size → W'.heap[b]? = W.heap[b]?) → E W' S x cs
  mo : ∀ {W : World} {S S' : Nat → Prop} {x cs}, E W S x cs → (∀ b, b < W.heap.size → S b → S' b) → E W S' x cs
def Elems {α : Type} (D : Elt α) (W : World) (S : Nat → Prop) (xs : List α) (cs : List Value) : Prop := cs.length = xs.length * D.k ∧ ∀ i (h : i < xs.length), D.E W S xs[i] ((cs.drop (i * D.k)).take D.k)
theorem Elems.fr {α : Type} {D : Elt α} {W W' : World} {S : Nat → Prop} {xs : List α} {cs : List Value} (h : Elems D W S xs cs) (hs : W.heap.size ≤ W'.heap.size) (hb : ∀ b, S b → b < W.heap.size → W'.heap[b]? = W.heap[b]?) : Elems D W' S xs cs := ⟨h.1, fun i hi => D.fr (h.2 i hi) hs hb⟩
theorem Elems.mo {α : Type} {D : Elt α} {W : World} {S S' : Nat → Prop} {xs : List α} {cs : List Value} (h : Elems D W S xs cs) (hb : ∀ b, b < W.heap.size → S b → S' b) : Elems D W S' xs cs := ⟨h.1, fun i hi => D.mo (h.2 i hi) hb⟩
theorem Elems.nil {α : Type} (D : Elt α) (W : World) (S : Nat → Prop) : Elems D W S [] [] := ⟨by simp, fun i hi => absurd hi (Nat.not_lt_zero _)⟩
theorem Elems.snoc {α : Type} {D : Elt α} {W : World} {S : Nat → Prop} {xs : List α} {cs cx : List Value} {x : α} (h : Elems D W S xs cs) (hx : D.E W S x cx) : Elems D W S (xs ++ [x]) (cs ++ cx) := by
  have hl := D.len hx
  refine ⟨by rw [List.length_append, List.length_append, h.1, hl, List.length_singleton, Nat.add_mul, Nat.one_mul], fun i hi => ?_⟩
  rw [List.length_append, List.length_singleton] at hi
  by_cases hlt : i < xs.length
  · rw [List.getElem_append_left hlt]
    have hm : i * D.k + D.k ≤ cs.length := by
      rw [h.1]
      have := Nat.mul_le_mul_right D.k (show i + 1 ≤ xs.length from hlt)
      rw [Nat.add_mul, Nat.one_mul] at this
      exact this
    rw [List.drop_append_of_le_length (by omega), List.take_append_of_le_length (by rw [List.length_drop]; omega)]
    exact h.2 i hlt
  · have he : i = xs.length := by omega
    subst he
    rw [List.getElem_append_right (Nat.le_refl _), ← h.1, List.drop_left, ← hl, List.take_length]
    simpa using hx
/-- A row of such things. -/
def RowR {α : Type} (D : Elt α) (W : World) (S : Nat → Prop) (xs : List α) (a : Option Addr) : Prop := xs = [] ∨ ∃ (g o : Nat) (cs : List Value), a = some ⟨g, o, none⟩ ∧ S g ∧ g < W.heap.size ∧ (∀ j, j < cs.length → W.cell? ⟨g, o + j, none⟩ = cs[j]?) ∧ Elems D W S xs cs
theorem RowR.fr {α : Type} {D : Elt α} {W W' : World} {S : Nat → Prop} {xs : List α} {a : Option Addr} (h : RowR D W S xs a) (hs : W.heap.size ≤ W'.heap.size) (hb : ∀ b, S b → b < W.heap.size → W'.heap[b]? = W.heap[b]?) : RowR D W' S xs a := by
  rcases h with h | ⟨g, o, cs, rfl, hS, hg, hc, hE⟩
  · exact .inl h
  · exact .inr ⟨g, o, cs, rfl, hS, Nat.lt_of_lt_of_le hg hs, fun j hj => (World.cell?_of_block (a := ⟨g, o + j, none⟩) (hb g hS hg)).trans (hc j hj), hE.fr hs hb⟩
theorem RowR.mo {α : Type} {D : Elt α} {W : World} {S S' : Nat → Prop} {xs : List α} {a : Option Addr} (h : RowR D W S xs a) (hb : ∀ b, b < W.heap.size → S b → S' b) : RowR D W S' xs a := by
  rcases h with h | ⟨g, o, cs, rfl, hS, hg, hc, hE⟩
  · exact .inl h
  · exact .inr ⟨g, o, cs, rfl, hb g hg hS, hg, hc, hE.mo hb⟩

/-- Blocks that are new since, but for the row's own. -/
def Sv (lo : Nat) (lv : Value) (b : Nat) : Prop := lo ≤ b ∧ some b ≠ lv.ownBlock
/-- A row that is being made. -/
def GS {α : Type} (D : Elt α) (T : TypeId) (lo : Nat) (W : World) (lv : Value) (xs : List α) : Prop := ∃ cs, W.ownsRow lo T D.k lv xs.length cs ∧ Elems D W (Sv lo lv) xs cs
theorem gs_nil {α : Type} (D : Elt α) (T : TypeId) (lo : Nat) (W : World) : GS D T lo W (.slice none 0 0) [] := ⟨[], World.ownsRow_nil _ _ _ _, Elems.nil _ _ _⟩
theorem gs_kept {α : Type} {D : Elt α} {T : TypeId} {lo r : Nat} {W W' : World} {lv : Value} {xs : List α} (h : GS D T lo W lv xs) (hr : r < lo) (hg : W.grownBy W' (some r)) : GS D T lo W' lv xs := by
  obtain ⟨cs, ho, hE⟩ := h
  refine ⟨cs, ho.kept hg ?_, hE.fr hg.size (fun b hb hlt => hg.block b hlt (fun e => by have := hb.1; injection e with e; omega))⟩
  cases hv : lv.ownBlock with
  | none => exact .inl rfl
  | some g =>
    have := (ho.lt g hv).1
    right
    intro e
    injection e with e
    omega
theorem gs_alloc {α : Type} {D : Elt α} {T : TypeId} {lo : Nat} {W : World} {lv : Value} {xs : List α} (h : GS D T lo W lv xs) (o : Obj) : GS D T lo (W.alloc o) lv xs := by
  obtain ⟨cs, ho, hE⟩ := h
  have hg := World.grownBy_alloc W o none
  exact ⟨cs, ho.alloc o, hE.fr hg.size (fun b _ hlt => hg.block b hlt (by simp))⟩
/-- What is behind an append. -/
theorem gs_step {α : Type} {D : Elt α} {T : TypeId} {lo b0 : Nat} {W w2 : World} {lv lv' : Value} {xs : List α} {x : α} {cs cx : List Value} (hE : Elems D W (Sv lo lv) xs cs) (hx : D.E W (fun b => b0 ≤ b) x cx) (hlo : lo ≤ b0) (hb0 : ∀ g, lv.ownBlock = some g → g < b0)
    (hgr : W.grownBy w2 lv.ownBlock) (hat : lv'.ownBlock = lv.ownBlock ∨ lv'.ownBlock = some W.heap.size) (ho2 : w2.ownsRow lo T D.k lv' (xs.length + 1) (cs ++ cx)) : GS D T lo w2 lv' (xs ++ [x]) := by
  refine ⟨cs ++ cx, by rw [List.length_append, List.length_singleton]; exact ho2, ?_⟩
  have hx1 : D.E W (Sv lo lv) x cx := D.mo hx (fun b _ hb => ⟨Nat.le_trans hlo hb, fun e => by
    have := hb0 b e.symm
    omega⟩)
  have h1 := hE.snoc hx1
  have hfar : ∀ b, Sv lo lv b → b < W.heap.size → w2.heap[b]? = W.heap[b]? := fun b hb hlt => hgr.block b hlt hb.2
  have h2 := h1.mo (S' := fun b => Sv lo lv b ∧ b < W.heap.size) (fun b hlt hb => ⟨hb, hlt⟩)
  have h3 := h2.fr hgr.size (fun b hb hlt => hfar b hb.1 hlt)
  refine h3.mo (fun b _ hb => ⟨hb.1.1, ?_⟩)
  rcases hat with h | h
  · rw [h]; exact hb.1.2
  · rw [h]; intro e; injection e with e; have := hb.2; omega
/-- A made row is a row. -/
def VL {α : Type} (D : Elt α) (W : World) (lo : Nat) (xs : List α) (v : Value) : Prop := ∃ a cap, v = .slice a xs.length cap ∧ RowR D W (fun b => lo ≤ b) xs a
theorem gs_done {α : Type} {D : Elt α} {T : TypeId} {lo : Nat} {W : World} {lv : Value} {xs : List α} (h : GS D T lo W lv xs) : VL D W lo xs lv := by
  obtain ⟨cs, ho, hE⟩ := h
  have ho2 := ho
  obtain ⟨hl, ⟨rfl, h0⟩ | ⟨g, cap, cur, rfl, hg, -⟩⟩ := ho2
  · have hx : xs = [] := List.eq_nil_of_length_eq_zero h0
    subst hx
    exact ⟨none, 0, rfl, .inl rfl⟩
  · refine ⟨_, cap, rfl, .inr ⟨g, 0, cs, rfl, hg, (ho.lt g rfl).2, fun j hj => ?_, hE.mo (fun b _ hb => hb.1)⟩⟩
    rw [Nat.zero_add]
    exact ho.cellAt j (by rw [← hl]; exact hj)

end Go.Proofs.YtmklkcefbabhbaaGreat


namespace Go.Proofs.YtmklkcefbabhbaaGreat
open Go.RowKit

theorem lit_at (W : World) (a : Array Value) (t : TypeId) : ∀ j u, a.toList[j]? = some u → (W.alloc (.cells a t)).cell? ((⟨W.heap.size, 0, none⟩ : Addr).add j) = some u := fun j u h => by
  rw [Go.WideShapes.add_plain, Nat.zero_add]
  simpa using h
def eS : Elt (List UInt8) where
  k := 1
  E := fun _ _ s cs => cs = [.string ⟨s.toArray⟩]
  len := fun h => by rw [h]; rfl
  fr := fun h _ _ => h
  mo := fun h _ => h

theorem info_str : (Tryz.prog.info? 9).map (fun i => (i.zero, i.size, i.bytes)) = some (some (.string ⟨#[]⟩), 1, 16) := by kernel_rfl
set_option maxRecDepth 8000 in
set_option maxHeartbeats 4000000 in
theorem getList_str (c : Rc) (W : World) {at_ ft er : Nat} (h : RS c W at_ ft er)  : Calls Tryz.prog 82 #[.pointer (some ⟨c.r, 0, none⟩), .func (Fn.func 49) #[.pointer (some ⟨c.r, 0, none⟩)] #[]] W (Xc (rLst rTxt) (VL eS) c at_ ft er W) := by
  obtain ⟨i0, hi, hz0, hz1, hz2⟩ := info_parts info_str
  have hn := length_any c W h
  have hln := h.ln
  have hr := h.lt
  have hbW := h.below
  clear h
  go_enter Tryz.func82, Tryz.ntmps82
  go_wp2_with (go_at_call 80; refine hn.mono ?_; clear hn; rintro e w1 ⟨n, at1, ft1, er1, rfl, hn1, h1, hg1, hp1⟩)
  have hn2 : n ≤ 262144 := by omega
  have hst : ∃ (i : Nat) (xs : List _) (at2 ft2 er2 : Nat), i ≤ n ∧ (Value.int .i64 0) = .int .i64 (i : Int) ∧ Hid (xs.length = i) ∧ GS eS 9 W.heap.size w1 (.slice none 0 0) xs ∧ RS c w1 at2 ft2 er2 ∧ W.grownBy w1 (some c.r) ∧ Lp (rTxt c.l) (rLst rTxt c.l at_) n i ft er at2 ft2 er2 xs := ⟨0, [], at1, ft1, er1, Nat.zero_le _, rfl, ⟨rfl⟩, gs_nil _ _ _ _, h1, hg1, Lp.start hp1 (fun he => by have := h1.en he; omega)⟩
  clear h1 hg1 hp1 hn1
  go_loopw [5, 8] (fun lv iv wr => ∃ (i : Nat) (xs : List _) (at2 ft2 er2 : Nat), i ≤ n ∧ iv = .int .i64 (i : Int) ∧ Hid (xs.length = i) ∧ GS eS 9 W.heap.size wr lv xs ∧ RS c wr at2 ft2 er2 ∧ W.grownBy wr (some c.r) ∧ Lp (rTxt c.l) (rLst rTxt c.l at_) n i ft er at2 ft2 er2 xs) (fun _ iv _ => n - (intOf iv).toNat)
  case atStart => exact hst
  case round =>
    clear hst
    obtain ⟨i, xs, at2, ft2, er2, hin, rfl, hxl, hGS, hR, hG, hp⟩ := hrel
    have hown := fun g (e : u5.ownBlock = some g) => (hGS.choose_spec.1.lt g e)
    have hsW := hG.size
    by_cases hlt : i < n
    · have hlt' : (i : Int) < (n : Int) := by omega
      have hcall := text_any c wr hR
      have hrn : some c.r ≠ u5.ownBlock := fun e => by have := (hown _ e.symm).1; omega
      have hbn : c.l ≠ [] → ∀ b off, c.a = some ⟨b, off, none⟩ → some b ≠ u5.ownBlock := fun h0 b off ha e => by
        have := (hown _ e.symm).1
        have := hbW h0 b off ha
        omega
      go_wp2_with (first | (go_at_call 49; refine hcall.mono ?_; clear hcall; rintro e w2 hP; obtain ⟨x, v, at3, ft3, er3, he, hV, h3, hg3, hp3⟩ := hP; have hv : v = .string ⟨x.toArray⟩ := hV; subst hv; subst he; have hE3 := (show eS.E w2 (fun b => wr.heap.size ≤ b) x [.string ⟨x.toArray⟩] from rfl); have hGS2 := gs_alloc (gs_kept hGS hr hg3) (.cells #[.string ⟨x.toArray⟩] 9); obtain ⟨cs, ho2, hEl2⟩ := hGS2; have hc3 := (h3.alloc (.cells #[.string ⟨x.toArray⟩] 9)); have hs3 := hg3.size) | (at_builtin; refine wpList_append_own_at _ rfl _ _ 47 rfl W.heap.size 9 i0 _ 1 16 Tryz.underlying47 hi hz0 hz1 hz2 rfl (by decide) _ _ _ rfl ho2 ⟨w2.heap.size, 0, none⟩ 1 1 [.string ⟨x.toArray⟩] rfl rfl (lit_at w2 #[.string ⟨x.toArray⟩] 9) (by simp [Value.oneCell']) (by have := hxl.out; unfold maxLen; omega) (by have := hxl.out; omega) (by simp; omega) ?_; intro lv2 w4 hown4 hgrow4 _ hat4; have hR4 := hc3.other hgrow4 hrn hbn; have hG4 : W.grownBy w4 (some c.r) := ((hG.trans hg3).trans (World.grownBy_alloc w2 (.cells #[.string ⟨x.toArray⟩] 9) (some c.r))).andThen hgrow4 (fun j hj => .inl (hown j hj).1); have c43 := hR4.c3; by_cases he3 : er3 = 0))
      · have he3' : ((er3 : Int) != 0) = false := by rw [he3]; rfl
        have hGS4 := gs_step (b0 := wr.heap.size) hEl2 (eS.fr hE3 (World.grownBy_alloc w2 (.cells #[.string ⟨x.toArray⟩] 9) none).size (fun b _ hlt => (World.grownBy_alloc w2 (.cells #[.string ⟨x.toArray⟩] 9) none).block b hlt (by simp))) hsW (fun g e => (hown g e).2) hgrow4 hat4 hown4
        have hp4 : Lp (rTxt c.l) (rLst rTxt c.l at_) n (i + 1) ft er at3 ft3 er3 (xs ++ [x]) := by
          rw [he3] at hp3 ⊢
          exact hp.step hlt hp3
        clear he3
        go_wp2
        go_roundw
        case rel => exact ⟨i + 1, xs ++ [x], _, _, _, by omega, by go_num, ⟨by rw [List.length_append, hxl.out]; rfl⟩, hGS4, hR4, hG4, hp4⟩
        case measure => simp [intOf]; omega
      · have he3' : ((er3 : Int) != 0) = true := by simp; omega
        have hfin : Xc (rLst rTxt) (VL eS) c at_ ft er W (.returned (.slice none 0 0)) w4 := ⟨[], _, _, _, _, rfl, ⟨none, 0, rfl, .inl rfl⟩, hR4, hG4, hp.bad hlt hp3 he3⟩
        clear he3
        go_wp2
        exact bodyPost_ret (v := .slice none 0 0) (by simp [results, Tryz.results82, go_sem]) rfl hfin
    · have hlt' : ¬ (i : Int) < (n : Int) := by omega
      have hfin : Xc (rLst rTxt) (VL eS) c at_ ft er W (.returned u5) wr := ⟨xs, _, _, _, _, rfl, gs_done hGS, hR, hG, hp.done (by omega) hxl.out hin⟩
      clear hown hp hGS
      go_wp2
      exact bodyPost_ret (v := u5) (by simp [results, Tryz.results82, go_sem]) rfl hfin

end Go.Proofs.YtmklkcefbabhbaaGreat


namespace Go.Proofs.YtmklkcefbabhbaaGreat
open Go.RowKit

theorem set_id {X : World} {b i : Nat} {v : Value} (h : X.cell? ⟨b, i, none⟩ = some v) : X.setCell ⟨b, i, none⟩ v = X := by
  have hb := World.block_lt_of_cell? _ _ h
  have hm : X.heap.modify b (fun | .cells c elem frozen => .cells (if (⟨b, i, none⟩ : Addr).spot.isSome then c else c.setIfInBounds i v) elem frozen | o => o) = X.heap := by
    apply Array.ext
    · simp
    · intro k h1 h2
      rw [Array.getElem_modify]
      split
      · rename_i e
        subst e
        unfold World.cell? at h
        simp only [Array.getElem?_eq_getElem h2] at h
        generalize X.heap[b] = o at h ⊢
        cases o with
        | cells c e f =>
          simp only at h ⊢
          congr 1
          simp at h
          apply Array.ext
          · simp
          · intro j hj1 hj2
            simp only [Option.isSome_none, Bool.false_eq_true, if_false] at hj1 ⊢
            rw [Array.getElem_setIfInBounds (by simpa using hj2)]
            split
            · rename_i e
              subst e
              rw [Array.getElem?_eq_getElem hj2] at h
              exact (Option.some.inj h).symm
            · rfl
        | _ => rfl
      · rfl
  exact congrArg (fun hh => { X with heap := hh }) hm
/-- A struct in a block of its own. -/
def Bx (W : World) (b : Nat) (vs : List Value) : Prop := b < W.heap.size ∧ (∀ j, j < vs.length → W.cell? ⟨b, j, none⟩ = vs[j]?) ∧ ∀ j, W.frozen? ⟨b, j, none⟩ = false
theorem bx_new (W : World) (a : Array Value) (t : TypeId) : Bx (W.alloc (.cells a t)) W.heap.size a.toList := ⟨by simp, fun j _ => by simp, fun j => World.frozen?_alloc_new _ _ _ _⟩
theorem Bx.kept {W W' : World} {b : Nat} {vs : List Value} {r : Option Nat} (h : Bx W b vs) (hg : W.grownBy W' r) (hr : some b ≠ r) : Bx W' b vs := ⟨Nat.lt_of_lt_of_le h.1 hg.size, fun j hj => (gr_cell hg h.1 hr j).trans (h.2.1 j hj), fun j => (gr_frozen hg h.1 hr j).trans (h.2.2 j)⟩
theorem Bx.set {W : World} {b : Nat} {vs : List Value} (h : Bx W b vs) (i : Nat) (v : Value) : Bx (W.setCell ⟨b, i, none⟩ v) b (vs.set i v) := by
  refine ⟨Nat.lt_of_lt_of_le h.1 (gr_set W b i v).size, fun j hj => ?_, fun j => by rw [World.frozen?_setCell]; exact h.2.2 j⟩
  rw [List.length_set] at hj
  by_cases e : i = j
  · subst e
    rw [World.cell?_setCell_same _ _ _ (u := vs[i]) ((h.2.1 i hj).trans (List.getElem?_eq_getElem hj)), List.getElem?_set_self hj]
  · rw [World.cell?_setCell_other _ _ _ _ (fun e2 => e (by cases e2; rfl)), h.2.1 j hj, List.getElem?_set_ne e]
/-- A call of the reader, and what else stays. -/
theorem RS.setO {c : Rc} {W : World} {at_ ft er b i : Nat} {v : Value} {lo : Nat} (h : RS c W at_ ft er) (hb : lo ≤ b) (hr : c.r < lo) (hW : c.l ≠ [] → ∀ b off, c.a = some ⟨b, off, none⟩ → b < lo) : RS c (W.setCell ⟨b, i, none⟩ v) at_ ft er :=
  h.other (gr_set W b i v) (by intro e; injection e with e; omega) (fun h0 b2 off ha e => by
    have := hW h0 b2 off ha
    injection e with e
    omega)
theorem gr_setO {W W' : World} {r b i : Nat} {v : Value} (h : W.grownBy W' (some r)) (hlo : W.heap.size ≤ b) : W.grownBy (W'.setCell ⟨b, i, none⟩ v) (some r) := h.andThen (gr_set W' b i v) (fun j hj => by
  injection hj with hj
  exact .inl (by omega))

end Go.Proofs.YtmklkcefbabhbaaGreat

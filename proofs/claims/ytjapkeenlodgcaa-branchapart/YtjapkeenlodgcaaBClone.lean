import Derived.Test.YtjapkeenlodgcaaBDo
import Derived.Maps.RangeWalk
namespace Go.Proofs.Ytjapkeenlodgcaa
open Go.RowKit

/-- The same branch, wherever it lies. -/
def Sm (c b : Br) : Prop := c.nm = b.nm ∧ c.Ls = b.Ls ∧ c.p = b.p ∧ c.bs = b.bs
def bV : Option Nat → Value
  | none => .pointer none
  | some b => .pointer (some ⟨b, 0, none⟩)
theorem bV_inv (v : Value) (y : DataW Nat × List MemPlace) (h : bR v = some y) : ∃ c, v = bV c := by
  unfold bR at h
  split at h
  · exact ⟨none, rfl⟩
  · exact ⟨some _, rfl⟩
  · cases h
theorem key_inv (key : Value) (l : Lit) (h : keyOf Try.prog 9 key = some l) : ∃ s : ByteArray, key = .string s := by
  obtain ⟨x, e, -, -⟩ := Go.Maps.keyOf_str Try.underlying9 h
  exact ⟨_, e⟩
/-- What comes out of the book's map is one of its branches. -/
theorem came {D : DataW Nat} {Bs : List Br} (hT : Ties D Bs) {s : ByteArray} {c : Option Nat} {l : Lit} {y : DataW Nat × List MemPlace} (hk : keyOf Try.prog 9 (.string s) = some l) (hv : bR (bV c) = some y) (hat : ∀ zd, D.atKey l zd = y.1) : ∃ b ∈ Bs, b.nm = s ∧ l = kl b.nm ∧ c = some b.xb := by
  obtain ⟨x, e, rfl, hx⟩ := Go.Maps.keyOf_str Try.underlying9 hk
  have hs : s = ⟨x.toArray⟩ := by simpa [encStr] using e
  subst hs
  have hkl : Lit.string x = kl ⟨x.toArray⟩ := by simp [kl]
  rw [hkl] at hat ⊢
  obtain ⟨b, hb, e2⟩ := (hT.hasK ⟨x.toArray⟩ (by simpa [ByteArray.size] using hx)).1 (Go.Maps.has_true_of_atKey hat)
  have h1 := hT.atK b hb
  rw [e2, hat .nil] at h1
  refine ⟨b, hb, e2, by rw [e2], ?_⟩
  cases c with
  | none =>
    simp [bV, bR] at hv
    rw [← hv] at h1
    simp at h1
  | some m =>
    simp [bV, bR] at hv
    rw [← hv] at h1
    simp at h1
    rw [h1]

theorem same_self (s : ByteArray) : (kl s).sameKey (kl s) = true := by simp [kl, Lit.sameKey]

/-- Some branches are copied, the others still to come. -/
structure Copied (w : World) (Bs : List Br) (M : Nat) (left : Lit → Bool) (cnt : Nat) (Cs : List Br) (wr : World) : Prop where
  map : ∃ Dout, wr.ownsMap Try.prog 9 bR M Cs.length Dout ∧ Ties Dout Cs
  brs : ∀ c ∈ Cs, BrAt wr c ∧ w.heap.size ≤ c.hb
  gone : ∀ b ∈ Bs, left (kl b.nm) = false → ∃ c ∈ Cs, Sm c b
  of : ∀ c ∈ Cs, ∃ b ∈ Bs, left (kl b.nm) = false ∧ Sm c b
  room : Cs.length + cnt ≤ Bs.length
theorem Copied.kept {w : World} {Bs : List Br} {M : Nat} {left : Lit → Bool} {cnt : Nat} {Cs : List Br} {wr wr' : World} (h : Copied w Bs M left cnt Cs wr) (hb : Below wr.heap.size wr wr') : Copied w Bs M left cnt Cs wr' where
  map := by
    obtain ⟨D, h1, h2⟩ := h.map
    exact ⟨D, ownsMap_later h1 hb, h2⟩
  brs := fun c hc => ⟨(h.brs c hc).1.later hb, (h.brs c hc).2⟩
  gone := h.gone
  of := h.of
  room := h.room
/-- The iterator moves on. -/
theorem iter_odd {H : Type} {P : Program} {k : TypeId} {R : Value → Option (DataW H × List MemPlace)} {b r n cnt : Nat} {D : DataW H} {left : Lit → Bool} {W : World} (h : W.ranges P k R b r n D left cnt) : Odd W r := by
  obtain ⟨es, clock, since, seen, c0, -, -, -, -, hr, -⟩ := h
  intro v hv
  simp [World.cell?, hr] at hv
theorem Copied.turned {w : World} {Bs : List Br} {M r : Nat} {left : Lit → Bool} {cnt : Nat} {Cs : List Br} {wr wr' : World} (h : Copied w Bs M left cnt Cs wr) (hO : Odd wr r) (hne : M ≠ r) (hg : wr.grownBy wr' (some r)) : Copied w Bs M left cnt Cs wr' where
  map := by
    obtain ⟨D, h1, h2⟩ := h.map
    exact ⟨D, h1.kept hg (fun e => hne (Option.some.inj e)), h2⟩
  brs := fun c hc => ⟨(h.brs c hc).1.keptO hO hg, (h.brs c hc).2⟩
  gone := h.gone
  of := h.of
  room := h.room
/-- One more is copied. -/
theorem Copied.more {w : World} {Bs : List Br} {M : Nat} {left : Lit → Bool} {cnt cnt' : Nat} {Cs : List Br} {X X' : World} {Dout : DataW Nat} {b c : Br} (h : Copied w Bs M left cnt Cs X) (hnm : Bs.Pairwise fun a b => a.nm ≠ b.nm) (hb : b ∈ Bs) (hl : left (kl b.nm) = true) (hS : Sm c b) (hc : BrAt X c) (hh : w.heap.size ≤ c.hb) (hfr : ∀ x ∈ Cs, x.hb ≠ c.hb) (hcn : cnt' < cnt)
    (hown : X.ownsMap Try.prog 9 bR M Cs.length Dout) (hT : Ties Dout Cs) (hg : X.grownBy X' (some M)) (hown' : X'.ownsMap Try.prog 9 bR M (Cs.length + 1) (Dout.put (kl c.nm) (.held c.xb))) : Copied w Bs M (fun z => left z && !z.sameKey (kl b.nm)) cnt' (c :: Cs) X' where
  map := ⟨_, hown', hT.put hc.2.2 (fun x hx e => by
    obtain ⟨b', hb', hl', hS'⟩ := h.of x hx
    have : b' = b := pw_inj hnm hb' hb (by rw [← hS'.1, e, hS.1])
    rw [this, hl] at hl'
    cases hl') hfr⟩
  brs := fun x hx => by
    have hO := odd_map hown
    rcases List.mem_cons.1 hx with rfl | hx
    · exact ⟨hc.keptO hO hg, hh⟩
    · exact ⟨(h.brs x hx).1.keptO hO hg, (h.brs x hx).2⟩
  gone := fun b' hb' hl' => by
    by_cases e : b'.nm = b.nm
    · rw [pw_inj hnm hb' hb e]
      exact ⟨c, List.mem_cons_self, hS⟩
    · rw [Go.Maps.sameKey_ne (kl_ne e)] at hl'
      obtain ⟨x, hx, hxS⟩ := h.gone b' hb' (by simpa using hl')
      exact ⟨x, List.mem_cons_of_mem _ hx, hxS⟩
  of := fun x hx => by
    rcases List.mem_cons.1 hx with rfl | hx
    · exact ⟨b, hb, by rw [same_self]; simp, hS⟩
    · obtain ⟨b', hb', hl', hS'⟩ := h.of x hx
      exact ⟨b', hb', by rw [hl']; rfl, hS'⟩
  room := by
    have := h.room
    simp
    omega

theorem copied_start {w w0 : World} {Bs : List Br} {M : Nat} {D : DataW Nat} (hs : ∀ b ∈ Bs, b.nm.size ≤ maxLen) (h3 : Ties D Bs) (ho : w0.ownsMap Try.prog 9 bR M 0 (.map [])) : Copied w Bs M (Go.Maps.has D) (Go.Maps.size D) [] w0 where
  map := ⟨.map [], ho, Ties.none⟩
  brs := fun c hc => by simp at hc
  gone := fun b hb e => by
    rw [(h3.hasK b.nm (hs b hb)).2 ⟨b, hb, rfl⟩] at e
    cases e
  of := fun c hc => by simp at hc
  room := by
    rw [h3.size]
    simp
def CloneP (w : World) (Bs : List Br) (cur : ByteArray) (e : Ending) (w' : World) : Prop := ∃ bc Cs, e = .returned (.pointer (some ⟨bc, 0, none⟩)) ∧ BookAt w' w.heap.size bc Cs cur ∧ (∀ b ∈ Bs, ∃ c ∈ Cs, Sm c b) ∧ (∀ c ∈ Cs, ∃ b ∈ Bs, Sm c b) ∧ Below w.heap.size w w'
/-- The copy stands. -/
theorem copied_end {w wr : World} {Bs Cs : List Br} {lo bb : Nat} {cur : ByteArray} {left : Lit → Bool} (h : BookAt w lo bb Bs cur) (hC : Copied w Bs w.heap.size left 0 Cs wr) (hl : ∀ l, left l = false) (hb : Below w.heap.size w wr) : CloneP w Bs cur (.returned (.pointer (some ⟨wr.heap.size, 0, none⟩))) (wr.alloc (.cells #[.map (some w.heap.size), .string cur] 65)) := by
  have hb3 := (Below.refl wr.heap.size wr).alloc (Nat.le_refl _) (.cells #[.map (some w.heap.size), .string cur] 65)
  obtain ⟨Dout, h1, h2⟩ := hC.map
  obtain ⟨c0, hc0, e0⟩ := h.here
  have h6 : Bs.length ≤ 6 := by
    obtain ⟨-, -, mb, D, -, -, -, -, -, -, h6⟩ := h
    exact h6
  have hr := hC.room
  obtain ⟨c, hc, hS⟩ := hC.gone c0 hc0 (hl _)
  refine ⟨_, Cs, rfl, ⟨hb.size, fun x hx => (hC.brs x hx).2, w.heap.size, Dout, Nat.le_refl _, heap_alloc_last wr _, ownsMap_later h1 hb3, h2, fun x hx => (hC.brs x hx).1.later hb3, ⟨c, hc, by rw [hS.1, e0]⟩, by omega⟩, fun b hb' => hC.gone b hb' (hl _), fun x hx => ?_, below_step hb hb3⟩
  obtain ⟨b, hb', -, hS'⟩ := hC.of x hx
  exact ⟨b, hb', hS'⟩

set_option maxRecDepth 8000 in
set_option maxHeartbeats 8000000 in
theorem bclone_any (lo bb : Nat) (Bs : List Br) (cur : ByteArray) (w : World) (h : BookAt w lo bb Bs cur) : Calls Try.prog 26 #[.pointer (some ⟨bb, 0, none⟩)] w (CloneP w Bs cur) := by
  have hmm := @run_makeMap Try.prog
  obtain ⟨mb, D, c0, c1, -, h2, h3, -⟩ := h.cells
  have hml := h2.lt
  have hbl := h.lt
  have e1 : (w.alloc (.map #[] 0)).heap.size = w.heap.size + 1 := by simp
  have hb0 : Below w.heap.size w (w.alloc (.map #[] 0)) := (Below.refl _ _).alloc (Nat.le_refl _) _
  have ho0 := World.ownsMap_made w Try.prog 9 bR
  have c0' := (hb0.cell (p := ⟨bb, 0, none⟩) hbl).trans c0
  have hnm := h.ties.1
  go_enter Try.func26, Try.ntmps26
  go_wp2_with (at_range; refine wpList_range_own _ rfl _ 63 rfl 9 61 bkey bmapT _ mb Bs.length _ rfl (h2.alloc _) ?_; intro w0 hrg0 hg0 hs0)
  go_frame
  rw [e1] at hrg0 hs0 ⊢
  have hBw0 : Below w.heap.size w w0 := hb0.grown hg0 hb0.size (fun k hk => by cases hk)
  have hC0 := copied_start (w := w) (fun b hb => (h.br hb).2.2) h3 (ho0.kept hg0 (by simp))
  have hHh : Hid (BookAt w lo bb Bs cur) := h
  have hH3 : Hid (Ties D Bs) := h3
  have hHn : Hid (Bs.Pairwise fun a b => a.nm ≠ b.nm) := hnm
  clear h h2 h3 hnm ho0 hg0 c0'
  go_loopw [4] (fun _ wr => ∃ (left : Lit → Bool) (cnt : Nat) (Cs : List Br), wr.ranges Try.prog 9 bR mb (w.heap.size + 1) Bs.length D left cnt ∧ Copied w Bs w.heap.size left cnt Cs wr ∧ Below w.heap.size w wr) (fun _ wr => wr.rangeLeft mb (w.heap.size + 1))
  case atStart => exact ⟨_, _, [], hrg0, hC0, hBw0⟩
  case round =>
    obtain ⟨left, cnt, Cs, hrg, hC, hB⟩ := hrel
    clear hrg0 hC0 hBw0
    have c1r := (hB.cell (p := ⟨bb, 1, none⟩) hbl).trans c1
    go_wp2_with (at_next; refine wpList_next_ranges _ rfl _ rfl 9 bkey bR Value.string bV key_inv bV_inv mb (w.heap.size + 1) Bs.length D left cnt rfl hrg ?_ ?_)
    · intro hc0 hl0
      subst hc0
      have hE := copied_end hHh.out hC hl0 hB
      clear hrg hC
      go_wp2
      go_ret
      exact hE
    · intro s cc l yd yp w1 cnt1 hk hlx hv hat hrg1 hlt hg1 hs1 hen
      obtain ⟨b, hb, rfl, rfl, rfl⟩ := came hH3.out hk hv hat
      have hB1 : Below w.heap.size w w1 := hB.grown hg1 hB.size (fun k hk => by cases hk; omega)
      have hC1 := hC.turned (iter_odd hrg) (by omega) hg1
      obtain ⟨⟨g, x1, x2⟩, x3, x4⟩ := (hHh.out.br hb).later hB1
      have hxl : b.xb < w1.heap.size := (Array.getElem?_eq_some_iff.1 x1).1
      have k0 := cell_of_row _ _ 0 _ _ _ x1
      have k1 := cell_of_row _ _ 1 _ _ _ x1
      simp at k0 k1
      simp only [bV] at hen
      have hkk : ∀ X, Below w1.heap.size w1 X → X.cell? ⟨b.xb, 0, none⟩ = some (.pointer (some ⟨b.hb, 0, none⟩)) ∧ X.cell? ⟨b.xb, 1, none⟩ = some (.pointer (some ⟨g, 0, none⟩)) := fun X hX => ⟨(hX.cell (p := ⟨b.xb, 0, none⟩) hxl).trans k0, (hX.cell (p := ⟨b.xb, 1, none⟩) hxl).trans k1⟩
      have B0 : Below w1.heap.size w1 w1.drew := (Below.refl _ _).drew
      have kD0 := (hkk _ B0).1
      have kD1 := (hkk _ B0).2
      obtain ⟨Dout, hD1, hD2⟩ := hC1.map
      have h33 := hC1.room
      have h6 : Bs.length ≤ 6 := by
        obtain ⟨-, -, mb, D, -, -, -, -, -, -, h6⟩ := hHh.out
        exact h6
      have hCs : Cs.length < maxLen := Nat.lt_of_le_of_lt (show Cs.length ≤ 6 by omega) (by decide)
      have hH1 : Hid (w1.ranges Try.prog 9 bR mb (w.heap.size + 1) Bs.length D (fun z => left z && !z.sameKey (kl b.nm)) cnt1) := hrg1
      have hHC : Hid (Copied w Bs w.heap.size left cnt Cs w1) := hC1
      have hHD : Hid (w1.ownsMap Try.prog 9 bR w.heap.size Cs.length Dout) := hD1
      have hHD2 : Hid (Ties Dout Cs) := hD2
      have hHat : Hid (left (kl b.nm) = true) := hlx
      have hHx2 : Hid (MapE w1 g b.bs) := x2
      clear hrg1 hC1 hD1 hD2 hlx hat hk hv x2 hC x1
      go_wp2
      go_region_law (go_simp; go_at_call 44; refine (clone_any b.hb b.Ls b.p _ (x3.later B0)).mono ?_; rintro e wC ⟨hcb, rfl, hcb0, hHt, hbC⟩; have hBC := below_step B0 hbC; have kC0 := (hkk _ hBC).1; have kC1 := (hkk _ hBC).2; have hbX : Below wC.heap.size wC (wC.alloc (.cells #[.pointer (some ⟨hcb, 0, none⟩), .pointer (some ⟨g, 0, none⟩)] 68)) := (Below.refl _ _).alloc (Nat.le_refl _) _; obtain ⟨w9, hrun9, hown9, hg9⟩ := (ownsMap_later hHD.out (below_step hBC hbX)).update bkey bmapT hCs (bkeyOf x4) (show bR (.pointer (some ⟨wC.heap.size, 0, none⟩)) = some (.held wC.heap.size, []) from rfl))
      all_goals
        have hXX := below_step hBC hbX
        have hBr : BrAt (wC.alloc (.cells #[.pointer (some ⟨hcb, 0, none⟩), .pointer (some ⟨g, 0, none⟩)] 68)) ⟨b.nm, wC.heap.size, hcb, b.Ls, b.p, b.bs⟩ := ⟨⟨g, heap_alloc_last wC _, hHx2.out.later hXX⟩, hHt.later hbX, x4⟩
        have hCX := hHC.out.kept hXX
        have hhc : w.heap.size ≤ hcb := Nat.le_trans hB1.size (Nat.le_trans B0.size hcb0)
        have hM := hCX.more (c := ⟨b.nm, wC.heap.size, hcb, b.Ls, b.p, b.bs⟩) hHn.out hb hHat.out ⟨rfl, rfl, rfl, rfl⟩ hBr hhc (fun x hx e => by have h1 := (hHC.out.brs x hx).1.2.1.lt; have h2 := Nat.le_trans B0.size hcb0; rw [e] at h1; exact absurd h1 (Nat.not_lt.2 h2)) hlt (ownsMap_later hHD.out hXX) hHD2.out hg9 hown9
        have hr9 := (hH1.out.kept (grown_of_belowB hXX) (by simp) (by simp)).kept hg9 (fun e => by have := Option.some.inj e; omega) (fun e => by have := Option.some.inj e; omega)
        have hB9 : Below w.heap.size w w9 := (below_step hB1 hXX).grown hg9 (below_step hB1 hXX).size (fun k hk => by cases hk; exact Nat.le_refl _)
        clear hCX hBr hown9 hHt kC0 kC1 kD0 kD1
        go_wp2
        go_roundw
        case rel => exact ⟨_, cnt1, _, hr9, hM, hB9⟩
        case measure => rw [hr9.left_eq, hrg.left_eq]; exact hlt

end Go.Proofs.Ytjapkeenlodgcaa

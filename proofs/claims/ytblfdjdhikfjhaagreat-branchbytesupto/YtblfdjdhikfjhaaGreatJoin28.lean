import Derived.Test.YtblfdjdhikfjhaaGreatJoin18
import Derived.Maps.RangeWalk
import Derived.Test.YtblfdjdhikfjhaaGreatJoin17
namespace Go.Proofs.YtblfdjdhikfjhaaGreat
open Go.RowKit

/-- The same branch, wherever it lies. -/
def Sm (c b : Br) : Prop := c.nm = b.nm ∧ c.Ls = b.Ls ∧ c.p = b.p ∧ c.bs = b.bs
def bV : Option Nat → Value
  | none => .pointer none
  | some b => .pointer (some ⟨b, 0, none⟩)
theorem bV_inv (v : Value) (y : DataW Nat × List MemPlace) (h : bR v = some y) : ∃ c, v = bV c := by
  unfold bR at h
  split at h
  · exact ⟨none, rfl⟩
  · exact ⟨some _, rfl⟩
  · cases h
theorem key_inv (key : Value) (l : Lit) (h : keyOf Tryz.prog 9 key = some l) : ∃ s : ByteArray, key = .string s := by
  obtain ⟨x, e, -, -⟩ := Go.Maps.keyOf_str Tryz.underlying9 h
  exact ⟨_, e⟩
/-- What comes out of the book's map is one of its branches. -/
theorem came {D : DataW Nat} {Bs : List Br} (hT : Ties D Bs) {s : ByteArray} {c : Option Nat} {l : Lit} {y : DataW Nat × List MemPlace} (hk : keyOf Tryz.prog 9 (.string s) = some l) (hv : bR (bV c) = some y) (hat : ∀ zd, D.atKey l zd = y.1) : ∃ b ∈ Bs, b.nm = s ∧ l = kl b.nm ∧ c = some b.xb := by
  obtain ⟨x, e, rfl, hx⟩ := Go.Maps.keyOf_str Tryz.underlying9 hk
  have hs : s = ⟨x.toArray⟩ := by simpa [encStr] using e
  subst hs
  have hkl : Lit.string x = kl ⟨x.toArray⟩ := by simp [kl]
  rw [hkl] at hat ⊢
  obtain ⟨b, hb, e2⟩ := (hT.hasK ⟨x.toArray⟩ (by simpa [ByteArray.size] using hx)).1 (Go.Maps.has_true_of_atKey hat)
  have h1 := hT.atK b hb
  rw [e2, hat .nil] at h1
  refine ⟨b, hb, e2, by rw [e2], ?_⟩
  cases c with
  | none =>
    simp [bV, bR] at hv
    rw [← hv] at h1
    simp at h1
  | some m =>
    simp [bV, bR] at hv
    rw [← hv] at h1
    simp at h1
    rw [h1]

theorem same_self (s : ByteArray) : (kl s).sameKey (kl s) = true := by simp [kl, Lit.sameKey]

/-- Some branches are copied, the others still to come. -/
structure Copied (w : World) (Bs : List Br) (M : Nat) (left : Lit → Bool) (cnt : Nat) (Cs : List Br) (wr : World) : Prop where
  map : ∃ Dout, wr.ownsMap Tryz.prog 9 bR M Cs.length Dout ∧ Ties Dout Cs
  brs : ∀ c ∈ Cs, BrAt wr c ∧ w.heap.size ≤ c.hb
  gone : ∀ b ∈ Bs, left (kl b.nm) = false → ∃ c ∈ Cs, Sm c b
  of : ∀ c ∈ Cs, ∃ b ∈ Bs, left (kl b.nm) = false ∧ Sm c b
  room : Cs.length + cnt ≤ Bs.length
theorem Copied.kept {w : World} {Bs : List Br} {M : Nat} {left : Lit → Bool} {cnt : Nat} {Cs : List Br} {wr wr' : World} (h : Copied w Bs M left cnt Cs wr) (hb : Below wr.heap.size wr wr') : Copied w Bs M left cnt Cs wr' where
  map := by
    obtain ⟨D, h1, h2⟩ := h.map
    exact ⟨D, ownsMap_later h1 hb, h2⟩
  brs := fun c hc => ⟨(h.brs c hc).1.later hb, (h.brs c hc).2⟩
  gone := h.gone
  of := h.of
  room := h.room
/-- The iterator moves on. -/
theorem iter_odd {H : Type} {P : Program} {k : TypeId} {R : Value → Option (DataW H × List MemPlace)} {b r n cnt : Nat} {D : DataW H} {left : Lit → Bool} {W : World} (h : W.ranges P k R b r n D left cnt) : Odd W r := by
  obtain ⟨es, clock, since, seen, c0, -, -, -, -, hr, -⟩ := h
  intro v hv
  simp [World.cell?, hr] at hv
theorem Copied.turned {w : World} {Bs : List Br} {M r : Nat} {left : Lit → Bool} {cnt : Nat} {Cs : List Br} {wr wr' : World} (h : Copied w Bs M left cnt Cs wr) (hO : Odd wr r) (hne : M ≠ r) (hg : wr.grownBy wr' (some r)) : Copied w Bs M left cnt Cs wr' where
  map := by
    obtain ⟨D, h1, h2⟩ := h.map
    exact ⟨D, h1.kept hg (fun e => hne (Option.some.inj e)), h2⟩
  brs := fun c hc => ⟨(h.brs c hc).1.keptO hO hg, (h.brs c hc).2⟩
  gone := h.gone
  of := h.of
  room := h.room
/-- One more is copied. -/
theorem Copied.more {w : World} {Bs : List Br} {M : Nat} {left : Lit → Bool} {cnt cnt' : Nat} {Cs : List Br} {X X' : World} {Dout : DataW Nat} {b c : Br} (h : Copied w Bs M left cnt Cs X) (hnm : Bs.Pairwise fun a b => a.nm ≠ b.nm) (hb : b ∈ Bs) (hl : left (kl b.nm) = true) (hS : Sm c b) (hc : BrAt X c) (hh : w.heap.size ≤ c.hb) (hfr : ∀ x ∈ Cs, x.hb ≠ c.hb) (hcn : cnt' < cnt)
    (hown : X.ownsMap Tryz.prog 9 bR M Cs.length Dout) (hT : Ties Dout Cs) (hg : X.grownBy X' (some M)) (hown' : X'.ownsMap Tryz.prog 9 bR M (Cs.length + 1) (Dout.put (kl c.nm) (.held c.xb))) : Copied w Bs M (fun z => left z && !z.sameKey (kl b.nm)) cnt' (c :: Cs) X' where
  map := ⟨_, hown', hT.put hc.2.2 (fun x hx e => by
    obtain ⟨b', hb', hl', hS'⟩ := h.of x hx
    have : b' = b := pw_inj hnm hb' hb (by rw [← hS'.1, e, hS.1])
    rw [this, hl] at hl'
    cases hl') hfr⟩
  brs := fun x hx => by
    have hO := odd_map hown
    rcases List.mem_cons.1 hx with rfl | hx
    · exact ⟨hc.keptO hO hg, hh⟩
    · exact ⟨(h.brs x hx).1.keptO hO hg, (h.brs x hx).2⟩
  gone := fun b' hb' hl' => by
    by_cases e : b'.nm = b.nm
    · rw [pw_inj hnm hb' hb e]
      exact ⟨c, List.mem_cons_self, hS⟩
    · rw [Go.Maps.sameKey_ne (kl_ne e)] at hl'
      obtain ⟨x, hx, hxS⟩ := h.gone b' hb' (by simpa using hl')
      exact ⟨x, List.mem_cons_of_mem _ hx, hxS⟩
  of := fun x hx => by
    rcases List.mem_cons.1 hx with rfl | hx
    · exact ⟨b, hb, by rw [same_self]; simp, hS⟩
    · obtain ⟨b', hb', hl', hS'⟩ := h.of x hx
      exact ⟨b', hb', by rw [hl']; rfl, hS'⟩
  room := by
    have := h.room
    simp
    omega

theorem copied_start {w w0 : World} {Bs : List Br} {M : Nat} {D : DataW Nat} (hs : ∀ b ∈ Bs, b.nm.size ≤ maxLen) (h3 : Ties D Bs) (ho : w0.ownsMap Tryz.prog 9 bR M 0 (.map [])) : Copied w Bs M (Go.Maps.has D) (Go.Maps.size D) [] w0 where
  map := ⟨.map [], ho, Ties.none⟩
  brs := fun c hc => by simp at hc
  gone := fun b hb e => by
    rw [(h3.hasK b.nm (hs b hb)).2 ⟨b, hb, rfl⟩] at e
    cases e
  of := fun c hc => by simp at hc
  room := by
    rw [h3.size]
    simp
def CloneP (w : World) (Bs : List Br) (cur : ByteArray) (e : Ending) (w' : World) : Prop := ∃ bc Cs, e = .returned (.pointer (some ⟨bc, 0, none⟩)) ∧ BookAt w' w.heap.size bc Cs cur ∧ (∀ b ∈ Bs, ∃ c ∈ Cs, Sm c b) ∧ (∀ c ∈ Cs, ∃ b ∈ Bs, Sm c b) ∧ Below w.heap.size w w'
/-- The copy stands. -/
theorem copied_end {w wr : World} {Bs Cs : List Br} {lo bb : Nat} {cur : ByteArray} {left : Lit → Bool} (h : BookAt w lo bb Bs cur) (hC : Copied w Bs w.heap.size left 0 Cs wr) (hl : ∀ l, left l = false) (hb : Below w.heap.size w wr) : CloneP w Bs cur (.returned (.pointer (some ⟨wr.heap.size, 0, none⟩))) (wr.alloc (.cells #[.map (some w.heap.size), .string cur] 71)) := by
  have hb3 := (Below.refl wr.heap.size wr).alloc (Nat.le_refl _) (.cells #[.map (some w.heap.size), .string cur] 71)
  obtain ⟨Dout, h1, h2⟩ := hC.map
  obtain ⟨c0, hc0, e0⟩ := h.here
  have h6 : Bs.length ≤ 6 := by
    obtain ⟨-, -, mb, D, -, -, -, -, -, -, h6⟩ := h
    exact h6
  have hr := hC.room
  obtain ⟨c, hc, hS⟩ := hC.gone c0 hc0 (hl _)
  refine ⟨_, Cs, rfl, ⟨hb.size, fun x hx => (hC.brs x hx).2, w.heap.size, Dout, Nat.le_refl _, heap_alloc_last wr _, ownsMap_later h1 hb3, h2, fun x hx => (hC.brs x hx).1.later hb3, ⟨c, hc, by rw [hS.1, e0]⟩, by omega⟩, fun b hb' => hC.gone b hb' (hl _), fun x hx => ?_, below_step hb hb3⟩
  obtain ⟨b, hb', -, hS'⟩ := hC.of x hx
  exact ⟨b, hb', hS'⟩

set_option maxRecDepth 8000 in
set_option maxHeartbeats 8000000 in
theorem bclone_any (lo bb : Nat) (Bs : List Br) (cur : ByteArray) (w : World) (h : BookAt w lo bb Bs cur) : Calls Tryz.prog 10 #[.pointer (some ⟨bb, 0, none⟩)] w (CloneP w Bs cur) := by
  have hmm := @run_makeMap Tryz.prog
  obtain ⟨mb, D, c0, c1, -, h2, h3, -⟩ := h.cells
  have hml := h2.lt
  have hbl := h.lt
  have e1 : (w.alloc (.map #[] 0)).heap.size = w.heap.size + 1 := by simp
  have hb0 : Below w.heap.size w (w.alloc (.map #[] 0)) := (Below.refl _ _).alloc (Nat.le_refl _) _
  have ho0 := World.ownsMap_made w Tryz.prog 9 bR
  have c0' := (hb0.cell (p := ⟨bb, 0, none⟩) hbl).trans c0
  have hnm := h.ties.1
  go_enter Tryz.func10, Tryz.ntmps10
  go_wp2_with (at_range; refine wpList_range_own _ rfl _ 69 rfl 9 72 bkey bmapT _ mb Bs.length _ rfl (h2.alloc _) ?_; intro w0 hrg0 hg0 hs0)
  go_frame
  rw [e1] at hrg0 hs0 ⊢
  have hBw0 : Below w.heap.size w w0 := hb0.grown hg0 hb0.size (fun k hk => by cases hk)
  have hC0 := copied_start (w := w) (fun b hb => (h.br hb).2.2) h3 (ho0.kept hg0 (by simp))
  have hHh : Hid (BookAt w lo bb Bs cur) := h
  have hH3 : Hid (Ties D Bs) := h3
  have hHn : Hid (Bs.Pairwise fun a b => a.nm ≠ b.nm) := hnm
  clear h h2 h3 hnm ho0 hg0 c0'
  go_loopw [4] (fun _ wr => ∃ (left : Lit → Bool) (cnt : Nat) (Cs : List Br), wr.ranges Tryz.prog 9 bR mb (w.heap.size + 1) Bs.length D left cnt ∧ Copied w Bs w.heap.size left cnt Cs wr ∧ Below w.heap.size w wr) (fun _ wr => wr.rangeLeft mb (w.heap.size + 1))
  case atStart => exact ⟨_, _, [], hrg0, hC0, hBw0⟩
  case round =>
    obtain ⟨left, cnt, Cs, hrg, hC, hB⟩ := hrel
    clear hrg0 hC0 hBw0
    have c1r := (hB.cell (p := ⟨bb, 1, none⟩) hbl).trans c1
    go_wp2_with (at_next; refine wpList_next_ranges _ rfl _ rfl 9 bkey bR Value.string bV key_inv bV_inv mb (w.heap.size + 1) Bs.length D left cnt rfl hrg ?_ ?_)
    · intro hc0 hl0
      subst hc0
      have hE := copied_end hHh.out hC hl0 hB
      clear hrg hC
      go_wp2
      go_ret
      exact hE
    · intro s cc l yd yp w1 cnt1 hk hlx hv hat hrg1 hlt hg1 hs1 hen
      obtain ⟨b, hb, rfl, rfl, rfl⟩ := came hH3.out hk hv hat
      have hB1 : Below w.heap.size w w1 := hB.grown hg1 hB.size (fun k hk => by cases hk; omega)
      have hC1 := hC.turned (iter_odd hrg) (by omega) hg1
      obtain ⟨⟨g, x1, x2⟩, x3, x4⟩ := (hHh.out.br hb).later hB1
      have hxl : b.xb < w1.heap.size := (Array.getElem?_eq_some_iff.1 x1).1
      have k0 := cell_of_row _ _ 0 _ _ _ x1
      have k1 := cell_of_row _ _ 1 _ _ _ x1
      simp at k0 k1
      simp only [bV] at hen
      have hkk : ∀ X, Below w1.heap.size w1 X → X.cell? ⟨b.xb, 0, none⟩ = some (.pointer (some ⟨b.hb, 0, none⟩)) ∧ X.cell? ⟨b.xb, 1, none⟩ = some (.pointer (some ⟨g, 0, none⟩)) := fun X hX => ⟨(hX.cell (p := ⟨b.xb, 0, none⟩) hxl).trans k0, (hX.cell (p := ⟨b.xb, 1, none⟩) hxl).trans k1⟩
      have B0 : Below w1.heap.size w1 w1.drew := (Below.refl _ _).drew
      have kD0 := (hkk _ B0).1
      have kD1 := (hkk _ B0).2
      obtain ⟨Dout, hD1, hD2⟩ := hC1.map
      have h33 := hC1.room
      have h6 : Bs.length ≤ 6 := by
        obtain ⟨-, -, mb, D, -, -, -, -, -, -, h6⟩ := hHh.out
        exact h6
      have hCs : Cs.length < maxLen := Nat.lt_of_le_of_lt (show Cs.length ≤ 6 by omega) (by decide)
      have hH1 : Hid (w1.ranges Tryz.prog 9 bR mb (w.heap.size + 1) Bs.length D (fun z => left z && !z.sameKey (kl b.nm)) cnt1) := hrg1
      have hHC : Hid (Copied w Bs w.heap.size left cnt Cs w1) := hC1
      have hHD : Hid (w1.ownsMap Tryz.prog 9 bR w.heap.size Cs.length Dout) := hD1
      have hHD2 : Hid (Ties Dout Cs) := hD2
      have hHat : Hid (left (kl b.nm) = true) := hlx
      have hHx2 : Hid (MapE w1 g b.bs) := x2
      clear hrg1 hC1 hD1 hD2 hlx hat hk hv x2 hC x1
      go_wp2
      go_region_law (go_simp; go_at_call 28; refine (clone_any b.hb b.Ls b.p _ (x3.later B0)).mono ?_; rintro e wC ⟨hcb, rfl, hcb0, hHt, hbC⟩; have hBC := below_step B0 hbC; have kC0 := (hkk _ hBC).1; have kC1 := (hkk _ hBC).2; have hbX : Below wC.heap.size wC (wC.alloc (.cells #[.pointer (some ⟨hcb, 0, none⟩), .pointer (some ⟨g, 0, none⟩)] 75)) := (Below.refl _ _).alloc (Nat.le_refl _) _; obtain ⟨w9, hrun9, hown9, hg9⟩ := (ownsMap_later hHD.out (below_step hBC hbX)).update bkey bmapT hCs (bkeyOf x4) (show bR (.pointer (some ⟨wC.heap.size, 0, none⟩)) = some (.held wC.heap.size, []) from rfl))
      all_goals
        have hXX := below_step hBC hbX
        have hBr : BrAt (wC.alloc (.cells #[.pointer (some ⟨hcb, 0, none⟩), .pointer (some ⟨g, 0, none⟩)] 75)) ⟨b.nm, wC.heap.size, hcb, b.Ls, b.p, b.bs⟩ := ⟨⟨g, heap_alloc_last wC _, hHx2.out.later hXX⟩, hHt.later hbX, x4⟩
        have hCX := hHC.out.kept hXX
        have hhc : w.heap.size ≤ hcb := Nat.le_trans hB1.size (Nat.le_trans B0.size hcb0)
        have hM := hCX.more (c := ⟨b.nm, wC.heap.size, hcb, b.Ls, b.p, b.bs⟩) hHn.out hb hHat.out ⟨rfl, rfl, rfl, rfl⟩ hBr hhc (fun x hx e => by have h1 := (hHC.out.brs x hx).1.2.1.lt; have h2 := Nat.le_trans B0.size hcb0; rw [e] at h1; exact absurd h1 (Nat.not_lt.2 h2)) hlt (ownsMap_later hHD.out hXX) hHD2.out hg9 hown9
        have hr9 := (hH1.out.kept (grown_of_belowB hXX) (by simp) (by simp)).kept hg9 (fun e => by have := Option.some.inj e; omega) (fun e => by have := Option.some.inj e; omega)
        have hB9 : Below w.heap.size w w9 := (below_step hB1 hXX).grown hg9 (below_step hB1 hXX).size (fun k hk => by cases hk; exact Nat.le_refl _)
        clear hCX hBr hown9 hHt kC0 kC1 kD0 kD1
        go_wp2
        go_roundw
        case rel => exact ⟨_, cnt1, _, hr9, hM, hB9⟩
        case measure => rw [hr9.left_eq, hrg.left_eq]; exact hlt

end Go.Proofs.YtblfdjdhikfjhaaGreat


namespace Go.Proofs.YtblfdjdhikfjhaaGreat
open Go.RowKit

set_option maxRecDepth 4000 in
set_option maxHeartbeats 1000000 in
theorem base_some (lo bb : Nat) (Bs : List Br) (cur : ByteArray) (b : Br) (hb : b ∈ Bs) (w : World) (h : BookAt w lo bb Bs cur) : Calls Tryz.prog 54 #[.pointer (some ⟨bb, 0, none⟩), .string b.nm] w fun e w' => ∃ m, e = .returned (.tuple #[.pointer (some ⟨m, 0, none⟩), .bool true]) ∧ MapE w' m b.bs ∧ w' = w := by
  obtain ⟨mb, D, c0, c1, -, h2, h3, -⟩ := h.cells
  obtain ⟨⟨g, x1, x2⟩, x3, x4⟩ := h.br hb
  have hr := look_yes h2 h3 hb x4
  have x0 := cell_of_row _ _ 1 _ _ _ x1
  simp at x0
  clear h h2 h3
  go_enter Tryz.func54, Tryz.ntmps54
  go_wp2
  go_ret2
  exact ⟨g, rfl, x2, rfl⟩

theorem EntsT.mv {lo : Nat} {W W' : World} {v : Value} {L : Es} (h : EntsT W v L) (hm : Mv lo W W') : EntsT W' v L := by
  have hs : W.heap.size ≤ W'.heap.size := by
    obtain ⟨r, -, -, h4⟩ := hm
    exact h4.size
  exact h.keep hs (fun g _ hg => (hm.row hg (by decide) (by decide)).trans hg.symm)

/-- Lists of entries, one behind the other, in a row of their own. -/
def StepsT (W : World) (v : Value) (S : List Es) : Prop := (S = [] → ∃ a cap, v = .slice a 0 cap) ∧ (S ≠ [] → ∃ g cap cs, v = .slice (some ⟨g, 0, none⟩) S.length cap ∧ W.heap[g]? = some (.cells cs 22 (0, 0)) ∧ ∀ i (h : i < S.length), ∃ u, W.cell? ⟨g, i, none⟩ = some u ∧ EntsT W u S[i])
theorem StepsT.keep {W W' : World} {v : Value} {S : List Es} (h : StepsT W v S) (hs : W.heap.size ≤ W'.heap.size) (hk : ∀ (g : Nat) (cs : Array Value) (t : TypeId), t = 49 ∨ t = 22 → W.heap[g]? = some (.cells cs t (0, 0)) → W'.heap[g]? = W.heap[g]?) : StepsT W' v S := by
  refine ⟨h.1, fun hS => ?_⟩
  obtain ⟨g, cap, cs, rfl, hh, hc⟩ := h.2 hS
  have he := hk g cs _ (.inr rfl) hh
  refine ⟨g, cap, cs, rfl, he.trans hh, fun i hi => ?_⟩
  obtain ⟨u, h1, h2⟩ := hc i hi
  exact ⟨u, (by simp only [World.cell?, he] : W'.cell? ⟨g, i, none⟩ = W.cell? ⟨g, i, none⟩).trans h1, h2.keep hs (fun g cs hg => hk g cs _ (.inl rfl) hg)⟩
theorem StepsT.later {W W' : World} {v : Value} {S : List Es} (h : StepsT W v S) (hb : Below W.heap.size W W') : StepsT W' v S := h.keep hb.size (fun g _ _ _ hg => hb.block g (Array.getElem?_eq_some_iff.1 hg).1)
theorem StepsT.mv {lo : Nat} {W W' : World} {v : Value} {S : List Es} (h : StepsT W v S) (hm : Mv lo W W') : StepsT W' v S := by
  have hs : W.heap.size ≤ W'.heap.size := by
    obtain ⟨r, -, -, h4⟩ := hm
    exact h4.size
  refine h.keep hs (fun g _ t ht hg => (hm.row hg ?_ ?_).trans hg.symm)
  · rcases ht with rfl | rfl <;> decide
  · rcases ht with rfl | rfl <;> decide
theorem StepsT.len {W : World} {v : Value} {S : List Es} (h : StepsT W v S) : ∃ a cap, v = .slice a S.length cap := by
  by_cases hS : S = []
  · obtain ⟨a, cap, e⟩ := h.1 hS
    exact ⟨a, cap, by rw [e, hS]; rfl⟩
  · obtain ⟨g, cap, cs, e, -⟩ := h.2 hS
    exact ⟨_, _, e⟩

/-- What a branch shows. -/
structure Vw where
  now : Es
  base : Es
  undo : Nat
  redo : Nat
  steps : List Es
def VwOk (V : Vw) : Prop := V.now.length ≤ 9223372036854775806 ∧ V.base.length ≤ 9223372036854775806 ∧ V.steps.length ≤ 1000 ∧ ∀ s ∈ V.steps, s.length ≤ 9223372036854775806
def VwAt (W : World) (va vb vs : Value) (V : Vw) : Prop := EntsT W va V.now ∧ EntsT W vb V.base ∧ StepsT W vs V.steps
def vwV (va vb vs : Value) (V : Vw) : Value := .agg #[.bool true, va, vb, .int .i64 (V.undo : Int), .int .i64 (V.redo : Int), vs]
theorem VwAt.later {W W' : World} {va vb vs : Value} {V : Vw} (h : VwAt W va vb vs V) (hb : Below W.heap.size W W') : VwAt W' va vb vs V := ⟨h.1.later hb, h.2.1.later hb, h.2.2.later hb⟩
theorem VwAt.mv {lo : Nat} {W W' : World} {va vb vs : Value} {V : Vw} (h : VwAt W va vb vs V) (hm : Mv lo W W') : VwAt W' va vb vs V := ⟨h.1.mv hm, h.2.1.mv hm, h.2.2.mv hm⟩

def viewRow (va vb vs : Value) (V : Vw) : Array Value := #[.bool true, va, vb, .int .i64 (V.undo : Int), .int .i64 (V.redo : Int), vs]
set_option maxRecDepth 8000 in
set_option maxHeartbeats 4000000 in
theorem sameView_any (va vb vs ua ub us : Value) (V : Vw) (hV : VwOk V) (w : World) (h : VwAt w va vb vs V) (k : VwAt w ua ub us V) : Calls Tryz.prog 27 #[vwV va vb vs V, vwV ua ub us V] w fun e w' => e = .returned (.bool true) ∧ Below w.heap.size w w' := by
  obtain ⟨a1, a2, e1⟩ := h.1.1.len
  obtain ⟨b1, b2, e2⟩ := h.2.1.1.len
  obtain ⟨s1, s2, e3⟩ := h.2.2.len
  obtain ⟨c1, c2, e4⟩ := k.1.1.len
  obtain ⟨d1, d2, e5⟩ := k.2.1.1.len
  obtain ⟨t1, t2, e6⟩ := k.2.2.len
  unfold vwV
  obtain ⟨hV1, hV2, hV3, hV4⟩ := hV
  have hN := fun W hW => same_ents va ua V.now hV1 W (h.later hW).1.1 (k.later hW).1.1
  have hBs := fun W hW => same_ents vb ub V.base hV2 W (h.later hW).2.1.1 (k.later hW).2.1.1
  have hSt : ∀ W, Below w.heap.size w W → StepsT W vs V.steps ∧ StepsT W us V.steps := fun W hW => ⟨(h.later hW).2.2, (k.later hW).2.2⟩
  rw [e1, e4] at hN
  rw [e2, e5] at hBs
  rw [e3, e6] at hSt
  rw [e1, e2, e3, e4, e5, e6]
  clear h k e1 e2 e3 e4 e5 e6
  obtain ⟨X, hX⟩ : ∃ X, w.alloc (.cells #[.bool true, .slice a1 V.now.length a2, .slice b1 V.base.length b2, .int .i64 (V.undo : Int), .int .i64 (V.redo : Int), .slice s1 V.steps.length s2] 66) = X := ⟨_, rfl⟩
  obtain ⟨Y, hY⟩ : ∃ Y, X.alloc (.cells #[.bool true, .slice c1 V.now.length c2, .slice d1 V.base.length d2, .int .i64 (V.undo : Int), .int .i64 (V.redo : Int), .slice t1 V.steps.length t2] 66) = Y := ⟨_, rfl⟩
  have hbX : Below w.heap.size w X := by rw [← hX]; exact (Below.refl _ _).alloc (Nat.le_refl _) _
  have hbXY : Below X.heap.size X Y := by rw [← hY]; exact (Below.refl _ _).alloc (Nat.le_refl _) _
  have hbY := below_step hbX hbXY
  have hXs : X.heap.size = w.heap.size + 1 := by rw [← hX]; simp
  have hr1 := heap_alloc_last w (.cells #[.bool true, .slice a1 V.now.length a2, .slice b1 V.base.length b2, .int .i64 (V.undo : Int), .int .i64 (V.redo : Int), .slice s1 V.steps.length s2] 66)
  rw [hX] at hr1
  have hr1Y := (hbXY.block w.heap.size (by omega)).trans hr1
  have hr2Y := heap_alloc_last X (.cells #[.bool true, .slice c1 V.now.length c2, .slice d1 V.base.length d2, .int .i64 (V.undo : Int), .int .i64 (V.redo : Int), .slice t1 V.steps.length t2] 66)
  rw [hY, hXs] at hr2Y
  have hS1 : w.heap.size < Y.heap.size := (Array.getElem?_eq_some_iff.1 hr1Y).1
  have hS2 : w.heap.size + 1 < Y.heap.size := (Array.getElem?_eq_some_iff.1 hr2Y).1
  have p0 := cell_of_row _ _ 0 _ _ _ hr1Y
  have p1 := cell_of_row _ _ 1 _ _ _ hr1Y
  have p2 := cell_of_row _ _ 2 _ _ _ hr1Y
  have p3 := cell_of_row _ _ 3 _ _ _ hr1Y
  have p4 := cell_of_row _ _ 4 _ _ _ hr1Y
  have p5 := cell_of_row _ _ 5 _ _ _ hr1Y
  have q0 := cell_of_row _ _ 0 _ _ _ hr2Y
  have q1 := cell_of_row _ _ 1 _ _ _ hr2Y
  have q2 := cell_of_row _ _ 2 _ _ _ hr2Y
  have q3 := cell_of_row _ _ 3 _ _ _ hr2Y
  have q4 := cell_of_row _ _ 4 _ _ _ hr2Y
  have q5 := cell_of_row _ _ 5 _ _ _ hr2Y
  simp at p0 p1 p2 p3 p4 p5 q0 q1 q2 q3 q4 q5
  go_enter Tryz.func27, Tryz.ntmps27
  go_wp2_with (go_at_call 56; fail)
  refine (hN Y hbY).mono ?_
  rintro e w5 ⟨rfl, hb5⟩
  have p2' := (hb5.cell (p := ⟨w.heap.size, 2, none⟩) hS1).trans p2
  have q2' := (hb5.cell (p := ⟨w.heap.size + 1, 2, none⟩) hS2).trans q2
  have hB5 := below_step hbY hb5
  go_wp2_with (go_at_call 56; fail)
  refine (hBs w5 hB5).mono ?_
  rintro e w6 ⟨rfl, hb6⟩
  have hY6 := below_step hb5 hb6
  clear p0 p1 p2 p3 p4 q0 q1 q2 q3 q4 p2' q2' hN hBs hX hY hr1 hr1Y hr2Y
  go_wp2
  go_loopw [5] (fun i wr => ∃ j : Nat, j ≤ V.steps.length ∧ i = .int .i64 j ∧ Below Y.heap.size Y wr) (fun i _ => V.steps.length - (intOf i).toNat)
  case atStart => exact ⟨0, by omega, rfl, hY6⟩
  case round =>
    obtain ⟨j, hj, rfl, hB⟩ := hrel
    have p5' := (hB.cell (p := ⟨w.heap.size, 5, none⟩) hS1).trans p5
    have q5' := (hB.cell (p := ⟨w.heap.size + 1, 5, none⟩) hS2).trans q5
    have hBw := below_step hbY hB
    by_cases hlt : j < V.steps.length
    · have hlt' : (j : Int) < V.steps.length := by omega
      have hj0 : (0 : Int) ≤ (j : Int) := by omega
      have hne : V.steps ≠ [] := fun e => by rw [e] at hlt; simp at hlt
      obtain ⟨⟨-, hs1⟩, ⟨-, hs2⟩⟩ := hSt wr hBw
      obtain ⟨g1, cp1, cs1, f1, hh1, hc1⟩ := hs1 hne
      obtain ⟨g2, cp2, cs2, f2, hh2, hc2⟩ := hs2 hne
      simp at f1 f2
      obtain ⟨rfl, rfl⟩ := f1
      obtain ⟨rfl, rfl⟩ := f2
      obtain ⟨u1, y1, z1⟩ := hc1 j hlt
      obtain ⟨u2, y2, z2⟩ := hc2 j hlt
      have hg1 : g1 < wr.heap.size := (Array.getElem?_eq_some_iff.1 hh1).1
      have hg2 : g2 < wr.heap.size := (Array.getElem?_eq_some_iff.1 hh2).1
      have hlen := hV4 _ (List.getElem_mem hlt)
      generalize V.steps[j] = L at *
      obtain ⟨m1, n1, rfl⟩ := z1.1.len
      obtain ⟨m2, n2, rfl⟩ := z2.1.len
      have B0 : Below wr.heap.size wr wr.drew := (Below.refl _ _).drew
      have hSS : ∀ Z, Below wr.heap.size wr Z → Z.cell? ⟨w.heap.size, 5, none⟩ = some (.slice (some ⟨g1, 0, none⟩) V.steps.length s2) ∧ Z.cell? ⟨w.heap.size + 1, 5, none⟩ = some (.slice (some ⟨g2, 0, none⟩) V.steps.length t2) ∧ Z.cell? ⟨g1, j, none⟩ = some (.slice m1 L.length n1) ∧ Z.cell? ⟨g2, j, none⟩ = some (.slice m2 L.length n2) := fun Z hZ => ⟨(hZ.cell (p := ⟨w.heap.size, 5, none⟩) (Nat.lt_of_lt_of_le hS1 hB.size)).trans p5', (hZ.cell (p := ⟨w.heap.size + 1, 5, none⟩) (Nat.lt_of_lt_of_le hS2 hB.size)).trans q5', (hZ.cell (p := ⟨g1, j, none⟩) hg1).trans y1, (hZ.cell (p := ⟨g2, j, none⟩) hg2).trans y2⟩
      have hS1' := hSS _ B0
      have hse := same_ents _ _ L hlen wr.drew (z1.later B0).1 (z2.later B0).1
      clear hc1 hc2 hs1 hs2 hSt y1 y2 z1 z2 hV4
      go_wp2
      go_region_held3 (fun Z => Z.cell? ⟨w.heap.size, 5, none⟩ = some (.slice (some ⟨g1, 0, none⟩) V.steps.length s2) ∧ Z.cell? ⟨w.heap.size + 1, 5, none⟩ = some (.slice (some ⟨g2, 0, none⟩) V.steps.length t2) ∧ Z.cell? ⟨g1, j, none⟩ = some (.slice m1 L.length n1) ∧ Z.cell? ⟨g2, j, none⟩ = some (.slice m2 L.length n2)) (with_reducible assumption)
        (first | (go_at_call 56; refine hse.mono ?_; rintro e u5 ⟨rfl, hc5⟩; have hS5 := hSS _ (below_step B0 hc5)))
      have hB5' := below_step (below_step hB B0) hc5
      go_wp2
      go_roundw
      case rel => exact ⟨j + 1, by omega, by go_num, hB5'⟩
      case measure => simp [intOf]; omega
    · have hlt' : ¬ (j : Int) < V.steps.length := by omega
      go_wp2
      go_ret
      exact ⟨rfl, hBw⟩

end Go.Proofs.YtblfdjdhikfjhaaGreat

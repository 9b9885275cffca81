import Derived.Test.YthmjkmdbggfiiaaGreatDoorKcG
/- Lists that are being written full, laid on, kept: the states. -/
namespace Go.Proofs.YthmjkmdbggfiiaaGreatDoor.KB
open Go.RowKit
set_option linter.constructorNameAsVariable false

/-- A round of marks: j of Q have been looked at. -/
structure Rd (K : Kn) (k lo bb : Nat) (W : World) (turn deep : Int) (seen : Nat → Int) (Zo : Nat → Prop) (F : List (Value × Nat × List Value)) (f0 : Nat → Nat → Value) (r0 : Nat → Row) (n : Nat) (Q : List Wt) (j : Nat) (X : World) (Z : Nat → Prop) (r : Nat → Row) (fz : List (Value × Nat × List Value)) (f : Nat → Nat → Value) (O : List Ot) (Q' : List Wt) (A : List Fr) : Prop where
  t : TkL K k X lo bb Z r fz turn deep f seen (xsOf O Q' A)
  c : Cnd K r fz O Q' A (Q.drop j)
  zo : ∀ b, Zo b → Z b
  hp : ∀ b, Zo b → X.heap[b]? = W.heap[b]?
  lo : Below lo W X
  ol : O.length = n + A.length
  ql : Q'.length + A.length = j
  ff : ∀ y ∈ F, y ∈ fz
  fx : Fx k f0 f
  rr : ∀ i, Out k i → (∀ q ∈ Q, q.i ≠ i) → r i = r0 i
  ix : ∀ i, Ix Q' A i → ∃ q ∈ Q, q.i = i
  fin : Fin r
def MkE (K : Kn) (k lo bb : Nat) (W : World) (turn deep : Int) (seen : Nat → Int) (Zo : Nat → Prop) (F : List (Value × Nat × List Value)) (f0 : Nat → Nat → Value) (r0 : Nat → Row) (n : Nat) (Q : List Wt) (j : Nat) (X : World) : Prop :=
  ∃ Z r fz f O Q' A, Rd K k lo bb W turn deep seen Zo F f0 r0 n Q j X Z r fz f O Q' A
section
variable {K : Kn} {k lo bb : Nat} {W X Y : World} {turn deep : Int} {seen : Nat → Int} {Zo Z Z2 : Nat → Prop} {F fz : List (Value × Nat × List Value)} {f0 f : Nat → Nat → Value} {r0 r r6 : Nat → Row} {n j : Nat} {Q Q' : List Wt} {O : List Ot} {A : List Fr} {q : Wt} {xs : Nat → List Value}
theorem MkE.start (hL : TkL K k W lo bb Z r fz turn deep f seen (xsOf O Q [])) (hC : Cnd K r fz O Q [] []) (hfin : Fin r) (hlo : lo ≤ W.heap.size) (hZo : ∀ b, Zo b → ∃ j, (j = 2 ∨ j = 3 ∨ j = 5 ∨ j = 6) ∧ (f k j).ownBlock = some b) :
    MkE K k lo bb W turn deep seen Zo fz f r O.length Q 0 ((((W.setCell ⟨bb, 4 + 9 * k + 2, none⟩ (.slice none 0 0)).setCell ⟨bb, 4 + 9 * k + 3, none⟩ (.slice none 0 0)).setCell ⟨bb, 4 + 9 * k + 5, none⟩ (.slice none 0 0)).setCell ⟨bb, 4 + 9 * k + 6, none⟩ (.slice none 0 0)) := by
  have hT := (((hL.clear (j := 2) (by decide) rfl).clear (j := 3) (by decide) rfl).clear (j := 5) (by decide) rfl).clear (j := 6) (by decide) rfl
  rw [xs_cleared] at hT
  have hk := hL.kk
  have hnb : ∀ b, Zo b → b ≠ bb := fun b hb e => by
    obtain ⟨i, hi, hf⟩ := hZo b hb
    have hi8 : i < 8 := by omega
    exact (hL.sep.rz (8 * k + i) b (by rw [hL.sp i hi8]; exact hf)).2 e
  have hro : ∀ i, Out k i → updR (updR (updR (updR r (8 * k + 2) ⟨spT K 2, 1, .slice none 0 0, 0, []⟩) (8 * k + 3) ⟨spT K 3, 1, .slice none 0 0, 0, []⟩) (8 * k + 5) ⟨spT K 5, 1, .slice none 0 0, 0, []⟩) (8 * k + 6) ⟨spT K 6, 1, .slice none 0 0, 0, []⟩ i = r i := fun i hi => by
    have h2 : i ≠ 8 * k + 2 := fun e => hi (by omega)
    have h3 : i ≠ 8 * k + 3 := fun e => hi (by omega)
    have h5 : i ≠ 8 * k + 5 := fun e => hi (by omega)
    have h6 : i ≠ 8 * k + 6 := fun e => hi (by omega)
    rw [updR_ne _ _ h6, updR_ne _ _ h5, updR_ne _ _ h3, updR_ne _ _ h2]
  refine ⟨_, _, fz, _, O, [], [], hT, ?_, fun b hb => ?_, fun b hb => ?_, ?_, rfl, rfl, fun y hy => hy, (((Fx.refl k f).upd _).upd _ |>.upd _).upd _, fun i hi _ => hro i hi, fun i hi => ?_, hfin.mono hro⟩
  · rw [List.drop_zero]
    exact hC.turn.rows (fun i hi _ => hro i (out_big hk hi)) (fun y hy => hy)
  · obtain ⟨i, hi, hf⟩ := hZo b hb
    rcases hi with rfl | rfl | rfl | rfl
    · exact .inl (.inl (.inl (.inr hf)))
    · exact .inl (.inl (.inr (by rw [show upd f k 2 (.slice none 0 0) k 3 = f k 3 from if_neg (by omega)]; exact hf)))
    · exact .inl (.inr (by rw [show upd (upd f k 2 (.slice none 0 0)) k 3 (.slice none 0 0) k 5 = f k 5 from (if_neg (by omega)).trans (if_neg (by omega))]; exact hf))
    · exact .inr (by rw [show upd (upd (upd f k 2 (.slice none 0 0)) k 3 (.slice none 0 0)) k 5 (.slice none 0 0) k 6 = f k 6 from (if_neg (by omega)).trans ((if_neg (by omega)).trans (if_neg (by omega)))]; exact hf)
  · have hne := hnb b hb
    rw [heap_setCell_other _ ⟨bb, 4 + 9 * k + 6, none⟩ b _ hne, heap_setCell_other _ ⟨bb, 4 + 9 * k + 5, none⟩ b _ hne, heap_setCell_other _ ⟨bb, 4 + 9 * k + 3, none⟩ b _ hne, heap_setCell_other _ ⟨bb, 4 + 9 * k + 2, none⟩ b _ hne]
  · exact ((((grS_set W bb _ _).trans (grS_set _ bb _ _)).trans (grS_set _ bb _ _)).trans (grS_set _ bb _ _)).below hlo (fun b e => e ▸ hL.sep.bl.1)
  · rcases hi with ⟨q, hq, -⟩ | ⟨a, ha, -⟩
    · cases hq
    · cases ha
theorem MkE.none (hL : TkL K k W lo bb Z r fz turn deep f seen (xsOf O [] [])) (hC : Cnd K r fz O [] [] []) (hfin : Fin r) : MkE K k lo bb W turn deep seen (fun _ => False) fz f r O.length [] 0 W :=
  ⟨Z, r, fz, f, O, [], [], hL, hC, fun _ h => h.elim, fun _ h => h.elim, Below.refl _ _, rfl, rfl, fun y hy => hy, Fx.refl _ _, fun _ _ _ => rfl, (fun i hi => by
    rcases hi with ⟨q, hq, -⟩ | ⟨a, ha, -⟩
    · exact absurd hq (by simp)
    · exact absurd ha (by simp)), hfin⟩
theorem Rd.kept (h : Rd K k lo bb W turn deep seen Zo F f0 r0 n Q j X Z r fz f O Q' A) (hd : Q.drop j = q :: Q.drop (j + 1)) (hq : q ∈ Q) (hxs : xsOf O Q' A = xs) (hP : PS K k lo bb W turn deep seen f0 Zo Z fz r (updX (updX (updX (updX xs 2 (xs 2 ++ [q.v])) 3 (xs 3 ++ [q.c])) 5 (xs 5 ++ [.int .i64 q.m])) 6 (xs 6 ++ [.int .i64 q.d])) Y) : MkE K k lo bb W turn deep seen Zo F f0 r0 n Q (j + 1) Y := by
  obtain ⟨r9, f9, hT9, hr9, hx9, hb9, hh9⟩ := hP
  have hx := xs_kept O Q' A q
  rw [hxs] at hx
  have hc := h.c
  rw [hd] at hc
  refine ⟨Z, r9, fz, f9, O, Q' ++ [q], A, by rw [← hx]; exact hT9, hc.keep h.t.kk hr9, h.zo, hh9, hb9, h.ol, ?_, h.ff, hx9, fun i hi hq => (hr9 i hi).trans (h.rr i hi hq), fun i hi => ?_, h.fin.mono hr9⟩
  · have := h.ql
    simp
    omega
  · rcases hi with ⟨x, hx, rfl⟩ | ha
    · rcases List.mem_append.1 hx with hx | hx
      · exact h.ix _ (.inl ⟨x, hx, rfl⟩)
      · rw [List.mem_singleton.1 hx]
        exact ⟨q, hq, rfl⟩
    · exact h.ix i (.inr ha)
theorem Rd.marked (h : Rd K k lo bb W turn deep seen Zo F f0 r0 n Q j X Z r fz f O Q' A) (hd : Q.drop j = q :: Q.drop (j + 1)) (hq : q ∈ Q) (hxs : xsOf O Q' A = xs) {t : Value} {L : List Value} (hZ2 : ∀ b, Zo b → Z2 b) (h6i : r6 q.i = ⟨K.e, K.z, q.v, q.n, L⟩) (h6r : ∀ i, Out k i → i ≠ q.i → r6 i = r i) (hgd : K.good q.n L)
    (hP : PS K k lo bb W turn deep seen f0 Zo Z2 ((t, q.n, L) :: fz) r6 (updX (updX (updX (updX xs 0 (xs 0 ++ [q.v])) 1 (xs 1 ++ [t])) 4 (xs 4 ++ [q.v])) 7 (xs 7 ++ [.int .i64 q.m])) Y) : MkE K k lo bb W turn deep seen Zo F f0 r0 n Q (j + 1) Y := by
  obtain ⟨r9, f9, hT9, hr9, hx9, hb9, hh9⟩ := hP
  have hx := xs_marked O Q' A ⟨q.v, t, q.n, L⟩ ⟨q.i, q.v, q.n, L, q.m⟩ rfl
  rw [hxs] at hx
  simp only at hx
  have hc := h.c
  rw [hd] at hc
  have hk := h.t.kk
  have hq8 := (hc.cP q (List.mem_cons_self ..)).1
  have hr96 : ∀ i, Out k i → i ≠ q.i → r9 i = r i := fun i hi hn => (hr9 i hi).trans (h6r i hi hn)
  refine ⟨Z2, r9, (t, q.n, L) :: fz, f9, O ++ [⟨q.v, t, q.n, L⟩], Q', A ++ [⟨q.i, q.v, q.n, L, q.m⟩], ⟨hT9.kk, hT9.bk, hT9.sep, fun i hi => ?_⟩, hc.mark hk hgd ((hr9 _ (out_big hk hq8)).trans h6i) hr96 (fun y hy => List.mem_cons_of_mem _ hy) (List.mem_cons_self ..), hZ2, hh9, hb9, ?_, ?_, fun y hy => List.mem_cons_of_mem _ (h.ff y hy), hx9, fun i hi hnq => (hr96 i hi (hnq q hq).symm).trans (h.rr i hi hnq), fun i hi => ?_, h.fin.mono1 hr96⟩
  · have e1 := congrFun hx i
    simp only [if_pos (show i ≤ 7 by omega)] at e1
    have e2 := hT9.sp i hi
    rw [e1] at e2
    exact e2
  · have := h.ol
    simp
    omega
  · have := h.ql
    simp
    omega
  · rcases hi with hx | ⟨x, hx, rfl⟩
    · exact h.ix i (.inl hx)
    · rcases List.mem_append.1 hx with hx | hx
      · exact h.ix _ (.inr ⟨x, hx, rfl⟩)
      · rw [List.mem_singleton.1 hx]
        exact ⟨q, hq, rfl⟩
/-- Lists that are laid on: j of A have been. -/
structure Gd (K : Kn) (k lo bb : Nat) (W : World) (turn deep : Int) (seen : Nat → Int) (F : List (Value × Nat × List Value)) (f0 : Nat → Nat → Value) (r0 : Nat → Row) (n : Nat) (Q : List Wt) (A : List Fr) (j : Nat) (X : World) (Z : Nat → Prop) (r : Nat → Row) (fz : List (Value × Nat × List Value)) (f : Nat → Nat → Value) (O : List Ot) : Prop where
  t : TkL K k X lo bb Z r fz turn deep f seen (xsOf O Q A)
  c : Cnd K r fz O Q (A.drop j) []
  lo : Below lo W X
  ol : O.length = n + j
  ff : ∀ y ∈ F, y ∈ fz
  fx : Fx k f0 f
  rr : ∀ i, Out k i → (∀ a ∈ A, a.i ≠ i) → r i = r0 i
  fin : Fin r
def GwE (K : Kn) (k lo bb : Nat) (W : World) (turn deep : Int) (seen : Nat → Int) (F : List (Value × Nat × List Value)) (f0 : Nat → Nat → Value) (r0 : Nat → Row) (n : Nat) (Q : List Wt) (A : List Fr) (j : Nat) (X : World) : Prop :=
  ∃ Z r fz f O, Gd K k lo bb W turn deep seen F f0 r0 n Q A j X Z r fz f O
theorem GwE.start (hL : TkL K k W lo bb Z r fz turn deep f seen (xsOf O Q A)) (hC : Cnd K r fz O Q A []) (hfin : Fin r) : GwE K k lo bb W turn deep seen fz f r O.length Q A 0 W :=
  ⟨Z, r, fz, f, O, hL, by rw [List.drop_zero]; exact hC, Below.refl _ _, rfl, fun y hy => hy, Fx.refl _ _, fun _ _ _ => rfl, hfin⟩
/-- One list's laying on: g shows L and M. -/
structure La (K : Kn) (k lo bb : Nat) (W : World) (turn deep : Int) (seen : Nat → Int) (f0 : Nat → Nat → Value) (Z0 : Nat → Prop) (r0 : Nat → Row) (fz0 : List (Value × Nat × List Value)) (a : Fr) (j : Nat) (g : Value) (X : World) (xs : Nat → List Value) (Z : Nat → Prop) (r : Nat → Row) (fz : List (Value × Nat × List Value)) (f : Nat → Nat → Value) (M : List Value) : Prop where
  l : Lay K X lo bb Z r fz a.i a.v a.n a.L g j M
  t : TkL K k X lo bb Z r fz turn deep f seen xs
  zz : ∀ z, Z0 z → Z z
  ff : ∀ y ∈ fz0, y ∈ fz
  fx : Fx k f0 f
  rr : ∀ i, i ≠ a.i → r i = r0 i
  lo : Below lo W X
  gd : K.good (a.n + j) (a.L ++ M)
def LaE (K : Kn) (k lo bb : Nat) (W : World) (turn deep : Int) (seen : Nat → Int) (f0 : Nat → Nat → Value) (Z0 : Nat → Prop) (r0 : Nat → Row) (fz0 : List (Value × Nat × List Value)) (a : Fr) (xs : Nat → List Value) (j : Nat) (g : Value) (X : World) : Prop :=
  ∃ Z r fz f M, La K k lo bb W turn deep seen f0 Z0 r0 fz0 a j g X xs Z r fz f M
theorem LaE.own {a : Fr} {g : Value} (h : LaE K k lo bb W turn deep seen f0 Z r fz a xs j g X) : ∃ xs', X.ownsRow lo K.e K.z g (a.n + j) xs' := by
  obtain ⟨Z', r', fz', f', M, hl⟩ := h
  have := hl.l.sep.own a.i
  rw [hl.l.row] at this
  exact ⟨_, this⟩
/-- One thing more behind it. (D: the world with what is handed to append.) -/
theorem La.one {D : World} {a : Fr} {g : Value} {Z' : Nat → Prop} {r' : Nat → Row} {fz' : List (Value × Nat × List Value)} {f' : Nat → Nat → Value} {M : List Value} (h : La K k lo bb W turn deep seen f0 Z r fz a j g X xs Z' r' fz' f' M) (hlo : lo ≤ W.heap.size) (h8 : 192 ≤ a.i) (hD : Below X.heap.size X D) {x : List Value} {g' : Value} (ho : Y.ownsRow lo K.e K.z g' (a.n + j + 1) ((a.L ++ M) ++ x)) (hg : D.grownBy Y g.ownBlock) (hat : g'.ownBlock = g.ownBlock ∨ g'.ownBlock = some D.heap.size) (hkp : ∀ b i u, g.ownBlock = some b → (a.L ++ M)[i]? = some u → Y.cell? ⟨b, i, none⟩ = some u) (hgd : K.good (a.n + j + 1) ((a.L ++ M) ++ x)) : LaE K k lo bb W turn deep seen f0 Z r fz a xs (j + 1) g' Y := by
  have hlx : lo ≤ X.heap.size := Nat.le_trans hlo h.lo.size
  obtain ⟨Z9, fz9, hL9, hZ9, hf9⟩ := (h.l.later hD).one ho hg hat hkp
  have hri : (r' a.i).v = g := by rw [h.l.row]
  have hG : GrS (fun q => g.ownBlock = some q) D Y := .of_grown hg (fun q e => e)
  have hnb : ¬ g.ownBlock = some bb := fun e => (h.l.sep.rz a.i bb (by rw [hri]; exact e)).2 rfl
  have hk := h.t.kk
  refine ⟨Z9, _, fz9, f', M ++ x, hL9, ⟨hk, BkAt.grS (h.t.bk.later hD) hG hnb, hL9.sep, fun i hi => (updR_ne _ _ (by omega)).trans (h.t.sp i hi)⟩, fun z hz => hZ9 z (h.zz z hz), fun y hy => hf9 _ (h.ff _ hy), h.fx, fun i hi => (updR_ne _ _ hi).trans (h.rr i hi), ?_, ?_⟩
  · exact (h.lo.trans (hD.mono hlx)).trans (hG.below (Nat.le_trans hlx hD.size) (fun q e => (own_rowT (h.l.sep.own a.i) (by rw [hri]; exact e)).1))
  · rw [← List.append_assoc]
    exact hgd
/-- It is laid on: its row is let go. -/
theorem La.done {a : Fr} {g : Value} {Z' : Nat → Prop} {r' : Nat → Row} {fz' : List (Value × Nat × List Value)} {f' : Nat → Nat → Value} {M : List Value} (h : La K k lo bb W turn deep seen f0 Z r fz a j g X xs Z' r' fz' f' M) (h8 : 192 ≤ a.i) : ∃ Z9, PS K k lo bb W turn deep seen f0 (fun _ => False) Z9 ((g, a.n + j, a.L ++ M) :: (a.v, a.n, a.L) :: fz') (updR r a.i nilRow) xs X := by
  obtain ⟨Z9, -, hS⟩ := h.l.done
  have hk := h.t.kk
  refine ⟨Z9, updR r' a.i nilRow, f', ⟨hk, h.t.bk, hS, fun i hi => (updR_ne _ _ (by omega)).trans (h.t.sp i hi)⟩, fun i hi => ?_, h.fx, h.lo, fun _ e => e.elim⟩
  by_cases e : i = a.i
  · subst e
    rw [updR_same, updR_same]
  · rw [updR_ne _ _ e, updR_ne _ _ e]
    exact h.rr i e
theorem Gd.la {a : Fr} (h : Gd K k lo bb W turn deep seen F f0 r0 n Q A j X Z r fz f O) (hd : A.drop j = a :: A.drop (j + 1)) : LaE K k lo bb W turn deep seen f0 Z r fz a (xsOf O Q A) 0 a.v X := by
  have hc := h.c
  rw [hd] at hc
  have ha := hc.cA a (List.mem_cons_self ..)
  have ho := h.t.sep.own a.i
  rw [ha.2] at ho
  refine ⟨Z, r, fz, f, [], ⟨h.t.sep, by rw [ha.2, List.append_nil]; rfl, (RwZ.of_own ho).more (fun b hb => .inr hb)⟩, h.t, fun z hz => hz, fun y hy => hy, h.fx, fun i _ => rfl, h.lo, ?_⟩
  rw [List.append_nil]
  exact (hc.lA a (List.mem_cons_self ..)).2
theorem Gd.next {a : Fr} {g t : Value} {m : Nat} {M : List Value} {fz2 : List (Value × Nat × List Value)} (h : Gd K k lo bb W turn deep seen F f0 r0 n Q A j X Z r fz f O) (hd : A.drop j = a :: A.drop (j + 1)) (ha : a ∈ A) (hxs : xsOf O Q A = xs) (hf2 : ∀ y ∈ fz, y ∈ fz2) (h1 : (a.v, a.n, a.L) ∈ fz2) (h2 : (g, m, M) ∈ fz2) (h3 : (t, m, M) ∈ fz2) (hm : m ≤ 100000) (hM : K.good m M)
    (hP : PS K k lo bb W turn deep seen f0 (fun _ => False) Z2 fz2 (updR r a.i nilRow) (updX (updX xs 0 (xs 0 ++ [g])) 1 (xs 1 ++ [t])) Y) : GwE K k lo bb W turn deep seen F f0 r0 n Q A (j + 1) Y := by
  obtain ⟨r9, f9, hT9, hr9, hx9, hb9, -⟩ := hP
  have hk := h.t.kk
  have hc := h.c
  rw [hd] at hc
  have hx := xs_laid O Q A ⟨g, t, m, M⟩
  rw [hxs] at hx
  simp only at hx
  rw [hx] at hT9
  have hr : ∀ i, Out k i → i ≠ a.i → r9 i = r i := fun i hi hn => (hr9 i hi).trans (updR_ne _ _ hn)
  refine ⟨Z2, r9, fz2, f9, O ++ [⟨g, t, m, M⟩], hT9, hc.laid hk hr hf2 h1 h2 h3 hm hM, hb9, ?_, fun y hy => hf2 y (h.ff y hy), hx9, fun i hi hn => (hr i hi (hn a ha).symm).trans (h.rr i hi hn), h.fin.mono1 hr⟩
  have := h.ol
  simp
  omega
/-- All are laid on: the fresh lists are emptied. -/
def GwD (K : Kn) (k lo bb : Nat) (W : World) (turn deep : Int) (seen : Nat → Int) (F : List (Value × Nat × List Value)) (f0 : Nat → Nat → Value) (r0 : Nat → Row) (n : Nat) (Q : List Wt) (A : List Fr) (X : World) : Prop :=
  ∃ Z r fz f O, TkL K k X lo bb Z r fz turn deep f seen (xsOf O Q []) ∧ Cnd K r fz O Q [] [] ∧ Below lo W X ∧ O.length = n + A.length ∧ (∀ y ∈ F, y ∈ fz) ∧ Fx k f0 f ∧ (∀ i, Out k i → (∀ a ∈ A, a.i ≠ i) → r i = r0 i) ∧ Fin r
theorem Gd.done (h : Gd K k lo bb W turn deep seen F f0 r0 n Q A A.length X Z r fz f O) (hlo : lo ≤ W.heap.size) : GwD K k lo bb W turn deep seen F f0 r0 n Q A ((X.setCell ⟨bb, 4 + 9 * k + 4, none⟩ (.slice none 0 0)).setCell ⟨bb, 4 + 9 * k + 7, none⟩ (.slice none 0 0)) := by
  have hT := (h.t.clear (j := 4) (by decide) rfl).clear (j := 7) (by decide) rfl
  rw [xs_fresh] at hT
  have hk := h.t.kk
  have hc := h.c
  rw [List.drop_length] at hc
  have hro : ∀ i, Out k i → updR (updR r (8 * k + 4) ⟨spT K 4, 1, .slice none 0 0, 0, []⟩) (8 * k + 7) ⟨spT K 7, 1, .slice none 0 0, 0, []⟩ i = r i := fun i hi => by
    have h4 : i ≠ 8 * k + 4 := fun e => hi (by omega)
    have h7 : i ≠ 8 * k + 7 := fun e => hi (by omega)
    rw [updR_ne _ _ h7, updR_ne _ _ h4]
  refine ⟨_, _, fz, _, O, ⟨hk, hT.bk, hT.sep, fun i hi => ?_⟩, hc.rows (fun i hi _ => hro i (out_big hk hi)) (fun y hy => hy), ?_, h.ol, h.ff, (h.fx.upd _).upd _, fun i hi hn => (hro i hi).trans (h.rr i hi hn), h.fin.mono hro⟩
  · have e2 := hT.sp i hi
    simp only [if_pos (show i ≤ 7 by omega)] at e2
    exact e2
  · exact h.lo.trans (((grS_set X bb _ _).trans (grS_set _ bb _ _)).below (Nat.le_trans hlo h.lo.size) (fun b e => e ▸ h.t.sep.bl.1))
end
end Go.Proofs.YthmjkmdbggfiiaaGreatDoor.KB

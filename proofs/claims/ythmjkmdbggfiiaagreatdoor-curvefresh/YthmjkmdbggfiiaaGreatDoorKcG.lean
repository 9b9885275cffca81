import Derived.Test.YthmjkmdbggfiiaaGreatDoorKcF
/- A book of several kinds. -/
namespace Go.Proofs.YthmjkmdbggfiiaaGreatDoor.KB
open Go.RowKit
set_option linter.constructorNameAsVariable false

/-- A row's number that belongs to one of a kind's lists. -/
def Ix (Q : List Wt) (A : List Fr) (i : Nat) : Prop := (∃ q ∈ Q, q.i = i) ∨ ∃ a ∈ A, a.i = i
def updN {α : Type} (f : Nat → α) (k : Nat) (x : α) : Nat → α := fun j => if j = k then x else f j
theorem updN_same {α : Type} (f : Nat → α) (k : Nat) (x : α) : updN f k x k = x := if_pos rfl
theorem updN_ne {α : Type} (f : Nat → α) {k j : Nat} (x : α) (h : j ≠ k) : updN f k x j = f j := if_neg h
/-- The book: N tells the kinds, U those of which there may be something. -/
structure KS (N : Nat → Kn) (U : Nat → Prop) (W : World) (lo bb : Nat) (Z : Nat → Prop) (r : Nat → Row) (fz : List (Value × Nat × List Value)) (turn deep : Int) (f : Nat → Nat → Value) (seen : Nat → Int) (O : Nat → List Ot) (Q : Nat → List Wt) (A : Nat → List Fr) : Prop where
  bk : BkAt W bb turn deep f seen
  nil : ∀ k, ¬ U k → Nil f k
  uk : ∀ k, U k → k < 24
  sep : Sep W lo bb Z r fz
  sp : ∀ k, U k → ∀ j, j < 8 → r (8 * k + j) = ⟨spT (N k) j, 1, f k j, (xsOf (O k) (Q k) (A k) j).length, xsOf (O k) (Q k) (A k) j⟩
  c : ∀ k, U k → Cnd (N k) r fz (O k) (Q k) (A k) []
  x : ∀ k k', U k → U k' → k ≠ k' → ∀ i, Ix (Q k) (A k) i → ¬ Ix (Q k') (A k') i
  fin : Fin r
section
variable {N : Nat → Kn} {U : Nat → Prop} {W X : World} {lo bb : Nat} {Z : Nat → Prop} {r : Nat → Row} {fz : List (Value × Nat × List Value)} {turn deep : Int} {f : Nat → Nat → Value} {seen : Nat → Int} {O : Nat → List Ot} {Q : Nat → List Wt} {A : Nat → List Fr}
theorem KS.lists (h : KS N U W lo bb Z r fz turn deep f seen O Q A) {k : Nat} (hk : U k) : TkL (N k) k W lo bb Z r fz turn deep f seen (xsOf (O k) (Q k) (A k)) := ⟨h.uk k hk, h.bk, h.sep, h.sp k hk⟩
theorem KS.later (h : KS N U W lo bb Z r fz turn deep f seen O Q A) (hX : Below W.heap.size W X) : KS N U X lo bb Z r fz turn deep f seen O Q A :=
  { h with
    bk := h.bk.later hX
    sep := h.sep.later hX }
theorem Ix.big {k : Nat} (h : KS N U W lo bb Z r fz turn deep f seen O Q A) (hk : U k) {i : Nat} (hi : Ix (Q k) (A k) i) : 192 ≤ i ∧ ∃ v n L, r i = ⟨(N k).e, (N k).z, v, n, L⟩ := by
  rcases hi with ⟨q, hq, rfl⟩ | ⟨a, ha, rfl⟩
  · exact ⟨((h.c k hk).cQ q hq).1, _, _, _, ((h.c k hk).cQ q hq).2.1⟩
  · exact ⟨((h.c k hk).cA a ha).1, _, _, _, ((h.c k hk).cA a ha).2⟩
theorem Ix.row {k : Nat} (h : KS N U W lo bb Z r fz turn deep f seen O Q A) (hk : U k) {i : Nat} (hi : Ix (Q k) (A k) i) : r i ≠ nilRow := by
  obtain ⟨-, v, n, L, e⟩ := Ix.big h hk hi
  rw [e]
  intro e'
  have := congrArg Row.k e'
  simp only [nilRow] at this
  have := (N k).zp
  omega
/-- One kind turns; the others stay. -/
theorem KS.go1 (h : KS N U W lo bb Z r fz turn deep f seen O Q A) {k : Nat} (hk : U k) {I : Nat → Prop} {turn' deep' : Int} {Z' : Nat → Prop} {r' : Nat → Row} {fz' : List (Value × Nat × List Value)} {f' : Nat → Nat → Value} {seen' : Nat → Int} {O' : List Ot} {Q' : List Wt} {A' : List Fr}
    (hT : TkL (N k) k X lo bb Z' r' fz' turn' deep' f' seen' (xsOf O' Q' A')) (hc : Cnd (N k) r' fz' O' Q' A' []) (hf : Fx k f f') (hr : ∀ i, Out k i → ¬ Ix (Q k) (A k) i → ¬ I i → r' i = r i) (hz : ∀ y ∈ fz, y ∈ fz') (hI : ∀ i, I i → 192 ≤ i ∧ ∀ k', U k' → k' ≠ k → ¬ Ix (Q k') (A k') i) (hi : ∀ i, Ix Q' A' i → Ix (Q k) (A k) i ∨ I i) (hfin : Fin r') :
    KS N U X lo bb Z' r' fz' turn' deep' f' seen' (updN O k O') (updN Q k Q') (updN A k A') := by
  have hk24 := h.uk k hk
  refine ⟨hT.bk, fun k' hk' j => ?_, h.uk, hT.sep, fun k' hk' j hj => ?_, fun k' hk' => ?_, fun k1 k2 h1 h2 hne i hi1 hi2 => ?_, hfin⟩
  · by_cases e : k' = k
    · exact absurd (e ▸ hk) hk'
    · rw [hf k' e j]
      exact h.nil k' hk' j
  · by_cases e : k' = k
    · subst e
      rw [updN_same, updN_same, updN_same]
      exact hT.sp j hj
    · rw [updN_ne _ _ e, updN_ne _ _ e, updN_ne _ _ e, hf k' e j]
      have h24 := h.uk k' hk'
      refine (hr _ (fun e' => ?_) (fun e' => ?_) (fun e' => ?_)).trans (h.sp k' hk' j hj)
      · omega
      · have := (Ix.big h hk e').1
        omega
      · have := (hI _ e').1
        omega
  · by_cases e : k' = k
    · subst e
      rw [updN_same, updN_same, updN_same]
      exact hc
    · rw [updN_ne _ _ e, updN_ne _ _ e, updN_ne _ _ e]
      refine (h.c k' hk').rows (fun i hi8 hi3 => ?_) hz
      have hix : Ix (Q k') (A k') i := by
        rcases hi3 with h3 | h3 | ⟨q, hq, -⟩
        · exact .inl h3
        · exact .inr h3
        · cases hq
      exact hr i (out_big hk24 hi8) (h.x k' k hk' hk e i hix) (fun e' => (hI i e').2 k' hk' e hix)
  · by_cases e1 : k1 = k
    · subst e1
      rw [updN_same, updN_same] at hi1
      rw [updN_ne _ _ (fun e => hne e.symm), updN_ne _ _ (fun e => hne e.symm)] at hi2
      rcases hi i hi1 with h3 | h3
      · exact h.x _ _ h1 h2 hne i h3 hi2
      · exact (hI i h3).2 k2 h2 (fun e => hne e.symm) hi2
    · rw [updN_ne _ _ e1, updN_ne _ _ e1] at hi1
      by_cases e2 : k2 = k
      · subst e2
        rw [updN_same, updN_same] at hi2
        rcases hi i hi2 with h3 | h3
        · exact h.x _ _ h1 h2 hne i hi1 h3
        · exact (hI i h3).2 k1 h1 e1 hi1
      · rw [updN_ne _ _ e2, updN_ne _ _ e2] at hi2
        exact h.x _ _ h1 h2 hne i hi1 hi2
theorem KS.setDeep (h : KS N U W lo bb Z r fz turn deep f seen O Q A) (v : Int) : KS N U (W.setCell ⟨bb, 3, none⟩ (.int .i64 v)) lo bb Z r fz turn v f seen O Q A :=
  { h with
    bk := h.bk.setDeep v
    sep := h.sep.book 3 _ }
theorem KS.setTurn (h : KS N U W lo bb Z r fz turn deep f seen O Q A) (v : Int) : KS N U (W.setCell ⟨bb, 2, none⟩ (.int .i64 v)) lo bb Z r fz v deep f seen O Q A :=
  { h with
    bk := h.bk.setTurn v
    sep := h.sep.book 2 _ }
/-- A row that is not in the book's hands. -/
structure Rs (U : Nat → Prop) (r : Nat → Row) (Q : Nat → List Wt) (A : Nat → List Fr) (i : Nat) (x : Row) : Prop where
  big : 192 ≤ i
  row : r i = x
  pos : 0 < x.k
  no : ∀ k, U k → ¬ Ix (Q k) (A k) i
/-- What was handed out is set by: the book may be given it later. -/
theorem KS.reserve (h : KS N U W lo bb Z r fz turn deep f seen O Q A) (hlo : lo ≤ W.heap.size) (hX : Below W.heap.size W X) {e : TypeId} {z n : Nat} {v : Value} {L : List Value} (hz : 0 < z) (hv : X.ownsRow W.heap.size e z v n L) : ∃ i r', KS N U X lo bb Z r' fz turn deep f seen O Q A ∧ Rs U r' Q A i ⟨e, z, v, n, L⟩ ∧ r i = nilRow ∧ ∀ j, r j ≠ nilRow → r' j = r j := by
  obtain ⟨M, hM⟩ := h.fin
  have hnil : r (max M 192) = nilRow := hM _ (by omega)
  have hs := h.sep.add (max M 192) (by rw [hnil]; rfl) (x := ⟨e, z, v, n, L⟩) hX hv hlo
  have hne : ∀ k, U k → ∀ i, Ix (Q k) (A k) i → i ≠ max M 192 := fun k hk i hi e' => by
    subst e'
    exact Ix.row h hk hi hnil
  refine ⟨max M 192, _, ⟨h.bk.later hX, h.nil, h.uk, hs, fun k hk j hj => ?_, fun k hk => ?_, h.x, ⟨max M 192 + 1, fun i hi => (updR_ne _ _ (by omega)).trans (hM i (by omega))⟩⟩, ⟨by omega, updR_same _ _ _, hz, fun k hk hi => hne k hk _ hi rfl⟩, hnil, fun j hj => updR_ne _ _ (fun e' => hj (e' ▸ hnil))⟩
  · have := h.uk k hk
    rw [updR_ne _ _ (by omega)]
    exact h.sp k hk j hj
  · refine (h.c k hk).rows (fun i hi8 hi3 => updR_ne _ _ (hne k hk i ?_)) (fun y hy => hy)
    rcases hi3 with h3 | h3 | ⟨q, hq, -⟩
    · exact .inl h3
    · exact .inr h3
    · cases hq
/-- What was handed out and stands: it is kept in mind. -/
theorem KS.keep (h : KS N U W lo bb Z r fz turn deep f seen O Q A) (hlo : lo ≤ W.heap.size) (hX : Below W.heap.size W X) {e : TypeId} {z n : Nat} {v : Value} {L : List Value} (hv : X.ownsRow W.heap.size e z v n L) : ∃ Z', KS N U X lo bb Z' r ((v, n, L) :: fz) turn deep f seen O Q A := by
  obtain ⟨M, hM⟩ := h.fin
  have hnil : r (max M 192) = nilRow := hM _ (by omega)
  have h1 := h.sep.add (max M 192) (by rw [hnil]; rfl) (x := ⟨e, z, v, n, L⟩) hX hv hlo
  have h2 := h1.freeze (max M 192) [(v, n, L)] (fun x hx => by
    rw [List.mem_singleton.1 hx, updR_same]
    exact RwZ.of_own hv)
  have hrr : updR (updR r (max M 192) ⟨e, z, v, n, L⟩) (max M 192) nilRow = r := by
    funext k
    by_cases e : k = max M 192
    · subst e
      rw [updR_same, hnil]
    · rw [updR_ne _ _ e, updR_ne _ _ e]
  rw [hrr] at h2
  exact ⟨_, { h with
    bk := h.bk.later hX
    sep := h2
    c := fun k hk => (h.c k hk).rows (fun _ _ _ => rfl) (fun y hy => List.mem_cons_of_mem _ hy) }⟩
end
end Go.Proofs.YthmjkmdbggfiiaaGreatDoor.KB

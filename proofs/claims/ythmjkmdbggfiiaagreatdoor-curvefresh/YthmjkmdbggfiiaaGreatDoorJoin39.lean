import Derived.Test.YthmjkmdbggfiiaaGreatDoorKcH
import Derived.Test.YthmjkmdbggfiiaaGreatDoorKcV
/- A book on its way: all lists of all kinds. -/
namespace Go.Proofs.YthmjkmdbggfiiaaGreatDoor.KB
open Go.RowKit
set_option linter.constructorNameAsVariable false

/-- V: the kinds of which nothing is to be laid on; R: rows that are set by; c: how many lists there are. -/
def KM (N : Nat → Kn) (U : Nat → Prop) (lo bb : Nat) (W : World) (turn deep : Int) (seen : Nat → Int) (F : List (Value × Nat × List Value)) (R : Nat → Row → Prop) (c : Nat → Nat) (V : Nat → Prop) (X : World) : Prop :=
  ∃ Z r fz f O Q A, KS N U X lo bb Z r fz turn deep f seen O Q A ∧ Below lo W X ∧ (∀ y ∈ F, y ∈ fz) ∧ (∀ i x, R i x → Rs U r Q A i x) ∧ (∀ k, U k → (O k).length + 2 * (Q k).length + (A k).length = c k) ∧ ∀ k, U k → V k → A k = []
section
variable {N : Nat → Kn} {U : Nat → Prop} {lo bb : Nat} {W X Y : World} {turn deep : Int} {seen : Nat → Int} {F : List (Value × Nat × List Value)} {R : Nat → Row → Prop} {c : Nat → Nat} {V : Nat → Prop} {k : Nat}
theorem KM.bkn (h : KM N U lo bb W turn deep seen F R c V X) : ∃ f, BkAt X bb turn deep f seen ∧ ∀ k, ¬ U k → Nil f k := by
  obtain ⟨Z, r, fz, f, O, Q, A, hS, -⟩ := h
  exact ⟨f, hS.bk, hS.nil⟩
theorem KM.lox (h : KM N U lo bb W turn deep seen F R c V X) (hlo : lo ≤ W.heap.size) : lo ≤ X.heap.size := by
  obtain ⟨Z, r, fz, f, O, Q, A, -, hb, -⟩ := h
  exact Nat.le_trans hlo hb.size
theorem KM.later (h : KM N U lo bb W turn deep seen F R c V X) (hlo : lo ≤ W.heap.size) (hX : Below X.heap.size X Y) : KM N U lo bb W turn deep seen F R c V Y := by
  have hl := h.lox hlo
  obtain ⟨Z, r, fz, f, O, Q, A, hS, hb, rest⟩ := h
  exact ⟨Z, r, fz, f, O, Q, A, hS.later hX, hb.trans (hX.mono hl), rest⟩
theorem KM.mono (h : KM N U lo bb W turn deep seen F R c V X) {V' : Nat → Prop} (hV : ∀ k, V' k → V k) : KM N U lo bb W turn deep seen F R c V' X := by
  obtain ⟨Z, r, fz, f, O, Q, A, hS, hb, hf, hr, hc, hv⟩ := h
  exact ⟨Z, r, fz, f, O, Q, A, hS, hb, hf, hr, hc, fun k hk hk' => hv k hk (hV k hk')⟩
theorem rs_turn {r r' : Nat → Row} {Q : Nat → List Wt} {A : Nat → List Fr} {Q' : List Wt} {A' : List Fr} (hS : k < 24) (hU : U k) (hr : ∀ i, Out k i → ¬ Ix (Q k) (A k) i → r' i = r i) (hi : ∀ i, Ix Q' A' i → Ix (Q k) (A k) i) {i : Nat} {x : Row} (h : Rs U r Q A i x) : Rs U r' (updN Q k Q') (updN A k A') i x := by
  refine ⟨h.big, (hr i (out_big hS h.big) (h.no k hU)).trans h.row, h.pos, fun k' hk' hx => ?_⟩
  by_cases e : k' = k
  · subst e
    rw [updN_same, updN_same] at hx
    exact h.no _ hk' (hi i hx)
  · rw [updN_ne _ _ e, updN_ne _ _ e] at hx
    exact h.no k' hk' hx
theorem marked {Z : Nat → Prop} {r : Nat → Row} {fz : List (Value × Nat × List Value)} {f : Nat → Nat → Value} {O : Nat → List Ot} {Q : Nat → List Wt} {A : Nat → List Fr} (hS : KS N U X lo bb Z r fz turn deep f seen O Q A) (hU : U k) (hb : Below lo W X) (hF : ∀ y ∈ F, y ∈ fz) (hR : ∀ i x, R i x → Rs U r Q A i x) (hc : ∀ k, U k → (O k).length + 2 * (Q k).length + (A k).length = c k) (hv : ∀ k, U k → V k → A k = []) (hA : A k = []) {Zo : Nat → Prop}
    (h : MkE (N k) k lo bb X turn deep seen Zo fz f r (O k).length (Q k) (Q k).length Y) : KM N U lo bb W turn deep seen F R c (fun j => V j ∧ j ≠ k) Y := by
  obtain ⟨Z', r', fz', f', O', Q', A', hRd⟩ := h
  have hcd := hRd.c
  rw [List.drop_length] at hcd
  have hrr : ∀ i, Out k i → ¬ Ix (Q k) (A k) i → r' i = r i := fun i ho hx => hRd.rr i ho (fun q hq e => hx (.inl ⟨q, hq, e⟩))
  have hix : ∀ i, Ix Q' A' i → Ix (Q k) (A k) i := fun i hi => .inl (hRd.ix i hi)
  refine ⟨Z', r', fz', f', _, _, _, hS.go1 hU (I := fun _ => False) hRd.t hcd hRd.fx (fun i ho hx _ => hrr i ho hx) hRd.ff (fun _ h => h.elim) (fun i hi => .inl (hix i hi)) hRd.fin, hb.trans hRd.lo, fun y hy => hRd.ff y (hF y hy), fun i x hi => rs_turn (hS.uk k hU) hU hrr hix (hR i x hi), fun k' hk' => ?_, fun k' hk' hv' => ?_⟩
  · by_cases e : k' = k
    · subst e
      rw [updN_same, updN_same, updN_same, ← hc k' hk', hA, hRd.ol]
      have := hRd.ql
      simp only [List.length_nil]
      omega
    · rw [updN_ne _ _ e, updN_ne _ _ e, updN_ne _ _ e]
      exact hc k' hk'
  · rw [updN_ne _ _ hv'.2]
    exact hv k' hk' hv'.1
theorem grown {Z : Nat → Prop} {r : Nat → Row} {fz : List (Value × Nat × List Value)} {f : Nat → Nat → Value} {O : Nat → List Ot} {Q : Nat → List Wt} {A : Nat → List Fr} (hS : KS N U X lo bb Z r fz turn deep f seen O Q A) (hU : U k) (hb : Below lo W X) (hF : ∀ y ∈ F, y ∈ fz) (hR : ∀ i x, R i x → Rs U r Q A i x) (hc : ∀ k, U k → (O k).length + 2 * (Q k).length + (A k).length = c k) (hv : ∀ k, U k → V k → A k = [])
    (h : GwD (N k) k lo bb X turn deep seen fz f r (O k).length (Q k) (A k) Y) : KM N U lo bb W turn deep seen F R c (fun j => V j ∨ j = k) Y := by
  obtain ⟨Z', r', fz', f', O', hT, hC, hb', hol, hff, hfx, hrr, hfin⟩ := h
  have hr2 : ∀ i, Out k i → ¬ Ix (Q k) (A k) i → r' i = r i := fun i ho hx => hrr i ho (fun q hq e => hx (.inr ⟨q, hq, e⟩))
  have hix : ∀ i, Ix (Q k) [] i → Ix (Q k) (A k) i := fun i hi => hi.elim .inl (fun ⟨a, ha, _⟩ => by cases ha)
  refine ⟨Z', r', fz', f', _, _, _, hS.go1 hU (I := fun _ => False) hT hC hfx (fun i ho hx _ => hr2 i ho hx) hff (fun _ h => h.elim) (fun i hi => .inl (hix i hi)) hfin, hb.trans hb', fun y hy => hff y (hF y hy), fun i x hi => rs_turn (hS.uk k hU) hU hr2 hix (hR i x hi), fun k' hk' => ?_, fun k' hk' hv' => ?_⟩
  · by_cases e : k' = k
    · subst e
      rw [updN_same, updN_same, updN_same, ← hc k' hk', hol]
      simp only [List.length_nil]
      omega
    · rw [updN_ne _ _ e, updN_ne _ _ e, updN_ne _ _ e]
      exact hc k' hk'
  · by_cases e : k' = k
    · subst e
      rw [updN_same]
    · rw [updN_ne _ _ e]
      exact hv k' hk' (hv'.resolve_right e)
theorem KM.setDeep (h : KM N U lo bb W turn deep seen F R c V X) (hlo : lo ≤ W.heap.size) (v : Int) : KM N U lo bb W turn v seen F R c V (X.setCell ⟨bb, 3, none⟩ (.int .i64 v)) := by
  have hl := h.lox hlo
  obtain ⟨Z, r, fz, f, O, Q, A, hS, hb, rest⟩ := h
  exact ⟨Z, r, fz, f, O, Q, A, hS.setDeep v, hb.trans ((grS_set X bb 3 _).below hl (fun b e => e ▸ hS.sep.bl.1)), rest⟩
theorem KM.setTurn (h : KM N U lo bb W turn deep seen F R c V X) (hlo : lo ≤ W.heap.size) (v : Int) : KM N U lo bb W v deep seen F R c V (X.setCell ⟨bb, 2, none⟩ (.int .i64 v)) := by
  have hl := h.lox hlo
  obtain ⟨Z, r, fz, f, O, Q, A, hS, hb, rest⟩ := h
  exact ⟨Z, r, fz, f, O, Q, A, hS.setTurn v, hb.trans ((grS_set X bb 2 _).below hl (fun b e => e ▸ hS.sep.bl.1)), rest⟩
/-- One that is set by comes into the book. -/
theorem kept {Z Z' : Nat → Prop} {r r' : Nat → Row} {fz fz' : List (Value × Nat × List Value)} {f f' : Nat → Nat → Value} {seen' : Nat → Int} {deep' : Int} {O : Nat → List Ot} {Q : Nat → List Wt} {A : Nat → List Fr} (hS : KS N U X lo bb Z r fz turn deep f seen O Q A) (hU : U k) (hb : Below lo W X) (hF : ∀ y ∈ F, y ∈ fz) (hR : ∀ i x, R i x → Rs U r Q A i x) (hc : ∀ k, U k → (O k).length + 2 * (Q k).length + (A k).length = c k) (hv : ∀ k, U k → V k → A k = []) {q : Wt} (hrs : Rs U r Q A q.i ⟨(N k).e, (N k).z, q.v, q.n, q.L⟩)
    (hT : TkL (N k) k Y lo bb Z' r' fz' turn deep' f' seen' (xsOf (O k) (Q k ++ [q]) (A k))) (hC : Cnd (N k) r' fz' (O k) (Q k ++ [q]) (A k) []) (hff : ∀ y ∈ fz, y ∈ fz') (hfx : Fx k f f') (hrr : ∀ i, Out k i → r' i = r i) (hb' : Below lo X Y) :
    KM N U lo bb W turn deep' seen' F (fun i x => R i x ∧ i ≠ q.i) (updN c k (c k + 2)) V Y := by
  have hk := hS.uk k hU
  have hix : ∀ i, Ix (Q k ++ [q]) (A k) i → Ix (Q k) (A k) i ∨ i = q.i := fun i hi => by
    rcases hi with ⟨x, hx, rfl⟩ | ha
    · rcases List.mem_append.1 hx with hx | hx
      · exact .inl (.inl ⟨x, hx, rfl⟩)
      · rw [List.mem_singleton.1 hx]
        exact .inr rfl
    · exact .inl (.inr ha)
  have hKS := hS.go1 hU (I := fun i => i = q.i) hT hC hfx (fun i ho _ _ => hrr i ho) hff (fun i hi => by subst hi; exact ⟨hrs.big, fun k' hk' _ => hrs.no k' hk'⟩) hix (hS.fin.mono hrr)
  have e1 : updN O k (O k) = O := by funext j; by_cases e : j = k; (· subst e; exact updN_same _ _ _); exact updN_ne _ _ e
  have e2 : updN A k (A k) = A := by funext j; by_cases e : j = k; (· subst e; exact updN_same _ _ _); exact updN_ne _ _ e
  rw [e1, e2] at hKS
  refine ⟨Z', r', fz', f', O, _, A, hKS, hb.trans hb', fun y hy => hff y (hF y hy), fun i x hi => ?_, fun k' hk' => ?_, hv⟩
  · have h0 := hR i x hi.1
    refine ⟨h0.big, (hrr i (out_big hk h0.big)).trans h0.row, h0.pos, fun k' hk' hx => ?_⟩
    by_cases e : k' = k
    · subst e
      rw [updN_same] at hx
      rcases hix i hx with h | h
      · exact h0.no _ hk' h
      · exact hi.2 h
    · rw [updN_ne _ _ e] at hx
      exact h0.no k' hk' hx
  · by_cases e : k' = k
    · subst e
      rw [updN_same, updN_same, ← hc k' hk', List.length_append]
      simp only [List.length_cons, List.length_nil]
      omega
    · rw [updN_ne _ _ e, updN_ne _ _ e]
      exact hc k' hk'
end
end Go.Proofs.YthmjkmdbggfiiaaGreatDoor.KB


/- A book: new; what stands by it. -/
namespace Go.Proofs.YthmjkmdbggfiiaaGreatDoor.KB
open Go.RowKit
set_option linter.constructorNameAsVariable false

def rowN (N : Nat → Kn) (U : Nat → Prop) [DecidablePred U] (i : Nat) : Row := if i < 192 ∧ U (i / 8) then ⟨spT (N (i / 8)) (i % 8), 1, .slice none 0 0, 0, []⟩ else nilRow
section
variable {N : Nat → Kn} {U : Nat → Prop} {lo bb : Nat} {W X Y : World} {turn deep : Int} {seen : Nat → Int} {F : List (Value × Nat × List Value)} {R : Nat → Row → Prop} {c : Nat → Nat} {V : Nat → Prop}
theorem rowN_v [DecidablePred U] (i : Nat) : (rowN N U i).v = .slice none 0 0 ∧ (rowN N U i).n = 0 ∧ (rowN N U i).xs = [] := by
  unfold rowN
  split
  · exact ⟨rfl, rfl, rfl⟩
  · exact ⟨rfl, rfl, rfl⟩
theorem KM.new [DecidablePred U] (hU : ∀ k, U k → k < 24) (W : World) : KM N U W.heap.size W.heap.size W 0 0 (fun _ => 0) [] (fun _ _ => False) (fun _ => 0) (fun _ => True) (W.alloc (.cells bkLit 53)) := by
  have hlt : W.heap.size < (W.alloc (.cells bkLit 53)).heap.size := by simp
  refine ⟨fun _ => False, rowN N U, [], nilF, fun _ => [], fun _ => [], fun _ => [], ⟨?_, fun k _ j => rfl, hU, ⟨fun i => ?_, fun i j g _ e => ?_, fun i g e => ?_, fun x hx => (by cases hx), fun b hb => hb.elim, Nat.le_refl _, hlt⟩, fun k hk j hj => ?_, fun k hk => ⟨fun o ho => (by cases ho), fun o ho => (by cases ho), fun o ho => (by cases ho), fun o ho => (by cases ho), List.Pairwise.nil, fun o ho => (by cases ho), fun o ho => (by cases ho), fun o ho => (by cases ho), fun o ho => (by cases ho)⟩, fun k k' _ _ _ i hi => ?_, 192, fun i hi => ?_⟩, (Below.refl _ _).alloc (Nat.le_refl _) _, fun y hy => (by cases hy), fun i x h => h.elim, fun k _ => rfl, fun k _ _ => rfl⟩
  · show _ = some (Obj.cells (bkCs 0 0 nilF (fun _ => 0)) _ _)
    rw [← bk_lit]
    exact heap_alloc_new W _
  · obtain ⟨h1, h2, h3⟩ := rowN_v (N := N) (U := U) i
    rw [h1, h2, h3]
    exact World.ownsRow_nil _ _ _ _
  · rw [(rowN_v i).1] at e
    cases e
  · rw [(rowN_v i).1] at e
    cases e
  · have h24 := hU k hk
    have e1 : (8 * k + j) / 8 = k := by omega
    have e2 : (8 * k + j) % 8 = j := by omega
    unfold rowN
    rw [e1, e2, if_pos ⟨by omega, hk⟩]
    have hx : xsOf [] [] [] j = [] := by
      match j with
      | 0 => rfl
      | 1 => rfl
      | 2 => rfl
      | 3 => rfl
      | 4 => rfl
      | 5 => rfl
      | 6 => rfl
      | j + 7 => rfl
    rw [hx]
    rfl
  · rcases hi with ⟨q, hq, -⟩ | ⟨a, ha, -⟩
    · cases hq
    · cases ha
  · unfold rowN
    rw [if_neg (by omega)]
theorem KM.all (h : KM N U lo bb W turn deep seen F R c V X) (hV : ∀ k, U k → V k) : KM N U lo bb W turn deep seen F R c (fun _ => True) X := by
  obtain ⟨Z, r, fz, f, O, Q, A, hS, hb, hf, hr, hc, hv⟩ := h
  exact ⟨Z, r, fz, f, O, Q, A, hS, hb, hf, hr, hc, fun k hk _ => hv k hk (hV k hk)⟩
theorem KM.base (h : KM N U lo bb W turn deep seen F R c V X) : Below lo W X := by
  obtain ⟨Z, r, fz, f, O, Q, A, -, hb, -⟩ := h
  exact hb
/-- What stands, stands. -/
theorem KM.fz (h : KM N U lo bb W turn deep seen F R c V X) {v : Value} {n : Nat} {L : List Value} (hm : (v, n, L) ∈ F) : RwZ X (fun _ => True) v n L := by
  obtain ⟨Z, r, fz, f, O, Q, A, hS, -, hf, -⟩ := h
  exact (hS.sep.fz _ (hf _ hm)).more (fun _ _ => trivial)
theorem KM.res (h : KM N U lo bb W turn deep seen F R c V X) {i : Nat} {x : Row} (hm : R i x) : X.ownsRow lo x.e x.k x.v x.n x.xs := by
  obtain ⟨Z, r, fz, f, O, Q, A, hS, -, -, hr, -⟩ := h
  have := hS.sep.own i
  rw [(hr i x hm).row] at this
  exact this
theorem KM.less (h : KM N U lo bb W turn deep seen F R c V X) {F' : List (Value × Nat × List Value)} {R' : Nat → Row → Prop} (hF : ∀ y ∈ F', y ∈ F) (hR : ∀ i x, R' i x → R i x) : KM N U lo bb W turn deep seen F' R' c V X := by
  obtain ⟨Z, r, fz, f, O, Q, A, hS, hb, hf, hr, rest⟩ := h
  exact ⟨Z, r, fz, f, O, Q, A, hS, hb, fun y hy => hf y (hF y hy), fun i x hi => hr i x (hR i x hi), rest⟩
theorem KM.keep (h : KM N U lo bb W turn deep seen F R c V X) (hlo : lo ≤ W.heap.size) (hX : Below X.heap.size X Y) {e : TypeId} {z n : Nat} {v : Value} {L : List Value} (hv : Y.ownsRow X.heap.size e z v n L) : KM N U lo bb W turn deep seen ((v, n, L) :: F) R c V Y := by
  have hl := h.lox hlo
  obtain ⟨Z, r, fz, f, O, Q, A, hS, hb, hf, rest⟩ := h
  obtain ⟨Z', hS'⟩ := hS.keep hl hX hv
  refine ⟨Z', r, _, f, O, Q, A, hS', hb.trans (hX.mono hl), fun y hy => ?_, rest⟩
  rcases List.mem_cons.1 hy with rfl | hy
  · exact List.mem_cons_self ..
  · exact List.mem_cons_of_mem _ (hf y hy)
theorem KM.reserve (h : KM N U lo bb W turn deep seen F R c V X) (hlo : lo ≤ W.heap.size) (hX : Below X.heap.size X Y) {e : TypeId} {z n : Nat} {v : Value} {L : List Value} (hz : 0 < z) (hv : Y.ownsRow X.heap.size e z v n L) : ∃ i, (∀ x, ¬ R i x) ∧ KM N U lo bb W turn deep seen F (fun j x => R j x ∨ (j = i ∧ x = ⟨e, z, v, n, L⟩)) c V Y := by
  have hl := h.lox hlo
  obtain ⟨Z, r, fz, f, O, Q, A, hS, hb, hf, hr, hc, hv'⟩ := h
  obtain ⟨i, r', hS', hRs, hni, hrr⟩ := hS.reserve hl hX hz hv
  have hne : ∀ j x, R j x → r j ≠ nilRow := fun j x hj e' => by
    have h0 := hr j x hj
    have h1 := h0.row
    rw [e'] at h1
    have := h0.pos
    rw [← h1] at this
    exact absurd this (by simp [nilRow])
  refine ⟨i, fun x hx => hne i x hx hni, Z, r', fz, f, O, Q, A, hS', hb.trans (hX.mono hl), hf, fun j x hj => ?_, hc, hv'⟩
  rcases hj with hj | ⟨rfl, rfl⟩
  · have h0 := hr j x hj
    exact ⟨h0.big, (hrr j (hne j x hj)).trans h0.row, h0.pos, h0.no⟩
  · exact hRs
end
end Go.Proofs.YthmjkmdbggfiiaaGreatDoor.KB

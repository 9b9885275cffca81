import Derived.Test.YthmjkmdbggfiiaaGreatDoorKcE
/- Conditions by the lists; the lists under way. -/
namespace Go.Proofs.YthmjkmdbggfiiaaGreatDoor.KB
open Go.RowKit
set_option linter.constructorNameAsVariable false

/-- What stands by the lists; A: those to be laid on; P: those that have not been looked at yet. -/
structure Cnd (K : Kn) (r : Nat → Row) (fz : List (Value × Nat × List Value)) (O : List Ot) (Q : List Wt) (A : List Fr) (P : List Wt) : Prop where
  cO : ∀ o ∈ O, ((o.v, o.n, o.L) ∈ fz ∨ ∃ b ∈ A, b.v = o.v ∧ b.n = o.n ∧ b.L = o.L) ∧ (o.t, o.n, o.L) ∈ fz
  cQ : ∀ q ∈ Q, 192 ≤ q.i ∧ r q.i = ⟨K.e, K.z, q.v, q.n, q.L⟩ ∧ (q.c, q.n, q.L) ∈ fz
  cA : ∀ b ∈ A, 192 ≤ b.i ∧ r b.i = ⟨K.e, K.z, b.v, b.n, b.L⟩
  cP : ∀ q ∈ P, 192 ≤ q.i ∧ r q.i = ⟨K.e, K.z, q.v, q.n, q.L⟩ ∧ (q.c, q.n, q.L) ∈ fz
  nd : (P.map (·.i) ++ (A.map (·.i) ++ Q.map (·.i))).Nodup
  lO : ∀ o ∈ O, o.n ≤ 100000 ∧ K.good o.n o.L
  lQ : ∀ q ∈ Q, q.n ≤ 90000 ∧ K.good q.n q.L
  lA : ∀ b ∈ A, b.n ≤ 90000 ∧ K.good b.n b.L
  lP : ∀ q ∈ P, q.n ≤ 90000 ∧ K.good q.n q.L
def Fin (r : Nat → Row) : Prop := ∃ N, ∀ i, N ≤ i → r i = nilRow
section
variable {K : Kn} {k : Nat} {r r' : Nat → Row} {fz fz' : List (Value × Nat × List Value)} {O : List Ot} {Q P : List Wt} {A : List Fr} {q : Wt}
theorem Fin.mono (h : Fin r) (hr : ∀ i, Out k i → r' i = r i) : Fin r' := by
  obtain ⟨N, hN⟩ := h
  exact ⟨max N (8 * k + 8), fun i hi => (hr i (fun e => by omega)).trans (hN i (by omega))⟩
theorem Fin.mono1 (h : Fin r) {j : Nat} (hr : ∀ i, Out k i → i ≠ j → r' i = r i) : Fin r' := by
  obtain ⟨N, hN⟩ := h
  exact ⟨max N (max (8 * k + 8) (j + 1)), fun i hi => (hr i (fun e => by omega) (by omega)).trans (hN i (by omega))⟩
theorem Fin.free (h : Fin r) (hk : k < 24) (j : Nat) : ∃ i, 192 ≤ i ∧ Out k i ∧ i ≠ j ∧ r i = nilRow := by
  obtain ⟨N, hN⟩ := h
  exact ⟨max N (max 192 (j + 1)), by omega, fun e => by omega, by omega, hN _ (by omega)⟩
/-- One that waits on. -/
theorem Cnd.keep (h : Cnd K r fz O Q A (q :: P)) (hk : k < 24) (hr : ∀ i, Out k i → r' i = r i) : Cnd K r' fz O (Q ++ [q]) A P := by
  have hq := h.cP q (List.mem_cons_self ..)
  have hnd := h.nd
  have hb : ∀ i, 192 ≤ i → r' i = r i := fun i hi => hr i (out_big hk hi)
  refine ⟨h.cO, fun x hx => ?_, fun b hb' => ⟨(h.cA b hb').1, (hb _ (h.cA b hb').1).trans (h.cA b hb').2⟩, fun x hx => ?_, ?_, h.lO, fun x hx => ?_, h.lA, fun x hx => h.lP x (List.mem_cons_of_mem _ hx)⟩
  · rcases List.mem_append.1 hx with hx | hx
    · exact ⟨(h.cQ x hx).1, (hb _ (h.cQ x hx).1).trans (h.cQ x hx).2.1, (h.cQ x hx).2.2⟩
    · rw [List.mem_singleton.1 hx]
      exact ⟨hq.1, (hb _ hq.1).trans hq.2.1, hq.2.2⟩
  · have := h.cP x (List.mem_cons_of_mem _ hx)
    exact ⟨this.1, (hb _ this.1).trans this.2.1, this.2.2⟩
  · simp only [List.map_cons, List.cons_append] at hnd
    rw [List.map_append, List.map_singleton, ← List.append_assoc, ← List.append_assoc]
    rw [← List.append_assoc] at hnd
    exact (List.perm_append_singleton _ _).nodup_iff.2 hnd
  · rcases List.mem_append.1 hx with hx | hx
    · exact h.lQ x hx
    · rw [List.mem_singleton.1 hx]
      exact h.lP q (List.mem_cons_self ..)
/-- One that is written full (it shows L now) and told. -/
theorem Cnd.mark (h : Cnd K r fz O Q A (q :: P)) (hk : k < 24) {L : List Value} {t : Value} {m : Int} (hL : K.good q.n L) (hq : r' q.i = ⟨K.e, K.z, q.v, q.n, L⟩) (hr : ∀ i, Out k i → i ≠ q.i → r' i = r i) (hf : ∀ y ∈ fz, y ∈ fz') (ht : (t, q.n, L) ∈ fz') : Cnd K r' fz' (O ++ [⟨q.v, t, q.n, L⟩]) Q (A ++ [⟨q.i, q.v, q.n, L, m⟩]) P := by
  have hq0 := h.cP q (List.mem_cons_self ..)
  have hnd := h.nd
  simp only [List.map_cons, List.cons_append, List.nodup_cons, List.mem_append] at hnd
  have hlq := (h.lP q (List.mem_cons_self ..)).1
  have nQ : ∀ x ∈ Q, x.i ≠ q.i := fun x hx e => hnd.1 (.inr (.inr (List.mem_map.2 ⟨x, hx, e⟩)))
  have nA : ∀ x ∈ A, x.i ≠ q.i := fun x hx e => hnd.1 (.inr (.inl (List.mem_map.2 ⟨x, hx, e⟩)))
  have nP : ∀ x ∈ P, x.i ≠ q.i := fun x hx e => hnd.1 (.inl (List.mem_map.2 ⟨x, hx, e⟩))
  refine ⟨fun o ho => ?_, fun x hx => ?_, fun b hb => ?_, fun x hx => ?_, ?_, fun o ho => ?_, h.lQ, fun b hb => ?_, fun x hx => h.lP x (List.mem_cons_of_mem _ hx)⟩
  · rcases List.mem_append.1 ho with ho | ho
    · obtain ⟨h1, h2⟩ := h.cO o ho
      exact ⟨h1.imp (hf _) (fun ⟨b, hb, e⟩ => ⟨b, List.mem_append_left _ hb, e⟩), hf _ h2⟩
    · rw [List.mem_singleton.1 ho]
      exact ⟨.inr ⟨_, List.mem_append_right _ (List.mem_singleton.2 rfl), rfl, rfl, rfl⟩, ht⟩
  · have := h.cQ x hx
    exact ⟨this.1, (hr _ (out_big hk this.1) (nQ x hx)).trans this.2.1, hf _ this.2.2⟩
  · rcases List.mem_append.1 hb with hb | hb
    · have := h.cA b hb
      exact ⟨this.1, (hr _ (out_big hk this.1) (nA b hb)).trans this.2⟩
    · rw [List.mem_singleton.1 hb]
      exact ⟨hq0.1, hq⟩
  · have := h.cP x (List.mem_cons_of_mem _ hx)
    exact ⟨this.1, (hr _ (out_big hk this.1) (nP x hx)).trans this.2.1, hf _ this.2.2⟩
  · have hnd' := h.nd
    simp only [List.map_cons, List.cons_append] at hnd'
    rw [List.map_append, List.map_singleton, List.append_assoc]
    refine List.Perm.nodup_iff ?_ |>.2 hnd'
    refine List.Perm.trans ?_ List.perm_middle
    refine List.Perm.append_left _ ?_
    simp only [List.singleton_append]
    exact List.perm_middle
  · rcases List.mem_append.1 ho with ho | ho
    · exact h.lO o ho
    · rw [List.mem_singleton.1 ho]
      exact ⟨Nat.le_trans hlq (by decide), hL⟩
  · rcases List.mem_append.1 hb with hb | hb
    · exact h.lA b hb
    · rw [List.mem_singleton.1 hb]
      exact ⟨hlq, hL⟩
/-- One of those that are laid on stands now, and so does what it has become. -/
theorem Cnd.laid {a : Fr} {B : List Fr} {g t : Value} {n : Nat} {M : List Value} (h : Cnd K r fz O Q (a :: B) []) (hk : k < 24) (hr : ∀ i, Out k i → i ≠ a.i → r' i = r i) (hf : ∀ y ∈ fz, y ∈ fz') (ha : (a.v, a.n, a.L) ∈ fz') (hg : (g, n, M) ∈ fz') (ht : (t, n, M) ∈ fz') (hn : n ≤ 100000) (hM : K.good n M) : Cnd K r' fz' (O ++ [⟨g, t, n, M⟩]) Q B [] := by
  have hnd := h.nd
  simp only [List.map_nil, List.nil_append, List.map_cons, List.cons_append, List.nodup_cons] at hnd
  have hnQ : ∀ q ∈ Q, q.i ≠ a.i := fun q hq e => hnd.1 (List.mem_append_right _ (List.mem_map.2 ⟨q, hq, e⟩))
  have hnB : ∀ b ∈ B, b.i ≠ a.i := fun b hb e => hnd.1 (List.mem_append_left _ (List.mem_map.2 ⟨b, hb, e⟩))
  refine ⟨fun o ho => ?_, fun q hq => ?_, fun b hb => ?_, fun q hq => (by cases hq), by simpa using hnd.2, fun o ho => ?_, h.lQ, fun b hb => h.lA b (List.mem_cons_of_mem _ hb), fun q hq => (by cases hq)⟩
  · rcases List.mem_append.1 ho with ho | ho
    · obtain ⟨h1, h2⟩ := h.cO o ho
      refine ⟨?_, hf _ h2⟩
      rcases h1 with h1 | ⟨b, hb, h1, h1', h1''⟩
      · exact .inl (hf _ h1)
      · rcases List.mem_cons.1 hb with rfl | hb
        · exact .inl (by rw [← h1, ← h1', ← h1'']; exact ha)
        · exact .inr ⟨b, hb, h1, h1', h1''⟩
    · rw [List.mem_singleton.1 ho]
      exact ⟨.inl hg, ht⟩
  · obtain ⟨h1, h2, h3⟩ := h.cQ q hq
    exact ⟨h1, (hr _ (out_big hk h1) (hnQ q hq)).trans h2, hf _ h3⟩
  · obtain ⟨h1, h2⟩ := h.cA b (List.mem_cons_of_mem _ hb)
    exact ⟨h1, (hr _ (out_big hk h1) (hnB b hb)).trans h2⟩
  · rcases List.mem_append.1 ho with ho | ho
    · exact h.lO o ho
    · rw [List.mem_singleton.1 ho]
      exact ⟨hn, hM⟩
theorem Cnd.rows (h : Cnd K r fz O Q A P) (hr : ∀ i, 192 ≤ i → (∃ q ∈ Q, q.i = i) ∨ (∃ b ∈ A, b.i = i) ∨ (∃ q ∈ P, q.i = i) → r' i = r i) (hf : ∀ y ∈ fz, y ∈ fz') : Cnd K r' fz' O Q A P :=
  ⟨fun o ho => ⟨(h.cO o ho).1.imp (hf _) (fun x => x), hf _ (h.cO o ho).2⟩, fun q hq => ⟨(h.cQ q hq).1, (hr _ (h.cQ q hq).1 (.inl ⟨q, hq, rfl⟩)).trans (h.cQ q hq).2.1, hf _ (h.cQ q hq).2.2⟩, fun b hb => ⟨(h.cA b hb).1, (hr _ (h.cA b hb).1 (.inr (.inl ⟨b, hb, rfl⟩))).trans (h.cA b hb).2⟩, fun q hq => ⟨(h.cP q hq).1, (hr _ (h.cP q hq).1 (.inr (.inr ⟨q, hq, rfl⟩))).trans (h.cP q hq).2.1, hf _ (h.cP q hq).2.2⟩, h.nd, h.lO, h.lQ, h.lA, h.lP⟩
/-- All that wait are looked at anew. -/
theorem Cnd.turn (h : Cnd K r fz O Q [] []) : Cnd K r fz O [] [] Q :=
  ⟨h.cO, fun q hq => (by cases hq), h.cA, h.cQ, by have := h.nd; simpa using this, h.lO, fun q hq => (by cases hq), h.lA, h.lQ⟩
/-- A new one. -/
theorem Cnd.new {q : Wt} (h : Cnd K r fz O Q [] []) (h8 : 192 ≤ q.i) (hq : r q.i = ⟨K.e, K.z, q.v, q.n, q.L⟩) (hne : ∀ x ∈ Q, x.i ≠ q.i) (hf : ∀ y ∈ fz, y ∈ fz') (hc : (q.c, q.n, q.L) ∈ fz') (hl : q.n ≤ 90000) (hgd : K.good q.n q.L) : Cnd K r fz' O (Q ++ [q]) [] [] := by
  have hnd := h.nd
  simp only [List.map_nil, List.nil_append] at hnd
  refine ⟨fun o ho => ⟨(h.cO o ho).1.imp (hf _) (fun x => x), hf _ (h.cO o ho).2⟩, fun x hx => ?_, fun b hb => (by cases hb), fun b hb => (by cases hb), ?_, h.lO, fun x hx => ?_, fun b hb => (by cases hb), fun b hb => (by cases hb)⟩
  · rcases List.mem_append.1 hx with hx | hx
    · exact ⟨(h.cQ x hx).1, (h.cQ x hx).2.1, hf _ (h.cQ x hx).2.2⟩
    · rw [List.mem_singleton.1 hx]
      exact ⟨h8, hq, hc⟩
  · simp only [List.map_nil, List.nil_append, List.map_append, List.map_cons]
    refine List.nodup_append.2 ⟨hnd, by simp, fun a ha b hb e => ?_⟩
    obtain ⟨x, hx, rfl⟩ := List.mem_map.1 ha
    rw [List.mem_singleton.1 hb] at e
    exact hne x hx e
  · rcases List.mem_append.1 hx with hx | hx
    · exact h.lQ x hx
    · rw [List.mem_singleton.1 hx]
      exact ⟨hl, hgd⟩
end
theorem xs_cleared (O : List Ot) (Q : List Wt) : updX (updX (updX (updX (xsOf O Q []) 2 []) 3 []) 5 []) 6 [] = xsOf O [] [] := by
  funext j
  match j with
  | 0 => rfl
  | 1 => rfl
  | 2 => rfl
  | 3 => rfl
  | 4 => rfl
  | 5 => rfl
  | 6 => rfl
  | j + 7 => simp [updX, xsOf]
theorem xs_kept (O : List Ot) (Q : List Wt) (A : List Fr) (q : Wt) : updX (updX (updX (updX (xsOf O Q A) 2 (xsOf O Q A 2 ++ [q.v])) 3 (xsOf O Q A 3 ++ [q.c])) 5 (xsOf O Q A 5 ++ [.int .i64 q.m])) 6 (xsOf O Q A 6 ++ [.int .i64 q.d]) = xsOf O (Q ++ [q]) A := by
  funext j
  match j with
  | 0 => rfl
  | 1 => rfl
  | 2 => simp [updX, xsOf]
  | 3 => simp [updX, xsOf]
  | 4 => rfl
  | 5 => simp [updX, xsOf, intV]
  | 6 => simp [updX, xsOf, intV]
  | j + 7 => simp [updX, xsOf]
theorem xs_marked (O : List Ot) (Q : List Wt) (A : List Fr) (o : Ot) (b : Fr) (hv : b.v = o.v) : updX (updX (updX (updX (xsOf O Q A) 0 (xsOf O Q A 0 ++ [o.v])) 1 (xsOf O Q A 1 ++ [o.t])) 4 (xsOf O Q A 4 ++ [o.v])) 7 (xsOf O Q A 7 ++ [.int .i64 b.m]) = fun j => if j ≤ 7 then xsOf (O ++ [o]) Q (A ++ [b]) j else xsOf O Q A j := by
  funext j
  match j with
  | 0 => simp [updX, xsOf]
  | 1 => simp [updX, xsOf]
  | 2 => simp [updX, xsOf]
  | 3 => simp [updX, xsOf]
  | 4 => simp [updX, xsOf, hv]
  | 5 => simp [updX, xsOf]
  | 6 => simp [updX, xsOf]
  | 7 => simp [updX, xsOf, intV]
  | j + 8 => simp [updX, xsOf]
theorem xs_laid (O : List Ot) (Q : List Wt) (A : List Fr) (o : Ot) : updX (updX (xsOf O Q A) 0 (xsOf O Q A 0 ++ [o.v])) 1 (xsOf O Q A 1 ++ [o.t]) = xsOf (O ++ [o]) Q A := by
  funext j
  match j with
  | 0 => simp [updX, xsOf]
  | 1 => simp [updX, xsOf]
  | 2 => rfl
  | 3 => rfl
  | 4 => rfl
  | 5 => rfl
  | 6 => rfl
  | j + 7 => rfl
theorem xs_fresh (O : List Ot) (Q : List Wt) (A : List Fr) : updX (updX (xsOf O Q A) 4 []) 7 [] = fun j => if j ≤ 7 then xsOf O Q [] j else xsOf O Q A j := by
  funext j
  match j with
  | 0 => rfl
  | 1 => rfl
  | 2 => rfl
  | 3 => rfl
  | 4 => rfl
  | 5 => rfl
  | 6 => rfl
  | 7 => rfl
  | j + 8 => simp [updX, xsOf]
section
variable {K : Kn} {k : Nat} {W X Y : World} {lo bb : Nat} {Z Zo : Nat → Prop} {r : Nat → Row} {fz : List (Value × Nat × List Value)} {turn deep : Int} {f0 : Nat → Nat → Value} {seen : Nat → Int} {xs : Nat → List Value}
/-- The lists under way. -/
def PS (K : Kn) (k lo bb : Nat) (W : World) (turn deep : Int) (seen : Nat → Int) (f0 : Nat → Nat → Value) (Zo Z : Nat → Prop) (fz : List (Value × Nat × List Value)) (r : Nat → Row) (xs : Nat → List Value) (X : World) : Prop := ∃ r' f', TkL K k X lo bb Z r' fz turn deep f' seen xs ∧ (∀ q, Out k q → r' q = r q) ∧ Fx k f0 f' ∧ Below lo W X ∧ ∀ b, Zo b → X.heap[b]? = W.heap[b]?
theorem PS.push (h : PS K k lo bb W turn deep seen f0 Zo Z fz r xs X) (hlo : lo ≤ W.heap.size) (hZ : ∀ b, Zo b → Z b) {j : Nat} (hj : j < 8) : ∃ a c, X.cell? ⟨bb, 4 + 9 * k + j, none⟩ = some (.slice a (xs j).length c) ∧ X.ownsRow lo (spT K j) 1 (.slice a (xs j).length c) (xs j).length (xs j) ∧ lo ≤ X.heap.size ∧ ∀ x v' w', w'.ownsRow lo (spT K j) 1 v' ((xs j).length + 1) (xs j ++ [x]) → (X.alloc (.cells #[x] (spT K j))).grownBy w' (Value.slice a (xs j).length c).ownBlock → (v'.ownBlock = (Value.slice a (xs j).length c).ownBlock ∨ v'.ownBlock = some (X.alloc (.cells #[x] (spT K j))).heap.size) → PS K k lo bb W turn deep seen f0 Zo Z fz r (updX xs j (xs j ++ [x])) (w'.setCell ⟨bb, 4 + 9 * k + j, none⟩ v') ∧ w'.cell? ⟨bb, 4 + 9 * k + j, none⟩ = some (.slice a (xs j).length c) ∧ w'.frozen? ⟨bb, 4 + 9 * k + j, none⟩ = false := by
  obtain ⟨r', f', hT, hr, hx, hb, hh⟩ := h
  have hl := Nat.le_trans hlo hb.size
  obtain ⟨a, c, e, q, o, -⟩ := hT.own hj
  refine ⟨a, c, q, o, hl, fun x v' w' ho hg hat => ?_⟩
  obtain ⟨q1, q2, q3, q4, q5⟩ := hT.push hl hj ho (by rw [e]; exact hg) (by rw [e]; exact hat) rfl
  rw [e] at q2
  exact ⟨⟨_, _, q1, fun q hq => (updR_ne _ _ (fun e => hq (by omega))).trans (hr q hq), hx.upd _, hb.trans q4, fun b hb' => (q5 b (hZ b hb')).trans (hh b hb')⟩, q2, q3⟩
theorem PS.later (h : PS K k lo bb W turn deep seen f0 Zo Z fz r xs X) (hlo : lo ≤ W.heap.size) (hZ : ∀ b, Zo b → Z b) (hX : Below X.heap.size X Y) : PS K k lo bb W turn deep seen f0 Zo Z fz r xs Y := by
  obtain ⟨r', f', hT, hr, hx, hb, hh⟩ := h
  exact ⟨r', f', hT.later hX, hr, hx, hb.trans (hX.mono (Nat.le_trans hlo hb.size)), fun b hb' => (hX.block b (hT.sep.zl b (hZ b hb')).2.1).trans (hh b hb')⟩
theorem PS.tell (h : PS K k lo bb W turn deep seen f0 Zo Z fz r xs X) (hlo : lo ≤ W.heap.size) (hZ : ∀ b, Zo b → Z b) {j : Nat} (hj : j < 8) {i : Nat} (hi8 : Out k i) (hi : r i = nilRow) : ∃ a c, X.cell? ⟨bb, 4 + 9 * k + j, none⟩ = some (.slice a (xs j).length c) ∧ lo ≤ X.heap.size ∧ (∀ D, Below X.heap.size X D → D.cell? ⟨bb, 4 + 9 * k + j, none⟩ = some (.slice a (xs j).length c) ∧ D.ownsRow lo (spT K j) 1 (.slice a (xs j).length c) (xs j).length (xs j)) ∧ ∀ D v n L v' w', Below X.heap.size X D → D.ownsRow X.heap.size K.e K.z v n L → w'.ownsRow lo (spT K j) 1 v' ((xs j).length + 1) (xs j ++ [v]) → (D.alloc (.cells #[v] (spT K j))).grownBy w' (Value.slice a (xs j).length c).ownBlock → (v'.ownBlock = (Value.slice a (xs j).length c).ownBlock ∨ v'.ownBlock = some (D.alloc (.cells #[v] (spT K j))).heap.size) → (∃ Z', (∀ b, Z b → Z' b) ∧ PS K k lo bb W turn deep seen f0 Zo Z' ((v, n, L) :: fz) r (updX xs j (xs j ++ [v])) (w'.setCell ⟨bb, 4 + 9 * k + j, none⟩ v')) ∧ w'.cell? ⟨bb, 4 + 9 * k + j, none⟩ = some (.slice a (xs j).length c) ∧ w'.frozen? ⟨bb, 4 + 9 * k + j, none⟩ = false := by
  obtain ⟨r', f', hT, hr, hx, hb, hh⟩ := h
  have hl := Nat.le_trans hlo hb.size
  obtain ⟨a, c, e, q, o, -⟩ := hT.own hj
  refine ⟨a, c, q, hl, fun D hD => ?_, fun D v n L v' w' hD hov ho hg hat => ?_⟩
  · obtain ⟨a', c', e', k', o', -⟩ := (hT.later hD).own hj
    rw [e] at e'
    simp only [Value.slice.injEq] at e'
    obtain ⟨rfl, -, rfl⟩ := e'
    exact ⟨k', o'⟩
  · obtain ⟨Z', r9, t1, t2, t3, t4, t5, t6, t7⟩ := hT.tell hl ((hr i hi8).trans hi) hi8 hj hD hov ho (by rw [e]; exact hg) (by rw [e]; exact hat)
    rw [e] at t3
    exact ⟨⟨Z', t6, r9, _, t1, fun q hq => (t2 q hq).trans (hr q hq), hx.upd _, hb.trans t5, fun b hb' => (t7 b (hZ b hb')).trans (hh b hb')⟩, t3, t4⟩
theorem PS.bk (h : PS K k lo bb W turn deep seen f0 Zo Z fz r xs X) : ∃ f', BkAt X bb turn deep f' seen := by
  obtain ⟨r', f', hT, -⟩ := h
  exact ⟨f', hT.bk⟩
theorem PS.own (h : PS K k lo bb W turn deep seen f0 Zo Z fz r xs X) (i : Nat) (hi : Out k i) : X.ownsRow lo (r i).e (r i).k (r i).v (r i).n (r i).xs := by
  obtain ⟨r', f', hT, hr, -⟩ := h
  rw [← hr i hi]
  exact hT.sep.own i
theorem PS.counted (h : PS K k lo bb W turn deep seen f0 Zo Z fz r xs X) (hlo : lo ≤ W.heap.size) (hZ : ∀ b, Zo b → Z b) (v : Int) : PS K k lo bb W turn deep (updS seen k v) f0 Zo Z fz r xs (X.setCell ⟨bb, 4 + 9 * k + 8, none⟩ (.int .i64 v)) := by
  obtain ⟨r', f', hT, hr, hx, hb, hh⟩ := h
  have hG := grS_set X bb (4 + 9 * k + 8) (.int .i64 v)
  exact ⟨r', f', ⟨hT.kk, hT.bk.setSeen hT.kk v, hT.sep.book _ _, hT.sp⟩, hr, hx, hb.trans (hG.below (Nat.le_trans hlo hb.size) (fun b e => e ▸ hT.sep.bl.1)), fun b hb' => (hG.block b (hT.sep.zl b (hZ b hb')).2.1 (hT.sep.zl b (hZ b hb')).2.2).trans (hh b hb')⟩
/-- A list that is being written: it shows L. -/
def WR (K : Kn) (k lo bb : Nat) (W : World) (turn deep : Int) (seen : Nat → Int) (f0 : Nat → Nat → Value) (Zo Z : Nat → Prop) (fz : List (Value × Nat × List Value)) (r : Nat → Row) (xs : Nat → List Value) (i : Nat) (v : Value) (n : Nat) (L : List Value) (X : World) : Prop := ∃ r' f', TkL K k X lo bb Z r' fz turn deep f' seen xs ∧ r' i = ⟨K.e, K.z, v, n, L⟩ ∧ (∀ q, Out k q → q ≠ i → r' q = r q) ∧ Fx k f0 f' ∧ Below lo W X ∧ ∀ b, Zo b → X.heap[b]? = W.heap[b]?
theorem WR.cell {i g n cap o : Nat} {L : List Value} (h : WR K k lo bb W turn deep seen f0 Zo Z fz r xs i (.slice (some ⟨g, 0, none⟩) n cap) n L X) (ho : o < n * K.z) : (∃ u, L[o]? = some u ∧ X.cell? ⟨g, o, none⟩ = some u) ∧ X.frozen? ⟨g, o, none⟩ = false := by
  obtain ⟨r', f', hT, hri, -⟩ := h
  have hw := hT.sep.own i
  rw [hri] at hw
  simp only at hw
  have hl := hw.1
  have hlt : o < L.length := by omega
  exact ⟨⟨_, List.getElem?_eq_getElem hlt, (hw.cellAt o ho).trans (List.getElem?_eq_getElem hlt)⟩, hw.frozenAt o⟩
theorem WR.write {i g n cap : Nat} {L : List Value} (h : WR K k lo bb W turn deep seen f0 Zo Z fz r xs i (.slice (some ⟨g, 0, none⟩) n cap) n L X) (hlo : lo ≤ W.heap.size) (hZ : ∀ b, Zo b → Z b) (hi : 192 ≤ i) (o : Nat) (u : Value) : WR K k lo bb W turn deep seen f0 Zo Z fz r xs i (.slice (some ⟨g, 0, none⟩) n cap) n (L.set o u) (X.setCell ⟨g, o, none⟩ u) := by
  obtain ⟨r', f', hT, hri, hr, hx, hb, hh⟩ := h
  have hg : (r' i).v.ownBlock = some g := by rw [hri]; rfl
  have hgl := (own_rowT (hT.sep.own i) hg).1
  have hG := grS_set X g o u
  have hnb : ¬ bb = g := fun e => (hT.sep.rz i g hg).2 e.symm
  have hs := hT.sep.write i (g := g) (n := n) (cap := cap) (by rw [hri]) (by rw [hri]) o u
  rw [hri] at hs
  have hk := hT.kk
  refine ⟨_, f', ⟨hT.kk, hT.bk.grS hG hnb, hs, fun j hj => (updR_ne _ _ (by omega)).trans (hT.sp j hj)⟩, updR_same _ _ _, fun q hq hne => (updR_ne _ _ hne).trans (hr q hq hne), hx, hb.trans (hG.below (Nat.le_trans hlo hb.size) (fun b e => e ▸ hgl)), fun b hb' => (hG.block b (hT.sep.zl b (hZ b hb')).2.1 (fun e => (hT.sep.rz i g hg).1 (e ▸ hZ b hb'))).trans (hh b hb')⟩
theorem WR.bb_ne {i g n cap : Nat} {L : List Value} (h : WR K k lo bb W turn deep seen f0 Zo Z fz r xs i (.slice (some ⟨g, 0, none⟩) n cap) n L X) : g ≠ bb := by
  obtain ⟨r', f', hT, hri, -⟩ := h
  exact (hT.sep.rz i g (by rw [hri]; rfl)).2
theorem WR.later {i : Nat} {v : Value} {n : Nat} {L : List Value} (h : WR K k lo bb W turn deep seen f0 Zo Z fz r xs i v n L X) (hlo : lo ≤ W.heap.size) (hZ : ∀ b, Zo b → Z b) (hX : Below X.heap.size X Y) : WR K k lo bb W turn deep seen f0 Zo Z fz r xs i v n L Y := by
  obtain ⟨r', f', hT, hri, hr, hx, hb, hh⟩ := h
  exact ⟨r', f', hT.later hX, hri, hr, hx, hb.trans (hX.mono (Nat.le_trans hlo hb.size)), fun b hb' => (hX.block b (hT.sep.zl b (hZ b hb')).2.1).trans (hh b hb')⟩
end
end Go.Proofs.YthmjkmdbggfiiaaGreatDoor.KB

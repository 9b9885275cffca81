import Derived.Test.YthmjkmdbggfiiaaGreatDoorJoin39
/- Several new rows at once. -/
namespace Go.Proofs.YthmjkmdbggfiiaaGreatDoor.KB
open Go.RowKit
set_option linter.constructorNameAsVariable false

/-- Rows of their own, apart from one another. -/
structure Rows (lo : Nat) (W : World) (l : List Row) : Prop where
  own : ∀ x ∈ l, 0 < x.k ∧ W.ownsRow lo x.e x.k x.v x.n x.xs
  dis : l.Pairwise fun x y => ∀ g, x.v.ownBlock = some g → y.v.ownBlock ≠ some g
section
variable {lo : Nat} {W X : World} {l : List Row}
theorem Rows.nil : Rows lo W [] := ⟨fun _ h => (by cases h), List.Pairwise.nil⟩
theorem Rows.later (h : Rows lo W l) (hX : Below W.heap.size W X) : Rows lo X l := ⟨fun x hx => ⟨(h.own x hx).1, (GrS.of_below hX : GrS (fun _ => False) _ _).own (h.own x hx).2 (fun _ _ h => h)⟩, h.dis⟩
theorem Rows.grS {U : Nat → Prop} (h : Rows lo W l) (hG : GrS U W X) (hU : ∀ g, lo ≤ g → ¬ U g) : Rows lo X l := ⟨fun x hx => ⟨(h.own x hx).1, hG.own (h.own x hx).2 (fun g e => hU g (own_rowT (h.own x hx).2 e).1)⟩, h.dis⟩
theorem Rows.set (h : Rows lo W l) {b o : Nat} (v : Value) (hb : b < lo) : Rows lo (W.setCell ⟨b, o, none⟩ v) l := h.grS (grS_set W b o v) (fun g hg e => by omega)
theorem Rows.low (h : Rows lo W l) {lo' : Nat} (hl : lo' ≤ lo) : Rows lo' W l := ⟨fun x hx => ⟨(h.own x hx).1, (h.own x hx).2.mono hl⟩, h.dis⟩
theorem Rows.snoc (h : Rows lo W l) (hlo : lo ≤ W.heap.size) (hX : Below W.heap.size W X) {e : TypeId} {z n : Nat} {v : Value} {L : List Value} (hz : 0 < z) (hv : X.ownsRow W.heap.size e z v n L) : Rows lo X (l ++ [⟨e, z, v, n, L⟩]) := by
  have h' := h.later hX
  refine ⟨fun x hx => ?_, List.pairwise_append.2 ⟨h.dis, List.pairwise_singleton _ _, fun x hx y hy g e e' => ?_⟩⟩
  · rcases List.mem_append.1 hx with hx | hx
    · exact h'.own x hx
    · rw [List.mem_singleton.1 hx]
      exact ⟨hz, hv.mono hlo⟩
  · rw [List.mem_singleton.1 hy] at e'
    have h1 := (own_rowT (h.own x hx).2 e).2.1
    have h2 := (own_rowT hv e').1
    omega
theorem Rows.join {l' : List Row} (h : Rows lo W l) (hlo : lo ≤ W.heap.size) (hX : Below W.heap.size W X) (h' : Rows W.heap.size X l') : Rows lo X (l ++ l') := by
  have h1 := h.later hX
  refine ⟨fun x hx => ?_, List.pairwise_append.2 ⟨h.dis, h'.dis, fun x hx y hy g e e' => ?_⟩⟩
  · rcases List.mem_append.1 hx with hx | hx
    · exact h1.own x hx
    · exact ⟨(h'.own x hx).1, (h'.own x hx).2.mono hlo⟩
  · have h1 := (own_rowT (h.own x hx).2 e).2.1
    have h2 := (own_rowT (h'.own y hy).2 e').1
    omega
end
section
variable {N : Nat → Kn} {U : Nat → Prop} {lo bb : Nat} {W X Y : World} {Z : Nat → Prop} {r : Nat → Row} {fz : List (Value × Nat × List Value)} {turn deep : Int} {f : Nat → Nat → Value} {seen : Nat → Int} {F : List (Value × Nat × List Value)} {R : Nat → Row → Prop} {c : Nat → Nat} {V : Nat → Prop} {O : Nat → List Ot} {Q : Nat → List Wt} {A : Nat → List Fr}
theorem Sep.put1 (h : Sep W lo bb Z r fz) (i : Nat) (hi : (r i).v.ownBlock = none) {x : Row} (ho : W.ownsRow lo x.e x.k x.v x.n x.xs) (hg : ∀ g, x.v.ownBlock = some g → ¬ Z g ∧ g ≠ bb ∧ ∀ j, (r j).v.ownBlock ≠ some g) : Sep W lo bb Z (updR r i x) fz := by
  refine ⟨fun j => ?_, fun j k g hne e => ?_, fun j g e => ?_, h.fz, h.zl, h.bl⟩
  · by_cases hj : j = i
    · subst hj
      rw [updR_same]
      exact ho
    · rw [updR_ne _ _ hj]
      exact h.own j
  · by_cases hj : j = i
    · subst hj
      rw [updR_same] at e
      rw [updR_ne _ _ (fun e' => hne e'.symm)]
      exact (hg g e).2.2 k
    · rw [updR_ne _ _ hj] at e
      by_cases hk : k = i
      · subst hk
        rw [updR_same]
        exact fun e' => (hg g e').2.2 j e
      · rw [updR_ne _ _ hk]
        exact h.dis j k g hne e
  · by_cases hj : j = i
    · subst hj
      rw [updR_same] at e
      exact ⟨(hg g e).1, (hg g e).2.1⟩
    · rw [updR_ne _ _ hj] at e
      exact h.rz j g e
theorem KS.reserve1 (h : KS N U W lo bb Z r fz turn deep f seen O Q A) {x : Row} (hz : 0 < x.k) (ho : W.ownsRow lo x.e x.k x.v x.n x.xs) (hg : ∀ g, x.v.ownBlock = some g → ¬ Z g ∧ g ≠ bb ∧ ∀ j, (r j).v.ownBlock ≠ some g) : ∃ i, KS N U W lo bb Z (updR r i x) fz turn deep f seen O Q A ∧ Rs U (updR r i x) Q A i x ∧ r i = nilRow := by
  obtain ⟨M, hM⟩ := h.fin
  have hnil : r (max M 192) = nilRow := hM _ (by omega)
  have hs := h.sep.put1 (max M 192) (by rw [hnil]; rfl) ho hg
  have hne : ∀ k, U k → ∀ i, Ix (Q k) (A k) i → i ≠ max M 192 := fun k hk i hi e' => by
    subst e'
    exact Ix.row h hk hi hnil
  refine ⟨max M 192, ⟨h.bk, h.nil, h.uk, hs, fun k hk j hj => ?_, fun k hk => ?_, h.x, ⟨max M 192 + 1, fun i hi => (updR_ne _ _ (by omega)).trans (hM i (by omega))⟩⟩, ⟨by omega, updR_same _ _ _, hz, fun k hk hi => hne k hk _ hi rfl⟩, hnil⟩
  · have := h.uk k hk
    rw [updR_ne _ _ (by omega)]
    exact h.sp k hk j hj
  · refine (h.c k hk).rows (fun i hi8 hi3 => updR_ne _ _ (hne k hk i ?_)) (fun y hy => hy)
    rcases hi3 with h3 | h3 | ⟨q, hq, -⟩
    · exact .inl h3
    · exact .inr h3
    · cases hq
theorem KS.reserves : ∀ (l : List Row) (r : Nat → Row) (G : Nat → Prop), KS N U W lo bb Z r fz turn deep f seen O Q A → (∀ g, G g → ¬ Z g ∧ g ≠ bb ∧ ∀ j, (r j).v.ownBlock ≠ some g) → (∀ x ∈ l, 0 < x.k ∧ W.ownsRow lo x.e x.k x.v x.n x.xs ∧ ∀ g, x.v.ownBlock = some g → G g) → (l.Pairwise fun x y => ∀ g, x.v.ownBlock = some g → y.v.ownBlock ≠ some g) → ∃ (is : List Nat) (r' : Nat → Row), is.length = l.length ∧ is.Nodup ∧ KS N U W lo bb Z r' fz turn deep f seen O Q A ∧ (∀ i ∈ is, r i = nilRow) ∧ (∀ (k i : Nat) (x : Row), is[k]? = some i → l[k]? = some x → Rs U r' Q A i x) ∧ ∀ j, r j ≠ nilRow → r' j = r j
  | [], r, G, h, _, _, _ => ⟨[], r, rfl, List.nodup_nil, h, fun i hi => (by cases hi), fun k i x hi => (by simp at hi), fun _ _ => rfl⟩
  | x :: l, r, G, h, hG, hl, hp => by
    obtain ⟨h1, h2, h3⟩ := hl x (List.mem_cons_self ..)
    obtain ⟨hp1, hp2⟩ := List.pairwise_cons.1 hp
    obtain ⟨i, hK, hR, hni⟩ := h.reserve1 h1 h2 (fun g e => hG g (h3 g e))
    obtain ⟨is, r', q1, q2, q3, q4, q5, q6⟩ := KS.reserves l (updR r i x) (fun g => G g ∧ x.v.ownBlock ≠ some g) hK (fun g hg => ⟨(hG g hg.1).1, (hG g hg.1).2.1, fun j e => by
      by_cases hj : j = i
      · subst hj
        rw [updR_same] at e
        exact hg.2 e
      · rw [updR_ne _ _ hj] at e
        exact (hG g hg.1).2.2 j e⟩) (fun y hy => ⟨(hl y (List.mem_cons_of_mem _ hy)).1, (hl y (List.mem_cons_of_mem _ hy)).2.1, fun g e => ⟨(hl y (List.mem_cons_of_mem _ hy)).2.2 g e, fun e' => hp1 y hy g e' e⟩⟩) hp2
    have hxn : x ≠ nilRow := fun e => by rw [e] at h1; exact absurd h1 (by simp [nilRow])
    have hin : i ∉ is := fun hi => by
      have := q4 i hi
      rw [updR_same] at this
      exact hxn this
    have hr'i : r' i = x := (q6 i (by rw [updR_same]; exact hxn)).trans (updR_same _ _ _)
    refine ⟨i :: is, r', by simp [q1], List.nodup_cons.2 ⟨hin, q2⟩, q3, fun j hj => ?_, fun k j y hj hy => ?_, fun j hj => ?_⟩
    · rcases List.mem_cons.1 hj with rfl | hj
      · exact hni
      · have := q4 j hj
        rwa [updR_ne _ _ (fun e : j = i => hin (by rw [← e]; exact hj))] at this
    · cases k with
      | zero =>
        simp at hj hy
        subst hj hy
        exact ⟨hR.big, hr'i, h1, hR.no⟩
      | succ k => exact q5 k j y (by simpa using hj) (by simpa using hy)
    · have hji : j ≠ i := fun e => hj (e ▸ hni)
      rw [q6 j (by rw [updR_ne _ _ hji]; exact hj), updR_ne _ _ hji]
theorem KM.reserves (h : KM N U lo bb W turn deep seen F R c V X) (hlo : lo ≤ W.heap.size) (hX : Below X.heap.size X Y) {l : List Row} (hl : Rows X.heap.size Y l) : ∃ is : List Nat, is.length = l.length ∧ is.Nodup ∧ (∀ i ∈ is, ∀ x, ¬ R i x) ∧ KM N U lo bb W turn deep seen F (fun j x => R j x ∨ ∃ k : Nat, is[k]? = some j ∧ l[k]? = some x) c V Y := by
  have hlx := h.lox hlo
  obtain ⟨Z, r, fz, f, O, Q, A, hS, hb, hf, hr, hc, hv⟩ := h
  have hS' := hS.later hX
  obtain ⟨is, r', q1, q2, q3, q4, q5, q6⟩ := KS.reserves l r (fun g => X.heap.size ≤ g) hS' (fun g hg => ⟨fun hz => by have := (hS.sep.zl g hz).2.1; omega, fun e => by have := hS.sep.bl.2; omega, fun j e => by have := (own_rowT (hS.sep.own j) e).2.1; omega⟩) (fun x hx => ⟨(hl.own x hx).1, (hl.own x hx).2.mono hlx, fun g e => (own_rowT (hl.own x hx).2 e).1⟩) hl.dis
  have hne : ∀ j x, R j x → r j ≠ nilRow := fun j x hj e' => by
    have h0 := hr j x hj
    have h1 := h0.row
    rw [e'] at h1
    have := h0.pos
    rw [← h1] at this
    exact absurd this (by simp [nilRow])
  refine ⟨is, q1, q2, fun i hi x hx => hne i x hx (q4 i hi), Z, r', fz, f, O, Q, A, q3, hb.trans (hX.mono hlx), hf, fun j x hj => ?_, hc, hv⟩
  rcases hj with hj | ⟨k, h1, h2⟩
  · have h0 := hr j x hj
    exact ⟨h0.big, (q6 j (hne j x hj)).trans h0.row, h0.pos, h0.no⟩
  · exact q5 k j x h1 h2
/-- What is set by stands from now on. -/
theorem KM.freeze (h : KM N U lo bb W turn deep seen F R c V X) {i : Nat} {x : Row} (hR : R i x) : KM N U lo bb W turn deep seen ((x.v, x.n, x.xs) :: F) (fun j y => R j y ∧ j ≠ i) c V X := by
  obtain ⟨Z, r, fz, f, O, Q, A, hS, hb, hf, hr, hc, hv⟩ := h
  have hx := hr i x hR
  have ho := hS.sep.own i
  rw [hx.row] at ho
  have hs := hS.sep.freeze i [(x.v, x.n, x.xs)] (fun y hy => by
    rw [List.mem_singleton.1 hy, hx.row]
    exact RwZ.of_own ho)
  have hni : ∀ k, U k → ∀ j, Ix (Q k) (A k) j → j ≠ i := fun k hk j hj e => hx.no k hk (e ▸ hj)
  refine ⟨_, updR r i nilRow, _, f, O, Q, A, ⟨hS.bk, hS.nil, hS.uk, hs, fun k hk j hj => ?_, fun k hk => (hS.c k hk).rows (fun j _ hj3 => updR_ne _ _ (hni k hk j ?_)) (fun y hy => List.mem_cons_of_mem _ hy), hS.x, ?_⟩, hb, fun y hy => ?_, fun j y hj => ?_, hc, hv⟩
  · have := hS.uk k hk
    have := hx.big
    rw [updR_ne _ _ (by omega)]
    exact hS.sp k hk j hj
  · rcases hj3 with h3 | h3 | ⟨q, hq, -⟩
    · exact .inl h3
    · exact .inr h3
    · cases hq
  · obtain ⟨M, hM⟩ := hS.fin
    exact ⟨max M (i + 1), fun j hj => (updR_ne _ _ (by omega)).trans (hM j (by omega))⟩
  · rcases List.mem_cons.1 hy with rfl | hy
    · exact List.mem_cons_self ..
    · exact List.mem_cons_of_mem _ (hf y hy)
  · have h0 := hr j y hj.1
    exact ⟨h0.big, (updR_ne _ _ hj.2).trans h0.row, h0.pos, h0.no⟩
end
/-- A copy that is made on the spot. -/
theorem run_copy {P : Program} (w : World) (t ty e : TypeId) (i : TypeInfo) (z : Value) (size bytes : Nat) (ht : P.underlying t = some (.slice e)) (hi : P.info? e = some i) (hz : i.zero = some z)
    (hsize : i.size = size) (hby : i.bytes = bytes) (hzs : z.cells.size = size) (hsz : 0 < size) {lo n : Nat} {v : Value} {L : List Value} (ho : w.ownsRow lo e size v n L) (h1 : ∀ u ∈ L, u.oneCell' = true) (h63 : n ≤ 1000000) (hbytes : bytes ≤ 1000000) :
    ∃ v' w', (Builtin.append_ #[t, t] ty #[.slice none 0 0, v]).run P w = .ok v' w' ∧ w'.ownsRow w.heap.size e size v' n L ∧ Below w.heap.size w w' := by
  have h0 : w.ownsRow w.heap.size e size (.slice none 0 0) 0 [] := World.ownsRow_nil _ _ _ _
  have hL := ho.1
  have ho' := ho
  obtain ⟨-, ⟨rfl, hn⟩ | ⟨g, cap, cur, rfl, hb, r, -⟩⟩ := ho'
  · subst hn
    have hL0 : L = [] := List.length_eq_zero_iff.1 (by rw [hL, Nat.zero_mul])
    subst hL0
    exact ⟨_, w, run_append_owned_none (P := P) (w := w) w.heap.size t ty e i size ht hi (.slice none 0 0) 0 [] h0, h0, Below.refl _ _⟩
  · obtain ⟨v', w', h2, h3, h4, -⟩ := append_keeps (P := P) w w.heap.size t ty e i z size bytes ht hi hz hsize hby hzs hsz (.slice none 0 0) 0 [] h0 ⟨g, 0, none⟩ n cap L hL (fun j u hu => by
      rw [show ((⟨g, 0, none⟩ : Addr).add j) = ⟨g, j, none⟩ by cases j <;> simp [Addr.add]]
      exact (ho.cellAt j (by have := (List.getElem?_eq_some_iff.1 hu).1; omega)).trans hu) h1 (by unfold maxLen; omega) (by rw [Nat.zero_add]; exact Nat.le_trans (Nat.mul_le_mul h63 hbytes) (by decide)) (Nat.le_refl _)
    rw [Nat.zero_add, List.nil_append] at h3
    exact ⟨v', w', h2, h3, ⟨h4.os, h4.tape, h4.output, h4.size, fun k hk => h4.block k hk (fun e => by cases e)⟩⟩
theorem step_copy {P : Program} {ops : Array Oper} {o : Oper} {a : Act} (w : World) {K : Act → World → Prop} {Q : Exit → Act → World → Prop} {E : Prop}
    (hg : o.guard = none) (x : Operand) (t : TypeId) (ho : o.op = .call { callee := .builtin .append, args := #[.const (.slice none 0 0), x], argTypes := #[t, t] })
    (e : TypeId) (i : TypeInfo) (z : Value) (size bytes : Nat) (ht : P.underlying t = some (.slice e)) (hi : P.info? e = some i) (hz : i.zero = some z)
    (hsize : i.size = size) (hby : i.bytes = bytes) (hzs : z.cells.size = size) (hsz : 0 < size) {lo n : Nat} {L : List Value} (v : Value) (hx : a.eval x = v) (hv : w.ownsRow lo e size v n L) (h1 : ∀ u ∈ L, u.oneCell' = true) (h63 : n ≤ 1000000) (hbytes : bytes ≤ 1000000)
    (h : ∀ v' w', w'.ownsRow w.heap.size e size v' n L → Below w.heap.size w w' → K (a.put o.dst v') w') : if Region.wanted o (yielded ops a.tmps) = true then Oper.wp P o a w K Q else E := by
  rw [if_pos (by simp [Region.wanted, hg])]
  obtain ⟨v', w', hr, h2, h3⟩ := run_copy (P := P) w t o.type e i z size bytes ht hi hz hsize hby hzs hsz hv h1 h63 hbytes
  unfold Oper.wp execOp
  have hc : a.eval (.const (.slice none 0 0)) = .slice none 0 0 := rfl
  simp only [ho, resolve, invoke, builtin, Sem.run_bind, Sem.run_pure, Result.andThen_ok, List.map_toArray, List.map_cons, List.map_nil, hc, hx, hr]
  exact h v' w' h2 h3
theorem wpList_copy {P : Program} (w : World) {ops : Array Oper} {rest : List Oper} {o : Oper} {a : Act} {Q : Exit → Act → World → Prop}
    (hg : o.guard = none) (x : Operand) (t : TypeId) (ho : o.op = .call { callee := .builtin .append, args := #[.const (.slice none 0 0), x], argTypes := #[t, t] })
    (e : TypeId) (i : TypeInfo) (z : Value) (size bytes : Nat) (ht : P.underlying t = some (.slice e)) (hi : P.info? e = some i) (hz : i.zero = some z)
    (hsize : i.size = size) (hby : i.bytes = bytes) (hzs : z.cells.size = size) (hsz : 0 < size) {lo n : Nat} {L : List Value} (v : Value) (hx : a.eval x = v) (hv : w.ownsRow lo e size v n L) (h1 : ∀ u ∈ L, u.oneCell' = true) (h63 : n ≤ 1000000) (hbytes : bytes ≤ 1000000)
    (h : ∀ v' w', w'.ownsRow w.heap.size e size v' n L → Below w.heap.size w w' → wpList P ops Q rest (a.put o.dst v') w') : wpList P ops Q (o :: rest) a w := by
  refine wpList_plain hg fun K hK => ?_
  obtain ⟨v', w', hr, h2, h3⟩ := run_copy (P := P) w t o.type e i z size bytes ht hi hz hsize hby hzs hsz hv h1 h63 hbytes
  unfold Oper.wp execOp
  have hc : a.eval (.const (.slice none 0 0)) = .slice none 0 0 := rfl
  simp only [ho, resolve, invoke, builtin, Sem.run_bind, Sem.run_pure, Result.andThen_ok, List.map_toArray, List.map_cons, List.map_nil, hc, hx, hr]
  exact hK _ _ (h v' w' h2 h3)
end Go.Proofs.YthmjkmdbggfiiaaGreatDoor.KB

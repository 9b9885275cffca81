import Derived.Test.YthmjkmdbggfiiaaGreatDoorKcD
/- The eight lists of a kind, one by one. -/
namespace Go.Proofs.YthmjkmdbggfiiaaGreatDoor.KB
open Go.RowKit
set_option linter.constructorNameAsVariable false

/-- The book with its eight lists of kind k, whatever is in them. -/
structure TkL (K : Kn) (k : Nat) (W : World) (lo bb : Nat) (Z : Nat → Prop) (r : Nat → Row) (fz : List (Value × Nat × List Value)) (turn deep : Int) (f : Nat → Nat → Value) (seen : Nat → Int) (xs : Nat → List Value) : Prop where
  kk : k < 24
  bk : BkAt W bb turn deep f seen
  sep : Sep W lo bb Z r fz
  sp : ∀ j, j < 8 → r (8 * k + j) = ⟨spT K j, 1, f k j, (xs j).length, xs j⟩
section
variable {K : Kn} {k : Nat} {W X D : World} {lo bb : Nat} {Z : Nat → Prop} {r : Nat → Row} {fz : List (Value × Nat × List Value)} {turn deep : Int} {f : Nat → Nat → Value} {seen : Nat → Int} {xs : Nat → List Value}
theorem BkAt.later (h : BkAt W bb turn deep f seen) (hD : Below W.heap.size W D) : BkAt D bb turn deep f seen := (hD.block _ h.lt).trans h
theorem TkL.later (h : TkL K k W lo bb Z r fz turn deep f seen xs) (hX : Below W.heap.size W X) : TkL K k X lo bb Z r fz turn deep f seen xs := ⟨h.kk, h.bk.later hX, h.sep.later hX, h.sp⟩
theorem TkL.own (h : TkL K k W lo bb Z r fz turn deep f seen xs) {j : Nat} (hj : j < 8) : ∃ a c, f k j = .slice a (xs j).length c ∧ W.cell? ⟨bb, 4 + 9 * k + j, none⟩ = some (.slice a (xs j).length c) ∧ W.ownsRow lo (spT K j) 1 (.slice a (xs j).length c) (xs j).length (xs j) ∧ W.frozen? ⟨bb, 4 + 9 * k + j, none⟩ = false := by
  have hk := h.kk
  have ho := h.sep.own (8 * k + j)
  rw [h.sp j hj] at ho
  obtain ⟨a, c, e, -⟩ := own_len ho
  simp only at e ho
  rw [e] at ho
  refine ⟨a, c, e, ?_, ho, h.bk.fz _⟩
  rw [← e]
  exact (h.bk.cell (by omega)).trans (congrArg some (bkC_at k j hj))
/-- One thing more in one of the lists. -/
theorem TkL.push (h : TkL K k W lo bb Z r fz turn deep f seen xs) (hlo : lo ≤ W.heap.size) {j : Nat} (hj : j < 8) {x v' : Value} {w' : World} (ho : w'.ownsRow lo (spT K j) 1 v' ((xs j).length + 1) (xs j ++ [x])) (hg : (W.alloc (.cells #[x] (spT K j))).grownBy w' (f k j).ownBlock) (hat : v'.ownBlock = (f k j).ownBlock ∨ v'.ownBlock = some (W.alloc (.cells #[x] (spT K j))).heap.size) {o : Nat} (heo : o = 4 + 9 * k + j) :
    TkL K k (w'.setCell ⟨bb, o, none⟩ v') lo bb Z (updR r (8 * k + j) ⟨spT K j, 1, v', (xs j).length + 1, xs j ++ [x]⟩) fz turn deep (upd f k j v') seen (updX xs j (xs j ++ [x])) ∧ w'.cell? ⟨bb, o, none⟩ = some (f k j) ∧ w'.frozen? ⟨bb, o, none⟩ = false ∧ Below lo W (w'.setCell ⟨bb, o, none⟩ v') ∧ ∀ b, Z b → (w'.setCell ⟨bb, o, none⟩ v').heap[b]? = W.heap[b]? := by
  obtain ⟨p1, p2, p3, p4, p5⟩ := KB.push h.bk h.sep (i := 8 * k + j) (k := k) (j := j) h.kk hj (h.sp j hj) ho hg hat (o := o) heo
  have hbb := h.sep.bl.1
  have hjlo : ∀ b, (f k j).ownBlock = some b → lo ≤ b ∧ ¬ Z b := fun b hb => ⟨(own_rowT (h.sep.own (8 * k + j)) (by rw [h.sp j hj]; exact hb)).1, (h.sep.rz (8 * k + j) b (by rw [h.sp j hj]; exact hb)).1⟩
  refine ⟨⟨h.kk, p1, p2, fun i hi => ?_⟩, p3, p4, p5.below hlo (fun b hb => hb.elim (fun e => (hjlo b e).1) (fun e => e ▸ hbb)), fun b hb => p5.block b (h.sep.zl b hb).2.1 (fun e => e.elim (fun e => (hjlo b e).2 hb) (fun e => (h.sep.zl b hb).2.2 e))⟩
  by_cases e : i = j
  · subst e
    rw [updR_same, updX, if_pos rfl, upd, if_pos ⟨rfl, rfl⟩, List.length_append]
    rfl
  · rw [updR_ne _ _ (by omega), updX, if_neg e, upd, if_neg (fun e' => e e'.2)]
    exact h.sp i hi
/-- One of the lists is emptied; its block stands from now on. -/
theorem TkL.clear (h : TkL K k W lo bb Z r fz turn deep f seen xs) {j : Nat} (hj : j < 8) {o : Nat} (heo : o = 4 + 9 * k + j) :
    TkL K k (W.setCell ⟨bb, o, none⟩ (.slice none 0 0)) lo bb (fun b => Z b ∨ (f k j).ownBlock = some b) (updR r (8 * k + j) ⟨spT K j, 1, .slice none 0 0, 0, []⟩) fz turn deep (upd f k j (.slice none 0 0)) seen (updX xs j []) := by
  have hrj : (r (8 * k + j)).v = f k j := by rw [h.sp j hj]
  have hs := (h.sep.freeze (8 * k + j) [] (fun x hx => by cases hx)).book o (.slice none 0 0)
  rw [hrj, List.nil_append] at hs
  have hs2 : Sep (W.setCell ⟨bb, o, none⟩ (.slice none 0 0)) lo bb (fun b => Z b ∨ (f k j).ownBlock = some b) (updR r (8 * k + j) ⟨spT K j, 1, .slice none 0 0, 0, []⟩) fz := by
    refine ⟨fun i => ?_, fun i q g hne e => ?_, fun i g e => ?_, hs.fz, hs.zl, hs.bl⟩
    · by_cases e : i = 8 * k + j
      · subst e
        rw [updR_same]
        exact World.ownsRow_nil _ _ _ _
      · have := hs.own i
        rw [updR_ne _ _ e] at this ⊢
        exact this
    · by_cases e1 : i = 8 * k + j
      · subst e1
        rw [updR_same] at e
        cases e
      · rw [updR_ne _ _ e1] at e
        by_cases e2 : q = 8 * k + j
        · subst e2
          rw [updR_same]
          exact fun e' => by cases e'
        · have := hs.dis i q g hne
          rw [updR_ne _ _ e1, updR_ne _ _ e2] at this
          rw [updR_ne _ _ e2]
          exact this e
    · by_cases e1 : i = 8 * k + j
      · subst e1
        rw [updR_same] at e
        cases e
      · rw [updR_ne _ _ e1] at e
        have := hs.rz i g
        rw [updR_ne _ _ e1] at this
        exact this e
  have hbk := h.bk.set h.kk hj (.slice none 0 0)
  rw [← heo] at hbk
  refine ⟨h.kk, hbk, hs2, fun i hi => ?_⟩
  by_cases e : i = j
  · subst e
    rw [updR_same, updX, if_pos rfl, upd, if_pos ⟨rfl, rfl⟩]
    rfl
  · rw [updR_ne _ _ (by omega), updX, if_neg e, upd, if_neg (fun e' => e e'.2)]
    exact h.sp i hi
/-- A copy that was made joins one of the lists of copies (the j-th). -/
theorem TkL.tell (h : TkL K k X lo bb Z r fz turn deep f seen xs) (hlo : lo ≤ X.heap.size) {i j : Nat} (hi : r i = nilRow) (hi8 : Out k i) (hj : j < 8) (hD : Below X.heap.size X D) {v : Value} {n : Nat} {L : List Value} (hov : D.ownsRow X.heap.size K.e K.z v n L) {v' : Value} {w' : World} (ho : w'.ownsRow lo (spT K j) 1 v' ((xs j).length + 1) (xs j ++ [v])) (hg : (D.alloc (.cells #[v] (spT K j))).grownBy w' (f k j).ownBlock) (hat : v'.ownBlock = (f k j).ownBlock ∨ v'.ownBlock = some (D.alloc (.cells #[v] (spT K j))).heap.size) :
    ∃ Z' r', TkL K k (w'.setCell ⟨bb, 4 + 9 * k + j, none⟩ v') lo bb Z' r' ((v, n, L) :: fz) turn deep (upd f k j v') seen (updX xs j (xs j ++ [v])) ∧ (∀ q, Out k q → r' q = r q) ∧ w'.cell? ⟨bb, 4 + 9 * k + j, none⟩ = some (f k j) ∧ w'.frozen? ⟨bb, 4 + 9 * k + j, none⟩ = false ∧ Below lo X (w'.setCell ⟨bb, 4 + 9 * k + j, none⟩ v') ∧ (∀ z, Z z → Z' z) ∧ ∀ b, Z b → (w'.setCell ⟨bb, 4 + 9 * k + j, none⟩ v').heap[b]? = X.heap[b]? := by
  have h1 := h.sep.add i (by rw [hi]; rfl) (x := ⟨K.e, K.z, v, n, L⟩) hD hov hlo
  have h2 := h1.freeze i [(v, n, L)] (fun x hx => by
    rw [List.mem_singleton.1 hx, updR_same]
    exact RwZ.of_own hov)
  have hkD : BkAt D bb turn deep f seen := h.bk.later hD
  have hrr : updR (updR r i ⟨K.e, K.z, v, n, L⟩) i nilRow = r := by
    funext q
    by_cases e : q = i
    · subst e
      rw [updR_same, hi]
    · rw [updR_ne _ _ e, updR_ne _ _ e]
  rw [hrr] at h2
  have hT : TkL K k D lo bb _ r ((v, n, L) :: fz) turn deep f seen xs := ⟨h.kk, hkD, h2, h.sp⟩
  obtain ⟨q1, q2, q3, q4, q5⟩ := hT.push (Nat.le_trans hlo hD.size) hj ho hg hat rfl
  exact ⟨_, _, q1, fun q hq => updR_ne _ _ (fun e => hq (by omega)), q2, q3, (hD.mono hlo).trans q4, fun z hz => .inl hz, fun b hb => (q5 b (.inl hb)).trans (hD.block b (h.sep.zl b hb).2.1)⟩
theorem Sep.say (h : Sep W lo bb Z r fz) {l : Value} {n : Nat} {L : List Value} (hl : RwZ W Z l n L) : Sep W lo bb Z r ((l, n, L) :: fz) := by
  refine ⟨h.own, h.dis, h.rz, fun x hx => ?_, h.zl, h.bl⟩
  rcases List.mem_cons.1 hx with rfl | hx
  · exact hl
  · exact h.fz x hx
theorem Sep.dropT (h : Sep W lo bb Z r fz) (i : Nat) (e : TypeId) (k : Nat) : Sep W lo bb Z (updR r i ⟨e, k, .slice none 0 0, 0, []⟩) fz := by
  refine ⟨fun j => ?_, fun j q g hne e' => ?_, fun j g e' => ?_, h.fz, h.zl, h.bl⟩
  · by_cases hj : j = i
    · subst hj
      rw [updR_same]
      exact World.ownsRow_nil _ _ _ _
    · rw [updR_ne _ _ hj]
      exact h.own j
  · by_cases hj : j = i
    · subst hj
      rw [updR_same] at e'
      cases e'
    · rw [updR_ne _ _ hj] at e'
      by_cases hk : q = i
      · subst hk
        rw [updR_same]
        exact fun e' => by cases e'
      · rw [updR_ne _ _ hk]
        exact h.dis j q g hne e'
  · by_cases hj : j = i
    · subst hj
      rw [updR_same] at e'
      cases e'
    · rw [updR_ne _ _ hj] at e'
      exact h.rz j g e'
/-- The row of a list that is being laid on: l's cells stay. -/
structure Lay (K : Kn) (W : World) (lo bb : Nat) (Z : Nat → Prop) (r : Nat → Row) (fz : List (Value × Nat × List Value)) (i : Nat) (l : Value) (n : Nat) (L : List Value) (g : Value) (m : Nat) (M : List Value) : Prop where
  sep : Sep W lo bb Z r fz
  row : r i = ⟨K.e, K.z, g, n + m, L ++ M⟩
  old : RwZ W (fun b => Z b ∨ g.ownBlock = some b) l n L
theorem Lay.one {i n m : Nat} {l : Value} {L : List Value} {g : Value} {M : List Value} (h : Lay K W lo bb Z r fz i l n L g m M) {x : List Value} {g' : Value} (ho : X.ownsRow lo K.e K.z g' (n + m + 1) ((L ++ M) ++ x)) (hg : W.grownBy X g.ownBlock) (hat : g'.ownBlock = g.ownBlock ∨ g'.ownBlock = some W.heap.size) (hkp : ∀ b j u, g.ownBlock = some b → (L ++ M)[j]? = some u → X.cell? ⟨b, j, none⟩ = some u) :
    ∃ Z' fz', Lay K X lo bb Z' (updR r i ⟨K.e, K.z, g', n + (m + 1), L ++ (M ++ x)⟩) fz' i l n L g' (m + 1) (M ++ x) ∧ (∀ z, Z z → Z' z) ∧ ∀ y ∈ fz, y ∈ fz' := by
  have hri : (r i).v = g := by rw [h.row]
  have hlen : n + (m + 1) = n + m + 1 := rfl
  have hcs : L ++ (M ++ x) = (L ++ M) ++ x := (List.append_assoc ..).symm
  have hG : GrS (fun k => g.ownBlock = some k) W X := .of_grown hg (fun k e => e)
  have hS := h.sep.app i (x := ⟨K.e, K.z, g', n + (m + 1), L ++ (M ++ x)⟩) (by rw [hcs]; exact ho) (by rw [hri]; exact hg) (by rw [hri]; exact hat)
  have hZg : ∀ b, Z b → ¬ g.ownBlock = some b := fun b hb e => (h.sep.rz i b (by rw [hri]; exact e)).1 hb
  have hpre : ∀ j u, L[j]? = some u → (L ++ M)[j]? = some u := fun j u hu => by
    rw [List.getElem?_append_left (List.getElem?_eq_some_iff.1 hu).1]
    exact hu
  obtain ⟨a, c, rfl, h0 | ⟨b, rfl, hz, hb, hc⟩⟩ := h.old
  · exact ⟨Z, fz, ⟨hS, updR_same _ _ _, _, c, rfl, .inl h0⟩, fun z hz => hz, fun y hy => hy⟩
  · rcases hz with hz | hz
    · exact ⟨Z, fz, ⟨hS, updR_same _ _ _, _, c, rfl, .inr ⟨b, rfl, .inl hz, Nat.lt_of_lt_of_le hb hG.size, fun j u hu => (hG.cell hb (hZg b hz)).trans (hc j u hu)⟩⟩, fun z hz => hz, fun y hy => hy⟩
    · have hcX : ∀ j u, L[j]? = some u → X.cell? ⟨b, j, none⟩ = some u := fun j u hu => hkp b j u hz (hpre j u hu)
      have hbX := Nat.lt_of_lt_of_le hb hG.size
      rcases hat with e | e
      · exact ⟨Z, fz, ⟨hS, updR_same _ _ _, _, c, rfl, .inr ⟨b, rfl, .inr (by rw [e]; exact hz), hbX, hcX⟩⟩, fun z hz => hz, fun y hy => hy⟩
      · have hlo := own_rowT (h.sep.own i) (by rw [hri]; exact hz)
        have hZ' := hS.addZ b ⟨hlo.1, hbX, (h.sep.rz i b (by rw [hri]; exact hz)).2⟩ (fun j e' => ?_) (.slice (some ⟨b, 0, none⟩) n c) n L ⟨_, c, rfl, .inr ⟨b, rfl, rfl, hbX, hcX⟩⟩
        · exact ⟨_, _, ⟨hZ', updR_same _ _ _, _, c, rfl, .inr ⟨b, rfl, .inl (.inr rfl), hbX, hcX⟩⟩, fun z hz => .inl hz, fun y hy => List.mem_cons_of_mem _ hy⟩
        · by_cases hj : j = i
          · subst hj
            rw [updR_same, e] at e'
            have := Option.some.inj e'
            omega
          · rw [updR_ne _ _ hj] at e'
            exact h.sep.dis i j b (fun e => hj e.symm) (by rw [hri]; exact hz) e'
theorem Lay.later {i n m : Nat} {l : Value} {L : List Value} {g : Value} {M : List Value} (h : Lay K W lo bb Z r fz i l n L g m M) (hX : Below W.heap.size W X) : Lay K X lo bb Z r fz i l n L g m M := ⟨h.sep.later hX, h.row, h.old.grS (U := fun _ => False) (.of_below hX) (fun _ _ h => h)⟩
/-- It is laid on: it stands, as the list does that it was made of. -/
theorem Lay.done {i n m : Nat} {l : Value} {L : List Value} {g : Value} {M : List Value} (h : Lay K W lo bb Z r fz i l n L g m M) : ∃ Z', (∀ z, Z z → Z' z) ∧ Sep W lo bb Z' (updR r i nilRow) ((g, n + m, L ++ M) :: (l, n, L) :: fz) := by
  have hri : (r i).v = g := by rw [h.row]
  have hf := h.sep.freeze i [] (fun x hx => by cases hx)
  rw [hri] at hf
  have ho := h.sep.own i
  rw [h.row] at ho
  exact ⟨_, fun z hz => .inl hz, (hf.say h.old).say ((RwZ.of_own ho).more (fun b hb => .inr hb))⟩
end
theorem step_app {P : Program} {ops : Array Oper} {o : Oper} {a : Act} (w : World) {K : Act → World → Prop} {Q : Exit → Act → World → Prop} {E : Prop}
    (hg : o.guard = none) (s x : Operand) (t : TypeId) (ho : o.op = .call { callee := .builtin .append, args := #[s, x], argTypes := #[t, t] })
    (base : Nat) (e : TypeId) (i : TypeInfo) (z : Value) (size bytes : Nat) (ht : P.underlying t = some (.slice e)) (hi : P.info? e = some i) (hz : i.zero = some z)
    (hsize : i.size = size) (hby : i.bytes = bytes) (hzs : z.cells.size = size) (hsz : 0 < size)
    (v : Value) (n : Nat) (xs : List Value) (hs : a.eval s = v) (hown : w.ownsRow base e size v n xs)
    (ad : Addr) (m c : Nat) (news : List Value) (hx : a.eval x = .slice (some ad) m c) (hl : news.length = m * size) (hnews : ∀ j u, news[j]? = some u → w.cell? (ad.add j) = some u) (h1 : ∀ u ∈ news, u.oneCell' = true)
    (h63 : n + m ≤ maxLen) (hbytes : (n + m) * bytes ≤ 140737488355328) (hbase : base ≤ w.heap.size)
    (h : ∀ v' w', w'.ownsRow base e size v' (n + m) (xs ++ news) → w.grownBy w' v.ownBlock → (v'.ownBlock = v.ownBlock ∨ v'.ownBlock = some w.heap.size) → (∀ g j u, v.ownBlock = some g → xs[j]? = some u → w'.cell? ⟨g, j, none⟩ = some u) → K (a.put o.dst v') w') : if Region.wanted o (yielded ops a.tmps) = true then Oper.wp P o a w K Q else E := by
  rw [if_pos (by simp [Region.wanted, hg])]
  obtain ⟨v', w', hr, h2, h3, h4, h5⟩ := append_keeps (P := P) w base t o.type e i z size bytes ht hi hz hsize hby hzs hsz v n xs hown ad m c news hl hnews h1 h63 hbytes hbase
  unfold Oper.wp execOp
  simp only [ho, resolve, invoke, builtin, Sem.run_bind, Sem.run_pure, Result.andThen_ok, List.map_toArray, List.map_cons, List.map_nil, hs, hx, hr]
  exact h v' w' h2 h3 h4 h5
theorem wpList_app {P : Program} (w : World) {ops : Array Oper} {rest : List Oper} {o : Oper} {a : Act} {Q : Exit → Act → World → Prop} (hgd : o.guard = none) (s x : Operand) (t : TypeId)
    (ho : o.op = .call { callee := .builtin .append, args := #[s, x], argTypes := #[t, t] })
    (base : Nat) (e : TypeId) (i : TypeInfo) (z : Value) (size bytes : Nat) (ht : P.underlying t = some (.slice e)) (hi : P.info? e = some i) (hz : i.zero = some z)
    (hsize : i.size = size) (hby : i.bytes = bytes) (hzs : z.cells.size = size) (hsz : 0 < size)
    (v : Value) (n : Nat) (xs : List Value) (hs : a.eval s = v) (hown : w.ownsRow base e size v n xs)
    (ad : Addr) (m c : Nat) (news : List Value) (hx : a.eval x = .slice (some ad) m c) (hl : news.length = m * size) (hnews : ∀ j u, news[j]? = some u → w.cell? (ad.add j) = some u) (h1 : ∀ u ∈ news, u.oneCell' = true)
    (h63 : n + m ≤ maxLen) (hbytes : (n + m) * bytes ≤ 140737488355328) (hbase : base ≤ w.heap.size)
    (h : ∀ v' w', w'.ownsRow base e size v' (n + m) (xs ++ news) → w.grownBy w' v.ownBlock → (v'.ownBlock = v.ownBlock ∨ v'.ownBlock = some w.heap.size) → (∀ g j u, v.ownBlock = some g → xs[j]? = some u → w'.cell? ⟨g, j, none⟩ = some u) → wpList P ops Q rest (a.put o.dst v') w') :
    wpList P ops Q (o :: rest) a w := by
  refine wpList_plain hgd fun K hK => ?_
  obtain ⟨v', w', hr, h2, h3, h4, h5⟩ := append_keeps (P := P) w base t o.type e i z size bytes ht hi hz hsize hby hzs hsz v n xs hown ad m c news hl hnews h1 h63 hbytes hbase
  unfold Oper.wp execOp
  simp only [ho, resolve, invoke, builtin, Sem.run_bind, Sem.run_pure, Result.andThen_ok, List.map_toArray, List.map_cons, List.map_nil, hs, hx, hr]
  exact hK _ _ (h v' w' h2 h3 h4 h5)
/-- append(v, nil...) is v. -/
theorem step_none {P : Program} {ops : Array Oper} {o : Oper} {a : Act} (w : World) {K : Act → World → Prop} {Q : Exit → Act → World → Prop} {E : Prop}
    (hg : o.guard = none) (s x : Operand) (t : TypeId) (ho : o.op = .call { callee := .builtin .append, args := #[s, x], argTypes := #[t, t] })
    (base : Nat) (e : TypeId) (i : TypeInfo) (size : Nat) (ht : P.underlying t = some (.slice e)) (hi : P.info? e = some i)
    (v : Value) (n : Nat) (xs : List Value) (hs : a.eval s = v) (hown : w.ownsRow base e size v n xs) (hx : a.eval x = .slice none 0 0)
    (h : K (a.put o.dst v) w) : if Region.wanted o (yielded ops a.tmps) = true then Oper.wp P o a w K Q else E := by
  rw [if_pos (by simp [Region.wanted, hg])]
  have hr := run_append_owned_none (P := P) (w := w) base t o.type e i size ht hi v n xs hown
  unfold Oper.wp execOp
  simp only [ho, resolve, invoke, builtin, Sem.run_bind, Sem.run_pure, Result.andThen_ok, List.map_toArray, List.map_cons, List.map_nil, hs, hx, hr]
  exact h
/-- An empty list that is made on the spot is a row of its own. -/
theorem empty_own (w : World) (e : TypeId) (k : Nat) : (w.alloc (.cells #[] e)).ownsRow w.heap.size e k (.slice (some ⟨w.heap.size, 0, none⟩) 0 0) 0 [] := by
  refine ⟨by simp, .inr ⟨w.heap.size, 0, #[], rfl, Nat.le_refl _, heap_alloc_new w _, Nat.le_refl _, by unfold maxLen; omega, by simp, by simp⟩⟩
/-- A copy of a list, made at the place of an empty one. -/
theorem copied_own {w w' : World} {e : TypeId} {z n : Nat} {L : List Value} {v' : Value} (ho : w'.ownsRow w.heap.size e z v' (0 + n) ([] ++ L)) (hg : (w.alloc (.cells #[] e)).grownBy w' (some w.heap.size)) : w'.ownsRow w.heap.size e z v' n L ∧ Below w.heap.size w w' := by
  rw [Nat.zero_add, List.nil_append] at ho
  refine ⟨ho, ?_⟩
  have hA : Below w.heap.size w (w.alloc (.cells #[] e)) := (Below.refl _ _).alloc (Nat.le_refl _) _
  exact hA.trans ((GrS.of_grown hg (fun k e => e) : GrS (fun k => some w.heap.size = some k) _ _).below hA.size (fun k e => by rw [← Option.some.inj e]; exact Nat.le_refl _))
theorem cell_heap {W X : World} {b o : Nat} (h : X.heap[b]? = W.heap[b]?) : X.cell? ⟨b, o, none⟩ = W.cell? ⟨b, o, none⟩ := by simp only [World.cell?, h]
theorem drewN_below (w : World) (n : Nat) : Below w.heap.size w (w.drewN n) := by
  induction n with
  | zero => exact Below.refl _ _
  | succ n ih => exact ih.drew
end Go.Proofs.YthmjkmdbggfiiaaGreatDoor.KB

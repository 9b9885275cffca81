import Derived.Test.YtekapipfaahhcaaGreatDoorJoin49
import Derived.Laws.AppendOwnNone
import Derived.Deep.RegionHeldLaw
import Derived.Deep.RegionLaw
import Derived.BigQuiet
/- What is laid behind a list of the book. -/
namespace Go.Proofs.YtekapipfaahhcaaGreatDoor.KB
open Go.RowKit
set_option linter.constructorNameAsVariable false

section
variable {W X : World} {lo bb : Nat} {Z : Nat → Prop} {r : Nat → Row} {fz : List (Value × List Tk)} {turn deep : Int} {f : Nat → Nat → Value} {seen : Nat → Int}
theorem BkAt.grS {U : Nat → Prop} (h : BkAt W bb turn deep f seen) (hg : GrS U W X) (hb : ¬ U bb) : BkAt X bb turn deep f seen := (hg.block bb h.lt hb).trans h
theorem bkC_at (k j : Nat) (hj : j < 8) : bkC turn deep f seen (4 + 9 * k + j) = f k j := by
  unfold bkC
  rw [if_neg (by omega), if_neg (by omega), if_neg (by omega), if_neg (by omega), if_neg (by omega)]
  congr 1 <;> omega
/-- One thing more in one of the book's lists. -/
theorem push (hk : BkAt W bb turn deep f seen) (hs : Sep W lo bb Z r fz) {i k j n : Nat} {e : TypeId} {xs : List Value} (hk24 : k < 24) (hj8 : j < 8) (hr : r i = ⟨e, 1, f k j, n, xs⟩) {x v' : Value} {w' : World} (ho : w'.ownsRow lo e 1 v' (n + 1) (xs ++ [x])) (hg : (W.alloc (.cells #[x] e)).grownBy w' (f k j).ownBlock) (hat : v'.ownBlock = (f k j).ownBlock ∨ v'.ownBlock = some (W.alloc (.cells #[x] e)).heap.size) {o : Nat} (heo : o = 4 + 9 * k + j) :
    BkAt (w'.setCell ⟨bb, o, none⟩ v') bb turn deep (upd f k j v') seen ∧ Sep (w'.setCell ⟨bb, o, none⟩ v') lo bb Z (updR r i ⟨e, 1, v', n + 1, xs ++ [x]⟩) fz ∧ w'.cell? ⟨bb, o, none⟩ = some (f k j) ∧ w'.frozen? ⟨bb, o, none⟩ = false ∧ GrS (fun b => (f k j).ownBlock = some b ∨ b = bb) W (w'.setCell ⟨bb, o, none⟩ v') := by
  subst heo
  have hA : Below W.heap.size W (W.alloc (.cells #[x] e)) := (Below.refl _ _).alloc (Nat.le_refl _) _
  have hsA := hs.later hA
  have hri : (r i).v = f k j := by rw [hr]
  have hG : GrS (fun b => (f k j).ownBlock = some b) (W.alloc (.cells #[x] e)) w' := .of_grown hg (fun b e => e)
  have hnb : ¬ (f k j).ownBlock = some bb := fun e' => (hs.rz i bb (by rw [hri]; exact e')).2 rfl
  have hkA : BkAt (W.alloc (.cells #[x] e)) bb turn deep f seen := (hA.block _ hk.lt).trans hk
  have hk' : BkAt w' bb turn deep f seen := hkA.grS hG hnb
  have hs' := hsA.app i (x := ⟨e, 1, v', n + 1, xs ++ [x]⟩) ho (by rw [hri]; exact hg) (by rw [hri]; exact hat)
  refine ⟨hk'.set hk24 hj8 v', hs'.book _ _, (hk'.cell (by omega)).trans (congrArg some (bkC_at k j hj8)), hk'.fz _, ?_⟩
  exact ((GrS.of_below hA).trans (hG.mono (fun b _ e => .inl e))).trans ((grS_set w' bb _ v').mono (fun b _ e => .inr e))
/-- A block stands from now on. -/
theorem Sep.addZ (h : Sep X lo bb Z r fz) (b : Nat) (hb : lo ≤ b ∧ b < X.heap.size ∧ b ≠ bb) (hd : ∀ i, (r i).v.ownBlock ≠ some b) (l : Value) (L : List Tk) (hl : RwZ X (fun z => z = b) l L) : Sep X lo bb (fun z => Z z ∨ z = b) r ((l, L) :: fz) := by
  refine ⟨h.own, h.dis, fun i g e => ⟨fun hz => hz.elim (h.rz i g e).1 (fun e' => hd i (by rw [e, e'])), (h.rz i g e).2⟩, fun x hx => ?_, fun z hz => ?_, h.bl⟩
  · rcases List.mem_cons.1 hx with rfl | hx
    · exact hl.more (fun z hz => .inr hz)
    · exact (h.fz x hx).more (fun z hz => .inl hz)
  · rcases hz with hz | rfl
    · exact h.zl z hz
    · exact hb
end
theorem infoTk : (Tryz.prog.info? 66).map (fun i => (i.zero, i.size, i.bytes)) = some (some (.agg #[.int .i64 0, .int .i64 0, .string "".toUTF8, .int .i64 0, .int .i64 0]), 5, 48) := by kernel_rfl
theorem infoTs : (Tryz.prog.info? 51).map (fun i => (i.zero, i.size, i.bytes)) = some (some (.slice none 0 0), 1, 24) := by kernel_rfl
theorem infoIn : (Tryz.prog.info? 3).map (fun i => (i.zero, i.size, i.bytes)) = some (some (.int .i64 0), 1, 8) := by kernel_rfl
theorem info_parts {P : Program} {t : TypeId} {z : Value} {s b : Nat} (h : (P.info? t).map (fun i => (i.zero, i.size, i.bytes)) = some (some z, s, b)) : ∃ i, P.info? t = some i ∧ i.zero = some z ∧ i.size = s ∧ i.bytes = b := by
  cases hi : P.info? t with
  | none => rw [hi] at h; cases h
  | some i =>
    rw [hi] at h
    simp at h
    exact ⟨i, rfl, h.1, h.2.1, h.2.2⟩

set_option maxRecDepth 4000 in
theorem due_any {W : World} {bb : Nat} {turn deep : Int} {f : Nat → Nat → Value} {seen : Nat → Int} (h : BkAt W bb turn deep f seen) (n : Int) : Calls Tryz.prog 12 #[.pointer (some ⟨bb, 0, none⟩), .int .i64 n] W fun e w' => ∃ d : Int, e = .returned (.int .i64 d) ∧ w' = W := by
  have c0 : W.cell? ⟨bb, 0, none⟩ = some (.bool false) := h.cell (i := 0) (by decide)
  have c2 : W.cell? ⟨bb, 2, none⟩ = some (.int .i64 turn) := h.cell (i := 2) (by decide)
  clear h
  by_cases h0 : (Int.tmod n 3 == 0) = true
  · go_enter Tryz.func12, Tryz.ntmps12
    go_wp2
    go_ret
    exact ⟨_, rfl, rfl⟩
  · have h0' : (Int.tmod n 3 == 0) = false := by simpa using h0
    clear h0
    by_cases h1 : (Int.tmod n 3 == 1) = true
    · go_enter Tryz.func12, Tryz.ntmps12
      go_wp2
      go_ret
      exact ⟨_, rfl, rfl⟩
    · have h1' : (Int.tmod n 3 == 1) = false := by simpa using h1
      clear h1
      go_enter Tryz.func12, Tryz.ntmps12
      go_wp2
      go_ret
      exact ⟨_, rfl, rfl⟩
end Go.Proofs.YtekapipfaahhcaaGreatDoor.KB


/- Lists that have been written full and are laid on. -/
namespace Go.Proofs.YtekapipfaahhcaaGreatDoor.KB
open Go.RowKit
set_option linter.constructorNameAsVariable false

/-- A list that is to be laid on: its row's number, what it shows, its mark. -/
structure Fr where
  i : Nat
  v : Value
  L : List Tk
  m : Int
/-- The book's tokens while lists are written and laid on. A: fresh; B: those of them that are not laid on yet; C: how many of the written ones have been told. -/
structure TkG (W : World) (lo bb : Nat) (Z : Nat → Prop) (r : Nat → Row) (fz : List (Value × List Tk)) (turn deep : Int) (f : Nat → Nat → Value) (seen : Nat → Int) (O : List Ot) (Q : List Wt) (A B : List Fr) : Prop where
  bk : BkAt W bb turn deep f seen
  nil : ∀ k, k ≠ 7 → Nil f k
  sep : Sep W lo bb Z r fz
  s0 : r 0 = ⟨51, 1, f 7 0, O.length, O.map (·.v)⟩
  s1 : r 1 = ⟨51, 1, f 7 1, O.length, O.map (·.t)⟩
  s2 : r 2 = ⟨51, 1, f 7 2, Q.length, Q.map (·.v)⟩
  s3 : r 3 = ⟨51, 1, f 7 3, Q.length, Q.map (·.c)⟩
  s4 : r 4 = ⟨51, 1, f 7 4, A.length, A.map (·.v)⟩
  s5 : r 5 = ⟨3, 1, f 7 5, Q.length, intV (Q.map (·.m))⟩
  s6 : r 6 = ⟨3, 1, f 7 6, Q.length, intV (Q.map (·.d))⟩
  s7 : r 7 = ⟨3, 1, f 7 7, A.length, intV (A.map (·.m))⟩
  cO : ∀ o ∈ O, ((o.v, o.L) ∈ fz ∨ ∃ b ∈ B, b.v = o.v ∧ b.L = o.L) ∧ (o.t, o.L) ∈ fz
  cQ : ∀ q ∈ Q, 8 ≤ q.i ∧ r q.i = ⟨66, 5, q.v, q.L.length, tkLs q.L⟩ ∧ (q.c, q.L) ∈ fz
  cB : ∀ b ∈ B, 8 ≤ b.i ∧ r b.i = ⟨66, 5, b.v, b.L.length, tkLs b.L⟩
  dQ : (B.map (·.i) ++ Q.map (·.i)).Nodup
  lO : ∀ o ∈ O, o.L.length ≤ 100000
  lQ : ∀ q ∈ Q, q.L.length ≤ 90000
  lB : ∀ b ∈ B, b.L.length ≤ 90000
  fin : ∃ N, ∀ i, N ≤ i → r i = nilRow
section
variable {W X : World} {lo bb : Nat} {Z : Nat → Prop} {r : Nat → Row} {fz : List (Value × List Tk)} {turn deep : Int} {f : Nat → Nat → Value} {seen : Nat → Int} {O : List Ot} {Q : List Wt} {A B : List Fr}
theorem Sep.say (h : Sep W lo bb Z r fz) {l : Value} {L : List Tk} (hl : RwZ W Z l L) : Sep W lo bb Z r ((l, L) :: fz) := by
  refine ⟨h.own, h.dis, h.rz, fun x hx => ?_, h.zl, h.bl⟩
  rcases List.mem_cons.1 hx with rfl | hx
  · exact hl
  · exact h.fz x hx
/-- The row of a list that is being laid on: l's cells stay. -/
structure Lay (W : World) (lo bb : Nat) (Z : Nat → Prop) (r : Nat → Row) (fz : List (Value × List Tk)) (i : Nat) (l : Value) (L : List Tk) (g : Value) (M : List Tk) : Prop where
  sep : Sep W lo bb Z r fz
  row : r i = ⟨66, 5, g, (L ++ M).length, tkLs (L ++ M)⟩
  old : RwZ W (fun b => Z b ∨ g.ownBlock = some b) l L
theorem Lay.one {i : Nat} {l : Value} {L : List Tk} {g : Value} {M : List Tk} (h : Lay W lo bb Z r fz i l L g M) {x : Tk} {g' : Value} (ho : X.ownsRow lo 66 5 g' ((L ++ M).length + 1) (tkLs (L ++ M) ++ tkL x)) (hg : W.grownBy X g.ownBlock) (hat : g'.ownBlock = g.ownBlock ∨ g'.ownBlock = some W.heap.size) (hkp : ∀ b j u, g.ownBlock = some b → (tkLs (L ++ M))[j]? = some u → X.cell? ⟨b, j, none⟩ = some u) :
    ∃ Z' fz', Lay X lo bb Z' (updR r i ⟨66, 5, g', (L ++ (M ++ [x])).length, tkLs (L ++ (M ++ [x]))⟩) fz' i l L g' (M ++ [x]) ∧ (∀ z, Z z → Z' z) ∧ ∀ y ∈ fz, y ∈ fz' := by
  have hri : (r i).v = g := by rw [h.row]
  have hlen : (L ++ (M ++ [x])).length = (L ++ M).length + 1 := by simp; omega
  have hcs : tkLs (L ++ (M ++ [x])) = tkLs (L ++ M) ++ tkL x := by rw [← List.append_assoc, tkLs_app]; simp [tkLs]
  have hG : GrS (fun k => g.ownBlock = some k) W X := .of_grown hg (fun k e => e)
  have hS := h.sep.app i (x := ⟨66, 5, g', (L ++ (M ++ [x])).length, tkLs (L ++ (M ++ [x]))⟩) (by rw [hlen, hcs]; exact ho) (by rw [hri]; exact hg) (by rw [hri]; exact hat)
  have hZg : ∀ b, Z b → ¬ g.ownBlock = some b := fun b hb e => (h.sep.rz i b (by rw [hri]; exact e)).1 hb
  have hpre : ∀ j u, (tkLs L)[j]? = some u → (tkLs (L ++ M))[j]? = some u := fun j u hu => by
    rw [tkLs_app, List.getElem?_append_left (List.getElem?_eq_some_iff.1 hu).1]
    exact hu
  obtain ⟨a, c, rfl, h0 | ⟨b, rfl, hz, hb, hc⟩⟩ := h.old
  · exact ⟨Z, fz, ⟨hS, updR_same _ _ _, _, c, rfl, .inl h0⟩, fun z hz => hz, fun y hy => hy⟩
  · rcases hz with hz | hz
    · exact ⟨Z, fz, ⟨hS, updR_same _ _ _, _, c, rfl, .inr ⟨b, rfl, .inl hz, Nat.lt_of_lt_of_le hb hG.size, fun j u hu => (hG.cell hb (hZg b hz)).trans (hc j u hu)⟩⟩, fun z hz => hz, fun y hy => hy⟩
    · have hcX : ∀ j u, (tkLs L)[j]? = some u → X.cell? ⟨b, j, none⟩ = some u := fun j u hu => hkp b j u hz (hpre j u hu)
      have hbX := Nat.lt_of_lt_of_le hb hG.size
      rcases hat with e | e
      · exact ⟨Z, fz, ⟨hS, updR_same _ _ _, _, c, rfl, .inr ⟨b, rfl, .inr (by rw [e]; exact hz), hbX, hcX⟩⟩, fun z hz => hz, fun y hy => hy⟩
      · have hlo := own_rowT (h.sep.own i) (by rw [hri]; exact hz)
        have hZ' := hS.addZ b ⟨hlo.1, hbX, (h.sep.rz i b (by rw [hri]; exact hz)).2⟩ (fun j e' => ?_) (.slice (some ⟨b, 0, none⟩) L.length c) L ⟨_, c, rfl, .inr ⟨b, rfl, rfl, hbX, hcX⟩⟩
        · exact ⟨_, _, ⟨hZ', updR_same _ _ _, _, c, rfl, .inr ⟨b, rfl, .inl (.inr rfl), hbX, hcX⟩⟩, fun z hz => .inl hz, fun y hy => List.mem_cons_of_mem _ hy⟩
        · by_cases hj : j = i
          · subst hj
            rw [updR_same, e] at e'
            have := Option.some.inj e'
            omega
          · rw [updR_ne _ _ hj] at e'
            exact h.sep.dis i j b (fun e => hj e.symm) (by rw [hri]; exact hz) e'
theorem Lay.later {i : Nat} {l : Value} {L : List Tk} {g : Value} {M : List Tk} (h : Lay W lo bb Z r fz i l L g M) (hX : Below W.heap.size W X) : Lay X lo bb Z r fz i l L g M := ⟨h.sep.later hX, h.row, h.old.grS (U := fun _ => False) (.of_below hX) (fun _ _ h => h)⟩
/-- It is laid on: it stands, as the list does that it was made of. -/
theorem Lay.done {i : Nat} {l : Value} {L : List Tk} {g : Value} {M : List Tk} (h : Lay W lo bb Z r fz i l L g M) : ∃ Z', Sep W lo bb Z' (updR r i nilRow) ((g, L ++ M) :: (l, L) :: fz) := by
  have hri : (r i).v = g := by rw [h.row]
  have hf := h.sep.freeze i [] (fun x hx => by cases hx)
  rw [hri] at hf
  have ho := h.sep.own i
  rw [h.row] at ho
  exact ⟨_, (hf.say h.old).say ((RwZ.of_own ho).more (fun b hb => .inr hb))⟩
end
theorem step_app {P : Program} {ops : Array Oper} {o : Oper} {a : Act} (w : World) {K : Act → World → Prop} {Q : Exit → Act → World → Prop} {E : Prop}
    (hg : o.guard = none) (s x : Operand) (t : TypeId) (ho : o.op = .call { callee := .builtin .append, args := #[s, x], argTypes := #[t, t] })
    (base : Nat) (e : TypeId) (i : TypeInfo) (z : Value) (size bytes : Nat) (ht : P.underlying t = some (.slice e)) (hi : P.info? e = some i) (hz : i.zero = some z)
    (hsize : i.size = size) (hby : i.bytes = bytes) (hzs : z.cells.size = size) (hsz : 0 < size)
    (v : Value) (n : Nat) (xs : List Value) (hs : a.eval s = v) (hown : w.ownsRow base e size v n xs)
    (ad : Addr) (m c : Nat) (news : List Value) (hx : a.eval x = .slice (some ad) m c) (hl : news.length = m * size) (hnews : ∀ j u, news[j]? = some u → w.cell? (ad.add j) = some u) (h1 : ∀ u ∈ news, u.oneCell' = true)
    (h63 : n + m ≤ maxLen) (hbytes : (n + m) * bytes ≤ 140737488355328) (hbase : base ≤ w.heap.size)
    (h : ∀ v' w', w'.ownsRow base e size v' (n + m) (xs ++ news) → w.grownBy w' v.ownBlock → (v'.ownBlock = v.ownBlock ∨ v'.ownBlock = some w.heap.size) → (∀ g j u, v.ownBlock = some g → xs[j]? = some u → w'.cell? ⟨g, j, none⟩ = some u) → K (a.put o.dst v') w') : if Region.wanted o (yielded ops a.tmps) = true then Oper.wp P o a w K Q else E := by
  rw [if_pos (by simp [Region.wanted, hg])]
  obtain ⟨v', w', hr, h2, h3, h4, h5⟩ := append_keeps (P := P) w base t o.type e i z size bytes ht hi hz hsize hby hzs hsz v n xs hown ad m c news hl hnews h1 h63 hbytes hbase
  unfold Oper.wp execOp
  simp only [ho, resolve, invoke, builtin, Sem.run_bind, Sem.run_pure, Result.andThen_ok, List.map_toArray, List.map_cons, List.map_nil, hs, hx, hr]
  exact h v' w' h2 h3 h4 h5
theorem wpList_app {P : Program} (w : World) {ops : Array Oper} {rest : List Oper} {o : Oper} {a : Act} {Q : Exit → Act → World → Prop} (hgd : o.guard = none) (s x : Operand) (t : TypeId)
    (ho : o.op = .call { callee := .builtin .append, args := #[s, x], argTypes := #[t, t] })
    (base : Nat) (e : TypeId) (i : TypeInfo) (z : Value) (size bytes : Nat) (ht : P.underlying t = some (.slice e)) (hi : P.info? e = some i) (hz : i.zero = some z)
    (hsize : i.size = size) (hby : i.bytes = bytes) (hzs : z.cells.size = size) (hsz : 0 < size)
    (v : Value) (n : Nat) (xs : List Value) (hs : a.eval s = v) (hown : w.ownsRow base e size v n xs)
    (ad : Addr) (m c : Nat) (news : List Value) (hx : a.eval x = .slice (some ad) m c) (hl : news.length = m * size) (hnews : ∀ j u, news[j]? = some u → w.cell? (ad.add j) = some u) (h1 : ∀ u ∈ news, u.oneCell' = true)
    (h63 : n + m ≤ maxLen) (hbytes : (n + m) * bytes ≤ 140737488355328) (hbase : base ≤ w.heap.size)
    (h : ∀ v' w', w'.ownsRow base e size v' (n + m) (xs ++ news) → w.grownBy w' v.ownBlock → (v'.ownBlock = v.ownBlock ∨ v'.ownBlock = some w.heap.size) → (∀ g j u, v.ownBlock = some g → xs[j]? = some u → w'.cell? ⟨g, j, none⟩ = some u) → wpList P ops Q rest (a.put o.dst v') w') :
    wpList P ops Q (o :: rest) a w := by
  refine wpList_plain hgd fun K hK => ?_
  obtain ⟨v', w', hr, h2, h3, h4, h5⟩ := append_keeps (P := P) w base t o.type e i z size bytes ht hi hz hsize hby hzs hsz v n xs hown ad m c news hl hnews h1 h63 hbytes hbase
  unfold Oper.wp execOp
  simp only [ho, resolve, invoke, builtin, Sem.run_bind, Sem.run_pure, Result.andThen_ok, List.map_toArray, List.map_cons, List.map_nil, hs, hx, hr]
  exact hK _ _ (h v' w' h2 h3 h4 h5)
end Go.Proofs.YtekapipfaahhcaaGreatDoor.KB


/- A copy that is told. -/
namespace Go.Proofs.YtekapipfaahhcaaGreatDoor.KB
open Go.RowKit
set_option linter.constructorNameAsVariable false

section
variable {W D : World} {lo bb : Nat} {Z : Nat → Prop} {r : Nat → Row} {fz : List (Value × List Tk)} {turn deep : Int} {f : Nat → Nat → Value} {seen : Nat → Int}
theorem BkAt.later (h : BkAt W bb turn deep f seen) (hD : Below W.heap.size W D) : BkAt D bb turn deep f seen := (hD.block _ h.lt).trans h
/-- A copy that was made joins one of the book's lists of copies (the j-th). -/
theorem tell (hk : BkAt W bb turn deep f seen) (hs : Sep W lo bb Z r fz) (hlo : lo ≤ W.heap.size) {i j n : Nat} (hi : r i = nilRow) (hj8 : j < 8) (hne : j ≠ i) (hD : Below W.heap.size W D) {v : Value} {L : List Tk} (hov : D.ownsRow W.heap.size 66 5 v L.length (tkLs L)) {e : TypeId} {xs : List Value} (hr : r j = ⟨e, 1, f 7 j, n, xs⟩) {v' : Value} {w' : World} (ho : w'.ownsRow lo e 1 v' (n + 1) (xs ++ [v])) (hg : (D.alloc (.cells #[v] e)).grownBy w' (f 7 j).ownBlock) (hat : v'.ownBlock = (f 7 j).ownBlock ∨ v'.ownBlock = some (D.alloc (.cells #[v] e)).heap.size) {o : Nat} (heo : o = 4 + 9 * 7 + j) :
    ∃ Z' r', BkAt (w'.setCell ⟨bb, o, none⟩ v') bb turn deep (upd f 7 j v') seen ∧ Sep (w'.setCell ⟨bb, o, none⟩ v') lo bb Z' r' ((v, L) :: fz) ∧ r' j = ⟨e, 1, v', n + 1, xs ++ [v]⟩ ∧ (∀ k, k ≠ j → r' k = r k) ∧ w'.cell? ⟨bb, o, none⟩ = some (f 7 j) ∧ w'.frozen? ⟨bb, o, none⟩ = false ∧ Below lo W (w'.setCell ⟨bb, o, none⟩ v') ∧ (∀ z, Z z → Z' z) := by
  have h1 := hs.add i (by rw [hi]; rfl) (x := ⟨66, 5, v, L.length, tkLs L⟩) hD hov hlo
  have h2 := h1.freeze i [(v, L)] (fun x hx => by
    rw [List.mem_singleton.1 hx, updR_same]
    exact RwZ.of_own hov)
  have hkD : BkAt D bb turn deep f seen := (hD.block _ hk.lt).trans hk
  have hrr : ∀ k, updR (updR r i ⟨66, 5, v, L.length, tkLs L⟩) i nilRow k = r k := fun k => by
    by_cases e : k = i
    · subst e
      rw [updR_same, hi]
    · rw [updR_ne _ _ e, updR_ne _ _ e]
  have hbb := hs.bl.1
  have hjlo : ∀ b, (f 7 j).ownBlock = some b → lo ≤ b := fun b hb => (own_rowT (hs.own j) (by rw [hr]; exact hb)).1
  obtain ⟨p1, p2, p3, p4, p5⟩ := push hkD h2 (i := j) (k := 7) (j := j) (by decide) hj8 ((hrr j).trans hr) ho hg hat heo
  refine ⟨_, _, p1, p2, updR_same _ _ _, fun k hk' => (updR_ne _ _ hk').trans (hrr k), p3, p4, (hD.mono hlo).trans (p5.below (Nat.le_trans hlo hD.size) (fun b hb => hb.elim (hjlo b) (fun e' => e' ▸ hbb))), fun z hz => .inl hz⟩
end
/-- An empty list that is made on the spot is a row of its own. -/
theorem empty_own (w : World) (e : TypeId) (k : Nat) : (w.alloc (.cells #[] e)).ownsRow w.heap.size e k (.slice (some ⟨w.heap.size, 0, none⟩) 0 0) 0 [] := by
  refine ⟨by simp, .inr ⟨w.heap.size, 0, #[], rfl, Nat.le_refl _, heap_alloc_new w _, Nat.le_refl _, by unfold maxLen; omega, by simp, by simp⟩⟩
/-- A copy of a list, made at the place of an empty one. -/
theorem copied_own {w w' : World} {L : List Tk} {v' : Value} {n : Nat} (hn : n = L.length) (ho : w'.ownsRow w.heap.size 66 5 v' (0 + n) ([] ++ tkLs L)) (hg : (w.alloc (.cells #[] 66)).grownBy w' (some w.heap.size)) : w'.ownsRow w.heap.size 66 5 v' L.length (tkLs L) ∧ Below w.heap.size w w' := by
  subst hn
  rw [Nat.zero_add, List.nil_append] at ho
  refine ⟨ho, ?_⟩
  have hA : Below w.heap.size w (w.alloc (.cells #[] 66)) := (Below.refl _ _).alloc (Nat.le_refl _) _
  exact hA.trans ((GrS.of_grown hg (fun k e => e) : GrS (fun k => some w.heap.size = some k) _ _).below hA.size (fun k e => by rw [← Option.some.inj e]; exact Nat.le_refl _))
theorem tkLs_one (L : List Tk) : ∀ u ∈ tkLs L, u.oneCell' = true := fun u hu => by
  unfold tkLs at hu
  obtain ⟨x, -, hx⟩ := List.mem_flatMap.1 hu
  simp [tkL] at hx
  rcases hx with rfl | rfl | rfl | rfl | rfl <;> rfl
end Go.Proofs.YtekapipfaahhcaaGreatDoor.KB


/- The eight lists of a kind, one by one. -/
namespace Go.Proofs.YtekapipfaahhcaaGreatDoor.KB
open Go.RowKit
set_option linter.constructorNameAsVariable false

def spT (j : Nat) : TypeId := if j ≤ 4 then 51 else 3
def updX (xs : Nat → List Value) (j : Nat) (l : List Value) : Nat → List Value := fun i => if i = j then l else xs i
/-- The book with its eight lists of tokens, whatever is in them. -/
structure TkL (W : World) (lo bb : Nat) (Z : Nat → Prop) (r : Nat → Row) (fz : List (Value × List Tk)) (turn deep : Int) (f : Nat → Nat → Value) (seen : Nat → Int) (xs : Nat → List Value) : Prop where
  bk : BkAt W bb turn deep f seen
  nil : ∀ k, k ≠ 7 → Nil f k
  sep : Sep W lo bb Z r fz
  sp : ∀ j, j < 8 → r j = ⟨spT j, 1, f 7 j, (xs j).length, xs j⟩
section
variable {W X : World} {lo bb : Nat} {Z : Nat → Prop} {r : Nat → Row} {fz : List (Value × List Tk)} {turn deep : Int} {f : Nat → Nat → Value} {seen : Nat → Int} {xs : Nat → List Value}
theorem TkL.later (h : TkL W lo bb Z r fz turn deep f seen xs) (hX : Below W.heap.size W X) : TkL X lo bb Z r fz turn deep f seen xs := ⟨h.bk.later hX, h.nil, h.sep.later hX, h.sp⟩
theorem TkL.own (h : TkL W lo bb Z r fz turn deep f seen xs) {j : Nat} (hj : j < 8) : ∃ a c, f 7 j = .slice a (xs j).length c ∧ W.cell? ⟨bb, 67 + j, none⟩ = some (.slice a (xs j).length c) ∧ W.ownsRow lo (spT j) 1 (.slice a (xs j).length c) (xs j).length (xs j) ∧ W.frozen? ⟨bb, 67 + j, none⟩ = false := by
  have ho := h.sep.own j
  rw [h.sp j hj] at ho
  obtain ⟨a, c, e, -⟩ := own_len ho
  simp only at e ho
  rw [e] at ho
  refine ⟨a, c, e, ?_, ho, h.bk.fz _⟩
  rw [← e]
  exact (h.bk.cell (by omega)).trans (congrArg some (by rw [show 67 + j = 4 + 9 * 7 + j by omega]; exact bkC_at 7 j hj))
/-- One thing more in one of the lists. -/
theorem TkL.push (h : TkL W lo bb Z r fz turn deep f seen xs) (hlo : lo ≤ W.heap.size) {j : Nat} (hj : j < 8) {x v' : Value} {w' : World} (ho : w'.ownsRow lo (spT j) 1 v' ((xs j).length + 1) (xs j ++ [x])) (hg : (W.alloc (.cells #[x] (spT j))).grownBy w' (f 7 j).ownBlock) (hat : v'.ownBlock = (f 7 j).ownBlock ∨ v'.ownBlock = some (W.alloc (.cells #[x] (spT j))).heap.size) {o : Nat} (heo : o = 67 + j) :
    TkL (w'.setCell ⟨bb, o, none⟩ v') lo bb Z (updR r j ⟨spT j, 1, v', (xs j).length + 1, xs j ++ [x]⟩) fz turn deep (upd f 7 j v') seen (updX xs j (xs j ++ [x])) ∧ w'.cell? ⟨bb, o, none⟩ = some (f 7 j) ∧ w'.frozen? ⟨bb, o, none⟩ = false ∧ Below lo W (w'.setCell ⟨bb, o, none⟩ v') ∧ ∀ b, Z b → (w'.setCell ⟨bb, o, none⟩ v').heap[b]? = W.heap[b]? := by
  obtain ⟨p1, p2, p3, p4, p5⟩ := KB.push h.bk h.sep (i := j) (k := 7) (j := j) (by decide) hj (h.sp j hj) ho hg hat (o := o) (by omega)
  have hbb := h.sep.bl.1
  have hjlo : ∀ b, (f 7 j).ownBlock = some b → lo ≤ b ∧ ¬ Z b := fun b hb => ⟨(own_rowT (h.sep.own j) (by rw [h.sp j hj]; exact hb)).1, (h.sep.rz j b (by rw [h.sp j hj]; exact hb)).1⟩
  refine ⟨⟨p1, fun k hk i => ?_, p2, fun i hi => ?_⟩, p3, p4, p5.below hlo (fun b hb => hb.elim (fun e => (hjlo b e).1) (fun e => e ▸ hbb)), fun b hb => p5.block b (h.sep.zl b hb).2.1 (fun e => e.elim (fun e => (hjlo b e).2 hb) (fun e => (h.sep.zl b hb).2.2 e))⟩
  · have : upd f 7 j v' k i = f k i := if_neg (fun e => hk e.1)
    rw [this]
    exact h.nil k hk i
  · by_cases e : i = j
    · subst e
      rw [updR_same, updX, if_pos rfl, upd, if_pos ⟨rfl, rfl⟩, List.length_append]
      rfl
    · rw [updR_ne _ _ e, updX, if_neg e, upd, if_neg (fun e' => e e'.2)]
      exact h.sp i hi
/-- One of the lists is emptied; its block stands from now on. -/
theorem TkL.clear (h : TkL W lo bb Z r fz turn deep f seen xs) {j : Nat} (hj : j < 8) {o : Nat} (heo : o = 67 + j) :
    TkL (W.setCell ⟨bb, o, none⟩ (.slice none 0 0)) lo bb (fun b => Z b ∨ (f 7 j).ownBlock = some b) (updR r j ⟨spT j, 1, .slice none 0 0, 0, []⟩) fz turn deep (upd f 7 j (.slice none 0 0)) seen (updX xs j []) := by
  have hrj : (r j).v = f 7 j := by rw [h.sp j hj]
  have hs := (h.sep.freeze j [] (fun x hx => by cases hx)).book o (.slice none 0 0)
  rw [hrj, List.nil_append] at hs
  have hs2 : Sep (W.setCell ⟨bb, o, none⟩ (.slice none 0 0)) lo bb (fun b => Z b ∨ (f 7 j).ownBlock = some b) (updR r j ⟨spT j, 1, .slice none 0 0, 0, []⟩) fz := by
    refine ⟨fun i => ?_, fun i k g hne e => ?_, fun i g e => ?_, hs.fz, hs.zl, hs.bl⟩
    · by_cases e : i = j
      · subst e
        rw [updR_same]
        exact World.ownsRow_nil _ _ _ _
      · have := hs.own i
        rw [updR_ne _ _ e] at this ⊢
        exact this
    · by_cases e1 : i = j
      · subst e1
        rw [updR_same] at e
        cases e
      · rw [updR_ne _ _ e1] at e
        by_cases e2 : k = j
        · subst e2
          rw [updR_same]
          exact fun e' => by cases e'
        · have := hs.dis i k g hne
          rw [updR_ne _ _ e1, updR_ne _ _ e2] at this
          rw [updR_ne _ _ e2]
          exact this e
    · by_cases e1 : i = j
      · subst e1
        rw [updR_same] at e
        cases e
      · rw [updR_ne _ _ e1] at e
        have := hs.rz i g
        rw [updR_ne _ _ e1] at this
        exact this e
  have hbk := h.bk.set (k := 7) (j := j) (by decide) hj (.slice none 0 0)
  rw [show 4 + 9 * 7 + j = o by omega] at hbk
  refine ⟨hbk, fun k hk i => ?_, hs2, fun i hi => ?_⟩
  · have : upd f 7 j (.slice none 0 0) k i = f k i := if_neg (fun e => hk e.1)
    rw [this]
    exact h.nil k hk i
  · by_cases e : i = j
    · subst e
      rw [updR_same, updX, if_pos rfl, upd, if_pos ⟨rfl, rfl⟩]
      rfl
    · rw [updR_ne _ _ e, updX, if_neg e, upd, if_neg (fun e' => e e'.2)]
      exact h.sp i hi
end
/-- append(v, nil...) is v. -/
theorem step_none {P : Program} {ops : Array Oper} {o : Oper} {a : Act} (w : World) {K : Act → World → Prop} {Q : Exit → Act → World → Prop} {E : Prop}
    (hg : o.guard = none) (s x : Operand) (t : TypeId) (ho : o.op = .call { callee := .builtin .append, args := #[s, x], argTypes := #[t, t] })
    (base : Nat) (e : TypeId) (i : TypeInfo) (size : Nat) (ht : P.underlying t = some (.slice e)) (hi : P.info? e = some i)
    (v : Value) (n : Nat) (xs : List Value) (hs : a.eval s = v) (hown : w.ownsRow base e size v n xs) (hx : a.eval x = .slice none 0 0)
    (h : K (a.put o.dst v) w) : if Region.wanted o (yielded ops a.tmps) = true then Oper.wp P o a w K Q else E := by
  rw [if_pos (by simp [Region.wanted, hg])]
  have hr := run_append_owned_none (P := P) (w := w) base t o.type e i size ht hi v n xs hown
  unfold Oper.wp execOp
  simp only [ho, resolve, invoke, builtin, Sem.run_bind, Sem.run_pure, Result.andThen_ok, List.map_toArray, List.map_cons, List.map_nil, hs, hx, hr]
  exact h
end Go.Proofs.YtekapipfaahhcaaGreatDoor.KB


/- markTokens: its state. -/
namespace Go.Proofs.YtekapipfaahhcaaGreatDoor.KB
open Go.RowKit
set_option linter.constructorNameAsVariable false

def xsOf (O : List Ot) (Q : List Wt) (A : List Fr) : Nat → List Value
  | 0 => O.map (·.v)
  | 1 => O.map (·.t)
  | 2 => Q.map (·.v)
  | 3 => Q.map (·.c)
  | 4 => A.map (·.v)
  | 5 => intV (Q.map (·.m))
  | 6 => intV (Q.map (·.d))
  | _ => intV (A.map (·.m))
/-- What stands by the lists; P: those that have not been looked at yet. -/
structure Cnd (r : Nat → Row) (fz : List (Value × List Tk)) (O : List Ot) (Q : List Wt) (A : List Fr) (P : List Wt) : Prop where
  cO : ∀ o ∈ O, ((o.v, o.L) ∈ fz ∨ ∃ b ∈ A, b.v = o.v ∧ b.L = o.L) ∧ (o.t, o.L) ∈ fz
  cQ : ∀ q ∈ Q, 8 ≤ q.i ∧ r q.i = ⟨66, 5, q.v, q.L.length, tkLs q.L⟩ ∧ (q.c, q.L) ∈ fz
  cA : ∀ b ∈ A, 8 ≤ b.i ∧ r b.i = ⟨66, 5, b.v, b.L.length, tkLs b.L⟩
  cP : ∀ q ∈ P, 8 ≤ q.i ∧ r q.i = ⟨66, 5, q.v, q.L.length, tkLs q.L⟩ ∧ (q.c, q.L) ∈ fz
  nd : (P.map (·.i) ++ (A.map (·.i) ++ Q.map (·.i))).Nodup
  lO : ∀ o ∈ O, o.L.length ≤ 100000
  lQ : ∀ q ∈ Q, q.L.length ≤ 90000
  lA : ∀ b ∈ A, b.L.length ≤ 90000
  lP : ∀ q ∈ P, q.L.length ≤ 90000
  fin : ∃ N, ∀ i, N ≤ i → r i = nilRow
section
variable {r r' : Nat → Row} {fz fz' : List (Value × List Tk)} {O : List Ot} {Q P : List Wt} {A : List Fr} {q : Wt}
/-- One that waits on. -/
theorem Cnd.keep (h : Cnd r fz O Q A (q :: P)) (hr : ∀ k, 8 ≤ k → r' k = r k) : Cnd r' fz O (Q ++ [q]) A P := by
  have hq := h.cP q (List.mem_cons_self ..)
  have hnd := h.nd
  refine ⟨h.cO, fun x hx => ?_, fun b hb => ⟨(h.cA b hb).1, (hr _ (h.cA b hb).1).trans (h.cA b hb).2⟩, fun x hx => ?_, ?_, h.lO, fun x hx => ?_, h.lA, fun x hx => h.lP x (List.mem_cons_of_mem _ hx), by obtain ⟨N, hN⟩ := h.fin; exact ⟨max N 8, fun i hi => (hr i (by omega)).trans (hN i (by omega))⟩⟩
  · rcases List.mem_append.1 hx with hx | hx
    · exact ⟨(h.cQ x hx).1, (hr _ (h.cQ x hx).1).trans (h.cQ x hx).2.1, (h.cQ x hx).2.2⟩
    · rw [List.mem_singleton.1 hx]
      exact ⟨hq.1, (hr _ hq.1).trans hq.2.1, hq.2.2⟩
  · have := h.cP x (List.mem_cons_of_mem _ hx)
    exact ⟨this.1, (hr _ this.1).trans this.2.1, this.2.2⟩
  · simp only [List.map_cons, List.cons_append] at hnd
    rw [List.map_append, List.map_singleton, ← List.append_assoc, ← List.append_assoc]
    rw [← List.append_assoc] at hnd
    exact (List.perm_append_singleton _ _).nodup_iff.2 hnd
  · rcases List.mem_append.1 hx with hx | hx
    · exact h.lQ x hx
    · rw [List.mem_singleton.1 hx]
      exact h.lP q (List.mem_cons_self ..)
/-- One that is written full (it shows L now) and told. -/
theorem Cnd.mark (h : Cnd r fz O Q A (q :: P)) {L : List Tk} {t : Value} {m : Int} (hL : L.length = q.L.length) (hq : r' q.i = ⟨66, 5, q.v, L.length, tkLs L⟩) (hr : ∀ k, 8 ≤ k → k ≠ q.i → r' k = r k) (hf : ∀ y ∈ fz, y ∈ fz') (ht : (t, L) ∈ fz') : Cnd r' fz' (O ++ [⟨q.v, t, L⟩]) Q (A ++ [⟨q.i, q.v, L, m⟩]) P := by
  have hq0 := h.cP q (List.mem_cons_self ..)
  have hnd := h.nd
  simp only [List.map_cons, List.cons_append, List.nodup_cons, List.mem_append] at hnd
  have hlq := h.lP q (List.mem_cons_self ..)
  have nQ : ∀ x ∈ Q, x.i ≠ q.i := fun x hx e => hnd.1 (.inr (.inr (List.mem_map.2 ⟨x, hx, e⟩)))
  have nA : ∀ x ∈ A, x.i ≠ q.i := fun x hx e => hnd.1 (.inr (.inl (List.mem_map.2 ⟨x, hx, e⟩)))
  have nP : ∀ x ∈ P, x.i ≠ q.i := fun x hx e => hnd.1 (.inl (List.mem_map.2 ⟨x, hx, e⟩))
  refine ⟨fun o ho => ?_, fun x hx => ?_, fun b hb => ?_, fun x hx => ?_, ?_, fun o ho => ?_, h.lQ, fun b hb => ?_, fun x hx => h.lP x (List.mem_cons_of_mem _ hx), by obtain ⟨N, hN⟩ := h.fin; exact ⟨max N (max 8 (q.i + 1)), fun i hi => (hr i (by omega) (by omega)).trans (hN i (by omega))⟩⟩
  · rcases List.mem_append.1 ho with ho | ho
    · obtain ⟨h1, h2⟩ := h.cO o ho
      exact ⟨h1.imp (hf _) (fun ⟨b, hb, e⟩ => ⟨b, List.mem_append_left _ hb, e⟩), hf _ h2⟩
    · rw [List.mem_singleton.1 ho]
      exact ⟨.inr ⟨_, List.mem_append_right _ (List.mem_singleton.2 rfl), rfl, rfl⟩, ht⟩
  · have := h.cQ x hx
    exact ⟨this.1, (hr _ this.1 (nQ x hx)).trans this.2.1, hf _ this.2.2⟩
  · rcases List.mem_append.1 hb with hb | hb
    · have := h.cA b hb
      exact ⟨this.1, (hr _ this.1 (nA b hb)).trans this.2⟩
    · rw [List.mem_singleton.1 hb]
      exact ⟨hq0.1, hq⟩
  · have := h.cP x (List.mem_cons_of_mem _ hx)
    exact ⟨this.1, (hr _ this.1 (nP x hx)).trans this.2.1, hf _ this.2.2⟩
  · have hnd' := h.nd
    simp only [List.map_cons, List.cons_append] at hnd'
    rw [List.map_append, List.map_singleton, List.append_assoc]
    refine List.Perm.nodup_iff ?_ |>.2 hnd'
    refine List.Perm.trans ?_ List.perm_middle
    refine List.Perm.append_left _ ?_
    simp only [List.singleton_append]
    exact List.perm_middle
  · rcases List.mem_append.1 ho with ho | ho
    · exact h.lO o ho
    · rw [List.mem_singleton.1 ho]
      show L.length ≤ 100000
      omega
  · rcases List.mem_append.1 hb with hb | hb
    · exact h.lA b hb
    · rw [List.mem_singleton.1 hb]
      show L.length ≤ 90000
      omega
end
section
variable {W : World} {lo bb : Nat} {Z : Nat → Prop} {r : Nat → Row} {fz : List (Value × List Tk)} {turn deep : Int} {f : Nat → Nat → Value} {seen : Nat → Int} {O : List Ot} {Q : List Wt} {A : List Fr}
theorem Sep.dropT (h : Sep W lo bb Z r fz) (i : Nat) (e : TypeId) (k : Nat) : Sep W lo bb Z (updR r i ⟨e, k, .slice none 0 0, 0, []⟩) fz := by
  refine ⟨fun j => ?_, fun j q g hne e' => ?_, fun j g e' => ?_, h.fz, h.zl, h.bl⟩
  · by_cases hj : j = i
    · subst hj
      rw [updR_same]
      exact World.ownsRow_nil _ _ _ _
    · rw [updR_ne _ _ hj]
      exact h.own j
  · by_cases hj : j = i
    · subst hj
      rw [updR_same] at e'
      cases e'
    · rw [updR_ne _ _ hj] at e'
      by_cases hk : q = i
      · subst hk
        rw [updR_same]
        exact fun e' => by cases e'
      · rw [updR_ne _ _ hk]
        exact h.dis j q g hne e'
  · by_cases hj : j = i
    · subst hj
      rw [updR_same] at e'
      cases e'
    · rw [updR_ne _ _ hj] at e'
      exact h.rz j g e'
/-- The state between two calls, list by list. -/
theorem TkS.l (h : TkS W lo bb Z r fz turn deep f seen O Q) : ∃ r', TkL W lo bb Z r' fz turn deep f seen (xsOf O Q []) ∧ (∀ k, 8 ≤ k → r' k = r k) := by
  refine ⟨updR (updR r 4 ⟨spT 4, 1, .slice none 0 0, 0, []⟩) 7 ⟨spT 7, 1, .slice none 0 0, 0, []⟩, ⟨h.bk, h.nil, (h.sep.dropT 4 _ _).dropT 7 _ _, fun j hj => ?_⟩, fun k hk => (updR_ne _ _ (by omega)).trans (updR_ne _ _ (by omega))⟩
  have hne : ∀ q, q ≠ 4 → q ≠ 7 → updR (updR r 4 ⟨spT 4, 1, .slice none 0 0, 0, []⟩) 7 ⟨spT 7, 1, .slice none 0 0, 0, []⟩ q = r q := fun q h4 h7 => (updR_ne _ _ h7).trans (updR_ne _ _ h4)
  match j, hj with
  | 0, _ => rw [hne 0 (by decide) (by decide), h.s0]; simp [spT, xsOf]
  | 1, _ => rw [hne 1 (by decide) (by decide), h.s1]; simp [spT, xsOf]
  | 2, _ => rw [hne 2 (by decide) (by decide), h.s2]; simp [spT, xsOf]
  | 3, _ => rw [hne 3 (by decide) (by decide), h.s3]; simp [spT, xsOf]
  | 4, _ => rw [updR_ne _ _ (by decide), updR_same, h.s4.1]; simp [xsOf]
  | 5, _ => rw [hne 5 (by decide) (by decide), h.s5]; simp [spT, xsOf, intV]
  | 6, _ => rw [hne 6 (by decide) (by decide), h.s6]; simp [spT, xsOf, intV]
  | 7, _ => rw [updR_same, h.s7.1]; simp [xsOf, intV]
theorem TkS.c (h : TkS W lo bb Z r fz turn deep f seen O Q) {r' : Nat → Row} (hr : ∀ k, 8 ≤ k → r' k = r k) : Cnd r' fz O [] [] Q := by
  refine ⟨fun o ho => ⟨.inl (h.cO o ho).1, (h.cO o ho).2⟩, fun q hq => (by cases hq), fun b hb => (by cases hb), fun q hq => ⟨(h.cQ q hq).1, (hr _ (h.cQ q hq).1).trans (h.cQ q hq).2.1, (h.cQ q hq).2.2⟩, ?_, h.lO, fun q hq => (by cases hq), fun b hb => (by cases hb), h.lQ, ?_⟩
  · simp only [List.map_nil, List.append_nil]
    exact List.pairwise_map.2 h.dQ
  · obtain ⟨N, hN⟩ := h.fin
    exact ⟨max N 8, fun i hi => (hr i (by omega)).trans (hN i (by omega))⟩
theorem xs_cleared (O : List Ot) (Q : List Wt) : updX (updX (updX (updX (xsOf O Q []) 2 []) 3 []) 5 []) 6 [] = xsOf O [] [] := by
  funext j
  match j with
  | 0 => rfl
  | 1 => rfl
  | 2 => rfl
  | 3 => rfl
  | 4 => rfl
  | 5 => rfl
  | 6 => rfl
  | j + 7 => simp [updX, xsOf]
theorem xs_kept (O : List Ot) (Q : List Wt) (A : List Fr) (q : Wt) : updX (updX (updX (updX (xsOf O Q A) 2 (xsOf O Q A 2 ++ [q.v])) 3 (xsOf O Q A 3 ++ [q.c])) 5 (xsOf O Q A 5 ++ [.int .i64 q.m])) 6 (xsOf O Q A 6 ++ [.int .i64 q.d]) = xsOf O (Q ++ [q]) A := by
  funext j
  match j with
  | 0 => rfl
  | 1 => rfl
  | 2 => simp [updX, xsOf]
  | 3 => simp [updX, xsOf]
  | 4 => rfl
  | 5 => simp [updX, xsOf, intV]
  | 6 => simp [updX, xsOf, intV]
  | j + 7 => simp [updX, xsOf]
theorem xs_marked (O : List Ot) (Q : List Wt) (A : List Fr) (o : Ot) (b : Fr) (hv : b.v = o.v) : updX (updX (updX (updX (xsOf O Q A) 0 (xsOf O Q A 0 ++ [o.v])) 1 (xsOf O Q A 1 ++ [o.t])) 4 (xsOf O Q A 4 ++ [o.v])) 7 (xsOf O Q A 7 ++ [.int .i64 b.m]) = fun j => if j ≤ 7 then xsOf (O ++ [o]) Q (A ++ [b]) j else xsOf O Q A j := by
  funext j
  match j with
  | 0 => simp [updX, xsOf]
  | 1 => simp [updX, xsOf]
  | 2 => simp [updX, xsOf]
  | 3 => simp [updX, xsOf]
  | 4 => simp [updX, xsOf, hv]
  | 5 => simp [updX, xsOf]
  | 6 => simp [updX, xsOf]
  | 7 => simp [updX, xsOf, intV]
  | j + 8 => simp [updX, xsOf]
/-- All have been looked at. -/
theorem TkL.g (h : TkL W lo bb Z r fz turn deep f seen (xsOf O Q A)) (hc : Cnd r fz O Q A []) : TkG W lo bb Z r fz turn deep f seen O Q A A := by
  have e : ∀ j, j < 8 → r j = ⟨spT j, 1, f 7 j, (xsOf O Q A j).length, xsOf O Q A j⟩ := h.sp
  have hnd := hc.nd
  simp only [List.map_nil, List.nil_append] at hnd
  refine ⟨h.bk, h.nil, h.sep, ?_, ?_, ?_, ?_, ?_, ?_, ?_, ?_, hc.cO, hc.cQ, hc.cA, hnd, hc.lO, hc.lQ, hc.lA, hc.fin⟩
  · rw [e 0 (by decide)]; simp [spT, xsOf]
  · rw [e 1 (by decide)]; simp [spT, xsOf]
  · rw [e 2 (by decide)]; simp [spT, xsOf]
  · rw [e 3 (by decide)]; simp [spT, xsOf]
  · rw [e 4 (by decide)]; simp [spT, xsOf]
  · rw [e 5 (by decide)]; simp [spT, xsOf, intV]
  · rw [e 6 (by decide)]; simp [spT, xsOf, intV]
  · rw [e 7 (by decide)]; simp [spT, xsOf, intV]
end
end Go.Proofs.YtekapipfaahhcaaGreatDoor.KB


/- A list that is written full. -/
namespace Go.Proofs.YtekapipfaahhcaaGreatDoor.KB
open Go.RowKit
set_option linter.constructorNameAsVariable false

theorem tkLs_set : ∀ (L : List Tk) (j : Nat) (x : Tk), j < L.length → (((((tkLs L).set (j * 5) (.int .i64 x.1)).set (j * 5 + 1) (.int .i64 x.2.1)).set (j * 5 + 2) (.string x.2.2.1)).set (j * 5 + 3) (.int .i64 x.2.2.2.1)).set (j * 5 + 4) (.int .i64 x.2.2.2.2) = tkLs (L.set j x)
  | y :: L, 0, x, _ => by
    show (((((tkL y ++ tkLs L).set 0 _).set 1 _).set 2 _).set 3 _).set 4 _ = tkL x ++ tkLs L
    simp [tkL]
  | y :: L, j + 1, x, h => by
    have ih := tkLs_set L j x (by simpa using h)
    show (((((tkL y ++ tkLs L).set ((j + 1) * 5) _).set ((j + 1) * 5 + 1) _).set ((j + 1) * 5 + 2) _).set ((j + 1) * 5 + 3) _).set ((j + 1) * 5 + 4) _ = tkL y ++ tkLs (L.set j x)
    have hl : (tkL y).length = 5 := rfl
    rw [List.set_append_right _ _ (by omega), List.set_append_right _ _ (by omega), List.set_append_right _ _ (by omega), List.set_append_right _ _ (by omega), List.set_append_right _ _ (by omega), hl, show (j + 1) * 5 - 5 = j * 5 by omega, show (j + 1) * 5 + 1 - 5 = j * 5 + 1 by omega, show (j + 1) * 5 + 2 - 5 = j * 5 + 2 by omega, show (j + 1) * 5 + 3 - 5 = j * 5 + 3 by omega, show (j + 1) * 5 + 4 - 5 = j * 5 + 4 by omega, ih]
/-- Five cells are written. -/
def put5 (W : World) (g j : Nat) (x : Tk) : World := ((((W.setCell ⟨g, j * 5, none⟩ (.int .i64 x.1)).setCell ⟨g, j * 5 + 1, none⟩ (.int .i64 x.2.1)).setCell ⟨g, j * 5 + 2, none⟩ (.string x.2.2.1)).setCell ⟨g, j * 5 + 3, none⟩ (.int .i64 x.2.2.2.1)).setCell ⟨g, j * 5 + 4, none⟩ (.int .i64 x.2.2.2.2)
theorem put5_grS (W : World) (g j : Nat) (x : Tk) : GrS (fun k => k = g) W (put5 W g j x) := ((((grS_set W g _ _).trans (grS_set _ g _ _)).trans (grS_set _ g _ _)).trans (grS_set _ g _ _)).trans (grS_set _ g _ _)
section
variable {W X : World} {lo bb : Nat} {Z Zo : Nat → Prop} {r : Nat → Row} {fz : List (Value × List Tk)} {turn deep : Int} {f : Nat → Nat → Value} {seen : Nat → Int} {xs : Nat → List Value}
theorem own_put5 {base g cap j : Nat} {L : List Tk} (h : W.ownsRow base 66 5 (.slice (some ⟨g, 0, none⟩) L.length cap) L.length (tkLs L)) (hj : j < L.length) (x : Tk) : (put5 W g j x).ownsRow base 66 5 (.slice (some ⟨g, 0, none⟩) L.length cap) L.length (tkLs (L.set j x)) ∧ W.grownBy (put5 W g j x) (some g) := by
  have s1 := h.stored (j * 5) (.int .i64 x.1)
  have s2 := s1.1.stored (j * 5 + 1) (.int .i64 x.2.1)
  have s3 := s2.1.stored (j * 5 + 2) (.string x.2.2.1)
  have s4 := s3.1.stored (j * 5 + 3) (.int .i64 x.2.2.2.1)
  have s5 := s4.1.stored (j * 5 + 4) (.int .i64 x.2.2.2.2)
  refine ⟨?_, (((s1.2.trans s2.2).trans s3.2).trans s4.2).trans s5.2⟩
  rw [← tkLs_set L j x hj]
  exact s5.1
/-- A list under way: it shows L. -/
def WR (lo bb : Nat) (W : World) (turn deep : Int) (seen : Nat → Int) (Zo Z : Nat → Prop) (fz : List (Value × List Tk)) (r : Nat → Row) (xs : Nat → List Value) (i : Nat) (v : Value) (L : List Tk) (X : World) : Prop := ∃ r' f', TkL X lo bb Z r' fz turn deep f' seen xs ∧ r' i = ⟨66, 5, v, L.length, tkLs L⟩ ∧ (∀ k, 8 ≤ k → k ≠ i → r' k = r k) ∧ Below lo W X ∧ ∀ b, Zo b → X.heap[b]? = W.heap[b]?
theorem WR.write {i g cap j : Nat} {L : List Tk} (h : WR lo bb W turn deep seen Zo Z fz r xs i (.slice (some ⟨g, 0, none⟩) L.length cap) L X) (hlo : lo ≤ W.heap.size) (hZ : ∀ b, Zo b → Z b) (hi : 8 ≤ i) (hj : j < L.length) : (∀ q, q < 5 → ∃ u, X.cell? ⟨g, j * 5 + q, none⟩ = some u) ∧ (∀ o, X.frozen? ⟨g, o, none⟩ = false) ∧ ∀ x, WR lo bb W turn deep seen Zo Z fz r xs i (.slice (some ⟨g, 0, none⟩) L.length cap) (L.set j x) (put5 X g j x) := by
  obtain ⟨r', f', hT, hri, hr, hb, hh⟩ := h
  have ho := hT.sep.own i
  rw [hri] at ho
  simp only at ho
  have hg : (r' i).v.ownBlock = some g := by rw [hri]; rfl
  obtain ⟨hgl, hgs, cs, hgr⟩ := own_rowT ho (show Value.ownBlock _ = some g from rfl)
  refine ⟨fun q hq => ?_, fun o => ho.frozenAt o, fun x => ?_⟩
  · have hlt : j * 5 + q < (tkLs L).length := by rw [tkLs_len]; omega
    exact ⟨_, (ho.cellAt (j * 5 + q) (by omega)).trans (List.getElem?_eq_getElem hlt)⟩
  · obtain ⟨p1, p2⟩ := own_put5 ho hj x
    have hG := put5_grS X g j x
    have hnb : ¬ bb = g := fun e => (hT.sep.rz i g hg).2 e.symm
    have hs := hT.sep.app i (x := ⟨66, 5, .slice (some ⟨g, 0, none⟩) L.length cap, (L.set j x).length, tkLs (L.set j x)⟩) (by simp only [List.length_set]; exact p1) (by rw [hg]; exact p2) (by rw [hri]; exact .inl rfl)
    refine ⟨_, f', ⟨hT.bk.grS hG hnb, hT.nil, hs, fun k hk => (updR_ne _ _ (by omega)).trans (hT.sp k hk)⟩, ?_, fun k hk hne => (updR_ne _ _ hne).trans (hr k hk hne), hb.trans (hG.below (Nat.le_trans hlo hb.size) (fun b e => e ▸ hgl)), fun b hb' => (hG.block b (hT.sep.zl b (hZ b hb')).2.1 (fun e => (hT.sep.rz i g hg).1 (e ▸ hZ b hb'))).trans (hh b hb')⟩
    rw [updR_same]
end
end Go.Proofs.YtekapipfaahhcaaGreatDoor.KB


/- A copy that is told, list by list. -/
namespace Go.Proofs.YtekapipfaahhcaaGreatDoor.KB
open Go.RowKit
set_option linter.constructorNameAsVariable false

section
variable {W X D : World} {lo bb : Nat} {Z Zo : Nat → Prop} {r : Nat → Row} {fz : List (Value × List Tk)} {turn deep : Int} {f : Nat → Nat → Value} {seen : Nat → Int} {xs : Nat → List Value}
theorem TkL.tell (h : TkL X lo bb Z r fz turn deep f seen xs) (hlo : lo ≤ X.heap.size) {i j : Nat} (hi : r i = nilRow) (hi8 : 8 ≤ i) (hj : j < 8) (hD : Below X.heap.size X D) {v : Value} {L : List Tk} (hov : D.ownsRow X.heap.size 66 5 v L.length (tkLs L)) {v' : Value} {w' : World} (ho : w'.ownsRow lo (spT j) 1 v' ((xs j).length + 1) (xs j ++ [v])) (hg : (D.alloc (.cells #[v] (spT j))).grownBy w' (f 7 j).ownBlock) (hat : v'.ownBlock = (f 7 j).ownBlock ∨ v'.ownBlock = some (D.alloc (.cells #[v] (spT j))).heap.size) :
    ∃ Z' r', TkL (w'.setCell ⟨bb, 67 + j, none⟩ v') lo bb Z' r' ((v, L) :: fz) turn deep (upd f 7 j v') seen (updX xs j (xs j ++ [v])) ∧ (∀ k, 8 ≤ k → r' k = r k) ∧ w'.cell? ⟨bb, 67 + j, none⟩ = some (f 7 j) ∧ w'.frozen? ⟨bb, 67 + j, none⟩ = false ∧ Below lo X (w'.setCell ⟨bb, 67 + j, none⟩ v') ∧ (∀ z, Z z → Z' z) ∧ ∀ b, Z b → (w'.setCell ⟨bb, 67 + j, none⟩ v').heap[b]? = X.heap[b]? := by
  obtain ⟨Z', r', t1, t2, t3, t4, t5, t6, t7, t8⟩ := KB.tell h.bk h.sep hlo (i := i) (j := j) hi hj (by omega) hD hov (h.sp j hj) ho hg hat (o := 67 + j) (by omega)
  have hG : GrS (fun k => (f 7 j).ownBlock = some k) (D.alloc (.cells #[v] (spT j))) w' := .of_grown hg (fun k e => e)
  have hA : Below D.heap.size D (D.alloc (.cells #[v] (spT j))) := (Below.refl _ _).alloc (Nat.le_refl _) _
  refine ⟨Z', r', ⟨t1, fun k hk i => ?_, t2, fun i hi => ?_⟩, fun k hk => t4 k (by omega), t5, t6, t7, t8, fun b hb => ?_⟩
  · have : upd f 7 j v' k i = f k i := if_neg (fun e => hk e.1)
    rw [this]
    exact h.nil k hk i
  · by_cases e : i = j
    · subst e
      rw [t3, updX, if_pos rfl, upd, if_pos ⟨rfl, rfl⟩, List.length_append]
      rfl
    · rw [t4 i e, updX, if_neg e, upd, if_neg (fun e' => e e'.2)]
      exact h.sp i hi
  · obtain ⟨-, hlt, hne⟩ := h.sep.zl b hb
    have h1 : ¬ (f 7 j).ownBlock = some b := fun e => (h.sep.rz j b (by rw [h.sp j hj]; exact e)).1 hb
    have hlD := Nat.lt_of_lt_of_le hlt hD.size
    rw [heap_setCell_other w' ⟨bb, 67 + j, none⟩ b v' hne, hG.block b (Nat.lt_of_lt_of_le hlD hA.size) h1, hA.block b hlD, hD.block b hlt]
end
end Go.Proofs.YtekapipfaahhcaaGreatDoor.KB

import Derived.Test.YtekapipfaahhcaaGreatDoorJoin48
import Derived.BigQuiet
import Derived.Deep.DeepCutAuto
import Derived.Deep.CutRange
import Derived.Deep.RegionHeld3
import Derived.Deep.DeepMust
import Derived.Laws.Tables
/- Rows apart from one another, and lists that stand. -/
namespace Go.Proofs.YtekapipfaahhcaaGreatDoor.KB
open Go.RowKit

theorem own_rowT {W : World} {base n size : Nat} {e : TypeId} {v : Value} {xs : List Value} {g : Nat} (h : W.ownsRow base e size v n xs) (hg : v.ownBlock = some g) : base ≤ g ∧ g < W.heap.size ∧ ∃ cs, W.heap[g]? = some (.cells cs e (0, 0)) := by
  obtain ⟨q1, ⟨rfl, -⟩ | ⟨g', cap, cur, rfl, hb, r, rest⟩⟩ := h
  · cases hg
  · obtain rfl : g' = g := by simpa [Value.ownBlock] using hg
    exact ⟨hb, (Array.getElem?_eq_some_iff.1 r).1, _, r⟩
structure Row where
  e : TypeId
  k : Nat
  v : Value
  n : Nat
  xs : List Value
def nilRow : Row := ⟨0, 1, .slice none 0 0, 0, []⟩
def updR (r : Nat → Row) (i : Nat) (x : Row) : Nat → Row := fun j => if j = i then x else r j
theorem updR_same (r : Nat → Row) (i : Nat) (x : Row) : updR r i x i = x := if_pos rfl
theorem updR_ne (r : Nat → Row) {i j : Nat} (x : Row) (h : j ≠ i) : updR r i x j = r j := if_neg h
/-- The rows r lie apart from one another and from the book; what is in fz stands in the blocks Z. -/
structure Sep (W : World) (lo bb : Nat) (Z : Nat → Prop) (r : Nat → Row) (fz : List (Value × List Tk)) : Prop where
  own : ∀ i, W.ownsRow lo (r i).e (r i).k (r i).v (r i).n (r i).xs
  dis : ∀ i j g, i ≠ j → (r i).v.ownBlock = some g → (r j).v.ownBlock ≠ some g
  rz : ∀ i g, (r i).v.ownBlock = some g → ¬ Z g ∧ g ≠ bb
  fz : ∀ x ∈ fz, RwZ W Z x.1 x.2
  zl : ∀ b, Z b → lo ≤ b ∧ b < W.heap.size ∧ b ≠ bb
  bl : lo ≤ bb ∧ bb < W.heap.size
section
variable {W X : World} {lo bb : Nat} {Z : Nat → Prop} {r : Nat → Row} {fz : List (Value × List Tk)}
theorem Sep.grS {U : Nat → Prop} (h : Sep W lo bb Z r fz) (hg : GrS U W X) (h1 : ∀ i g, (r i).v.ownBlock = some g → ¬ U g) (h2 : ∀ b, Z b → ¬ U b) : Sep X lo bb Z r fz :=
  ⟨fun i => hg.own (h.own i) (h1 i), h.dis, h.rz, fun x hx => (h.fz x hx).grS hg h2, fun b hb => ⟨(h.zl b hb).1, Nat.lt_of_lt_of_le (h.zl b hb).2.1 hg.size, (h.zl b hb).2.2⟩, h.bl.1, Nat.lt_of_lt_of_le h.bl.2 hg.size⟩
theorem Sep.later (h : Sep W lo bb Z r fz) (hX : Below W.heap.size W X) : Sep X lo bb Z r fz := h.grS (U := fun _ => False) (.of_below hX) (fun _ _ _ h => h) (fun _ _ h => h)
theorem Sep.book (h : Sep W lo bb Z r fz) (o : Nat) (v : Value) : Sep (W.setCell ⟨bb, o, none⟩ v) lo bb Z r fz := h.grS (grS_set W bb o v) (fun i g e => (h.rz i g e).2) (fun b hb => (h.zl b hb).2.2)
/-- One row grows. -/
theorem Sep.app (h : Sep W lo bb Z r fz) (i : Nat) {x : Row} (ho : X.ownsRow lo x.e x.k x.v x.n x.xs) (hg : W.grownBy X (r i).v.ownBlock) (hat : x.v.ownBlock = (r i).v.ownBlock ∨ x.v.ownBlock = some W.heap.size) : Sep X lo bb Z (updR r i x) fz := by
  have hG : GrS (fun k => (r i).v.ownBlock = some k) W X := .of_grown hg (fun k e => e)
  have hlt : ∀ j g, (r j).v.ownBlock = some g → g < W.heap.size := fun j g e => (own_rowT (h.own j) e).2.1
  have hx : ∀ g, x.v.ownBlock = some g → (¬ Z g ∧ g ≠ bb) ∧ ∀ j, j ≠ i → (r j).v.ownBlock ≠ some g := fun g e => by
    rcases hat with a | a
    · rw [a] at e
      exact ⟨h.rz i g e, fun j hj => h.dis i j g (fun e' => hj e'.symm) e⟩
    · rw [a] at e
      obtain rfl := Option.some.inj e
      refine ⟨⟨fun hz => ?_, ?_⟩, fun j _ e' => ?_⟩
      · have := (h.zl _ hz).2.1
        omega
      · have := h.bl.2
        omega
      · have := hlt j _ e'
        omega
  refine ⟨fun j => ?_, fun j k g hne e => ?_, fun j g e => ?_, fun y hy => (h.fz y hy).grS hG (fun b hb e => (h.rz i b e).1 hb), fun b hb => ⟨(h.zl b hb).1, Nat.lt_of_lt_of_le (h.zl b hb).2.1 hG.size, (h.zl b hb).2.2⟩, h.bl.1, Nat.lt_of_lt_of_le h.bl.2 hG.size⟩
  · by_cases hj : j = i
    · subst hj
      rw [updR_same]
      exact ho
    · rw [updR_ne _ _ hj]
      exact hG.own (h.own j) (fun g e => h.dis j i g hj e)
  · by_cases hj : j = i
    · subst hj
      rw [updR_same] at e
      rw [updR_ne _ _ (fun e' => hne e'.symm)]
      exact (hx g e).2 k (fun e' => hne e'.symm)
    · rw [updR_ne _ _ hj] at e
      by_cases hk : k = i
      · subst hk
        rw [updR_same]
        exact fun e' => (hx g e').2 j hj e
      · rw [updR_ne _ _ hk]
        exact h.dis j k g hne e
  · by_cases hj : j = i
    · subst hj
      rw [updR_same] at e
      exact (hx g e).1
    · rw [updR_ne _ _ hj] at e
      exact h.rz j g e
/-- A new row. -/
theorem Sep.add (h : Sep W lo bb Z r fz) (i : Nat) (hi : (r i).v.ownBlock = none) {x : Row} (hX : Below W.heap.size W X) (ho : X.ownsRow W.heap.size x.e x.k x.v x.n x.xs) (hlo : lo ≤ W.heap.size) : Sep X lo bb Z (updR r i x) fz := by
  have h' := h.later hX
  have hlt : ∀ j g, (r j).v.ownBlock = some g → g < W.heap.size := fun j g e => (own_rowT (h.own j) e).2.1
  have hx : ∀ g, x.v.ownBlock = some g → (¬ Z g ∧ g ≠ bb) ∧ ∀ j, (r j).v.ownBlock ≠ some g := fun g e => by
    have hge := (own_rowT ho e).1
    refine ⟨⟨fun hz => ?_, ?_⟩, fun j e' => ?_⟩
    · have := (h.zl _ hz).2.1
      omega
    · have := h.bl.2
      omega
    · have := hlt j _ e'
      omega
  refine ⟨fun j => ?_, fun j k g hne e => ?_, fun j g e => ?_, h'.fz, h'.zl, h'.bl⟩
  · by_cases hj : j = i
    · subst hj
      rw [updR_same]
      exact ho.mono hlo
    · rw [updR_ne _ _ hj]
      exact h'.own j
  · by_cases hj : j = i
    · subst hj
      rw [updR_same] at e
      rw [updR_ne _ _ (fun e' => hne e'.symm)]
      exact (hx g e).2 k
    · rw [updR_ne _ _ hj] at e
      by_cases hk : k = i
      · subst hk
        rw [updR_same]
        exact fun e' => (hx g e').2 j e
      · rw [updR_ne _ _ hk]
        exact h.dis j k g hne e
  · by_cases hj : j = i
    · subst hj
      rw [updR_same] at e
      exact (hx g e).1
    · rw [updR_ne _ _ hj] at e
      exact h.rz j g e
/-- A row is let go. -/
theorem Sep.drop (h : Sep W lo bb Z r fz) (i : Nat) : Sep W lo bb Z (updR r i nilRow) fz := by
  refine ⟨fun j => ?_, fun j k g hne e => ?_, fun j g e => ?_, h.fz, h.zl, h.bl⟩
  · by_cases hj : j = i
    · subst hj
      rw [updR_same]
      exact World.ownsRow_nil _ _ _ _
    · rw [updR_ne _ _ hj]
      exact h.own j
  · by_cases hj : j = i
    · subst hj
      rw [updR_same] at e
      cases e
    · rw [updR_ne _ _ hj] at e
      by_cases hk : k = i
      · subst hk
        rw [updR_same]
        exact fun e' => by cases e'
      · rw [updR_ne _ _ hk]
        exact h.dis j k g hne e
  · by_cases hj : j = i
    · subst hj
      rw [updR_same] at e
      cases e
    · rw [updR_ne _ _ hj] at e
      exact h.rz j g e
/-- A row that nobody will write into any more; it shows L (as a part of it). -/
theorem Sep.freeze (h : Sep W lo bb Z r fz) (i : Nat) (ls : List (Value × List Tk)) (hls : ∀ x ∈ ls, RwZ W (fun b => (r i).v.ownBlock = some b) x.1 x.2) : Sep W lo bb (fun b => Z b ∨ (r i).v.ownBlock = some b) (updR r i nilRow) (ls ++ fz) := by
  have hd := h.drop i
  refine ⟨hd.own, hd.dis, fun j g e => ?_, fun x hx => ?_, fun b hb => ?_, h.bl⟩
  · by_cases hj : j = i
    · subst hj
      rw [updR_same] at e
      cases e
    · rw [updR_ne _ _ hj] at e
      exact ⟨fun hz => hz.elim (h.rz j g e).1 (fun e' => h.dis j i g hj e e'), (h.rz j g e).2⟩
  · rcases List.mem_append.1 hx with hx | hx
    · exact (hls x hx).more (fun b hb => .inr hb)
    · exact (h.fz x hx).more (fun b hb => .inl hb)
  · rcases hb with hb | hb
    · exact h.zl b hb
    · obtain ⟨q1, q2, -⟩ := own_rowT (h.own i) hb
      exact ⟨q1, q2, (h.rz i b hb).2⟩
/-- A cell of a row is written. -/
theorem Sep.write (h : Sep W lo bb Z r fz) (i : Nat) {g n cap : Nat} (hv : (r i).v = .slice (some ⟨g, 0, none⟩) n cap) (hn : (r i).n = n) (j : Nat) (u : Value) : Sep (W.setCell ⟨g, j, none⟩ u) lo bb Z (updR r i ⟨(r i).e, (r i).k, (r i).v, (r i).n, (r i).xs.set j u⟩) fz := by
  have hown := h.own i
  have hg : (r i).v.ownBlock = some g := by rw [hv]; rfl
  rw [hv, hn] at hown
  have hs := hown.stored j u
  refine h.app i (x := ⟨(r i).e, (r i).k, (r i).v, (r i).n, (r i).xs.set j u⟩) ?_ ?_ (.inl rfl)
  · simp only
    rw [hv, hn]
    exact hs.1
  · rw [hg]
    exact hs.2
end
end Go.Proofs.YtekapipfaahhcaaGreatDoor.KB


/- The tokens of a book. -/
namespace Go.Proofs.YtekapipfaahhcaaGreatDoor.KB
open Go.RowKit
set_option linter.constructorNameAsVariable false

/-- A list that has been written and told: the list, what it must show. -/
structure Ot where
  v : Value
  t : Value
  L : List Tk
/-- A list that waits: its row's number, its note, what it shows, its mark, when it is due. -/
structure Wt where
  i : Nat
  v : Value
  c : Value
  L : List Tk
  m : Int
  d : Int
def intV (l : List Int) : List Value := l.map fun n => .int .i64 n
/-- The book's tokens between two calls. -/
structure TkS (W : World) (lo bb : Nat) (Z : Nat → Prop) (r : Nat → Row) (fz : List (Value × List Tk)) (turn deep : Int) (f : Nat → Nat → Value) (seen : Nat → Int) (O : List Ot) (Q : List Wt) : Prop where
  bk : BkAt W bb turn deep f seen
  nil : ∀ k, k ≠ 7 → Nil f k
  sep : Sep W lo bb Z r fz
  s0 : r 0 = ⟨51, 1, f 7 0, O.length, O.map (·.v)⟩
  s1 : r 1 = ⟨51, 1, f 7 1, O.length, O.map (·.t)⟩
  s2 : r 2 = ⟨51, 1, f 7 2, Q.length, Q.map (·.v)⟩
  s3 : r 3 = ⟨51, 1, f 7 3, Q.length, Q.map (·.c)⟩
  s4 : f 7 4 = .slice none 0 0 ∧ r 4 = nilRow
  s5 : r 5 = ⟨3, 1, f 7 5, Q.length, intV (Q.map (·.m))⟩
  s6 : r 6 = ⟨3, 1, f 7 6, Q.length, intV (Q.map (·.d))⟩
  s7 : f 7 7 = .slice none 0 0 ∧ r 7 = nilRow
  cO : ∀ o ∈ O, (o.v, o.L) ∈ fz ∧ (o.t, o.L) ∈ fz
  cQ : ∀ q ∈ Q, 8 ≤ q.i ∧ r q.i = ⟨66, 5, q.v, q.L.length, tkLs q.L⟩ ∧ (q.c, q.L) ∈ fz
  dQ : Q.Pairwise fun a b => a.i ≠ b.i
  lO : ∀ o ∈ O, o.L.length ≤ 100000
  lQ : ∀ q ∈ Q, q.L.length ≤ 90000
  fin : ∃ N, ∀ i, N ≤ i → r i = nilRow
section
variable {W X : World} {lo bb : Nat} {Z : Nat → Prop} {r : Nat → Row} {fz : List (Value × List Tk)} {turn deep : Int} {f : Nat → Nat → Value} {seen : Nat → Int} {O : List Ot} {Q : List Wt}
theorem TkS.later (h : TkS W lo bb Z r fz turn deep f seen O Q) (hX : Below W.heap.size W X) : TkS X lo bb Z r fz turn deep f seen O Q :=
  { h with
    bk := (hX.block _ h.sep.bl.2).trans h.bk
    sep := h.sep.later hX }
theorem below_step {A B C : World} (h : Below A.heap.size A B) (h' : Below B.heap.size B C) : Below A.heap.size A C := h.trans (h'.mono h.size)
theorem own_len {base n size : Nat} {e : TypeId} {v : Value} {xs : List Value} (h : W.ownsRow base e size v n xs) : ∃ a c, v = .slice a n c ∧ (0 < n → ∃ g, a = some ⟨g, 0, none⟩ ∧ g < W.heap.size ∧ ∀ j u, j < n * size → xs[j]? = some u → W.cell? ⟨g, j, none⟩ = some u) := by
  have h0 := h
  obtain ⟨q, ⟨rfl, hn⟩ | ⟨g, cap, cur, rfl, hb, r, -⟩⟩ := h0
  · exact ⟨none, 0, by rw [hn], fun hp => by omega⟩
  · exact ⟨_, cap, rfl, fun _ => ⟨g, rfl, (Array.getElem?_eq_some_iff.1 r).1, fun j u hj hu => (h.cellAt j hj).trans hu⟩⟩
end

set_option maxRecDepth 4000 in
set_option maxHeartbeats 1000000 in
theorem holdTokens {W : World} {lo bb : Nat} {Z : Nat → Prop} {r : Nat → Row} {fz : List (Value × List Tk)} {turn deep : Int} {f : Nat → Nat → Value} {seen : Nat → Int} {O : List Ot} {Q : List Wt} (h : TkS W lo bb Z r fz turn deep f seen O Q) (hO : O.length ≤ 1000000) (hQ : Q.length ≤ 1000000) :
    Calls Tryz.prog 21 #[.pointer (some ⟨bb, 0, none⟩)] W fun e w' => e = .returned (.bool true) ∧ Below W.heap.size W w' := by
  have o0 := h.sep.own 0
  have o1 := h.sep.own 1
  have o2 := h.sep.own 2
  have o3 := h.sep.own 3
  rw [h.s0] at o0
  rw [h.s1] at o1
  rw [h.s2] at o2
  rw [h.s3] at o3
  obtain ⟨a0, c0, e0, h0⟩ := own_len o0
  obtain ⟨a1, c1, e1, h1⟩ := own_len o1
  obtain ⟨a2, c2, e2, h2⟩ := own_len o2
  obtain ⟨a3, c3, e3, h3⟩ := own_len o3
  simp only at e0 e1 e2 e3 h0 h1 h2 h3
  have hK := Hid.mk (fun X (hX : Below W.heap.size W X) => (show _ ∧ _ ∧ _ ∧ _ from ⟨((h.later hX).bk.cell (i := 67) (by decide)).trans (congrArg some e0), ((h.later hX).bk.cell (i := 68) (by decide)).trans (congrArg some e1), ((h.later hX).bk.cell (i := 69) (by decide)).trans (congrArg some e2), ((h.later hX).bk.cell (i := 70) (by decide)).trans (congrArg some e3)⟩))
  clear o0 o1 o2 o3 e0 e1 e2 e3
  go_enter Tryz.func21, Tryz.ntmps21
  go_wp2
  go_loopw [3] (fun v wr => ∃ i : Nat, i ≤ O.length ∧ v = .int .i64 (i : Int) ∧ Below W.heap.size W wr) (fun v _ => O.length - (intOf v).toNat)
  case atStart => exact ⟨0, Nat.zero_le _, rfl, Below.refl _ _⟩
  case round =>
    obtain ⟨i, hi, rfl, hb⟩ := hrel
    obtain ⟨k0, k1, k2, k3⟩ := hK.out _ hb
    by_cases hlt : i < O.length
    · have hlt' : (i : Int) < (O.length : Int) := by omega
      have hi0 : (0 : Int) ≤ (i : Int) := by omega
      obtain ⟨g0, rfl, l0, q0⟩ := h0 (by omega)
      obtain ⟨g1, rfl, l1, q1⟩ := h1 (by omega)
      have hq0 : (O.map (·.v))[i]? = some O[i].v := by simp [hlt]
      have hq1 : (O.map (·.t))[i]? = some O[i].t := by simp [hlt]
      have hmem : O[i] ∈ O := List.getElem_mem hlt
      have hS := Hid.mk (fun X (hX : Below W.heap.size W X) => sameTokens_any O[i].v O[i].t O[i].L (Nat.le_trans (h.lO _ hmem) (by decide)) X ((h.later hX).sep.fz _ (h.cO _ hmem).1) ((h.later hX).sep.fz _ (h.cO _ hmem).2))
      generalize O[i] = o at *
      have bd : Below W.heap.size W wr.drew := hb.drew
      obtain ⟨va, ca, hva, -⟩ := (h.later hb).sep.fz _ (h.cO _ hmem).1
      obtain ⟨vb, cb, hvb, -⟩ := (h.later hb).sep.fz _ (h.cO _ hmem).2
      simp only at hva hvb
      rw [hva] at hS
      rw [hvb] at hS
      have hKx := Hid.mk (fun X (hX : Below W.heap.size W X) => (show _ ∧ _ ∧ _ ∧ _ from ⟨(hK.out _ hX).1, (hK.out _ hX).2.1, (hX.cell (p := ⟨g0, i, none⟩) l0).trans ((q0 i o.v (by omega) (hq0)).trans (congrArg some hva)), (hX.cell (p := ⟨g1, i, none⟩) l1).trans ((q1 i o.t (by omega) (hq1)).trans (congrArg some hvb))⟩))
      have S0 := hKx.out _ bd
      clear h0 h1 h2 h3 q0 q1 hva hvb hq0 hq1 k2 k3
      go_upto_region 4 with fail
      go_region_held3 (fun X => X.cell? ⟨bb, 67, none⟩ = some (.slice (some ⟨g0, 0, none⟩) O.length c0) ∧ X.cell? ⟨bb, 68, none⟩ = some (.slice (some ⟨g1, 0, none⟩) O.length c1) ∧ X.cell? ⟨g0, i, none⟩ = some (.slice va o.L.length ca) ∧ X.cell? ⟨g1, i, none⟩ = some (.slice vb o.L.length cb)) (with_reducible assumption) ((go_at_call 52; refine (hS.out _ bd).mono ?_; rintro e w2 ⟨rfl, hb2⟩; have b2 := below_step bd hb2; have S2 := hKx.out _ b2))
      clear S0 S2 hKx
      go_wp2
      go_roundw
      case rel => exact ⟨i + 1, by omega, by first | rfl | go_num, b2⟩
      case measure => simp [intOf]; omega
    · have hlt' : ¬ (i : Int) < (O.length : Int) := by omega
      clear hlt hi
      go_wp2
      go_loopw [4] (fun v wx => ∃ i : Nat, i ≤ Q.length ∧ v = .int .i64 (i : Int) ∧ Below W.heap.size W wx) (fun v _ => Q.length - (intOf v).toNat)
      case atStart => exact ⟨0, Nat.zero_le _, rfl, hb⟩
      case round =>
        clear k0 k1 k2 k3 hb
        obtain ⟨i, hi, rfl, hb⟩ := hrel
        obtain ⟨k0, k1, k2, k3⟩ := hK.out _ hb
        by_cases hlt : i < Q.length
        · have hlt' : (i : Int) < (Q.length : Int) := by omega
          have hi0 : (0 : Int) ≤ (i : Int) := by omega
          obtain ⟨g0, rfl, l0, q0⟩ := h2 (by omega)
          obtain ⟨g1, rfl, l1, q1⟩ := h3 (by omega)
          have hq0 : (Q.map (·.v))[i]? = some Q[i].v := by simp [hlt]
          have hq1 : (Q.map (·.c))[i]? = some Q[i].c := by simp [hlt]
          have hmem : Q[i] ∈ Q := List.getElem_mem hlt
          generalize Q[i] = o at *
          have hown : ∀ X, Below W.heap.size W X → RwZ X (fun b => o.v.ownBlock = some b) o.v o.L := fun X hX => by
            have := (h.later hX).sep.own o.i
            rw [(h.cQ _ hmem).2.1] at this
            exact RwZ.of_own this
          have hS := Hid.mk (fun X (hX : Below W.heap.size W X) => sameTokens_any o.v o.c o.L (Nat.le_trans (h.lQ _ hmem) (by decide)) X (hown X hX) ((h.later hX).sep.fz _ (h.cQ _ hmem).2.2))
          have bd : Below W.heap.size W wr.drew := hb.drew
          obtain ⟨va, ca, hva, -⟩ := hown _ hb
          obtain ⟨vb, cb, hvb, -⟩ := (h.later hb).sep.fz _ (h.cQ _ hmem).2.2
          simp only at hva hvb
          rw [hva] at hS
          rw [hvb] at hS
          have hKx := Hid.mk (fun X (hX : Below W.heap.size W X) => (show _ ∧ _ ∧ _ ∧ _ from ⟨(hK.out _ hX).2.2.1, (hK.out _ hX).2.2.2, (hX.cell (p := ⟨g0, i, none⟩) l0).trans ((q0 i o.v (by omega) (hq0)).trans (congrArg some hva)), (hX.cell (p := ⟨g1, i, none⟩) l1).trans ((q1 i o.c (by omega) (hq1)).trans (congrArg some hvb))⟩))
          have S0 := hKx.out _ bd
          clear h0 h1 h2 h3 q0 q1 hva hvb hq0 hq1 k0 k1 hown
          go_upto_region 9 with fail
          go_region_held3 (fun X => X.cell? ⟨bb, 69, none⟩ = some (.slice (some ⟨g0, 0, none⟩) Q.length c2) ∧ X.cell? ⟨bb, 70, none⟩ = some (.slice (some ⟨g1, 0, none⟩) Q.length c3) ∧ X.cell? ⟨g0, i, none⟩ = some (.slice va o.L.length ca) ∧ X.cell? ⟨g1, i, none⟩ = some (.slice vb o.L.length cb)) (with_reducible assumption) ((go_at_call 52; refine (hS.out _ bd).mono ?_; rintro e w2 ⟨rfl, hb2⟩; have b2 := below_step bd hb2; have S2 := hKx.out _ b2))
          clear S0 S2 hKx
          go_wp2
          go_roundw
          case rel => exact ⟨i + 1, by omega, by first | rfl | go_num, b2⟩
          case measure => simp [intOf]; omega
        · have hlt' : ¬ (i : Int) < (Q.length : Int) := by omega
          go_wp2
          go_ret
          exact ⟨rfl, hb⟩
end Go.Proofs.YtekapipfaahhcaaGreatDoor.KB


/- A new book. -/
namespace Go.Proofs.YtekapipfaahhcaaGreatDoor.KB
open Go.RowKit
set_option linter.constructorNameAsVariable false

def nilF : Nat → Nat → Value := fun _ _ => .slice none 0 0
set_option maxRecDepth 20000 in
theorem bk_lit : (#[.bool false, .bool false, .int .i64 0, .int .i64 0, .slice none 0 0, .slice none 0 0, .slice none 0 0, .slice none 0 0, .slice none 0 0, .slice none 0 0, .slice none 0 0, .slice none 0 0, .int .i64 0, .slice none 0 0, .slice none 0 0, .slice none 0 0, .slice none 0 0, .slice none 0 0, .slice none 0 0, .slice none 0 0, .slice none 0 0, .int .i64 0, .slice none 0 0, .slice none 0 0, .slice none 0 0, .slice none 0 0, .slice none 0 0, .slice none 0 0, .slice none 0 0, .slice none 0 0, .int .i64 0, .slice none 0 0, .slice none 0 0, .slice none 0 0, .slice none 0 0, .slice none 0 0, .slice none 0 0, .slice none 0 0, .slice none 0 0, .int .i64 0, .slice none 0 0, .slice none 0 0, .slice none 0 0, .slice none 0 0, .slice none 0 0, .slice none 0 0, .slice none 0 0, .slice none 0 0, .int .i64 0, .slice none 0 0, .slice none 0 0, .slice none 0 0, .slice none 0 0, .slice none 0 0, .slice none 0 0, .slice none 0 0, .slice none 0 0, .int .i64 0, .slice none 0 0, .slice none 0 0, .slice none 0 0, .slice none 0 0, .slice none 0 0, .slice none 0 0, .slice none 0 0, .slice none 0 0, .int .i64 0, .slice none 0 0, .slice none 0 0, .slice none 0 0, .slice none 0 0, .slice none 0 0, .slice none 0 0, .slice none 0 0, .slice none 0 0, .int .i64 0, .slice none 0 0, .slice none 0 0, .slice none 0 0, .slice none 0 0, .slice none 0 0, .slice none 0 0, .slice none 0 0, .slice none 0 0, .int .i64 0, .slice none 0 0, .slice none 0 0, .slice none 0 0, .slice none 0 0, .slice none 0 0, .slice none 0 0, .slice none 0 0, .slice none 0 0, .int .i64 0, .slice none 0 0, .slice none 0 0, .slice none 0 0, .slice none 0 0, .slice none 0 0, .slice none 0 0, .slice none 0 0, .slice none 0 0, .int .i64 0, .slice none 0 0, .slice none 0 0, .slice none 0 0, .slice none 0 0, .slice none 0 0, .slice none 0 0, .slice none 0 0, .slice none 0 0, .int .i64 0, .slice none 0 0, .slice none 0 0, .slice none 0 0, .slice none 0 0, .slice none 0 0, .slice none 0 0, .slice none 0 0, .slice none 0 0, .int .i64 0, .slice none 0 0, .slice none 0 0, .slice none 0 0, .slice none 0 0, .slice none 0 0, .slice none 0 0, .slice none 0 0, .slice none 0 0, .int .i64 0, .slice none 0 0, .slice none 0 0, .slice none 0 0, .slice none 0 0, .slice none 0 0, .slice none 0 0, .slice none 0 0, .slice none 0 0, .int .i64 0, .slice none 0 0, .slice none 0 0, .slice none 0 0, .slice none 0 0, .slice none 0 0, .slice none 0 0, .slice none 0 0, .slice none 0 0, .int .i64 0, .slice none 0 0, .slice none 0 0, .slice none 0 0, .slice none 0 0, .slice none 0 0, .slice none 0 0, .slice none 0 0, .slice none 0 0, .int .i64 0, .slice none 0 0, .slice none 0 0, .slice none 0 0, .slice none 0 0, .slice none 0 0, .slice none 0 0, .slice none 0 0, .slice none 0 0, .int .i64 0, .slice none 0 0, .slice none 0 0, .slice none 0 0, .slice none 0 0, .slice none 0 0, .slice none 0 0, .slice none 0 0, .slice none 0 0, .int .i64 0, .slice none 0 0, .slice none 0 0, .slice none 0 0, .slice none 0 0, .slice none 0 0, .slice none 0 0, .slice none 0 0, .slice none 0 0, .int .i64 0, .slice none 0 0, .slice none 0 0, .slice none 0 0, .slice none 0 0, .slice none 0 0, .slice none 0 0, .slice none 0 0, .slice none 0 0, .int .i64 0, .slice none 0 0, .slice none 0 0, .slice none 0 0, .slice none 0 0, .slice none 0 0, .slice none 0 0, .slice none 0 0, .slice none 0 0, .int .i64 0, .slice none 0 0, .slice none 0 0, .slice none 0 0, .slice none 0 0, .slice none 0 0, .slice none 0 0, .slice none 0 0, .slice none 0 0, .int .i64 0, .slice none 0 0, .slice none 0 0, .slice none 0 0, .slice none 0 0, .slice none 0 0, .slice none 0 0, .slice none 0 0, .slice none 0 0, .int .i64 0] : Array Value) = bkCs 0 0 nilF (fun _ => 0) := by kernel_rfl
def row0 (j : Nat) : Row := if j ≤ 3 then ⟨51, 1, .slice none 0 0, 0, []⟩ else if j = 5 ∨ j = 6 then ⟨3, 1, .slice none 0 0, 0, []⟩ else nilRow
theorem row0_v (j : Nat) : (row0 j).v = .slice none 0 0 ∧ (row0 j).n = 0 ∧ (row0 j).xs = [] := by
  unfold row0
  split
  · exact ⟨rfl, rfl, rfl⟩
  split
  · exact ⟨rfl, rfl, rfl⟩
  · exact ⟨rfl, rfl, rfl⟩
set_option maxRecDepth 20000 in
theorem book_built : Tryz.prog.built 50 [] = some #[.bool false, .bool false, .int .i64 0, .int .i64 0, .slice none 0 0, .slice none 0 0, .slice none 0 0, .slice none 0 0, .slice none 0 0, .slice none 0 0, .slice none 0 0, .slice none 0 0, .int .i64 0, .slice none 0 0, .slice none 0 0, .slice none 0 0, .slice none 0 0, .slice none 0 0, .slice none 0 0, .slice none 0 0, .slice none 0 0, .int .i64 0, .slice none 0 0, .slice none 0 0, .slice none 0 0, .slice none 0 0, .slice none 0 0, .slice none 0 0, .slice none 0 0, .slice none 0 0, .int .i64 0, .slice none 0 0, .slice none 0 0, .slice none 0 0, .slice none 0 0, .slice none 0 0, .slice none 0 0, .slice none 0 0, .slice none 0 0, .int .i64 0, .slice none 0 0, .slice none 0 0, .slice none 0 0, .slice none 0 0, .slice none 0 0, .slice none 0 0, .slice none 0 0, .slice none 0 0, .int .i64 0, .slice none 0 0, .slice none 0 0, .slice none 0 0, .slice none 0 0, .slice none 0 0, .slice none 0 0, .slice none 0 0, .slice none 0 0, .int .i64 0, .slice none 0 0, .slice none 0 0, .slice none 0 0, .slice none 0 0, .slice none 0 0, .slice none 0 0, .slice none 0 0, .slice none 0 0, .int .i64 0, .slice none 0 0, .slice none 0 0, .slice none 0 0, .slice none 0 0, .slice none 0 0, .slice none 0 0, .slice none 0 0, .slice none 0 0, .int .i64 0, .slice none 0 0, .slice none 0 0, .slice none 0 0, .slice none 0 0, .slice none 0 0, .slice none 0 0, .slice none 0 0, .slice none 0 0, .int .i64 0, .slice none 0 0, .slice none 0 0, .slice none 0 0, .slice none 0 0, .slice none 0 0, .slice none 0 0, .slice none 0 0, .slice none 0 0, .int .i64 0, .slice none 0 0, .slice none 0 0, .slice none 0 0, .slice none 0 0, .slice none 0 0, .slice none 0 0, .slice none 0 0, .slice none 0 0, .int .i64 0, .slice none 0 0, .slice none 0 0, .slice none 0 0, .slice none 0 0, .slice none 0 0, .slice none 0 0, .slice none 0 0, .slice none 0 0, .int .i64 0, .slice none 0 0, .slice none 0 0, .slice none 0 0, .slice none 0 0, .slice none 0 0, .slice none 0 0, .slice none 0 0, .slice none 0 0, .int .i64 0, .slice none 0 0, .slice none 0 0, .slice none 0 0, .slice none 0 0, .slice none 0 0, .slice none 0 0, .slice none 0 0, .slice none 0 0, .int .i64 0, .slice none 0 0, .slice none 0 0, .slice none 0 0, .slice none 0 0, .slice none 0 0, .slice none 0 0, .slice none 0 0, .slice none 0 0, .int .i64 0, .slice none 0 0, .slice none 0 0, .slice none 0 0, .slice none 0 0, .slice none 0 0, .slice none 0 0, .slice none 0 0, .slice none 0 0, .int .i64 0, .slice none 0 0, .slice none 0 0, .slice none 0 0, .slice none 0 0, .slice none 0 0, .slice none 0 0, .slice none 0 0, .slice none 0 0, .int .i64 0, .slice none 0 0, .slice none 0 0, .slice none 0 0, .slice none 0 0, .slice none 0 0, .slice none 0 0, .slice none 0 0, .slice none 0 0, .int .i64 0, .slice none 0 0, .slice none 0 0, .slice none 0 0, .slice none 0 0, .slice none 0 0, .slice none 0 0, .slice none 0 0, .slice none 0 0, .int .i64 0, .slice none 0 0, .slice none 0 0, .slice none 0 0, .slice none 0 0, .slice none 0 0, .slice none 0 0, .slice none 0 0, .slice none 0 0, .int .i64 0, .slice none 0 0, .slice none 0 0, .slice none 0 0, .slice none 0 0, .slice none 0 0, .slice none 0 0, .slice none 0 0, .slice none 0 0, .int .i64 0, .slice none 0 0, .slice none 0 0, .slice none 0 0, .slice none 0 0, .slice none 0 0, .slice none 0 0, .slice none 0 0, .slice none 0 0, .int .i64 0, .slice none 0 0, .slice none 0 0, .slice none 0 0, .slice none 0 0, .slice none 0 0, .slice none 0 0, .slice none 0 0, .slice none 0 0, .int .i64 0, .slice none 0 0, .slice none 0 0, .slice none 0 0, .slice none 0 0, .slice none 0 0, .slice none 0 0, .slice none 0 0, .slice none 0 0, .int .i64 0] := by kernel_rfl
theorem wp_build {P : Program} {o : Oper} {a : Act} {w : World} {K : Act → World → Prop} {Q : Exit → Act → World → Prop} {t : TypeId} {cells : Array Value} (ho : o.op = .build t #[]) (hb : P.built t [] = some cells) (h : K (a.put o.dst (.agg cells)) w) : Oper.wp P o a w K Q := by
  have hr := run_build (P := P) w t #[] cells hb
  unfold Oper.wp execOp
  simp only [ho, List.map_toArray, List.map_nil, Sem.run_bind, Sem.run_pure, Result.andThen_ok, hr]
  exact h
set_option maxRecDepth 20000 in
/-- A book that is made on the spot. -/
theorem TkS.new (W : World) : TkS (W.alloc (.cells #[.bool false, .bool false, .int .i64 0, .int .i64 0, .slice none 0 0, .slice none 0 0, .slice none 0 0, .slice none 0 0, .slice none 0 0, .slice none 0 0, .slice none 0 0, .slice none 0 0, .int .i64 0, .slice none 0 0, .slice none 0 0, .slice none 0 0, .slice none 0 0, .slice none 0 0, .slice none 0 0, .slice none 0 0, .slice none 0 0, .int .i64 0, .slice none 0 0, .slice none 0 0, .slice none 0 0, .slice none 0 0, .slice none 0 0, .slice none 0 0, .slice none 0 0, .slice none 0 0, .int .i64 0, .slice none 0 0, .slice none 0 0, .slice none 0 0, .slice none 0 0, .slice none 0 0, .slice none 0 0, .slice none 0 0, .slice none 0 0, .int .i64 0, .slice none 0 0, .slice none 0 0, .slice none 0 0, .slice none 0 0, .slice none 0 0, .slice none 0 0, .slice none 0 0, .slice none 0 0, .int .i64 0, .slice none 0 0, .slice none 0 0, .slice none 0 0, .slice none 0 0, .slice none 0 0, .slice none 0 0, .slice none 0 0, .slice none 0 0, .int .i64 0, .slice none 0 0, .slice none 0 0, .slice none 0 0, .slice none 0 0, .slice none 0 0, .slice none 0 0, .slice none 0 0, .slice none 0 0, .int .i64 0, .slice none 0 0, .slice none 0 0, .slice none 0 0, .slice none 0 0, .slice none 0 0, .slice none 0 0, .slice none 0 0, .slice none 0 0, .int .i64 0, .slice none 0 0, .slice none 0 0, .slice none 0 0, .slice none 0 0, .slice none 0 0, .slice none 0 0, .slice none 0 0, .slice none 0 0, .int .i64 0, .slice none 0 0, .slice none 0 0, .slice none 0 0, .slice none 0 0, .slice none 0 0, .slice none 0 0, .slice none 0 0, .slice none 0 0, .int .i64 0, .slice none 0 0, .slice none 0 0, .slice none 0 0, .slice none 0 0, .slice none 0 0, .slice none 0 0, .slice none 0 0, .slice none 0 0, .int .i64 0, .slice none 0 0, .slice none 0 0, .slice none 0 0, .slice none 0 0, .slice none 0 0, .slice none 0 0, .slice none 0 0, .slice none 0 0, .int .i64 0, .slice none 0 0, .slice none 0 0, .slice none 0 0, .slice none 0 0, .slice none 0 0, .slice none 0 0, .slice none 0 0, .slice none 0 0, .int .i64 0, .slice none 0 0, .slice none 0 0, .slice none 0 0, .slice none 0 0, .slice none 0 0, .slice none 0 0, .slice none 0 0, .slice none 0 0, .int .i64 0, .slice none 0 0, .slice none 0 0, .slice none 0 0, .slice none 0 0, .slice none 0 0, .slice none 0 0, .slice none 0 0, .slice none 0 0, .int .i64 0, .slice none 0 0, .slice none 0 0, .slice none 0 0, .slice none 0 0, .slice none 0 0, .slice none 0 0, .slice none 0 0, .slice none 0 0, .int .i64 0, .slice none 0 0, .slice none 0 0, .slice none 0 0, .slice none 0 0, .slice none 0 0, .slice none 0 0, .slice none 0 0, .slice none 0 0, .int .i64 0, .slice none 0 0, .slice none 0 0, .slice none 0 0, .slice none 0 0, .slice none 0 0, .slice none 0 0, .slice none 0 0, .slice none 0 0, .int .i64 0, .slice none 0 0, .slice none 0 0, .slice none 0 0, .slice none 0 0, .slice none 0 0, .slice none 0 0, .slice none 0 0, .slice none 0 0, .int .i64 0, .slice none 0 0, .slice none 0 0, .slice none 0 0, .slice none 0 0, .slice none 0 0, .slice none 0 0, .slice none 0 0, .slice none 0 0, .int .i64 0, .slice none 0 0, .slice none 0 0, .slice none 0 0, .slice none 0 0, .slice none 0 0, .slice none 0 0, .slice none 0 0, .slice none 0 0, .int .i64 0, .slice none 0 0, .slice none 0 0, .slice none 0 0, .slice none 0 0, .slice none 0 0, .slice none 0 0, .slice none 0 0, .slice none 0 0, .int .i64 0, .slice none 0 0, .slice none 0 0, .slice none 0 0, .slice none 0 0, .slice none 0 0, .slice none 0 0, .slice none 0 0, .slice none 0 0, .int .i64 0, .slice none 0 0, .slice none 0 0, .slice none 0 0, .slice none 0 0, .slice none 0 0, .slice none 0 0, .slice none 0 0, .slice none 0 0, .int .i64 0] 50)) W.heap.size W.heap.size (fun _ => False) row0 [] 0 0 nilF (fun _ => 0) [] [] := by
  rw [bk_lit]
  have hlt : W.heap.size < (W.alloc (.cells (bkCs 0 0 nilF (fun _ => 0)) 50)).heap.size := by simp
  refine ⟨heap_alloc_new W _, fun k _ j => rfl, ⟨fun i => ?_, fun i j g _ e => ?_, fun i g e => ?_, fun x hx => (by cases hx), fun b hb => hb.elim, Nat.le_refl _, hlt⟩, rfl, rfl, rfl, rfl, ⟨rfl, rfl⟩, rfl, rfl, ⟨rfl, rfl⟩, fun o ho => (by cases ho), fun q hq => (by cases hq), List.Pairwise.nil, fun o ho => (by cases ho), fun q hq => (by cases hq), 8, fun i hi => ?_⟩
  · obtain ⟨h1, h2, h3⟩ := row0_v i
    rw [h1, h2, h3]
    exact World.ownsRow_nil _ _ _ _
  · rw [(row0_v i).1] at e
    cases e
  · rw [(row0_v i).1] at e
    cases e
  · unfold row0
    rw [if_neg (by omega), if_neg (by omega)]
end Go.Proofs.YtekapipfaahhcaaGreatDoor.KB

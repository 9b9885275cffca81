import Derived.Test.YthmjkmdbggfiiaaGreatDoorKcB
/- Rows apart from one another, and lists that stand. -/
namespace Go.Proofs.YthmjkmdbggfiiaaGreatDoor.KB
open Go.RowKit

theorem own_rowT {W : World} {base n size : Nat} {e : TypeId} {v : Value} {xs : List Value} {g : Nat} (h : W.ownsRow base e size v n xs) (hg : v.ownBlock = some g) : base ≤ g ∧ g < W.heap.size ∧ ∃ cs, W.heap[g]? = some (.cells cs e (0, 0)) := by
  obtain ⟨q1, ⟨rfl, -⟩ | ⟨g', cap, cur, rfl, hb, r, rest⟩⟩ := h
  · cases hg
  · obtain rfl : g' = g := by simpa [Value.ownBlock] using hg
    exact ⟨hb, (Array.getElem?_eq_some_iff.1 r).1, _, r⟩
structure Row where
  e : TypeId
  k : Nat
  v : Value
  n : Nat
  xs : List Value
def nilRow : Row := ⟨0, 0, .slice none 0 0, 0, []⟩
def updR (r : Nat → Row) (i : Nat) (x : Row) : Nat → Row := fun j => if j = i then x else r j
theorem updR_same (r : Nat → Row) (i : Nat) (x : Row) : updR r i x i = x := if_pos rfl
theorem updR_ne (r : Nat → Row) {i j : Nat} (x : Row) (h : j ≠ i) : updR r i x j = r j := if_neg h
/-- The rows r lie apart from one another and from the book; what is in fz stands in the blocks Z. -/
structure Sep (W : World) (lo bb : Nat) (Z : Nat → Prop) (r : Nat → Row) (fz : List (Value × Nat × List Value)) : Prop where
  own : ∀ i, W.ownsRow lo (r i).e (r i).k (r i).v (r i).n (r i).xs
  dis : ∀ i j g, i ≠ j → (r i).v.ownBlock = some g → (r j).v.ownBlock ≠ some g
  rz : ∀ i g, (r i).v.ownBlock = some g → ¬ Z g ∧ g ≠ bb
  fz : ∀ x ∈ fz, RwZ W Z x.1 x.2.1 x.2.2
  zl : ∀ b, Z b → lo ≤ b ∧ b < W.heap.size ∧ b ≠ bb
  bl : lo ≤ bb ∧ bb < W.heap.size
section
variable {W X : World} {lo bb : Nat} {Z : Nat → Prop} {r : Nat → Row} {fz : List (Value × Nat × List Value)}
theorem Sep.grS {U : Nat → Prop} (h : Sep W lo bb Z r fz) (hg : GrS U W X) (h1 : ∀ i g, (r i).v.ownBlock = some g → ¬ U g) (h2 : ∀ b, Z b → ¬ U b) : Sep X lo bb Z r fz :=
  ⟨fun i => hg.own (h.own i) (h1 i), h.dis, h.rz, fun x hx => (h.fz x hx).grS hg h2, fun b hb => ⟨(h.zl b hb).1, Nat.lt_of_lt_of_le (h.zl b hb).2.1 hg.size, (h.zl b hb).2.2⟩, h.bl.1, Nat.lt_of_lt_of_le h.bl.2 hg.size⟩
theorem Sep.later (h : Sep W lo bb Z r fz) (hX : Below W.heap.size W X) : Sep X lo bb Z r fz := h.grS (U := fun _ => False) (.of_below hX) (fun _ _ _ h => h) (fun _ _ h => h)
theorem Sep.book (h : Sep W lo bb Z r fz) (o : Nat) (v : Value) : Sep (W.setCell ⟨bb, o, none⟩ v) lo bb Z r fz := h.grS (grS_set W bb o v) (fun i g e => (h.rz i g e).2) (fun b hb => (h.zl b hb).2.2)
/-- One row grows. -/
theorem Sep.app (h : Sep W lo bb Z r fz) (i : Nat) {x : Row} (ho : X.ownsRow lo x.e x.k x.v x.n x.xs) (hg : W.grownBy X (r i).v.ownBlock) (hat : x.v.ownBlock = (r i).v.ownBlock ∨ x.v.ownBlock = some W.heap.size) : Sep X lo bb Z (updR r i x) fz := by
  have hG : GrS (fun k => (r i).v.ownBlock = some k) W X := .of_grown hg (fun k e => e)
  have hlt : ∀ j g, (r j).v.ownBlock = some g → g < W.heap.size := fun j g e => (own_rowT (h.own j) e).2.1
  have hx : ∀ g, x.v.ownBlock = some g → (¬ Z g ∧ g ≠ bb) ∧ ∀ j, j ≠ i → (r j).v.ownBlock ≠ some g := fun g e => by
    rcases hat with a | a
    · rw [a] at e
      exact ⟨h.rz i g e, fun j hj => h.dis i j g (fun e' => hj e'.symm) e⟩
    · rw [a] at e
      obtain rfl := Option.some.inj e
      refine ⟨⟨fun hz => ?_, ?_⟩, fun j _ e' => ?_⟩
      · have := (h.zl _ hz).2.1
        omega
      · have := h.bl.2
        omega
      · have := hlt j _ e'
        omega
  refine ⟨fun j => ?_, fun j k g hne e => ?_, fun j g e => ?_, fun y hy => (h.fz y hy).grS hG (fun b hb e => (h.rz i b e).1 hb), fun b hb => ⟨(h.zl b hb).1, Nat.lt_of_lt_of_le (h.zl b hb).2.1 hG.size, (h.zl b hb).2.2⟩, h.bl.1, Nat.lt_of_lt_of_le h.bl.2 hG.size⟩
  · by_cases hj : j = i
    · subst hj
      rw [updR_same]
      exact ho
    · rw [updR_ne _ _ hj]
      exact hG.own (h.own j) (fun g e => h.dis j i g hj e)
  · by_cases hj : j = i
    · subst hj
      rw [updR_same] at e
      rw [updR_ne _ _ (fun e' => hne e'.symm)]
      exact (hx g e).2 k (fun e' => hne e'.symm)
    · rw [updR_ne _ _ hj] at e
      by_cases hk : k = i
      · subst hk
        rw [updR_same]
        exact fun e' => (hx g e').2 j hj e
      · rw [updR_ne _ _ hk]
        exact h.dis j k g hne e
  · by_cases hj : j = i
    · subst hj
      rw [updR_same] at e
      exact (hx g e).1
    · rw [updR_ne _ _ hj] at e
      exact h.rz j g e
/-- A new row. -/
theorem Sep.add (h : Sep W lo bb Z r fz) (i : Nat) (hi : (r i).v.ownBlock = none) {x : Row} (hX : Below W.heap.size W X) (ho : X.ownsRow W.heap.size x.e x.k x.v x.n x.xs) (hlo : lo ≤ W.heap.size) : Sep X lo bb Z (updR r i x) fz := by
  have h' := h.later hX
  have hlt : ∀ j g, (r j).v.ownBlock = some g → g < W.heap.size := fun j g e => (own_rowT (h.own j) e).2.1
  have hx : ∀ g, x.v.ownBlock = some g → (¬ Z g ∧ g ≠ bb) ∧ ∀ j, (r j).v.ownBlock ≠ some g := fun g e => by
    have hge := (own_rowT ho e).1
    refine ⟨⟨fun hz => ?_, ?_⟩, fun j e' => ?_⟩
    · have := (h.zl _ hz).2.1
      omega
    · have := h.bl.2
      omega
    · have := hlt j _ e'
      omega
  refine ⟨fun j => ?_, fun j k g hne e => ?_, fun j g e => ?_, h'.fz, h'.zl, h'.bl⟩
  · by_cases hj : j = i
    · subst hj
      rw [updR_same]
      exact ho.mono hlo
    · rw [updR_ne _ _ hj]
      exact h'.own j
  · by_cases hj : j = i
    · subst hj
      rw [updR_same] at e
      rw [updR_ne _ _ (fun e' => hne e'.symm)]
      exact (hx g e).2 k
    · rw [updR_ne _ _ hj] at e
      by_cases hk : k = i
      · subst hk
        rw [updR_same]
        exact fun e' => (hx g e').2 j e
      · rw [updR_ne _ _ hk]
        exact h.dis j k g hne e
  · by_cases hj : j = i
    · subst hj
      rw [updR_same] at e
      exact (hx g e).1
    · rw [updR_ne _ _ hj] at e
      exact h.rz j g e
/-- A row is let go. -/
theorem Sep.drop (h : Sep W lo bb Z r fz) (i : Nat) : Sep W lo bb Z (updR r i nilRow) fz := by
  refine ⟨fun j => ?_, fun j k g hne e => ?_, fun j g e => ?_, h.fz, h.zl, h.bl⟩
  · by_cases hj : j = i
    · subst hj
      rw [updR_same]
      exact World.ownsRow_nil _ _ _ _
    · rw [updR_ne _ _ hj]
      exact h.own j
  · by_cases hj : j = i
    · subst hj
      rw [updR_same] at e
      cases e
    · rw [updR_ne _ _ hj] at e
      by_cases hk : k = i
      · subst hk
        rw [updR_same]
        exact fun e' => by cases e'
      · rw [updR_ne _ _ hk]
        exact h.dis j k g hne e
  · by_cases hj : j = i
    · subst hj
      rw [updR_same] at e
      cases e
    · rw [updR_ne _ _ hj] at e
      exact h.rz j g e
/-- A row that nobody will write into any more; it shows L (as a part of it). -/
theorem Sep.freeze (h : Sep W lo bb Z r fz) (i : Nat) (ls : List (Value × Nat × List Value)) (hls : ∀ x ∈ ls, RwZ W (fun b => (r i).v.ownBlock = some b) x.1 x.2.1 x.2.2) : Sep W lo bb (fun b => Z b ∨ (r i).v.ownBlock = some b) (updR r i nilRow) (ls ++ fz) := by
  have hd := h.drop i
  refine ⟨hd.own, hd.dis, fun j g e => ?_, fun x hx => ?_, fun b hb => ?_, h.bl⟩
  · by_cases hj : j = i
    · subst hj
      rw [updR_same] at e
      cases e
    · rw [updR_ne _ _ hj] at e
      exact ⟨fun hz => hz.elim (h.rz j g e).1 (fun e' => h.dis j i g hj e e'), (h.rz j g e).2⟩
  · rcases List.mem_append.1 hx with hx | hx
    · exact (hls x hx).more (fun b hb => .inr hb)
    · exact (h.fz x hx).more (fun b hb => .inl hb)
  · rcases hb with hb | hb
    · exact h.zl b hb
    · obtain ⟨q1, q2, -⟩ := own_rowT (h.own i) hb
      exact ⟨q1, q2, (h.rz i b hb).2⟩
/-- A cell of a row is written. -/
theorem Sep.write (h : Sep W lo bb Z r fz) (i : Nat) {g n cap : Nat} (hv : (r i).v = .slice (some ⟨g, 0, none⟩) n cap) (hn : (r i).n = n) (j : Nat) (u : Value) : Sep (W.setCell ⟨g, j, none⟩ u) lo bb Z (updR r i ⟨(r i).e, (r i).k, (r i).v, (r i).n, (r i).xs.set j u⟩) fz := by
  have hown := h.own i
  have hg : (r i).v.ownBlock = some g := by rw [hv]; rfl
  rw [hv, hn] at hown
  have hs := hown.stored j u
  refine h.app i (x := ⟨(r i).e, (r i).k, (r i).v, (r i).n, (r i).xs.set j u⟩) ?_ ?_ (.inl rfl)
  · simp only
    rw [hv, hn]
    exact hs.1
  · rw [hg]
    exact hs.2
end
end Go.Proofs.YthmjkmdbggfiiaaGreatDoor.KB

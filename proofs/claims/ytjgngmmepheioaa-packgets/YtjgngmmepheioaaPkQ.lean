import Derived.Test.YtjgngmmepheioaaPxH
import Derived.Lib.AppendStr
import Derived.Lib.UnsafeStr
namespace Go.Proofs.Ytjgngmmepheioaa
open Go.RowKit

/-- The writer's state: the bytes up to here, whether it is beyond a bound. -/
structure WS (lo wb : Nat) (W : World) (acc : List UInt8) (by_ : Bool) : Prop where
  own : ∃ p cap, W.cell? ⟨wb, 0, none⟩ = some (.slice p acc.length cap) ∧ W.ownsRow (wb + 1) 5 1 (.slice p acc.length cap) acc.length (Go.Lib.byteCells acc)
  c1 : W.cell? ⟨wb, 1, none⟩ = some (.bool by_)
  fz : ∀ j, W.frozen? ⟨wb, j, none⟩ = false
  le : acc.length ≤ 131072
  lo : lo ≤ wb
theorem WS.lt {lo wb : Nat} {W : World} {acc : List UInt8} {b : Bool} (h : WS lo wb W acc b) : wb < W.heap.size := World.block_lt_of_cell? _ _ h.c1
/-- All blocks but the writer's own and those of bytes stay. -/
def Kt (wb : Nat) (W W' : World) : Prop := ∀ k c t f, k ≠ wb → W.heap[k]? = some (.cells c t f) → t ≠ 5 → W'.heap[k]? = W.heap[k]?
structure Bk (lo wb : Nat) (W W' : World) : Prop where
  bl : Below lo W W'
  kt : Kt wb W W'
theorem Bk.refl (lo wb : Nat) (W : World) : Bk lo wb W W := ⟨Below.refl _ _, fun _ _ _ _ _ _ _ => rfl⟩
theorem Bk.trans {lo wb : Nat} {W W1 W2 : World} (h : Bk lo wb W W1) (k : Bk lo wb W1 W2) : Bk lo wb W W2 := ⟨h.bl.trans k.bl, fun i c t f hi h0 ht => by
  have e := h.kt i c t f hi h0 ht
  rw [← e]
  exact k.kt i c t f hi (e.trans h0) ht⟩
theorem heap_lt {W : World} {k : Nat} {o : Obj} (h : W.heap[k]? = some o) : k < W.heap.size := (Array.getElem?_eq_some_iff.mp h).1
theorem Kt.of_gr {wb : Nat} {W W' : World} (h : W.grownBy W' (some wb)) : Kt wb W W' := fun k _ _ _ hk h0 _ => h.block k (heap_lt h0) (fun e => hk (Option.some.inj e))
theorem Bk.set {lo wb : Nat} (W : World) (h : lo ≤ wb) (i : Nat) (v : Value) : Bk lo wb W (W.setCell ⟨wb, i, none⟩ v) := ⟨(Below.refl lo W).setCell (p := ⟨wb, i, none⟩) h v, Kt.of_gr (gr_set W wb i v)⟩
theorem Bk.alloc {lo wb : Nat} (W : World) (h : lo ≤ W.heap.size) (o : Obj) : Bk lo wb W (W.alloc o) := ⟨(Below.refl lo W).alloc h o, Kt.of_gr (World.grownBy_alloc W o _)⟩
/-- What was written. -/
def Wr (acc : List UInt8) (b : Bool) (acc2 : List UInt8) (b2 : Bool) (x : List UInt8) (ok : Prop) : Prop := (b2 = false → b = false ∧ acc2 = acc ++ x ∧ ok) ∧ (b = false → acc.length + x.length ≤ 131072 → ok → b2 = false)
theorem Wr.trans {a0 a1 a2 x y : List UInt8} {b0 b1 b2 : Bool} {p q : Prop} (h : Wr a0 b0 a1 b1 x p) (k : Wr a1 b1 a2 b2 y q) : Wr a0 b0 a2 b2 (x ++ y) (p ∧ q) := by
  refine ⟨fun h2 => ?_, fun h0 hl hpq => ?_⟩
  · obtain ⟨k1, k2, k3⟩ := k.1 h2
    obtain ⟨h1, h3, h4⟩ := h.1 k1
    exact ⟨h1, by rw [k2, h3, List.append_assoc], h4, k3⟩
  · rw [List.length_append] at hl
    have h1 := h.2 h0 (by omega) hpq.1
    have h3 := (h.1 h1).2.1
    exact k.2 h1 (by rw [h3, List.length_append]; omega) hpq.2
/-- What a piece of the writer does. -/
def Wp (lo wb : Nat) (acc : List UInt8) (b : Bool) (x : List UInt8) (ok : Prop) (W : World) (e : Ending) (W' : World) : Prop := e = .returned (.tuple #[]) ∧ ∃ acc2 b2, WS lo wb W' acc2 b2 ∧ Bk lo wb W W' ∧ Wr acc b acc2 b2 x ok
theorem own_ne {W : World} {wb n : Nat} {v : Value} {xs : List Value} (h : W.ownsRow (wb + 1) 5 1 v n xs) : v.ownBlock = none ∨ v.ownBlock ≠ some wb := by
  cases hv : v.ownBlock with
  | none => exact .inl rfl
  | some g =>
    right
    intro e
    have := (h.lt g hv).1
    injection e with e
    omega
theorem WS.set1 {lo wb : Nat} {W : World} {acc : List UInt8} {b : Bool} (h : WS lo wb W acc b) (b2 : Bool) : WS lo wb (W.setCell ⟨wb, 1, none⟩ (.bool b2)) acc b2 := by
  obtain ⟨p, cap, h0, ho⟩ := h.own
  refine ⟨⟨p, cap, ?_, ho.kept (gr_set W wb 1 (.bool b2)) (own_ne ho)⟩, World.cell?_setCell_same _ _ _ h.c1, fun j => by rw [World.frozen?_setCell]; exact h.fz j, h.le, h.lo⟩
  rw [World.cell?_setCell_other _ _ _ _ (fun e => by cases e)]
  exact h0
theorem WS.alloc {lo wb : Nat} {W : World} {acc : List UInt8} {b : Bool} (h : WS lo wb W acc b) (o : Obj) : WS lo wb (W.alloc o) acc b := by
  obtain ⟨p, cap, h0, ho⟩ := h.own
  have hg := World.grownBy_alloc W o none
  exact ⟨⟨p, cap, (gr_cell hg h.lt (by simp) 0).trans h0, ho.alloc o⟩, (gr_cell hg h.lt (by simp) 1).trans h.c1, fun j => (gr_frozen hg h.lt (by simp) j).trans (h.fz j), h.le, h.lo⟩
theorem bytes_snoc (l : List UInt8) {k : Nat} (hk : k < 256) : Go.Lib.byteCells l ++ [.int .u8 (k : Int)] = Go.Lib.byteCells (l ++ [UInt8.ofNat k]) := by
  unfold Go.Lib.byteCells
  rw [List.map_append, List.map_singleton, UInt8.toNat_ofNat']
  congr 4
  omega
theorem own_slice {W : World} {g n : Nat} {v : Value} {xs : List Value} (h : W.ownsRow g 5 1 v n xs) : ∃ p cap, v = .slice p n cap := by
  obtain ⟨_, ⟨e, h0⟩ | ⟨g, cap, cur, e, _⟩⟩ := h
  · exact ⟨none, 0, by rw [e, h0]⟩
  · exact ⟨_, cap, e⟩
/-- Behind an append. -/
theorem WS.push {lo wb : Nat} {X w4 : World} {acc acc2 : List UInt8} {b : Bool} {v v2 : Value} (h : WS lo wb X acc b) (ho : X.ownsRow (wb + 1) 5 1 v acc.length (Go.Lib.byteCells acc)) (hg : X.grownBy w4 v.ownBlock) (ho2 : w4.ownsRow (wb + 1) 5 1 v2 acc2.length (Go.Lib.byteCells acc2)) (hl : acc2.length ≤ 131072) : WS lo wb (w4.setCell ⟨wb, 0, none⟩ v2) acc2 b ∧ Bk lo wb X (w4.setCell ⟨wb, 0, none⟩ v2) ∧ (∃ u, w4.cell? ⟨wb, 0, none⟩ = some u) ∧ w4.frozen? ⟨wb, 0, none⟩ = false := by
  have hne : some wb ≠ v.ownBlock := fun e => by
    rcases own_ne ho with h1 | h1
    · rw [h1] at e; cases e
    · exact h1 e.symm
  obtain ⟨p0, cap0, h0, -⟩ := h.own
  have k0 := (gr_cell hg h.lt hne 0).trans h0
  have k1 := (gr_cell hg h.lt hne 1).trans h.c1
  obtain ⟨p2, cap2, rfl⟩ := own_slice ho2
  refine ⟨⟨⟨p2, cap2, World.cell?_setCell_same _ _ _ k0, ho2.kept (gr_set w4 wb 0 _) (own_ne ho2)⟩, ?_, fun j => ?_, hl, h.lo⟩, ?_, ⟨_, k0⟩, (gr_frozen hg h.lt hne 0).trans (h.fz 0)⟩
  · rw [World.cell?_setCell_other _ _ _ _ (fun e => by cases e)]
    exact k1
  · rw [World.frozen?_setCell]
    exact (gr_frozen hg h.lt hne j).trans (h.fz j)
  · have h1 : Below lo X w4 := ⟨hg.os, hg.tape, hg.output, hg.size, fun k hk => hg.block k (Nat.lt_of_lt_of_le hk (Nat.le_trans h.lo (Nat.le_of_lt h.lt))) (fun e => by
      have := (ho.lt k e.symm).1
      have := h.lo
      omega)⟩
    have h2 : Kt wb X w4 := fun k c t f _ hk ht => hg.block k (heap_lt hk) (fun e => by
      obtain ⟨_, ⟨rfl, _⟩ | ⟨g, cap, cur, rfl, _, hc, _⟩⟩ := ho
      · cases e
      · have e : k = g := Option.some.inj e
        rw [e, hc] at hk
        injection hk with hk
        injection hk with _ hk
        exact ht hk.symm)
    exact Bk.trans ⟨h1, h2⟩ (Bk.set w4 h.lo 0 _)
theorem size_set (X : World) (a : Addr) (v : Value) : (X.setCell a v).heap.size = X.heap.size := by simp [World.setCell]
def Marker (P : Prop) := P
theorem dbgM {P : Prop} (h : Marker P) : P := h
theorem infoU8 : (Try.prog.info? 5).map (fun i => (i.zero, i.size, i.bytes)) = some (some (.int .u8 0), 1, 1) := by kernel_rfl

end Go.Proofs.Ytjgngmmepheioaa

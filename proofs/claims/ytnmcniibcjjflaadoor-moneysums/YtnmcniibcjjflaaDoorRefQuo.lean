import Derived.Test.YtnmcniibcjjflaaDoorRounded2
import Derived.Test.YtnmcniibcjjflaaDoorLooked
import Derived.Test.YtnmcniibcjjflaaDoorFitting
import Derived.Test.YtnmcniibcjjflaaDoorRows2
import Derived.Test.YtnmcniibcjjflaaDoorTakes
import Derived.Test.YtnmcniibcjjflaaDoorPlain7
import Derived.Deep.RegionHeld3
namespace Go.Proofs.YtnmcniibcjjflaaDoor
open Go.RowKit

theorem rsize_v (n : Int) (a : Nat) (ha : Hid (a = n.natAbs)) (w : World) (h1 : -9999999999999 ≤ n) (h2 : n ≤ 9999999999999) :
    Calls Tryd.prog 68 #[.int .i64 n] w fun e w' => e = .returned (.int .i64 (a : Int)) ∧ w' = w := by
  rw [ha.out]
  exact rsize_any n w (by omega) (by omega)

/-- A call by its contract: two numbers in boxes and the result's box are kept. -/
theorem heldR {w0 X : World} {b0 b1 b2 : Nat} {x0 x1 : Value} {f : Nat} {args : Array Value} {Q : Ending → World → Prop}
    (h : X.cell? ⟨b0, 1, none⟩ = some x0 ∧ X.cell? ⟨b1, 1, none⟩ = some x1 ∧ Box X b2 (.int .i64 0) (.int .i64 0) ∧ Below w0.heap.size w0 X)
    (hc : Calls Tryd.prog f args X Q) (hQ : ∀ e w', Q e w' → Below X.heap.size X w') :
    Calls Tryd.prog f args X fun e w1 => Q e w1 ∧ (w1.cell? ⟨b0, 1, none⟩ = some x0 ∧ w1.cell? ⟨b1, 1, none⟩ = some x1 ∧ Box w1 b2 (.int .i64 0) (.int .i64 0) ∧ Below w0.heap.size w0 w1) :=
  hc.mono fun e w1 hq => by
    have hb := hQ e w1 hq
    obtain ⟨h0, h1, h2, h3⟩ := h
    exact ⟨hq, (hb.cell (p := ⟨b0, 1, none⟩) (World.block_lt_of_cell? _ _ h0)).trans h0, (hb.cell (p := ⟨b1, 1, none⟩) (World.block_lt_of_cell? _ _ h1)).trans h1, h2.later hb, below_step h3 hb⟩

/-- The same for one number. -/
theorem heldR1 {w0 X : World} {b0 b2 : Nat} {x0 : Value} {f : Nat} {args : Array Value} {Q : Ending → World → Prop}
    (h : X.cell? ⟨b0, 1, none⟩ = some x0 ∧ Box X b2 (.int .i64 0) (.int .i64 0) ∧ Below w0.heap.size w0 X)
    (hc : Calls Tryd.prog f args X Q) (hQ : ∀ e w', Q e w' → Below X.heap.size X w') :
    Calls Tryd.prog f args X fun e w1 => Q e w1 ∧ (w1.cell? ⟨b0, 1, none⟩ = some x0 ∧ Box w1 b2 (.int .i64 0) (.int .i64 0) ∧ Below w0.heap.size w0 w1) :=
  hc.mono fun e w1 hq => by
    have hb := hQ e w1 hq
    obtain ⟨h0, h2, h3⟩ := h
    exact ⟨hq, (hb.cell (p := ⟨b0, 1, none⟩) (World.block_lt_of_cell? _ _ h0)).trans h0, h2.later hb, below_step h3 hb⟩

theorem same_below {X w' : World} {e : Ending} {v : Value} (h : e = .returned v ∧ w' = X) : Below X.heap.size X w' := h.2 ▸ Below.refl _ _

end Go.Proofs.YtnmcniibcjjflaaDoor

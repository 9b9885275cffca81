import Derived.Test.YtekapipfaahhcaaGreatDoorDNumber
import Derived.Deep.RegionHeld3
namespace Go.Proofs.YtekapipfaahhcaaGreatDoor
open Go.RowKit

/-- What a call leaves as it is. -/
def Stb (P : World → Prop) : Prop := ∀ X w1 : World, P X → Below X.heap.size X w1 → P w1
theorem stb_cell {b o : Nat} {v : Value} : Stb (fun X => X.cell? ⟨b, o, none⟩ = some v) := fun _ _ h hb => (hb.cell (p := ⟨b, o, none⟩) (World.block_lt_of_cell? _ _ h)).trans h
theorem stb_mon : Stb Mon := fun _ _ h hb => h.later hb
theorem stb_below {w0 : World} : Stb (fun X => Below w0.heap.size w0 X) := fun _ _ h hb => below_step h hb
theorem stb_box {b : Nat} {x y z : Value} : Stb (fun X => Box3 X b x y z) := fun _ _ h hb => h.later hb
theorem Stb.and {P Q : World → Prop} (hP : Stb P) (hQ : Stb Q) : Stb (fun X => P X ∧ Q X) := fun X w1 h hb => ⟨hP X w1 h.1 hb, hQ X w1 h.2 hb⟩
theorem heldP {P : World → Prop} (hst : Stb P) {X : World} {f : Nat} {args : Array Value} {R : Ending} (h : P X)
    (hc : P X → Calls Tryz.prog f args X fun e w' => e = R ∧ Below X.heap.size X w') : Calls Tryz.prog f args X fun e w' => e = R ∧ P w' :=
  (hc h).mono fun _ _ ⟨he, hb⟩ => ⟨he, hst X _ h hb⟩
theorem same_below {X : World} {f : Nat} {args : Array Value} {R : Ending} (hc : Calls Tryz.prog f args X fun e w' => e = R ∧ w' = X) : Calls Tryz.prog f args X fun e w' => e = R ∧ Below X.heap.size X w' :=
  hc.mono fun _ _ ⟨he, hw⟩ => ⟨he, hw ▸ Below.refl _ _⟩

end Go.Proofs.YtekapipfaahhcaaGreatDoor

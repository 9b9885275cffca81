import Derived.Test.YthbojlbgjmecoaaGreatDmI
import Derived.Deep.RegionLaw
/- Sync, Trim, Remove. -/
namespace Go.Proofs.YthbojlbgjmecoaaGreat.DJ
open Go.RowKit

theorem en150 (x : Array Value) (w : World) : (callFunc 89 x).run Tryz.prog w = .ok (.enter 89 x) w := by
  kernel_rfl
theorem en151 (x : Array Value) (w : World) : (callFunc 90 x).run Tryz.prog w = .ok (.enter 90 x) w := by
  kernel_rfl

set_option maxRecDepth 4000 in
set_option maxHeartbeats 1000000 in
theorem alter1_any {lo db : Nat} {S : Nat → Prop} {d : Dk} {nm : List Nat} (hl : nm.length ≤ 4294967296) (hb : ∀ x ∈ nm, x < 256) (w : World) (x0 x1 : Nat) (h0 : w.cell? ⟨x0, 0, none⟩ = some (.pointer (some ⟨db, 0, none⟩))) (h1 : w.cell? ⟨x1, 0, none⟩ = some (.string (strB nm))) (h : DiskAt w lo S db d) :
    Calls Tryz.prog 89 #[.pointer (some ⟨x0, 0, none⟩), .pointer (some ⟨x1, 0, none⟩)] w fun e w' => e = .returned (.int .i64 (if get d.fs nm = none then 193 else 0 : Nat)) ∧ w' = w := by
  have hf := find_any hl hb w h
  generalize (if get d.fs nm = none then 193 else 0 : Nat) = z at *
  generalize strB nm = s at *
  clear h
  go_enter Tryz.func89, Tryz.ntmps89
  go_wp2_with (go_at_call 78; refine hf.mono ?_; rintro e w9 ⟨rfl, rfl⟩)
  go_ret
  exact ⟨rfl, rfl⟩

/-- What is asked of the function that alters a file. -/
def Alters (n3 : FuncId) (c3 : Array Value) (lo db : Nat) (S : Nat → Prop) (d : Dk) (f : Fl) (fs' : List Fl) (X : World) : Prop :=
  ∀ mb D fb vv, Lay X lo S db d mb D fb vv → Calls Tryz.prog n3 (#[.pointer (some ⟨fb f.nm, 0, none⟩)] ++ c3) X fun e X' => e = .returned (.tuple #[]) ∧ ∃ S', DiskAt X' lo S' db { d with fs := fs' } ∧ Dv S X S' X'

set_option maxRecDepth 4000 in
set_option maxHeartbeats 1000000 in
theorem alter2_any {lo db : Nat} {S : Nat → Prop} {d : Dk} {f : Fl} (hf : f ∈ d.fs) {fs' : List Fl} (n3 : FuncId) (hn3 : ∀ (x : Array Value) (w : World), (callFunc n3 x).run Tryz.prog w = .ok (.enter n3 x) w) (c3 : Array Value) (u : Nat) (hu : u ≤ 1) (w : World) (x0 x1 x2 : Nat) (h0 : w.cell? ⟨x0, 0, none⟩ = some (.func (.func n3) #[] c3)) (h1 : w.cell? ⟨x1, 0, none⟩ = some (.pointer (some ⟨db, 0, none⟩))) (h2 : w.cell? ⟨x2, 0, none⟩ = some (.string (strB f.nm))) (h : DiskAt w lo S db d)
    (hA : ∀ X, Below w.heap.size w X → Alters n3 c3 lo db S d f fs' X) :
    Calls Tryz.prog 90 #[.int .i64 (u : Int), .pointer (some ⟨x0, 0, none⟩), .pointer (some ⟨x1, 0, none⟩), .pointer (some ⟨x2, 0, none⟩)] w fun e w' => e = .returned (.tuple #[]) ∧ ∃ S', DiskAt w' lo S' db { d with fs := if u = 1 then fs' else d.fs } ∧ Dv S w S' w' := by
  by_cases h1u : u = 1
  case neg =>
    obtain rfl : u = 0 := by omega
    have hD : Hid (DiskAt w lo S db { d with fs := if 0 = 1 then fs' else d.fs }) := ⟨h⟩
    clear h hA
    go_enter Tryz.func90, Tryz.ntmps90
    go_wp2
    go_end0
    exact ⟨rfl, S, hD.out, .refl _ _⟩
  subst h1u
  simp only [if_true]
  obtain ⟨mb, D, fb, vv, h⟩ := h
  obtain ⟨c0, -⟩ := h.cells
  have hl : ∀ X, Below w.heap.size w X → (Instr.lookup 94 (.map (some mb)) (.string (strB f.nm)) false).run Tryz.prog X = .ok (.pointer (some ⟨fb f.nm, 0, none⟩)) X := fun X hX => (h.grS (T := fun _ => False) (.of_below hX) (fun _ _ h => h)).look hf
  have hC := fun X hX => hA X hX mb D fb vv (h.grS (T := fun _ => False) (.of_below hX) (fun _ _ h => h))
  have B0 : Below w.heap.size w w.drew := (Below.refl _ _).drew
  have hl0 := hl _ B0
  have hC0 := hC _ B0
  clear h hA hl hC
  generalize strB f.nm = s at *
  generalize fb f.nm = b at *
  go_enter Tryz.func90, Tryz.ntmps90
  go_wp2
  go_region_law (go_simp; refine hC0.mono ?_; rintro e w9 ⟨rfl, S', h9, hv9⟩)
  all_goals
    go_wp2
    go_end0
    exact ⟨rfl, S', h9, Dv.trans (.below B0) hv9⟩

end Go.Proofs.YthbojlbgjmecoaaGreat.DJ

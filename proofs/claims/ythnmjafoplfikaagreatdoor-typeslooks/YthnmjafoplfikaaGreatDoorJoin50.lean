import Derived.Test.YthnmjafoplfikaaGreatDoorJoin49
import Derived.Test.YthnmjafoplfikaaGreatDoorJoin42
import Derived.Test.YthnmjafoplfikaaGreatDoorTurnYL2
import Derived.Test.YthnmjafoplfikaaGreatDoorTurnRmW
import Derived.Test.YthnmjafoplfikaaGreatDoorTurnRmR
namespace Go.Proofs.YthnmjafoplfikaaGreatDoor
open Go.RowKit

def plX : Ex := ⟨6, 0, 0, 0, .nil⟩
def plB : Ex := ⟨13, 0, 0, 0, .cons 6 0 0 0 .nil (.cons 6 0 0 0 .nil .nil)⟩
def plC : Cl := ⟨0, false, ⟨0, 0, 0, 0, .nil⟩, plB⟩
/-- The plain pack. -/
def plP : Pk := ⟨[112], 2025, [], [], [], [⟨[97], true, false, 1, -1, -1, []⟩, ⟨[98], false, false, 1, -1, -1, [plC]⟩], []⟩
/-- What plain answers: its lines lie at a place of their own. -/
def PlP (W : World) (e : Ending) (W' : World) : Prop := Below W.heap.size W W' ∧ ∃ lb kb ab, e = .returned (.agg #[.string ⟨#[112]⟩, .int .i64 2025, .slice none 0 0, .slice none 0 0, .slice none 0 0, .slice (some ⟨lb, 0, none⟩) 2 2, .slice none 0 0]) ∧ Bx W' lb [.string ⟨#[97]⟩, .bool true, .bool false, .int .i64 1, .int .i64 (-1), .int .i64 (-1), .slice none 0 0, .string ⟨#[98]⟩, .bool false, .bool false, .int .i64 1, .int .i64 (-1), .int .i64 (-1), .slice (some ⟨kb, 0, none⟩) 1 1] ∧ Bx W' kb [.int .i64 0, .bool false, .int .i64 0, .int .i64 0, .int .i64 0, .int .i64 0, .slice none 0 0, .int .i64 13, .int .i64 0, .int .i64 0, .int .i64 0, .slice (some ⟨ab, 0, none⟩) 2 2] ∧ Bx W' ab [.int .i64 6, .int .i64 0, .int .i64 0, .int .i64 0, .slice none 0 0, .int .i64 6, .int .i64 0, .int .i64 0, .int .i64 0, .slice none 0 0]
set_option maxRecDepth 20000 in
set_option maxHeartbeats 2000000 in
theorem lplain_any (W : World) : Calls Tryz.prog 60 #[] W (PlP W) := by
  have k : ∀ (X : World) (o : Obj) (b : Nat) (vs : List Value), Bx X b vs → Bx (X.alloc o) b vs := fun X o b vs h => h.kept (World.grownBy_alloc X o none) (by simp)
  have s4 : ((((W.alloc (.cells #[.string ⟨#[112]⟩, .int .i64 2025, .slice none 0 0, .slice none 0 0, .slice none 0 0, .slice (some ⟨W.heap.size + 1 + 1 + 1 + 1 + 1 + 1, 0, none⟩) 2 2, .slice none 0 0] 28)).alloc (.cells #[.string ⟨#[97]⟩, .bool true, .bool false, .int .i64 1, .int .i64 (-1), .int .i64 (-1), .slice none 0 0] 78)).alloc (.cells #[.string ⟨#[98]⟩, .bool false, .bool false, .int .i64 1, .int .i64 (-1), .int .i64 (-1), .slice (some ⟨W.heap.size + 1 + 1 + 1 + 1 + 1, 0, none⟩) 1 1] 78)).alloc (.cells #[.int .i64 6, .int .i64 0, .int .i64 0, .int .i64 0, .slice none 0 0] 73)).heap.size = W.heap.size + 1 + 1 + 1 + 1 := by simp
  have s5 : (((((W.alloc (.cells #[.string ⟨#[112]⟩, .int .i64 2025, .slice none 0 0, .slice none 0 0, .slice none 0 0, .slice (some ⟨W.heap.size + 1 + 1 + 1 + 1 + 1 + 1, 0, none⟩) 2 2, .slice none 0 0] 28)).alloc (.cells #[.string ⟨#[97]⟩, .bool true, .bool false, .int .i64 1, .int .i64 (-1), .int .i64 (-1), .slice none 0 0] 78)).alloc (.cells #[.string ⟨#[98]⟩, .bool false, .bool false, .int .i64 1, .int .i64 (-1), .int .i64 (-1), .slice (some ⟨W.heap.size + 1 + 1 + 1 + 1 + 1, 0, none⟩) 1 1] 78)).alloc (.cells #[.int .i64 6, .int .i64 0, .int .i64 0, .int .i64 0, .slice none 0 0] 73)).alloc (.cells #[.int .i64 6, .int .i64 0, .int .i64 0, .int .i64 0, .slice none 0 0, .int .i64 6, .int .i64 0, .int .i64 0, .int .i64 0, .slice none 0 0] 73)).heap.size = W.heap.size + 1 + 1 + 1 + 1 + 1 := by simp
  have s6 : ((((((W.alloc (.cells #[.string ⟨#[112]⟩, .int .i64 2025, .slice none 0 0, .slice none 0 0, .slice none 0 0, .slice (some ⟨W.heap.size + 1 + 1 + 1 + 1 + 1 + 1, 0, none⟩) 2 2, .slice none 0 0] 28)).alloc (.cells #[.string ⟨#[97]⟩, .bool true, .bool false, .int .i64 1, .int .i64 (-1), .int .i64 (-1), .slice none 0 0] 78)).alloc (.cells #[.string ⟨#[98]⟩, .bool false, .bool false, .int .i64 1, .int .i64 (-1), .int .i64 (-1), .slice (some ⟨W.heap.size + 1 + 1 + 1 + 1 + 1, 0, none⟩) 1 1] 78)).alloc (.cells #[.int .i64 6, .int .i64 0, .int .i64 0, .int .i64 0, .slice none 0 0] 73)).alloc (.cells #[.int .i64 6, .int .i64 0, .int .i64 0, .int .i64 0, .slice none 0 0, .int .i64 6, .int .i64 0, .int .i64 0, .int .i64 0, .slice none 0 0] 73)).alloc (.cells #[.int .i64 0, .bool false, .int .i64 0, .int .i64 0, .int .i64 0, .int .i64 0, .slice none 0 0, .int .i64 13, .int .i64 0, .int .i64 0, .int .i64 0, .slice (some ⟨W.heap.size + 1 + 1 + 1 + 1, 0, none⟩) 2 2] 80)).heap.size = W.heap.size + 1 + 1 + 1 + 1 + 1 + 1 := by simp
  have b4 := bx_new ((((W.alloc (.cells #[.string ⟨#[112]⟩, .int .i64 2025, .slice none 0 0, .slice none 0 0, .slice none 0 0, .slice (some ⟨W.heap.size + 1 + 1 + 1 + 1 + 1 + 1, 0, none⟩) 2 2, .slice none 0 0] 28)).alloc (.cells #[.string ⟨#[97]⟩, .bool true, .bool false, .int .i64 1, .int .i64 (-1), .int .i64 (-1), .slice none 0 0] 78)).alloc (.cells #[.string ⟨#[98]⟩, .bool false, .bool false, .int .i64 1, .int .i64 (-1), .int .i64 (-1), .slice (some ⟨W.heap.size + 1 + 1 + 1 + 1 + 1, 0, none⟩) 1 1] 78)).alloc (.cells #[.int .i64 6, .int .i64 0, .int .i64 0, .int .i64 0, .slice none 0 0] 73)) #[.int .i64 6, .int .i64 0, .int .i64 0, .int .i64 0, .slice none 0 0, .int .i64 6, .int .i64 0, .int .i64 0, .int .i64 0, .slice none 0 0] 73
  have b5 := bx_new (((((W.alloc (.cells #[.string ⟨#[112]⟩, .int .i64 2025, .slice none 0 0, .slice none 0 0, .slice none 0 0, .slice (some ⟨W.heap.size + 1 + 1 + 1 + 1 + 1 + 1, 0, none⟩) 2 2, .slice none 0 0] 28)).alloc (.cells #[.string ⟨#[97]⟩, .bool true, .bool false, .int .i64 1, .int .i64 (-1), .int .i64 (-1), .slice none 0 0] 78)).alloc (.cells #[.string ⟨#[98]⟩, .bool false, .bool false, .int .i64 1, .int .i64 (-1), .int .i64 (-1), .slice (some ⟨W.heap.size + 1 + 1 + 1 + 1 + 1, 0, none⟩) 1 1] 78)).alloc (.cells #[.int .i64 6, .int .i64 0, .int .i64 0, .int .i64 0, .slice none 0 0] 73)).alloc (.cells #[.int .i64 6, .int .i64 0, .int .i64 0, .int .i64 0, .slice none 0 0, .int .i64 6, .int .i64 0, .int .i64 0, .int .i64 0, .slice none 0 0] 73)) #[.int .i64 0, .bool false, .int .i64 0, .int .i64 0, .int .i64 0, .int .i64 0, .slice none 0 0, .int .i64 13, .int .i64 0, .int .i64 0, .int .i64 0, .slice (some ⟨W.heap.size + 1 + 1 + 1 + 1, 0, none⟩) 2 2] 80
  have b6 := bx_new ((((((W.alloc (.cells #[.string ⟨#[112]⟩, .int .i64 2025, .slice none 0 0, .slice none 0 0, .slice none 0 0, .slice (some ⟨W.heap.size + 1 + 1 + 1 + 1 + 1 + 1, 0, none⟩) 2 2, .slice none 0 0] 28)).alloc (.cells #[.string ⟨#[97]⟩, .bool true, .bool false, .int .i64 1, .int .i64 (-1), .int .i64 (-1), .slice none 0 0] 78)).alloc (.cells #[.string ⟨#[98]⟩, .bool false, .bool false, .int .i64 1, .int .i64 (-1), .int .i64 (-1), .slice (some ⟨W.heap.size + 1 + 1 + 1 + 1 + 1, 0, none⟩) 1 1] 78)).alloc (.cells #[.int .i64 6, .int .i64 0, .int .i64 0, .int .i64 0, .slice none 0 0] 73)).alloc (.cells #[.int .i64 6, .int .i64 0, .int .i64 0, .int .i64 0, .slice none 0 0, .int .i64 6, .int .i64 0, .int .i64 0, .int .i64 0, .slice none 0 0] 73)).alloc (.cells #[.int .i64 0, .bool false, .int .i64 0, .int .i64 0, .int .i64 0, .int .i64 0, .slice none 0 0, .int .i64 13, .int .i64 0, .int .i64 0, .int .i64 0, .slice (some ⟨W.heap.size + 1 + 1 + 1 + 1, 0, none⟩) 2 2] 80)) #[.string ⟨#[97]⟩, .bool true, .bool false, .int .i64 1, .int .i64 (-1), .int .i64 (-1), .slice none 0 0, .string ⟨#[98]⟩, .bool false, .bool false, .int .i64 1, .int .i64 (-1), .int .i64 (-1), .slice (some ⟨W.heap.size + 1 + 1 + 1 + 1 + 1, 0, none⟩) 1 1] 78
  rw [s4] at b4
  rw [s5] at b5
  rw [s6] at b6
  have hff : PlP W (.returned (.agg #[.string ⟨#[112]⟩, .int .i64 2025, .slice none 0 0, .slice none 0 0, .slice none 0 0, .slice (some ⟨W.heap.size + 1 + 1 + 1 + 1 + 1 + 1, 0, none⟩) 2 2, .slice none 0 0])) (((((((W.alloc (.cells #[.string ⟨#[112]⟩, .int .i64 2025, .slice none 0 0, .slice none 0 0, .slice none 0 0, .slice (some ⟨W.heap.size + 1 + 1 + 1 + 1 + 1 + 1, 0, none⟩) 2 2, .slice none 0 0] 28)).alloc (.cells #[.string ⟨#[97]⟩, .bool true, .bool false, .int .i64 1, .int .i64 (-1), .int .i64 (-1), .slice none 0 0] 78)).alloc (.cells #[.string ⟨#[98]⟩, .bool false, .bool false, .int .i64 1, .int .i64 (-1), .int .i64 (-1), .slice (some ⟨W.heap.size + 1 + 1 + 1 + 1 + 1, 0, none⟩) 1 1] 78)).alloc (.cells #[.int .i64 6, .int .i64 0, .int .i64 0, .int .i64 0, .slice none 0 0] 73)).alloc (.cells #[.int .i64 6, .int .i64 0, .int .i64 0, .int .i64 0, .slice none 0 0, .int .i64 6, .int .i64 0, .int .i64 0, .int .i64 0, .slice none 0 0] 73)).alloc (.cells #[.int .i64 0, .bool false, .int .i64 0, .int .i64 0, .int .i64 0, .int .i64 0, .slice none 0 0, .int .i64 13, .int .i64 0, .int .i64 0, .int .i64 0, .slice (some ⟨W.heap.size + 1 + 1 + 1 + 1, 0, none⟩) 2 2] 80)).alloc (.cells #[.string ⟨#[97]⟩, .bool true, .bool false, .int .i64 1, .int .i64 (-1), .int .i64 (-1), .slice none 0 0, .string ⟨#[98]⟩, .bool false, .bool false, .int .i64 1, .int .i64 (-1), .int .i64 (-1), .slice (some ⟨W.heap.size + 1 + 1 + 1 + 1 + 1, 0, none⟩) 1 1] 78)) := ⟨((((((((Below.refl _ _).alloc (Nat.le_refl _) _).alloc (by simp) _).alloc (by simp; omega) _).alloc (by simp; omega) _).alloc (by simp; omega) _).alloc (by simp; omega) _).alloc (by simp; omega) _), _, _, _, rfl, b6, k _ _ _ _ b5, k _ _ _ _ (k _ _ _ _ b4)⟩
  have b0 : Bx (((((((W.alloc (.cells #[.string ⟨#[112]⟩, .int .i64 2025, .slice none 0 0, .slice none 0 0, .slice none 0 0, .slice (some ⟨W.heap.size + 1 + 1 + 1 + 1 + 1 + 1, 0, none⟩) 2 2, .slice none 0 0] 28)).alloc (.cells #[.string ⟨#[97]⟩, .bool true, .bool false, .int .i64 1, .int .i64 (-1), .int .i64 (-1), .slice none 0 0] 78)).alloc (.cells #[.string ⟨#[98]⟩, .bool false, .bool false, .int .i64 1, .int .i64 (-1), .int .i64 (-1), .slice (some ⟨W.heap.size + 1 + 1 + 1 + 1 + 1, 0, none⟩) 1 1] 78)).alloc (.cells #[.int .i64 6, .int .i64 0, .int .i64 0, .int .i64 0, .slice none 0 0] 73)).alloc (.cells #[.int .i64 6, .int .i64 0, .int .i64 0, .int .i64 0, .slice none 0 0, .int .i64 6, .int .i64 0, .int .i64 0, .int .i64 0, .slice none 0 0] 73)).alloc (.cells #[.int .i64 0, .bool false, .int .i64 0, .int .i64 0, .int .i64 0, .int .i64 0, .slice none 0 0, .int .i64 13, .int .i64 0, .int .i64 0, .int .i64 0, .slice (some ⟨W.heap.size + 1 + 1 + 1 + 1, 0, none⟩) 2 2] 80)).alloc (.cells #[.string ⟨#[97]⟩, .bool true, .bool false, .int .i64 1, .int .i64 (-1), .int .i64 (-1), .slice none 0 0, .string ⟨#[98]⟩, .bool false, .bool false, .int .i64 1, .int .i64 (-1), .int .i64 (-1), .slice (some ⟨W.heap.size + 1 + 1 + 1 + 1 + 1, 0, none⟩) 1 1] 78)) W.heap.size [.string ⟨#[112]⟩, .int .i64 2025, .slice none 0 0, .slice none 0 0, .slice none 0 0, .slice (some ⟨W.heap.size + 1 + 1 + 1 + 1 + 1 + 1, 0, none⟩) 2 2, .slice none 0 0] := (k _ _ _ _ (k _ _ _ _ (k _ _ _ _ (k _ _ _ _ (k _ _ _ _ (k _ _ _ _ (bx_new W #[.string ⟨#[112]⟩, .int .i64 2025, .slice none 0 0, .slice none 0 0, .slice none 0 0, .slice (some ⟨W.heap.size + 1 + 1 + 1 + 1 + 1 + 1, 0, none⟩) 2 2, .slice none 0 0] 28)))))))
  have f0 := b0.2.1 0 (by simp)
  have f1 := b0.2.1 1 (by simp)
  have f2 := b0.2.1 2 (by simp)
  have f3 := b0.2.1 3 (by simp)
  have f4 := b0.2.1 4 (by simp)
  have f5 := b0.2.1 5 (by simp)
  have f6 := b0.2.1 6 (by simp)
  clear b0 b4 b5 b6 s4 s5 s6 k
  go_enter Tryz.func60, Tryz.ntmps60
  go_wp2
  exact bodyPost_ret (v := .agg #[.string ⟨#[112]⟩, .int .i64 2025, .slice none 0 0, .slice none 0 0, .slice none 0 0, .slice (some ⟨W.heap.size + 1 + 1 + 1 + 1 + 1 + 1, 0, none⟩) 2 2, .slice none 0 0]) (by simp [results, Tryz.results60, go_sem]) rfl hff
end Go.Proofs.YthnmjafoplfikaaGreatDoor


namespace Go.Proofs.YthnmjafoplfikaaGreatDoor
open Go.RowKit

def plZ : Pk := ⟨[112], 2025, [], [], [], [], []⟩
theorem plP_ok : ckP plP = none := by kernel_rfl
theorem plP_cells : cesF plP = 2 := by kernel_rfl
theorem plP_type : tType plP (-1) plB = .ok (1, -1) := by kernel_rfl
theorem plZ_no : ckP plZ = some (⟨5, 0, -1, []⟩, 60) := by kernel_rfl
theorem plP_sz : SzP plP := ⟨by decide, ⟨by decide, fun _ h => by cases h⟩, ⟨by decide, fun _ h => by cases h⟩, ⟨by decide, fun _ h => by cases h⟩, ⟨by decide, fun o h => by
    rcases List.mem_cons.1 h with rfl | h
    · exact ⟨by decide, by decide, fun _ h => by cases h⟩
    · rcases List.mem_cons.1 h with rfl | h
      · refine ⟨by decide, by decide, fun c h => ?_⟩
        rcases List.mem_cons.1 h with rfl | h
        · exact ⟨⟨by decide, trivial⟩, ⟨by decide, ⟨by decide, trivial, ⟨by decide, trivial, trivial⟩⟩⟩⟩
        · cases h
      · cases h⟩, ⟨by decide, fun _ h => by cases h⟩⟩
theorem plZ_sz : SzP plZ := ⟨by decide, ⟨by decide, fun _ h => by cases h⟩, ⟨by decide, fun _ h => by cases h⟩, ⟨by decide, fun _ h => by cases h⟩, ⟨by decide, fun _ h => by cases h⟩, ⟨by decide, fun _ h => by cases h⟩⟩
theorem rg_d {z : Int} (h1 : -9223372036854775808 ≤ z) (h2 : z ≤ 9223372036854775807) : Rg z := ⟨h1, h2⟩
theorem pl_fo {W : World} {ab : Nat} (h : Bx W ab [.int .i64 6, .int .i64 0, .int .i64 0, .int .i64 0, .slice none 0 0, .int .i64 6, .int .i64 0, .int .i64 0, .int .i64 0, .slice none 0 0]) : FoAt W AnyB plB.args (some ⟨ab, 0, none⟩) := by
  have r : RowR eE W AnyB [plX, plX] (some ⟨ab, 0, none⟩) := .inr ⟨ab, 0, [.int .i64 6, .int .i64 0, .int .i64 0, .int .i64 0, .slice none 0 0, .int .i64 6, .int .i64 0, .int .i64 0, .int .i64 0, .slice none 0 0], rfl, trivial, h.1, fun j hj => by rw [Nat.zero_add]; exact h.2.1 j hj, Elems.cons' (D := eE) (cx := [.int .i64 6, .int .i64 0, .int .i64 0, .int .i64 0, .slice none 0 0]) ⟨none, 0, rfl, ⟨rg_d (by decide) (by decide), rg_d (by decide) (by decide), rg_d (by decide) (by decide), rg_d (by decide) (by decide)⟩, trivial⟩ (Elems.cons' (D := eE) (cx := [.int .i64 6, .int .i64 0, .int .i64 0, .int .i64 0, .slice none 0 0]) ⟨none, 0, rfl, ⟨rg_d (by decide) (by decide), rg_d (by decide) (by decide), rg_d (by decide) (by decide), rg_d (by decide) (by decide)⟩, trivial⟩ (Elems.nil _ _ _))⟩
  exact fo_of_row r
theorem pl_cl {W : World} {kb ab : Nat} (hk : Bx W kb [.int .i64 0, .bool false, .int .i64 0, .int .i64 0, .int .i64 0, .int .i64 0, .slice none 0 0, .int .i64 13, .int .i64 0, .int .i64 0, .int .i64 0, .slice (some ⟨ab, 0, none⟩) 2 2]) (h : Bx W ab [.int .i64 6, .int .i64 0, .int .i64 0, .int .i64 0, .slice none 0 0, .int .i64 6, .int .i64 0, .int .i64 0, .int .i64 0, .slice none 0 0]) : RowR eC W AnyB [plC] (some ⟨kb, 0, none⟩) := .inr ⟨kb, 0, [.int .i64 0, .bool false, .int .i64 0, .int .i64 0, .int .i64 0, .int .i64 0, .slice none 0 0, .int .i64 13, .int .i64 0, .int .i64 0, .int .i64 0, .slice (some ⟨ab, 0, none⟩) 2 2], rfl, trivial, hk.1, fun j hj => by rw [Nat.zero_add]; exact hk.2.1 j hj, Elems.cons' (D := eC) (cx := [.int .i64 0, .bool false, .int .i64 0, .int .i64 0, .int .i64 0, .int .i64 0, .slice none 0 0, .int .i64 13, .int .i64 0, .int .i64 0, .int .i64 0, .slice (some ⟨ab, 0, none⟩) 2 2]) ⟨none, 0, some ⟨ab, 0, none⟩, 2, rfl, rg_d (by decide) (by decide), ⟨⟨rg_d (by decide) (by decide), rg_d (by decide) (by decide), rg_d (by decide) (by decide), rg_d (by decide) (by decide)⟩, ⟨rg_d (by decide) (by decide), rg_d (by decide) (by decide), rg_d (by decide) (by decide), rg_d (by decide) (by decide)⟩⟩, trivial, pl_fo h⟩ (Elems.nil _ _ _)⟩
theorem pl_ln {W : World} {lb kb ab : Nat} (hl : Bx W lb [.string ⟨#[97]⟩, .bool true, .bool false, .int .i64 1, .int .i64 (-1), .int .i64 (-1), .slice none 0 0, .string ⟨#[98]⟩, .bool false, .bool false, .int .i64 1, .int .i64 (-1), .int .i64 (-1), .slice (some ⟨kb, 0, none⟩) 1 1]) (hk : Bx W kb [.int .i64 0, .bool false, .int .i64 0, .int .i64 0, .int .i64 0, .int .i64 0, .slice none 0 0, .int .i64 13, .int .i64 0, .int .i64 0, .int .i64 0, .slice (some ⟨ab, 0, none⟩) 2 2]) (h : Bx W ab [.int .i64 6, .int .i64 0, .int .i64 0, .int .i64 0, .slice none 0 0, .int .i64 6, .int .i64 0, .int .i64 0, .int .i64 0, .slice none 0 0]) : RowR eLc W AnyB plP.lns (some ⟨lb, 0, none⟩) := .inr ⟨lb, 0, [.string ⟨#[97]⟩, .bool true, .bool false, .int .i64 1, .int .i64 (-1), .int .i64 (-1), .slice none 0 0, .string ⟨#[98]⟩, .bool false, .bool false, .int .i64 1, .int .i64 (-1), .int .i64 (-1), .slice (some ⟨kb, 0, none⟩) 1 1], rfl, trivial, hl.1, fun j hj => by rw [Nat.zero_add]; exact hl.2.1 j hj, Elems.cons' (D := eLc) (cx := [.string ⟨#[97]⟩, .bool true, .bool false, .int .i64 1, .int .i64 (-1), .int .i64 (-1), .slice none 0 0]) ⟨none, 0, rfl, ⟨rg_d (by decide) (by decide), rg_d (by decide) (by decide), rg_d (by decide) (by decide)⟩, .inl rfl, by decide⟩ (Elems.cons' (D := eLc) (cx := [.string ⟨#[98]⟩, .bool false, .bool false, .int .i64 1, .int .i64 (-1), .int .i64 (-1), .slice (some ⟨kb, 0, none⟩) 1 1]) ⟨some ⟨kb, 0, none⟩, 1, rfl, ⟨rg_d (by decide) (by decide), rg_d (by decide) (by decide), rg_d (by decide) (by decide)⟩, pl_cl hk h, by decide⟩ (Elems.nil _ _ _))⟩
theorem pl_le {W : World} {lb kb ab : Nat} (hl : Bx W lb [.string ⟨#[97]⟩, .bool true, .bool false, .int .i64 1, .int .i64 (-1), .int .i64 (-1), .slice none 0 0, .string ⟨#[98]⟩, .bool false, .bool false, .int .i64 1, .int .i64 (-1), .int .i64 (-1), .slice (some ⟨kb, 0, none⟩) 1 1]) (hk : Bx W kb [.int .i64 0, .bool false, .int .i64 0, .int .i64 0, .int .i64 0, .int .i64 0, .slice none 0 0, .int .i64 13, .int .i64 0, .int .i64 0, .int .i64 0, .slice (some ⟨ab, 0, none⟩) 2 2]) (h : Bx W ab [.int .i64 6, .int .i64 0, .int .i64 0, .int .i64 0, .slice none 0 0, .int .i64 6, .int .i64 0, .int .i64 0, .int .i64 0, .slice none 0 0]) : RowR eL W AnyB plP.lns (some ⟨lb, 0, none⟩) := .inr ⟨lb, 0, [.string ⟨#[97]⟩, .bool true, .bool false, .int .i64 1, .int .i64 (-1), .int .i64 (-1), .slice none 0 0, .string ⟨#[98]⟩, .bool false, .bool false, .int .i64 1, .int .i64 (-1), .int .i64 (-1), .slice (some ⟨kb, 0, none⟩) 1 1], rfl, trivial, hl.1, fun j hj => by rw [Nat.zero_add]; exact hl.2.1 j hj, Elems.cons' (D := eL) (cx := [.string ⟨#[97]⟩, .bool true, .bool false, .int .i64 1, .int .i64 (-1), .int .i64 (-1), .slice none 0 0]) ⟨none, 0, rfl, ⟨rg_d (by decide) (by decide), rg_d (by decide) (by decide), rg_d (by decide) (by decide)⟩, .inl rfl⟩ (Elems.cons' (D := eL) (cx := [.string ⟨#[98]⟩, .bool false, .bool false, .int .i64 1, .int .i64 (-1), .int .i64 (-1), .slice (some ⟨kb, 0, none⟩) 1 1]) ⟨some ⟨kb, 0, none⟩, 1, rfl, ⟨rg_d (by decide) (by decide), rg_d (by decide) (by decide), rg_d (by decide) (by decide)⟩, pl_cl hk h⟩ (Elems.nil _ _ _))⟩
theorem pl_pke {W : World} {lb kb ab : Nat} (hl : Bx W lb [.string ⟨#[97]⟩, .bool true, .bool false, .int .i64 1, .int .i64 (-1), .int .i64 (-1), .slice none 0 0, .string ⟨#[98]⟩, .bool false, .bool false, .int .i64 1, .int .i64 (-1), .int .i64 (-1), .slice (some ⟨kb, 0, none⟩) 1 1]) (hk : Bx W kb [.int .i64 0, .bool false, .int .i64 0, .int .i64 0, .int .i64 0, .int .i64 0, .slice none 0 0, .int .i64 13, .int .i64 0, .int .i64 0, .int .i64 0, .slice (some ⟨ab, 0, none⟩) 2 2]) (h : Bx W ab [.int .i64 6, .int .i64 0, .int .i64 0, .int .i64 0, .slice none 0 0, .int .i64 6, .int .i64 0, .int .i64 0, .int .i64 0, .slice none 0 0]) : PkE W AnyB plP [.string ⟨#[112]⟩, .int .i64 2025, .slice none 0 0, .slice none 0 0, .slice none 0 0, .slice (some ⟨lb, 0, none⟩) 2 2, .slice none 0 0] := ⟨none, 0, none, 0, none, 0, some ⟨lb, 0, none⟩, 2, none, 0, rfl, rg_d (by decide) (by decide), .inl rfl, .inl rfl, .inl rfl, pl_le hl hk h, .inl rfl⟩
theorem pl_pkc {W : World} {lb kb ab : Nat} (hl : Bx W lb [.string ⟨#[97]⟩, .bool true, .bool false, .int .i64 1, .int .i64 (-1), .int .i64 (-1), .slice none 0 0, .string ⟨#[98]⟩, .bool false, .bool false, .int .i64 1, .int .i64 (-1), .int .i64 (-1), .slice (some ⟨kb, 0, none⟩) 1 1]) (hk : Bx W kb [.int .i64 0, .bool false, .int .i64 0, .int .i64 0, .int .i64 0, .int .i64 0, .slice none 0 0, .int .i64 13, .int .i64 0, .int .i64 0, .int .i64 0, .slice (some ⟨ab, 0, none⟩) 2 2]) (h : Bx W ab [.int .i64 6, .int .i64 0, .int .i64 0, .int .i64 0, .slice none 0 0, .int .i64 6, .int .i64 0, .int .i64 0, .int .i64 0, .slice none 0 0]) : PkC W AnyB plP [.string ⟨#[112]⟩, .int .i64 2025, .slice none 0 0, .slice none 0 0, .slice none 0 0, .slice (some ⟨lb, 0, none⟩) 2 2, .slice none 0 0] := ⟨none, 0, some ⟨lb, 0, none⟩, 2, rfl, rfl, .inl rfl, pl_ln hl hk h⟩
theorem pz_pke (W : World) : PkE W AnyB plZ [.string ⟨#[112]⟩, .int .i64 2025, .slice none 0 0, .slice none 0 0, .slice none 0 0, .slice none 0 0, .slice none 0 0] := ⟨none, 0, none, 0, none, 0, none, 0, none, 0, rfl, rg_d (by decide) (by decide), .inl rfl, .inl rfl, .inl rfl, .inl rfl, .inl rfl⟩
theorem pz_pkc (W : World) : PkC W AnyB plZ [.string ⟨#[112]⟩, .int .i64 2025, .slice none 0 0, .slice none 0 0, .slice none 0 0, .slice none 0 0, .slice none 0 0] := ⟨none, 0, none, 0, rfl, rfl, .inl rfl, .inl rfl⟩
set_option maxRecDepth 20000 in
set_option maxHeartbeats 3000000 in
theorem known_any (W : World) : Calls Tryz.prog 16 #[] W (Lk (.bool true) W) := by
  have hpl := lplain_any W
  go_enter Tryz.func16, Tryz.ntmps16
  go_wp2_with fail
  refine hpl.mono ?_
  clear hpl
  rintro e w1 ⟨hB1, lb, kb, ab, rfl, hl1, hk1, ha1⟩
  obtain ⟨X1, hX1⟩ : ∃ X1, X1 = w1.alloc (.cells #[.string ⟨#[112]⟩, .int .i64 2025, .slice none 0 0, .slice none 0 0, .slice none 0 0, .slice (some ⟨lb, 0, none⟩) 2 2, .slice none 0 0] 28) := ⟨_, rfl⟩
  have hBX : Below w1.heap.size w1 X1 := by rw [hX1]; exact (Below.refl _ _).alloc (Nat.le_refl _) _
  have hbp : Bx X1 w1.heap.size [.string ⟨#[112]⟩, .int .i64 2025, .slice none 0 0, .slice none 0 0, .slice none 0 0, .slice (some ⟨lb, 0, none⟩) 2 2, .slice none 0 0] := by rw [hX1]; exact bx_new _ _ _
  have hl2 := hl1.bel hBX hl1.1
  have hk2 := hk1.bel hBX hk1.1
  have ha2 := ha1.bel hBX ha1.1
  have hBW1 := bthr hB1 hBX (Nat.le_refl _)
  have hch := Check_any plP none none none (some ⟨lb, 0, none⟩) none 0 0 0 2 0 X1 (pl_pke hl2 hk2 ha2) (pl_pkc hl2 hk2 ha2) plP_sz
  rw [plP_ok] at hch
  have hch : Calls Tryz.prog 61 #[.agg #[.string ⟨#[112]⟩, .int .i64 2025, .slice none 0 0, .slice none 0 0, .slice none 0 0, .slice (some ⟨lb, 0, none⟩) 2 2, .slice none 0 0]] X1 (ChP none X1) := hch
  have hX1H := Hid.mk hX1
  clear hX1
  go_wp2_with fail
  rw [← hX1H.out]
  clear hX1H
  refine hch.mono ?_
  clear hch
  rintro e w2 ⟨hB2, rfl⟩
  obtain ⟨X2, hX2⟩ : ∃ X2, X2 = w2.alloc (.cells #[.int .i64 0, .int .i64 0, .int .i64 0, .slice none 0 0] 105) := ⟨_, rfl⟩
  have hBX2 : Below w2.heap.size w2 X2 := by rw [hX2]; exact (Below.refl _ _).alloc (Nat.le_refl _) _
  have hbs : Bx X2 w2.heap.size [.int .i64 0, .int .i64 0, .int .i64 0, .slice none 0 0] := by rw [hX2]; exact bx_new _ _ _
  have hB12 := bthr hB2 hBX2 (Nat.le_refl _)
  have hl3 := hl2.bel hB12 hl2.1
  have hk3 := hk2.bel hB12 hk2.1
  have ha3 := ha2.bel hB12 ha2.1
  have hbp3 := hbp.bel hB12 hbp.1
  have hBW2 := bthr hBW1 hB12 (Nat.le_refl _)
  have hce := Cells_any plP none none none (some ⟨lb, 0, none⟩) none 0 0 0 2 0 X2 (.inl rfl) (pl_le hl3 hk3 ha3) (.inl rfl) (by decide) (by decide) (by decide)
  rw [plP_cells] at hce
  have hce : Calls Tryz.prog 9 #[.agg #[.string ⟨#[112]⟩, .int .i64 2025, .slice none 0 0, .slice none 0 0, .slice none 0 0, .slice (some ⟨lb, 0, none⟩) 2 2, .slice none 0 0]] X2 (Lk (.int .i64 2) X2) := hce
  have hpB := hbp.bel hB2 hbp.1
  have p0 := hpB.2.1 0 (by simp)
  have p1 := hpB.2.1 1 (by simp)
  have p2 := hpB.2.1 2 (by simp)
  have p3 := hpB.2.1 3 (by simp)
  have p4 := hpB.2.1 4 (by simp)
  have p5 := hpB.2.1 5 (by simp)
  have p6 := hpB.2.1 6 (by simp)
  have lp := hpB.1
  have hX2H := Hid.mk hX2
  clear hX2
  go_wp2_with fail
  rw [← hX2H.out]
  clear hX2H p0 p1 p2 p3 p4 p5 p6 lp
  refine hce.mono ?_
  clear hce
  rintro e w3 ⟨rfl, hB3⟩
  have hB3W := bthr hBW2 hB3 (Nat.le_refl _)
  have hl4 := hl3.bel hB3 hl3.1
  have hk4 := hk3.bel hB3 hk3.1
  have ha4 := ha3.bel hB3 ha3.1
  have hbp4 := hbp3.bel hB3 hbp3.1
  have hbs4 := hbs.bel hB3 hbs.1
  have hSH : Hid (∀ Y, Below w3.heap.size w3 Y → Y.cell? ⟨w1.heap.size, 0, none⟩ = some (.string ⟨#[112]⟩) ∧ Y.cell? ⟨w1.heap.size, 1, none⟩ = some (.int .i64 2025) ∧ Y.cell? ⟨w1.heap.size, 2, none⟩ = some (.slice none 0 0) ∧ Y.cell? ⟨w1.heap.size, 3, none⟩ = some (.slice none 0 0) ∧ Y.cell? ⟨w1.heap.size, 4, none⟩ = some (.slice none 0 0) ∧ Y.cell? ⟨w1.heap.size, 5, none⟩ = some (.slice (some ⟨lb, 0, none⟩) 2 2) ∧ Y.cell? ⟨w1.heap.size, 6, none⟩ = some (.slice none 0 0) ∧ Y.cell? ⟨lb, 13, none⟩ = some (.slice (some ⟨kb, 0, none⟩) 1 1) ∧ Y.cell? ⟨kb, 7, none⟩ = some (.int .i64 13) ∧ Y.cell? ⟨kb, 8, none⟩ = some (.int .i64 0) ∧ Y.cell? ⟨kb, 9, none⟩ = some (.int .i64 0) ∧ Y.cell? ⟨kb, 10, none⟩ = some (.int .i64 0) ∧ Y.cell? ⟨kb, 11, none⟩ = some (.slice (some ⟨ab, 0, none⟩) 2 2)) := ⟨fun Y hY => by
    have h1 := hbp4.bel hY hbp4.1
    have h2 := hl4.bel hY hl4.1
    have h3 := hk4.bel hY hk4.1
    exact ⟨h1.2.1 0 (by simp), h1.2.1 1 (by simp), h1.2.1 2 (by simp), h1.2.1 3 (by simp), h1.2.1 4 (by simp), h1.2.1 5 (by simp), h1.2.1 6 (by simp), h2.2.1 13 (by simp), h3.2.1 7 (by simp), h3.2.1 8 (by simp), h3.2.1 9 (by simp), h3.2.1 10 (by simp), h3.2.1 11 (by simp)⟩⟩
  have hbd : Below w3.heap.size w3 w3.drew := (Below.refl _ _).drew
  have hS0 := hSH.out _ hbd
  have hty := Type_any plP (-1) plB none none none (some ⟨lb, 0, none⟩) none 0 0 0 2 0 (some ⟨ab, 0, none⟩) 2 w3.drew (pl_pke (hl4.bel hbd hl4.1) (hk4.bel hbd hk4.1) (ha4.bel hbd ha4.1)) (pl_fo (ha4.bel hbd ha4.1)) ⟨by decide, ⟨by decide, trivial, ⟨by decide, trivial, trivial⟩⟩⟩
  rw [plP_type] at hty
  have hty : Calls Tryz.prog 62 #[.agg #[.string ⟨#[112]⟩, .int .i64 2025, .slice none 0 0, .slice none 0 0, .slice none 0 0, .slice (some ⟨lb, 0, none⟩) 2 2, .slice none 0 0], .int .i64 (-1), .agg #[.int .i64 13, .int .i64 0, .int .i64 0, .int .i64 0, .slice (some ⟨ab, 0, none⟩) 2 2]] w3.drew (fun e W' => Below w3.drew.heap.size w3.drew W' ∧ e = .returned (.tuple #[.int .i64 1, .int .i64 (-1), .slice none 0 0, .int .i64 0])) := hty
  go_wp2_with fail
  go_region_held3 (fun Y => Y.cell? ⟨w1.heap.size, 0, none⟩ = some (.string ⟨#[112]⟩) ∧ Y.cell? ⟨w1.heap.size, 1, none⟩ = some (.int .i64 2025) ∧ Y.cell? ⟨w1.heap.size, 2, none⟩ = some (.slice none 0 0) ∧ Y.cell? ⟨w1.heap.size, 3, none⟩ = some (.slice none 0 0) ∧ Y.cell? ⟨w1.heap.size, 4, none⟩ = some (.slice none 0 0) ∧ Y.cell? ⟨w1.heap.size, 5, none⟩ = some (.slice (some ⟨lb, 0, none⟩) 2 2) ∧ Y.cell? ⟨w1.heap.size, 6, none⟩ = some (.slice none 0 0) ∧ Y.cell? ⟨lb, 13, none⟩ = some (.slice (some ⟨kb, 0, none⟩) 1 1) ∧ Y.cell? ⟨kb, 7, none⟩ = some (.int .i64 13) ∧ Y.cell? ⟨kb, 8, none⟩ = some (.int .i64 0) ∧ Y.cell? ⟨kb, 9, none⟩ = some (.int .i64 0) ∧ Y.cell? ⟨kb, 10, none⟩ = some (.int .i64 0) ∧ Y.cell? ⟨kb, 11, none⟩ = some (.slice (some ⟨ab, 0, none⟩) 2 2)) (assumption)
    (first | (go_at_call 62; refine hty.mono ?_; clear hty; rintro e w4 ⟨hB4a, rfl⟩; have hB4 := bthr hbd hB4a (Nat.le_refl _); have hS4 := hSH.out _ hB4))
  have hbp5 := hbp4.bel hB4 hbp4.1
  have hbs5 := hbs4.bel hB4 hbs4.1
  have hB4W := bthr hB3W hB4 (Nat.le_refl _)
  have hw1 : W.heap.size ≤ w1.heap.size := hB1.size
  have hsz : w1.heap.size < w2.heap.size := (hbp.bel hB2 hbp.1).1
  obtain ⟨V, hV⟩ : ∃ V, w4.setCell ⟨w1.heap.size, 5, none⟩ (.slice none 0 0) = V := ⟨_, rfl⟩
  have hbV : Bx V w1.heap.size [.string ⟨#[112]⟩, .int .i64 2025, .slice none 0 0, .slice none 0 0, .slice none 0 0, .slice none 0 0, .slice none 0 0] := by rw [← hV]; exact hbp5.set 5 _
  have hsV : Bx V w2.heap.size [.int .i64 0, .int .i64 0, .int .i64 0, .slice none 0 0] := by rw [← hV]; exact hbs5.kept (gr_set _ _ _ _) (by intro e; injection e with e; omega)
  have hBV : Below W.heap.size W V := by rw [← hV]; exact hB4W.setCell (p := ⟨w1.heap.size, 5, none⟩) hw1 _
  have g5 := hbp5.2.1 5 (by simp)
  have z5 := hbp5.2.2 5
  have p0 := hbV.2.1 0 (by simp)
  have p1 := hbV.2.1 1 (by simp)
  have p2 := hbV.2.1 2 (by simp)
  have p3 := hbV.2.1 3 (by simp)
  have p4 := hbV.2.1 4 (by simp)
  have p5 := hbV.2.1 5 (by simp)
  have p6 := hbV.2.1 6 (by simp)
  have hc2 := Check_any plZ none none none none none 0 0 0 0 0 V (pz_pke V) (pz_pkc V) plZ_sz
  rw [plZ_no] at hc2
  have hc2 : Calls Tryz.prog 61 #[.agg #[.string ⟨#[112]⟩, .int .i64 2025, .slice none 0 0, .slice none 0 0, .slice none 0 0, .slice none 0 0, .slice none 0 0]] V (fun e W' => Below V.heap.size V W' ∧ ∃ pv, e = .returned (.tuple #[.agg #[.int .i64 5, .int .i64 0, .int .i64 (-1), pv], .int .i64 60]) ∧ W'.ownsRow V.heap.size 3 1 pv 0 (ptC [])) := hc2
  clear hS4 hSH hS0
  go_wp2_with fail
  refine hc2.mono ?_
  clear hc2
  rintro e w5 ⟨hB5, pv, rfl, hown⟩
  obtain ⟨pa, pcap, rfl, -, -⟩ := own_int hown
  have hs5 := hsV.bel hB5 hsV.1
  have hB5W := bthr hBV hB5 (Nat.le_refl _)
  have uq0 := hs5
  have ug0 : w5.cell? ⟨w2.heap.size, 0, none⟩ = some (.int .i64 0) := uq0.2.1 0 (by simp)
  have uh0 := uq0.2.2 0
  have ul0 := uq0.1
  obtain ⟨U1, ux0⟩ : ∃ U1, w5.setCell ⟨w2.heap.size, 0, none⟩ (.int .i64 5) = U1 := ⟨_, rfl⟩
  have uq1 : Bx U1 w2.heap.size [(.int .i64 5), (.int .i64 0), (.int .i64 0), (.slice none 0 0)] := (by rw [← ux0]; exact uq0.set 0 (.int .i64 5))
  have ug1 : U1.cell? ⟨w2.heap.size, 1, none⟩ = some (.int .i64 0) := uq1.2.1 1 (by simp)
  have uh1 := uq1.2.2 1
  have ul1 := uq1.1
  obtain ⟨U2, ux1⟩ : ∃ U2, U1.setCell ⟨w2.heap.size, 1, none⟩ (.int .i64 0) = U2 := ⟨_, rfl⟩
  have uq2 : Bx U2 w2.heap.size [(.int .i64 5), (.int .i64 0), (.int .i64 0), (.slice none 0 0)] := (by rw [← ux1]; exact uq1.set 1 (.int .i64 0))
  have ug2 : U2.cell? ⟨w2.heap.size, 2, none⟩ = some (.int .i64 0) := uq2.2.1 2 (by simp)
  have uh2 := uq2.2.2 2
  have ul2 := uq2.1
  obtain ⟨U3, ux2⟩ : ∃ U3, U2.setCell ⟨w2.heap.size, 2, none⟩ (.int .i64 (-1)) = U3 := ⟨_, rfl⟩
  have uq3 : Bx U3 w2.heap.size [(.int .i64 5), (.int .i64 0), (.int .i64 (-1)), (.slice none 0 0)] := (by rw [← ux2]; exact uq2.set 2 (.int .i64 (-1)))
  have ug3 : U3.cell? ⟨w2.heap.size, 3, none⟩ = some (.slice none 0 0) := uq3.2.1 3 (by simp)
  have uh3 := uq3.2.2 3
  have ul3 := uq3.1
  obtain ⟨U4, ux3⟩ : ∃ U4, U3.setCell ⟨w2.heap.size, 3, none⟩ (.slice pa 0 pcap) = U4 := ⟨_, rfl⟩
  have uq4 : Bx U4 w2.heap.size [(.int .i64 5), (.int .i64 0), (.int .i64 (-1)), (.slice pa 0 pcap)] := (by rw [← ux3]; exact uq3.set 3 (.slice pa 0 pcap))
  have hBU : Below W.heap.size W U4 := by
    rw [← ux3, ← ux2, ← ux1, ← ux0]
    exact (((hB5W.setCell (p := ⟨w2.heap.size, 0, none⟩) (by show W.heap.size ≤ w2.heap.size; omega) _).setCell (p := ⟨w2.heap.size, 1, none⟩) (by show W.heap.size ≤ w2.heap.size; omega) _).setCell (p := ⟨w2.heap.size, 2, none⟩) (by show W.heap.size ≤ w2.heap.size; omega) _).setCell (p := ⟨w2.heap.size, 3, none⟩) (by show W.heap.size ≤ w2.heap.size; omega) _
  have f0 := uq4.2.1 0 (by simp)
  clear uq0 uq1 uq2 uq3 uq4
  go_wp2
  go_ret
  exact ⟨rfl, hBU⟩
end Go.Proofs.YthnmjafoplfikaaGreatDoor


namespace Go.Proofs.YthnmjafoplfikaaGreatDoor
open Go.RowKit

/-- The first place of a name, from k on. -/
def ixF {α : Type} (f : α → List UInt8) : List α → List UInt8 → Int → Int
  | [], _, _ => -1
  | x :: r, v, k => if f x = v then k else ixF f r v (k + 1)
theorem ix_step {α : Type} (f : α → List UInt8) (l : List α) (v : List UInt8) {i : Nat} (h : i < l.length) : ixF f (l.drop i) v (i : Int) = if f l[i] = v then (i : Int) else ixF f (l.drop (i + 1)) v ((i + 1 : Nat) : Int) := by
  rw [List.drop_eq_getElem_cons h]
  simp [ixF]
theorem ix_end {α : Type} (f : α → List UInt8) (l : List α) (v : List UInt8) (k : Int) : ixF f (l.drop l.length) v k = -1 := by simp [ixF]
def nmL (l : Ln) : List UInt8 := l.name
set_option maxRecDepth 20000 in
set_option maxHeartbeats 1000000 in
theorem slIx_any (l : List (List UInt8)) (a : Option Addr) (c : Nat) (v : List UInt8) (W : World) (hR : RowR eS W AnyB l a) (hl : l.length ≤ 9223372036854775807) : Calls Tryz.prog 26 #[.slice a l.length c, .string ⟨v.toArray⟩] W (fun e W' => e = .returned (.int .i64 (ixF id l v 0)) ∧ W = W') := by
  have hl' : (l.length : Int) ≤ 9223372036854775807 := by omega
  obtain ⟨N, hN⟩ : ∃ N, ixF id l v 0 = N := ⟨_, rfl⟩
  rw [hN]
  have hN0 : Hid (ixF id (l.drop 0) v ((0 : Nat) : Int) = N) := ⟨hN⟩
  clear hN
  go_enter Tryz.func26, Tryz.ntmps26
  go_wp2
  go_loopw [8] (fun iv wr => ∃ i : Nat, iv = .int .i64 (i : Int) ∧ i ≤ l.length ∧ wr = W ∧ Hid (ixF id (l.drop i) v (i : Int) = N)) (fun iv _ => l.length - (intOf iv).toNat)
  case atStart => exact ⟨0, rfl, Nat.zero_le _, rfl, hN0⟩
  case round =>
    clear hN0
    obtain ⟨i, rfl, hi, rfl, hall⟩ := hrel
    by_cases hlt : i < l.length
    · have hlt' : (i : Int) < (l.length : Int) := by omega
      have hi0 : (0 : Int) ≤ (i : Int) := by omega
      have hst := hall.out
      rw [ix_step id l v hlt] at hst
      obtain ⟨ge, oe, rfl⟩ := hR.some hlt
      obtain ⟨cs, -, -, rfl, hcs⟩ := hR.item hlt
      have k0 : wr.cell? ⟨ge, oe + i, none⟩ = some (.string ⟨(l[i]).toArray⟩) := by
        have := hcs 0 (by decide)
        rw [show oe + i * eS.k + 0 = oe + i by show oe + i * 1 + 0 = oe + i; omega] at this
        exact this
      by_cases hv : v = l[i]
      · rw [if_pos (show id l[i] = v from hv.symm)] at hst
        rw [← hv] at k0
        replace hst := Hid.mk hst
        clear hall hcs hv
        go_wp2
        go_ret
        exact ⟨congrArg (fun z => Ending.returned (.int .i64 z)) hst.out, rfl⟩
      · rw [if_neg (show ¬ id l[i] = v from fun e => hv e.symm)] at hst
        have hne : (v == l[i]) = false := beq_eq_false_iff_ne.2 hv
        replace hst := Hid.mk hst
        generalize l[i] = y at k0 hne
        clear hall hcs hv
        go_wp2
        exact ⟨⟨i + 1, rfl, hlt, (by first | rfl | trivial), hst⟩, by simp only [intOf]; omega⟩
    · have hlt' : ¬ (i : Int) < (l.length : Int) := by omega
      obtain rfl : i = l.length := by omega
      have hst := hall.out
      rw [ix_end] at hst
      replace hst := Hid.mk hst
      clear hall
      go_wp2
      go_ret
      exact ⟨congrArg (fun z => Ending.returned (.int .i64 z)) hst.out, rfl⟩

set_option maxRecDepth 20000 in
set_option maxHeartbeats 1000000 in
theorem line1_any (x : Ln) (a : Option Addr) (c xb : Nat) (v : List UInt8) (W : World) (hx : W.cell? ⟨xb, 0, none⟩ = some (.string ⟨v.toArray⟩)) (r : Bool) (hr : (x.name == v) = r) : Calls Tryz.prog 24 #[.agg #[.string ⟨x.name.toArray⟩, .bool x.input, .bool x.must, .int .i64 x.type, .int .i64 x.opts, .int .i64 x.group, .slice a x.cls.length c], .pointer (some ⟨xb, 0, none⟩)] W (Lk (.bool r) W) := by
  obtain ⟨A, hA⟩ : ∃ A, A = Obj.cells #[.string ⟨x.name.toArray⟩, .bool x.input, .bool x.must, .int .i64 x.type, .int .i64 x.opts, .int .i64 x.group, .slice a x.cls.length c] 78 := ⟨_, rfl⟩
  have hb0 := bel_alloc W A
  have hr0 := heap_alloc_new W A
  obtain ⟨X, hX⟩ : ∃ X, X = W.alloc A := ⟨_, rfl⟩
  rw [← hX] at hb0 hr0
  have hXe : W.alloc (.cells #[.string ⟨x.name.toArray⟩, .bool x.input, .bool x.must, .int .i64 x.type, .int .i64 x.opts, .int .i64 x.group, .slice a x.cls.length c] 78) = X := by rw [hX, hA]
  rw [hA] at hr0
  have d0 : X.cell? ⟨W.heap.size, 0, none⟩ = some (.string ⟨x.name.toArray⟩) := cell_of_row _ _ 0 _ _ _ hr0
  have d1 : X.cell? ⟨xb, 0, none⟩ = some (.string ⟨v.toArray⟩) := (bel_cell hb0 (World.block_lt_of_cell? _ _ hx) 0).trans hx
  clear hX hA hr0 hx
  cases r with
  | true =>
    have hv : x.name = v := eq_of_beq hr
    rw [← hv] at d1
    clear hr hv
    go_enter Tryz.func24, Tryz.ntmps24
    go_wp2
    go_ret
    exact ⟨rfl, hb0⟩
  | false =>
    go_enter Tryz.func24, Tryz.ntmps24
    go_wp2
    go_ret
    exact ⟨rfl, hb0⟩

set_option maxRecDepth 20000 in
set_option maxHeartbeats 1000000 in
theorem ixfn_any (l : List Ln) (a : Option Addr) (c xb : Nat) (v : List UInt8) (W : World) (hR : RowR eL W AnyB l a) (hl : l.length ≤ 9223372036854775807) (hx : W.cell? ⟨xb, 0, none⟩ = some (.string ⟨v.toArray⟩)) : Calls Tryz.prog 23 #[.slice a l.length c, .func (Fn.func 24) #[] #[.pointer (some ⟨xb, 0, none⟩)]] W (Lk (.int .i64 (ixF nmL l v 0)) W) := by
  have hl' : (l.length : Int) ≤ 9223372036854775807 := by omega
  obtain ⟨N, hN⟩ : ∃ N, ixF nmL l v 0 = N := ⟨_, rfl⟩
  rw [hN]
  have hN0 : Hid (ixF nmL (l.drop 0) v ((0 : Nat) : Int) = N) := ⟨hN⟩
  have hxl := World.block_lt_of_cell? _ _ hx
  clear hN
  go_enter Tryz.func23, Tryz.ntmps23
  go_wp2
  go_loopw [8] (fun iv wr => ∃ i : Nat, iv = .int .i64 (i : Int) ∧ i ≤ l.length ∧ Below W.heap.size W wr ∧ Hid (ixF nmL (l.drop i) v (i : Int) = N)) (fun iv _ => l.length - (intOf iv).toNat)
  case atStart => exact ⟨0, rfl, Nat.zero_le _, Below.refl _ _, hN0⟩
  case round =>
    clear hN0
    obtain ⟨i, rfl, hi, hb, hall⟩ := hrel
    by_cases hlt : i < l.length
    · have hlt' : (i : Int) < (l.length : Int) := by omega
      have hi0 : (0 : Int) ≤ (i : Int) := by omega
      have hst := hall.out
      rw [ix_step nmL l v hlt] at hst
      obtain ⟨ge, oe, rfl⟩ := hR.some hlt
      obtain ⟨cs, -, -, hE, hcs⟩ := (row_bel hR hb (Nat.le_refl _)).item hlt
      replace hst := Hid.mk hst
      generalize l[i] = y at *
      obtain ⟨a1, c1, rfl, -, -⟩ := hE
      have e0 : wr.cell? ⟨ge, oe + i * 7, none⟩ = some (.string ⟨y.name.toArray⟩) := hcs 0 (by decide)
      have e1 : wr.cell? ⟨ge, oe + i * 7 + 1, none⟩ = some (.bool y.input) := hcs 1 (by decide)
      have e2 : wr.cell? ⟨ge, oe + i * 7 + 2, none⟩ = some (.bool y.must) := hcs 2 (by decide)
      have e3 : wr.cell? ⟨ge, oe + i * 7 + 3, none⟩ = some (.int .i64 y.type) := hcs 3 (by decide)
      have e4 : wr.cell? ⟨ge, oe + i * 7 + 4, none⟩ = some (.int .i64 y.opts) := hcs 4 (by decide)
      have e5 : wr.cell? ⟨ge, oe + i * 7 + 5, none⟩ = some (.int .i64 y.group) := hcs 5 (by decide)
      have e6 : wr.cell? ⟨ge, oe + i * 7 + 6, none⟩ = some (.slice a1 y.cls.length c1) := hcs 6 (by decide)
      obtain ⟨r, hr⟩ : ∃ r, (y.name == v) = r := ⟨_, rfl⟩
      have hcall := line1_any y a1 c1 xb v wr ((bel_cell hb hxl 0).trans hx) r hr
      have hbr := Hid.mk (fun (w3 : World) (h : Below wr.heap.size wr w3) => Below.tr hb h hb.size)
      replace hr := Hid.mk hr
      clear hall hcs hb hx hR
      go_wp2_with (go_at_call 24; fail)
      refine hcall.mono ?_
      rintro e w3 ⟨rfl, hb3⟩
      have hb4 := hbr.out w3 hb3
      clear e0 e1 e2 e3 e4 e5 e6 hcall hbr hb3
      cases r with
      | true =>
        have hfin : ((i : Nat) : Int) = N := by
          have h1 := hst.out
          rw [if_pos (show nmL y = v from eq_of_beq hr.out)] at h1
          exact h1
        replace hfin := Hid.mk hfin
        clear hst hr
        go_wp2
        go_ret
        exact ⟨congrArg (fun z => Ending.returned (.int .i64 z)) hfin.out, hb4⟩
      | false =>
        have hnx : Hid (ixF nmL (l.drop (i + 1)) v ((i + 1 : Nat) : Int) = N) := ⟨by
          have h1 := hst.out
          rw [if_neg (show ¬ nmL y = v from fun h => by have h2 := hr.out; rw [show (y.name == v) = true from beq_iff_eq.2 h] at h2; cases h2)] at h1
          exact h1⟩
        clear hst hr
        go_wp2
        exact ⟨⟨i + 1, rfl, hlt, hb4, hnx⟩, by simp only [intOf]; omega⟩
    · have hlt' : ¬ (i : Int) < (l.length : Int) := by omega
      obtain rfl : i = l.length := by omega
      have hst := hall.out
      rw [ix_end] at hst
      replace hst := Hid.mk hst
      clear hall
      go_wp2
      go_ret
      exact ⟨congrArg (fun z => Ending.returned (.int .i64 z)) hst.out, hb⟩

end Go.Proofs.YthnmjafoplfikaaGreatDoor


namespace Go.Proofs.YthnmjafoplfikaaGreatDoor
open Go.RowKit

theorem belT {W A B : World} (h : Below W.heap.size W A) (k : Below A.heap.size A B) : Below W.heap.size W B := h.trans (k.mono h.size)
set_option maxRecDepth 20000 in
set_option maxHeartbeats 1000000 in
theorem tline_any (p : Pk) (a3 a4 a5 a6 a7 : Option Addr) (c3 c4 c5 c6 c7 : Nat) (v : List UInt8) (W : World) (hR : RowR eL W AnyB p.lns a6) (hl : p.lns.length ≤ 9223372036854775807) : Calls Tryz.prog 6 #[.agg #[.string ⟨p.name.toArray⟩, .int .i64 p.year, .slice a3 p.opts.length c3, .slice a4 p.tabs.length c4, .slice a5 p.grps.length c5, .slice a6 p.lns.length c6, .slice a7 p.cks.length c7], .string ⟨v.toArray⟩] W (Lk (.int .i64 (ixF nmL p.lns v 0)) W) := by
  obtain ⟨A, hA⟩ : ∃ A, A = Obj.cells #[.string ⟨p.name.toArray⟩, .int .i64 p.year, .slice a3 p.opts.length c3, .slice a4 p.tabs.length c4, .slice a5 p.grps.length c5, .slice a6 p.lns.length c6, .slice a7 p.cks.length c7] 28 := ⟨_, rfl⟩
  have hb0 := bel_alloc W A
  have hr0 := heap_alloc_new W A
  have hs1 : (W.alloc A).heap.size = W.heap.size + 1 := by simp
  have hb1 := bel_alloc (W.alloc A) (.cells #[.string ⟨v.toArray⟩] 9)
  have hr1 := heap_alloc_new (W.alloc A) (.cells #[.string ⟨v.toArray⟩] 9)
  rw [hs1] at hr1
  obtain ⟨X, hX⟩ : ∃ X, X = (W.alloc A).alloc (.cells #[.string ⟨v.toArray⟩] 9) := ⟨_, rfl⟩
  rw [← hX] at hb1 hr1
  have hbX : Below W.heap.size W X := belT hb0 hb1
  have hr0 : X.heap[W.heap.size]? = some A := bel_cells hb1 (by omega) hr0
  rw [hA] at hr0 hX
  have hXe : (W.alloc (.cells #[.string ⟨p.name.toArray⟩, .int .i64 p.year, .slice a3 p.opts.length c3, .slice a4 p.tabs.length c4, .slice a5 p.grps.length c5, .slice a6 p.lns.length c6, .slice a7 p.cks.length c7] 28)).alloc (.cells #[.string ⟨v.toArray⟩] 9) = X := hX.symm
  have hLr := row_bel hR hbX (Nat.le_refl _)
  have b5 : X.cell? ⟨W.heap.size, 5, none⟩ = some (.slice a6 p.lns.length c6) := cell_of_row _ _ 5 _ _ _ hr0
  have bn : X.cell? ⟨W.heap.size + 1, 0, none⟩ = some (.string ⟨v.toArray⟩) := cell_of_row _ _ 0 _ _ _ hr1
  have hcall := ixfn_any p.lns a6 c6 (W.heap.size + 1) v X hLr hl bn
  have hbX := Hid.mk hbX
  clear hX hA hr0 hr1 hb0 hb1 hs1 hR hLr bn
  go_enter Tryz.func6, Tryz.ntmps6
  go_wp2_with (go_at_call 23; fail)
  refine hcall.mono ?_
  rintro e w3 ⟨rfl, hb3⟩
  have hb4 := belT hbX.out hb3
  clear hcall hb3 hXe b5
  go_wp2
  go_ret
  exact ⟨rfl, hb4⟩

set_option maxRecDepth 20000 in
set_option maxHeartbeats 1000000 in
theorem rline_any (p : Pk) (a3 a4 a5 a6 a7 : Option Addr) (c3 c4 c5 c6 c7 : Nat) (v : List UInt8) (W : World) (hR : RowR eL W AnyB p.lns a6) (hl : p.lns.length ≤ 9223372036854775807) : Calls Tryz.prog 10 #[.agg #[.string ⟨p.name.toArray⟩, .int .i64 p.year, .slice a3 p.opts.length c3, .slice a4 p.tabs.length c4, .slice a5 p.grps.length c5, .slice a6 p.lns.length c6, .slice a7 p.cks.length c7], .string ⟨v.toArray⟩] W (Lk (.int .i64 (ixF nmL p.lns v 0)) W) := by
  obtain ⟨A, hA⟩ : ∃ A, A = Obj.cells #[.string ⟨p.name.toArray⟩, .int .i64 p.year, .slice a3 p.opts.length c3, .slice a4 p.tabs.length c4, .slice a5 p.grps.length c5, .slice a6 p.lns.length c6, .slice a7 p.cks.length c7] 28 := ⟨_, rfl⟩
  have hb0 := bel_alloc W A
  have hr0 := heap_alloc_new W A
  obtain ⟨X, hX⟩ : ∃ X, X = W.alloc A := ⟨_, rfl⟩
  rw [← hX] at hb0 hr0
  rw [hA] at hr0 hX
  have hXl : W.heap.size < X.heap.size := (Array.getElem?_eq_some_iff.1 hr0).1
  have hXe : W.alloc (.cells #[.string ⟨p.name.toArray⟩, .int .i64 p.year, .slice a3 p.opts.length c3, .slice a4 p.tabs.length c4, .slice a5 p.grps.length c5, .slice a6 p.lns.length c6, .slice a7 p.cks.length c7] 28) = X := hX.symm
  have hLr := row_bel hR hb0 (Nat.le_refl _)
  have b5 : X.cell? ⟨W.heap.size, 5, none⟩ = some (.slice a6 p.lns.length c6) := cell_of_row _ _ 5 _ _ _ hr0
  obtain ⟨N, hN⟩ : ∃ N, ixF nmL p.lns v 0 = N := ⟨_, rfl⟩
  rw [hN]
  have hN0 : Hid (ixF nmL (p.lns.drop 0) v ((0 : Nat) : Int) = N) := ⟨hN⟩
  have hl' : (p.lns.length : Int) ≤ 9223372036854775807 := by omega
  generalize p.lns = l at *
  clear hX hA hr0 hR hN
  go_enter Tryz.func10, Tryz.ntmps10
  go_wp2
  go_loopw [5] (fun iv wr => ∃ i : Nat, iv = .int .i64 (i : Int) ∧ i ≤ l.length ∧ wr = X ∧ Hid (ixF nmL (l.drop i) v (i : Int) = N)) (fun iv _ => l.length - (intOf iv).toNat)
  case atStart => exact ⟨0, rfl, Nat.zero_le _, rfl, hN0⟩
  case round =>
    clear hN0
    obtain ⟨i, rfl, hi, rfl, hall⟩ := hrel
    by_cases hlt : i < l.length
    · have hlt' : (i : Int) < (l.length : Int) := by omega
      have hi0 : (0 : Int) ≤ (i : Int) := by omega
      have hst := hall.out
      rw [ix_step nmL l v hlt] at hst
      obtain ⟨ge, oe, rfl⟩ := hLr.some hlt
      obtain ⟨cs, -, -, hE, hcs⟩ := hLr.item hlt
      obtain ⟨r, hr⟩ : ∃ r, (l[i].name == v) = r := ⟨_, rfl⟩
      replace hst := Hid.mk hst
      generalize l[i] = y at *
      obtain ⟨a1, c1, rfl, -, -⟩ := hE
      have e0 : wr.cell? ⟨ge, oe + i * 7, none⟩ = some (.string ⟨y.name.toArray⟩) := hcs 0 (by decide)
      clear hcs hall
      cases r with
      | true =>
        have hv : y.name = v := eq_of_beq hr
        have hfin : ((i : Nat) : Int) = N := by
          have h1 := hst.out
          rw [if_pos (show nmL y = v from hv)] at h1
          exact h1
        replace hfin := Hid.mk hfin
        rw [hv] at e0
        clear hst hr hv
        go_wp2
        go_ret
        exact ⟨congrArg (fun z => Ending.returned (.int .i64 z)) hfin.out, hb0⟩
      | false =>
        have hnx : Hid (ixF nmL (l.drop (i + 1)) v ((i + 1 : Nat) : Int) = N) := ⟨by
          have h1 := hst.out
          rw [if_neg (show ¬ nmL y = v from fun h => by rw [show (y.name == v) = true from beq_iff_eq.2 h] at hr; cases hr)] at h1
          exact h1⟩
        clear hst
        go_wp2
        go_roundw
        case rel => exact ⟨i + 1, by go_num, hlt, (by first | rfl | trivial), hnx⟩
        case measure => simp only [intOf]; omega
    · have hlt' : ¬ (i : Int) < (l.length : Int) := by omega
      obtain rfl : i = l.length := by omega
      have hst := hall.out
      rw [ix_end] at hst
      replace hst := Hid.mk hst
      clear hall
      go_wp2
      go_ret
      exact ⟨congrArg (fun z => Ending.returned (.int .i64 z)) hst.out, hb0⟩

end Go.Proofs.YthnmjafoplfikaaGreatDoor

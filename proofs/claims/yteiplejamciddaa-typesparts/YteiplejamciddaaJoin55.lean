import Derived.Test.YteiplejamciddaaTurnYCs
import Derived.Test.YteiplejamciddaaYV1
namespace Go.Proofs.Yteiplejamciddaa
open Go.RowKit

def plX : Ex := ⟨6, 0, 0, 0, .nil⟩
def plB : Ex := ⟨13, 0, 0, 0, .cons 6 0 0 0 .nil (.cons 6 0 0 0 .nil .nil)⟩
def plC : Cl := ⟨0, false, ⟨0, 0, 0, 0, .nil⟩, plB⟩
/-- The plain pack. -/
def plP : Pk := ⟨[112], 2025, [], [], [], [⟨[97], true, false, 1, -1, -1, []⟩, ⟨[98], false, false, 1, -1, -1, [plC]⟩], []⟩
/-- What plain answers: its lines lie at a place of their own. -/
def PlP (W : World) (e : Ending) (W' : World) : Prop := Below W.heap.size W W' ∧ ∃ lb kb ab, e = .returned (.agg #[.string ⟨#[112]⟩, .int .i64 2025, .slice none 0 0, .slice none 0 0, .slice none 0 0, .slice (some ⟨lb, 0, none⟩) 2 2, .slice none 0 0]) ∧ Bx W' lb [.string ⟨#[97]⟩, .bool true, .bool false, .int .i64 1, .int .i64 (-1), .int .i64 (-1), .slice none 0 0, .string ⟨#[98]⟩, .bool false, .bool false, .int .i64 1, .int .i64 (-1), .int .i64 (-1), .slice (some ⟨kb, 0, none⟩) 1 1] ∧ Bx W' kb [.int .i64 0, .bool false, .int .i64 0, .int .i64 0, .int .i64 0, .int .i64 0, .slice none 0 0, .int .i64 13, .int .i64 0, .int .i64 0, .int .i64 0, .slice (some ⟨ab, 0, none⟩) 2 2] ∧ Bx W' ab [.int .i64 6, .int .i64 0, .int .i64 0, .int .i64 0, .slice none 0 0, .int .i64 6, .int .i64 0, .int .i64 0, .int .i64 0, .slice none 0 0]
set_option maxRecDepth 20000 in
set_option maxHeartbeats 2000000 in
theorem lplain_any (W : World) : Calls Try.prog 7 #[] W (PlP W) := by
  have k : ∀ (X : World) (o : Obj) (b : Nat) (vs : List Value), Bx X b vs → Bx (X.alloc o) b vs := fun X o b vs h => h.kept (World.grownBy_alloc X o none) (by simp)
  have s4 : ((((W.alloc (.cells #[.string ⟨#[112]⟩, .int .i64 2025, .slice none 0 0, .slice none 0 0, .slice none 0 0, .slice (some ⟨W.heap.size + 1 + 1 + 1 + 1 + 1 + 1, 0, none⟩) 2 2, .slice none 0 0] 28)).alloc (.cells #[.string ⟨#[97]⟩, .bool true, .bool false, .int .i64 1, .int .i64 (-1), .int .i64 (-1), .slice none 0 0] 49)).alloc (.cells #[.string ⟨#[98]⟩, .bool false, .bool false, .int .i64 1, .int .i64 (-1), .int .i64 (-1), .slice (some ⟨W.heap.size + 1 + 1 + 1 + 1 + 1, 0, none⟩) 1 1] 49)).alloc (.cells #[.int .i64 6, .int .i64 0, .int .i64 0, .int .i64 0, .slice none 0 0] 31)).heap.size = W.heap.size + 1 + 1 + 1 + 1 := by simp
  have s5 : (((((W.alloc (.cells #[.string ⟨#[112]⟩, .int .i64 2025, .slice none 0 0, .slice none 0 0, .slice none 0 0, .slice (some ⟨W.heap.size + 1 + 1 + 1 + 1 + 1 + 1, 0, none⟩) 2 2, .slice none 0 0] 28)).alloc (.cells #[.string ⟨#[97]⟩, .bool true, .bool false, .int .i64 1, .int .i64 (-1), .int .i64 (-1), .slice none 0 0] 49)).alloc (.cells #[.string ⟨#[98]⟩, .bool false, .bool false, .int .i64 1, .int .i64 (-1), .int .i64 (-1), .slice (some ⟨W.heap.size + 1 + 1 + 1 + 1 + 1, 0, none⟩) 1 1] 49)).alloc (.cells #[.int .i64 6, .int .i64 0, .int .i64 0, .int .i64 0, .slice none 0 0] 31)).alloc (.cells #[.int .i64 6, .int .i64 0, .int .i64 0, .int .i64 0, .slice none 0 0, .int .i64 6, .int .i64 0, .int .i64 0, .int .i64 0, .slice none 0 0] 31)).heap.size = W.heap.size + 1 + 1 + 1 + 1 + 1 := by simp
  have s6 : ((((((W.alloc (.cells #[.string ⟨#[112]⟩, .int .i64 2025, .slice none 0 0, .slice none 0 0, .slice none 0 0, .slice (some ⟨W.heap.size + 1 + 1 + 1 + 1 + 1 + 1, 0, none⟩) 2 2, .slice none 0 0] 28)).alloc (.cells #[.string ⟨#[97]⟩, .bool true, .bool false, .int .i64 1, .int .i64 (-1), .int .i64 (-1), .slice none 0 0] 49)).alloc (.cells #[.string ⟨#[98]⟩, .bool false, .bool false, .int .i64 1, .int .i64 (-1), .int .i64 (-1), .slice (some ⟨W.heap.size + 1 + 1 + 1 + 1 + 1, 0, none⟩) 1 1] 49)).alloc (.cells #[.int .i64 6, .int .i64 0, .int .i64 0, .int .i64 0, .slice none 0 0] 31)).alloc (.cells #[.int .i64 6, .int .i64 0, .int .i64 0, .int .i64 0, .slice none 0 0, .int .i64 6, .int .i64 0, .int .i64 0, .int .i64 0, .slice none 0 0] 31)).alloc (.cells #[.int .i64 0, .bool false, .int .i64 0, .int .i64 0, .int .i64 0, .int .i64 0, .slice none 0 0, .int .i64 13, .int .i64 0, .int .i64 0, .int .i64 0, .slice (some ⟨W.heap.size + 1 + 1 + 1 + 1, 0, none⟩) 2 2] 46)).heap.size = W.heap.size + 1 + 1 + 1 + 1 + 1 + 1 := by simp
  have b4 := bx_new ((((W.alloc (.cells #[.string ⟨#[112]⟩, .int .i64 2025, .slice none 0 0, .slice none 0 0, .slice none 0 0, .slice (some ⟨W.heap.size + 1 + 1 + 1 + 1 + 1 + 1, 0, none⟩) 2 2, .slice none 0 0] 28)).alloc (.cells #[.string ⟨#[97]⟩, .bool true, .bool false, .int .i64 1, .int .i64 (-1), .int .i64 (-1), .slice none 0 0] 49)).alloc (.cells #[.string ⟨#[98]⟩, .bool false, .bool false, .int .i64 1, .int .i64 (-1), .int .i64 (-1), .slice (some ⟨W.heap.size + 1 + 1 + 1 + 1 + 1, 0, none⟩) 1 1] 49)).alloc (.cells #[.int .i64 6, .int .i64 0, .int .i64 0, .int .i64 0, .slice none 0 0] 31)) #[.int .i64 6, .int .i64 0, .int .i64 0, .int .i64 0, .slice none 0 0, .int .i64 6, .int .i64 0, .int .i64 0, .int .i64 0, .slice none 0 0] 31
  have b5 := bx_new (((((W.alloc (.cells #[.string ⟨#[112]⟩, .int .i64 2025, .slice none 0 0, .slice none 0 0, .slice none 0 0, .slice (some ⟨W.heap.size + 1 + 1 + 1 + 1 + 1 + 1, 0, none⟩) 2 2, .slice none 0 0] 28)).alloc (.cells #[.string ⟨#[97]⟩, .bool true, .bool false, .int .i64 1, .int .i64 (-1), .int .i64 (-1), .slice none 0 0] 49)).alloc (.cells #[.string ⟨#[98]⟩, .bool false, .bool false, .int .i64 1, .int .i64 (-1), .int .i64 (-1), .slice (some ⟨W.heap.size + 1 + 1 + 1 + 1 + 1, 0, none⟩) 1 1] 49)).alloc (.cells #[.int .i64 6, .int .i64 0, .int .i64 0, .int .i64 0, .slice none 0 0] 31)).alloc (.cells #[.int .i64 6, .int .i64 0, .int .i64 0, .int .i64 0, .slice none 0 0, .int .i64 6, .int .i64 0, .int .i64 0, .int .i64 0, .slice none 0 0] 31)) #[.int .i64 0, .bool false, .int .i64 0, .int .i64 0, .int .i64 0, .int .i64 0, .slice none 0 0, .int .i64 13, .int .i64 0, .int .i64 0, .int .i64 0, .slice (some ⟨W.heap.size + 1 + 1 + 1 + 1, 0, none⟩) 2 2] 46
  have b6 := bx_new ((((((W.alloc (.cells #[.string ⟨#[112]⟩, .int .i64 2025, .slice none 0 0, .slice none 0 0, .slice none 0 0, .slice (some ⟨W.heap.size + 1 + 1 + 1 + 1 + 1 + 1, 0, none⟩) 2 2, .slice none 0 0] 28)).alloc (.cells #[.string ⟨#[97]⟩, .bool true, .bool false, .int .i64 1, .int .i64 (-1), .int .i64 (-1), .slice none 0 0] 49)).alloc (.cells #[.string ⟨#[98]⟩, .bool false, .bool false, .int .i64 1, .int .i64 (-1), .int .i64 (-1), .slice (some ⟨W.heap.size + 1 + 1 + 1 + 1 + 1, 0, none⟩) 1 1] 49)).alloc (.cells #[.int .i64 6, .int .i64 0, .int .i64 0, .int .i64 0, .slice none 0 0] 31)).alloc (.cells #[.int .i64 6, .int .i64 0, .int .i64 0, .int .i64 0, .slice none 0 0, .int .i64 6, .int .i64 0, .int .i64 0, .int .i64 0, .slice none 0 0] 31)).alloc (.cells #[.int .i64 0, .bool false, .int .i64 0, .int .i64 0, .int .i64 0, .int .i64 0, .slice none 0 0, .int .i64 13, .int .i64 0, .int .i64 0, .int .i64 0, .slice (some ⟨W.heap.size + 1 + 1 + 1 + 1, 0, none⟩) 2 2] 46)) #[.string ⟨#[97]⟩, .bool true, .bool false, .int .i64 1, .int .i64 (-1), .int .i64 (-1), .slice none 0 0, .string ⟨#[98]⟩, .bool false, .bool false, .int .i64 1, .int .i64 (-1), .int .i64 (-1), .slice (some ⟨W.heap.size + 1 + 1 + 1 + 1 + 1, 0, none⟩) 1 1] 49
  rw [s4] at b4
  rw [s5] at b5
  rw [s6] at b6
  have hff : PlP W (.returned (.agg #[.string ⟨#[112]⟩, .int .i64 2025, .slice none 0 0, .slice none 0 0, .slice none 0 0, .slice (some ⟨W.heap.size + 1 + 1 + 1 + 1 + 1 + 1, 0, none⟩) 2 2, .slice none 0 0])) (((((((W.alloc (.cells #[.string ⟨#[112]⟩, .int .i64 2025, .slice none 0 0, .slice none 0 0, .slice none 0 0, .slice (some ⟨W.heap.size + 1 + 1 + 1 + 1 + 1 + 1, 0, none⟩) 2 2, .slice none 0 0] 28)).alloc (.cells #[.string ⟨#[97]⟩, .bool true, .bool false, .int .i64 1, .int .i64 (-1), .int .i64 (-1), .slice none 0 0] 49)).alloc (.cells #[.string ⟨#[98]⟩, .bool false, .bool false, .int .i64 1, .int .i64 (-1), .int .i64 (-1), .slice (some ⟨W.heap.size + 1 + 1 + 1 + 1 + 1, 0, none⟩) 1 1] 49)).alloc (.cells #[.int .i64 6, .int .i64 0, .int .i64 0, .int .i64 0, .slice none 0 0] 31)).alloc (.cells #[.int .i64 6, .int .i64 0, .int .i64 0, .int .i64 0, .slice none 0 0, .int .i64 6, .int .i64 0, .int .i64 0, .int .i64 0, .slice none 0 0] 31)).alloc (.cells #[.int .i64 0, .bool false, .int .i64 0, .int .i64 0, .int .i64 0, .int .i64 0, .slice none 0 0, .int .i64 13, .int .i64 0, .int .i64 0, .int .i64 0, .slice (some ⟨W.heap.size + 1 + 1 + 1 + 1, 0, none⟩) 2 2] 46)).alloc (.cells #[.string ⟨#[97]⟩, .bool true, .bool false, .int .i64 1, .int .i64 (-1), .int .i64 (-1), .slice none 0 0, .string ⟨#[98]⟩, .bool false, .bool false, .int .i64 1, .int .i64 (-1), .int .i64 (-1), .slice (some ⟨W.heap.size + 1 + 1 + 1 + 1 + 1, 0, none⟩) 1 1] 49)) := ⟨((((((((Below.refl _ _).alloc (Nat.le_refl _) _).alloc (by simp) _).alloc (by simp; omega) _).alloc (by simp; omega) _).alloc (by simp; omega) _).alloc (by simp; omega) _).alloc (by simp; omega) _), _, _, _, rfl, b6, k _ _ _ _ b5, k _ _ _ _ (k _ _ _ _ b4)⟩
  have b0 : Bx (((((((W.alloc (.cells #[.string ⟨#[112]⟩, .int .i64 2025, .slice none 0 0, .slice none 0 0, .slice none 0 0, .slice (some ⟨W.heap.size + 1 + 1 + 1 + 1 + 1 + 1, 0, none⟩) 2 2, .slice none 0 0] 28)).alloc (.cells #[.string ⟨#[97]⟩, .bool true, .bool false, .int .i64 1, .int .i64 (-1), .int .i64 (-1), .slice none 0 0] 49)).alloc (.cells #[.string ⟨#[98]⟩, .bool false, .bool false, .int .i64 1, .int .i64 (-1), .int .i64 (-1), .slice (some ⟨W.heap.size + 1 + 1 + 1 + 1 + 1, 0, none⟩) 1 1] 49)).alloc (.cells #[.int .i64 6, .int .i64 0, .int .i64 0, .int .i64 0, .slice none 0 0] 31)).alloc (.cells #[.int .i64 6, .int .i64 0, .int .i64 0, .int .i64 0, .slice none 0 0, .int .i64 6, .int .i64 0, .int .i64 0, .int .i64 0, .slice none 0 0] 31)).alloc (.cells #[.int .i64 0, .bool false, .int .i64 0, .int .i64 0, .int .i64 0, .int .i64 0, .slice none 0 0, .int .i64 13, .int .i64 0, .int .i64 0, .int .i64 0, .slice (some ⟨W.heap.size + 1 + 1 + 1 + 1, 0, none⟩) 2 2] 46)).alloc (.cells #[.string ⟨#[97]⟩, .bool true, .bool false, .int .i64 1, .int .i64 (-1), .int .i64 (-1), .slice none 0 0, .string ⟨#[98]⟩, .bool false, .bool false, .int .i64 1, .int .i64 (-1), .int .i64 (-1), .slice (some ⟨W.heap.size + 1 + 1 + 1 + 1 + 1, 0, none⟩) 1 1] 49)) W.heap.size [.string ⟨#[112]⟩, .int .i64 2025, .slice none 0 0, .slice none 0 0, .slice none 0 0, .slice (some ⟨W.heap.size + 1 + 1 + 1 + 1 + 1 + 1, 0, none⟩) 2 2, .slice none 0 0] := (k _ _ _ _ (k _ _ _ _ (k _ _ _ _ (k _ _ _ _ (k _ _ _ _ (k _ _ _ _ (bx_new W #[.string ⟨#[112]⟩, .int .i64 2025, .slice none 0 0, .slice none 0 0, .slice none 0 0, .slice (some ⟨W.heap.size + 1 + 1 + 1 + 1 + 1 + 1, 0, none⟩) 2 2, .slice none 0 0] 28)))))))
  have f0 := b0.2.1 0 (by simp)
  have f1 := b0.2.1 1 (by simp)
  have f2 := b0.2.1 2 (by simp)
  have f3 := b0.2.1 3 (by simp)
  have f4 := b0.2.1 4 (by simp)
  have f5 := b0.2.1 5 (by simp)
  have f6 := b0.2.1 6 (by simp)
  clear b0 b4 b5 b6 s4 s5 s6 k
  go_enter Try.func7, Try.ntmps7
  go_wp2
  exact bodyPost_ret (v := .agg #[.string ⟨#[112]⟩, .int .i64 2025, .slice none 0 0, .slice none 0 0, .slice none 0 0, .slice (some ⟨W.heap.size + 1 + 1 + 1 + 1 + 1 + 1, 0, none⟩) 2 2, .slice none 0 0]) (by simp [results, Try.results7, go_sem]) rfl hff
end Go.Proofs.Yteiplejamciddaa


namespace Go.Proofs.Yteiplejamciddaa
open Go.RowKit

def plZ : Pk := ⟨[112], 2025, [], [], [], [], []⟩
theorem plP_ok : ckP plP = none := by kernel_rfl
theorem plP_cells : cesF plP = 2 := by kernel_rfl
theorem plP_type : tType plP (-1) plB = .ok (1, -1) := by kernel_rfl
theorem plZ_no : ckP plZ = some (⟨5, 0, -1, []⟩, 60) := by kernel_rfl
theorem plP_sz : SzP plP := ⟨by decide, ⟨by decide, fun _ h => by cases h⟩, ⟨by decide, fun _ h => by cases h⟩, ⟨by decide, fun _ h => by cases h⟩, ⟨by decide, fun o h => by
    rcases List.mem_cons.1 h with rfl | h
    · exact ⟨by decide, by decide, fun _ h => by cases h⟩
    · rcases List.mem_cons.1 h with rfl | h
      · refine ⟨by decide, by decide, fun c h => ?_⟩
        rcases List.mem_cons.1 h with rfl | h
        · exact ⟨⟨by decide, trivial⟩, ⟨by decide, ⟨by decide, trivial, ⟨by decide, trivial, trivial⟩⟩⟩⟩
        · cases h
      · cases h⟩, ⟨by decide, fun _ h => by cases h⟩⟩
theorem plZ_sz : SzP plZ := ⟨by decide, ⟨by decide, fun _ h => by cases h⟩, ⟨by decide, fun _ h => by cases h⟩, ⟨by decide, fun _ h => by cases h⟩, ⟨by decide, fun _ h => by cases h⟩, ⟨by decide, fun _ h => by cases h⟩⟩
theorem rg_d {z : Int} (h1 : -9223372036854775808 ≤ z) (h2 : z ≤ 9223372036854775807) : Rg z := ⟨h1, h2⟩
theorem pl_fo {W : World} {ab : Nat} (h : Bx W ab [.int .i64 6, .int .i64 0, .int .i64 0, .int .i64 0, .slice none 0 0, .int .i64 6, .int .i64 0, .int .i64 0, .int .i64 0, .slice none 0 0]) : FoAt W AnyB plB.args (some ⟨ab, 0, none⟩) := by
  have r : RowR eE W AnyB [plX, plX] (some ⟨ab, 0, none⟩) := .inr ⟨ab, 0, [.int .i64 6, .int .i64 0, .int .i64 0, .int .i64 0, .slice none 0 0, .int .i64 6, .int .i64 0, .int .i64 0, .int .i64 0, .slice none 0 0], rfl, trivial, h.1, fun j hj => by rw [Nat.zero_add]; exact h.2.1 j hj, Elems.cons' (D := eE) (cx := [.int .i64 6, .int .i64 0, .int .i64 0, .int .i64 0, .slice none 0 0]) ⟨none, 0, rfl, ⟨rg_d (by decide) (by decide), rg_d (by decide) (by decide), rg_d (by decide) (by decide), rg_d (by decide) (by decide)⟩, trivial⟩ (Elems.cons' (D := eE) (cx := [.int .i64 6, .int .i64 0, .int .i64 0, .int .i64 0, .slice none 0 0]) ⟨none, 0, rfl, ⟨rg_d (by decide) (by decide), rg_d (by decide) (by decide), rg_d (by decide) (by decide), rg_d (by decide) (by decide)⟩, trivial⟩ (Elems.nil _ _ _))⟩
  exact fo_of_row r
theorem pl_cl {W : World} {kb ab : Nat} (hk : Bx W kb [.int .i64 0, .bool false, .int .i64 0, .int .i64 0, .int .i64 0, .int .i64 0, .slice none 0 0, .int .i64 13, .int .i64 0, .int .i64 0, .int .i64 0, .slice (some ⟨ab, 0, none⟩) 2 2]) (h : Bx W ab [.int .i64 6, .int .i64 0, .int .i64 0, .int .i64 0, .slice none 0 0, .int .i64 6, .int .i64 0, .int .i64 0, .int .i64 0, .slice none 0 0]) : RowR eC W AnyB [plC] (some ⟨kb, 0, none⟩) := .inr ⟨kb, 0, [.int .i64 0, .bool false, .int .i64 0, .int .i64 0, .int .i64 0, .int .i64 0, .slice none 0 0, .int .i64 13, .int .i64 0, .int .i64 0, .int .i64 0, .slice (some ⟨ab, 0, none⟩) 2 2], rfl, trivial, hk.1, fun j hj => by rw [Nat.zero_add]; exact hk.2.1 j hj, Elems.cons' (D := eC) (cx := [.int .i64 0, .bool false, .int .i64 0, .int .i64 0, .int .i64 0, .int .i64 0, .slice none 0 0, .int .i64 13, .int .i64 0, .int .i64 0, .int .i64 0, .slice (some ⟨ab, 0, none⟩) 2 2]) ⟨none, 0, some ⟨ab, 0, none⟩, 2, rfl, rg_d (by decide) (by decide), ⟨⟨rg_d (by decide) (by decide), rg_d (by decide) (by decide), rg_d (by decide) (by decide), rg_d (by decide) (by decide)⟩, ⟨rg_d (by decide) (by decide), rg_d (by decide) (by decide), rg_d (by decide) (by decide), rg_d (by decide) (by decide)⟩⟩, trivial, pl_fo h⟩ (Elems.nil _ _ _)⟩
theorem pl_ln {W : World} {lb kb ab : Nat} (hl : Bx W lb [.string ⟨#[97]⟩, .bool true, .bool false, .int .i64 1, .int .i64 (-1), .int .i64 (-1), .slice none 0 0, .string ⟨#[98]⟩, .bool false, .bool false, .int .i64 1, .int .i64 (-1), .int .i64 (-1), .slice (some ⟨kb, 0, none⟩) 1 1]) (hk : Bx W kb [.int .i64 0, .bool false, .int .i64 0, .int .i64 0, .int .i64 0, .int .i64 0, .slice none 0 0, .int .i64 13, .int .i64 0, .int .i64 0, .int .i64 0, .slice (some ⟨ab, 0, none⟩) 2 2]) (h : Bx W ab [.int .i64 6, .int .i64 0, .int .i64 0, .int .i64 0, .slice none 0 0, .int .i64 6, .int .i64 0, .int .i64 0, .int .i64 0, .slice none 0 0]) : RowR eLc W AnyB plP.lns (some ⟨lb, 0, none⟩) := .inr ⟨lb, 0, [.string ⟨#[97]⟩, .bool true, .bool false, .int .i64 1, .int .i64 (-1), .int .i64 (-1), .slice none 0 0, .string ⟨#[98]⟩, .bool false, .bool false, .int .i64 1, .int .i64 (-1), .int .i64 (-1), .slice (some ⟨kb, 0, none⟩) 1 1], rfl, trivial, hl.1, fun j hj => by rw [Nat.zero_add]; exact hl.2.1 j hj, Elems.cons' (D := eLc) (cx := [.string ⟨#[97]⟩, .bool true, .bool false, .int .i64 1, .int .i64 (-1), .int .i64 (-1), .slice none 0 0]) ⟨none, 0, rfl, ⟨rg_d (by decide) (by decide), rg_d (by decide) (by decide), rg_d (by decide) (by decide)⟩, .inl rfl, by decide⟩ (Elems.cons' (D := eLc) (cx := [.string ⟨#[98]⟩, .bool false, .bool false, .int .i64 1, .int .i64 (-1), .int .i64 (-1), .slice (some ⟨kb, 0, none⟩) 1 1]) ⟨some ⟨kb, 0, none⟩, 1, rfl, ⟨rg_d (by decide) (by decide), rg_d (by decide) (by decide), rg_d (by decide) (by decide)⟩, pl_cl hk h, by decide⟩ (Elems.nil _ _ _))⟩
theorem pl_le {W : World} {lb kb ab : Nat} (hl : Bx W lb [.string ⟨#[97]⟩, .bool true, .bool false, .int .i64 1, .int .i64 (-1), .int .i64 (-1), .slice none 0 0, .string ⟨#[98]⟩, .bool false, .bool false, .int .i64 1, .int .i64 (-1), .int .i64 (-1), .slice (some ⟨kb, 0, none⟩) 1 1]) (hk : Bx W kb [.int .i64 0, .bool false, .int .i64 0, .int .i64 0, .int .i64 0, .int .i64 0, .slice none 0 0, .int .i64 13, .int .i64 0, .int .i64 0, .int .i64 0, .slice (some ⟨ab, 0, none⟩) 2 2]) (h : Bx W ab [.int .i64 6, .int .i64 0, .int .i64 0, .int .i64 0, .slice none 0 0, .int .i64 6, .int .i64 0, .int .i64 0, .int .i64 0, .slice none 0 0]) : RowR eL W AnyB plP.lns (some ⟨lb, 0, none⟩) := .inr ⟨lb, 0, [.string ⟨#[97]⟩, .bool true, .bool false, .int .i64 1, .int .i64 (-1), .int .i64 (-1), .slice none 0 0, .string ⟨#[98]⟩, .bool false, .bool false, .int .i64 1, .int .i64 (-1), .int .i64 (-1), .slice (some ⟨kb, 0, none⟩) 1 1], rfl, trivial, hl.1, fun j hj => by rw [Nat.zero_add]; exact hl.2.1 j hj, Elems.cons' (D := eL) (cx := [.string ⟨#[97]⟩, .bool true, .bool false, .int .i64 1, .int .i64 (-1), .int .i64 (-1), .slice none 0 0]) ⟨none, 0, rfl, ⟨rg_d (by decide) (by decide), rg_d (by decide) (by decide), rg_d (by decide) (by decide)⟩, .inl rfl⟩ (Elems.cons' (D := eL) (cx := [.string ⟨#[98]⟩, .bool false, .bool false, .int .i64 1, .int .i64 (-1), .int .i64 (-1), .slice (some ⟨kb, 0, none⟩) 1 1]) ⟨some ⟨kb, 0, none⟩, 1, rfl, ⟨rg_d (by decide) (by decide), rg_d (by decide) (by decide), rg_d (by decide) (by decide)⟩, pl_cl hk h⟩ (Elems.nil _ _ _))⟩
theorem pl_pke {W : World} {lb kb ab : Nat} (hl : Bx W lb [.string ⟨#[97]⟩, .bool true, .bool false, .int .i64 1, .int .i64 (-1), .int .i64 (-1), .slice none 0 0, .string ⟨#[98]⟩, .bool false, .bool false, .int .i64 1, .int .i64 (-1), .int .i64 (-1), .slice (some ⟨kb, 0, none⟩) 1 1]) (hk : Bx W kb [.int .i64 0, .bool false, .int .i64 0, .int .i64 0, .int .i64 0, .int .i64 0, .slice none 0 0, .int .i64 13, .int .i64 0, .int .i64 0, .int .i64 0, .slice (some ⟨ab, 0, none⟩) 2 2]) (h : Bx W ab [.int .i64 6, .int .i64 0, .int .i64 0, .int .i64 0, .slice none 0 0, .int .i64 6, .int .i64 0, .int .i64 0, .int .i64 0, .slice none 0 0]) : PkE W AnyB plP [.string ⟨#[112]⟩, .int .i64 2025, .slice none 0 0, .slice none 0 0, .slice none 0 0, .slice (some ⟨lb, 0, none⟩) 2 2, .slice none 0 0] := ⟨none, 0, none, 0, none, 0, some ⟨lb, 0, none⟩, 2, none, 0, rfl, rg_d (by decide) (by decide), .inl rfl, .inl rfl, .inl rfl, pl_le hl hk h, .inl rfl⟩
theorem pl_pkc {W : World} {lb kb ab : Nat} (hl : Bx W lb [.string ⟨#[97]⟩, .bool true, .bool false, .int .i64 1, .int .i64 (-1), .int .i64 (-1), .slice none 0 0, .string ⟨#[98]⟩, .bool false, .bool false, .int .i64 1, .int .i64 (-1), .int .i64 (-1), .slice (some ⟨kb, 0, none⟩) 1 1]) (hk : Bx W kb [.int .i64 0, .bool false, .int .i64 0, .int .i64 0, .int .i64 0, .int .i64 0, .slice none 0 0, .int .i64 13, .int .i64 0, .int .i64 0, .int .i64 0, .slice (some ⟨ab, 0, none⟩) 2 2]) (h : Bx W ab [.int .i64 6, .int .i64 0, .int .i64 0, .int .i64 0, .slice none 0 0, .int .i64 6, .int .i64 0, .int .i64 0, .int .i64 0, .slice none 0 0]) : PkC W AnyB plP [.string ⟨#[112]⟩, .int .i64 2025, .slice none 0 0, .slice none 0 0, .slice none 0 0, .slice (some ⟨lb, 0, none⟩) 2 2, .slice none 0 0] := ⟨none, 0, some ⟨lb, 0, none⟩, 2, rfl, rfl, .inl rfl, pl_ln hl hk h⟩
theorem pz_pke (W : World) : PkE W AnyB plZ [.string ⟨#[112]⟩, .int .i64 2025, .slice none 0 0, .slice none 0 0, .slice none 0 0, .slice none 0 0, .slice none 0 0] := ⟨none, 0, none, 0, none, 0, none, 0, none, 0, rfl, rg_d (by decide) (by decide), .inl rfl, .inl rfl, .inl rfl, .inl rfl, .inl rfl⟩
theorem pz_pkc (W : World) : PkC W AnyB plZ [.string ⟨#[112]⟩, .int .i64 2025, .slice none 0 0, .slice none 0 0, .slice none 0 0, .slice none 0 0, .slice none 0 0] := ⟨none, 0, none, 0, rfl, rfl, .inl rfl, .inl rfl⟩
set_option maxRecDepth 20000 in
set_option maxHeartbeats 3000000 in
theorem known_any (W : World) : Calls Try.prog 4 #[] W (Lk (.bool true) W) := by
  have hpl := lplain_any W
  go_enter Try.func4, Try.ntmps4
  go_wp2_with fail
  refine hpl.mono ?_
  clear hpl
  rintro e w1 ⟨hB1, lb, kb, ab, rfl, hl1, hk1, ha1⟩
  obtain ⟨X1, hX1⟩ : ∃ X1, X1 = w1.alloc (.cells #[.string ⟨#[112]⟩, .int .i64 2025, .slice none 0 0, .slice none 0 0, .slice none 0 0, .slice (some ⟨lb, 0, none⟩) 2 2, .slice none 0 0] 28) := ⟨_, rfl⟩
  have hBX : Below w1.heap.size w1 X1 := by rw [hX1]; exact (Below.refl _ _).alloc (Nat.le_refl _) _
  have hbp : Bx X1 w1.heap.size [.string ⟨#[112]⟩, .int .i64 2025, .slice none 0 0, .slice none 0 0, .slice none 0 0, .slice (some ⟨lb, 0, none⟩) 2 2, .slice none 0 0] := by rw [hX1]; exact bx_new _ _ _
  have hl2 := hl1.bel hBX hl1.1
  have hk2 := hk1.bel hBX hk1.1
  have ha2 := ha1.bel hBX ha1.1
  have hBW1 := bthr hB1 hBX (Nat.le_refl _)
  have hch := Check_any plP none none none (some ⟨lb, 0, none⟩) none 0 0 0 2 0 X1 (pl_pke hl2 hk2 ha2) (pl_pkc hl2 hk2 ha2) plP_sz
  rw [plP_ok] at hch
  have hch : Calls Try.prog 8 #[.agg #[.string ⟨#[112]⟩, .int .i64 2025, .slice none 0 0, .slice none 0 0, .slice none 0 0, .slice (some ⟨lb, 0, none⟩) 2 2, .slice none 0 0]] X1 (ChP none X1) := hch
  have hX1H := Hid.mk hX1
  clear hX1
  go_wp2_with fail
  rw [← hX1H.out]
  clear hX1H
  refine hch.mono ?_
  clear hch
  rintro e w2 ⟨hB2, rfl⟩
  obtain ⟨X2, hX2⟩ : ∃ X2, X2 = w2.alloc (.cells #[.int .i64 0, .int .i64 0, .int .i64 0, .slice none 0 0] 41) := ⟨_, rfl⟩
  have hBX2 : Below w2.heap.size w2 X2 := by rw [hX2]; exact (Below.refl _ _).alloc (Nat.le_refl _) _
  have hbs : Bx X2 w2.heap.size [.int .i64 0, .int .i64 0, .int .i64 0, .slice none 0 0] := by rw [hX2]; exact bx_new _ _ _
  have hB12 := bthr hB2 hBX2 (Nat.le_refl _)
  have hl3 := hl2.bel hB12 hl2.1
  have hk3 := hk2.bel hB12 hk2.1
  have ha3 := ha2.bel hB12 ha2.1
  have hbp3 := hbp.bel hB12 hbp.1
  have hBW2 := bthr hBW1 hB12 (Nat.le_refl _)
  have hce := Cells_any plP none none none (some ⟨lb, 0, none⟩) none 0 0 0 2 0 X2 (.inl rfl) (pl_le hl3 hk3 ha3) (.inl rfl) (by decide) (by decide) (by decide)
  rw [plP_cells] at hce
  have hce : Calls Try.prog 9 #[.agg #[.string ⟨#[112]⟩, .int .i64 2025, .slice none 0 0, .slice none 0 0, .slice none 0 0, .slice (some ⟨lb, 0, none⟩) 2 2, .slice none 0 0]] X2 (Lk (.int .i64 2) X2) := hce
  have hpB := hbp.bel hB2 hbp.1
  have p0 := hpB.2.1 0 (by simp)
  have p1 := hpB.2.1 1 (by simp)
  have p2 := hpB.2.1 2 (by simp)
  have p3 := hpB.2.1 3 (by simp)
  have p4 := hpB.2.1 4 (by simp)
  have p5 := hpB.2.1 5 (by simp)
  have p6 := hpB.2.1 6 (by simp)
  have lp := hpB.1
  have hX2H := Hid.mk hX2
  clear hX2
  go_wp2_with fail
  rw [← hX2H.out]
  clear hX2H p0 p1 p2 p3 p4 p5 p6 lp
  refine hce.mono ?_
  clear hce
  rintro e w3 ⟨rfl, hB3⟩
  have hB3W := bthr hBW2 hB3 (Nat.le_refl _)
  have hl4 := hl3.bel hB3 hl3.1
  have hk4 := hk3.bel hB3 hk3.1
  have ha4 := ha3.bel hB3 ha3.1
  have hbp4 := hbp3.bel hB3 hbp3.1
  have hbs4 := hbs.bel hB3 hbs.1
  have hSH : Hid (∀ Y, Below w3.heap.size w3 Y → Y.cell? ⟨w1.heap.size, 0, none⟩ = some (.string ⟨#[112]⟩) ∧ Y.cell? ⟨w1.heap.size, 1, none⟩ = some (.int .i64 2025) ∧ Y.cell? ⟨w1.heap.size, 2, none⟩ = some (.slice none 0 0) ∧ Y.cell? ⟨w1.heap.size, 3, none⟩ = some (.slice none 0 0) ∧ Y.cell? ⟨w1.heap.size, 4, none⟩ = some (.slice none 0 0) ∧ Y.cell? ⟨w1.heap.size, 5, none⟩ = some (.slice (some ⟨lb, 0, none⟩) 2 2) ∧ Y.cell? ⟨w1.heap.size, 6, none⟩ = some (.slice none 0 0) ∧ Y.cell? ⟨lb, 13, none⟩ = some (.slice (some ⟨kb, 0, none⟩) 1 1) ∧ Y.cell? ⟨kb, 7, none⟩ = some (.int .i64 13) ∧ Y.cell? ⟨kb, 8, none⟩ = some (.int .i64 0) ∧ Y.cell? ⟨kb, 9, none⟩ = some (.int .i64 0) ∧ Y.cell? ⟨kb, 10, none⟩ = some (.int .i64 0) ∧ Y.cell? ⟨kb, 11, none⟩ = some (.slice (some ⟨ab, 0, none⟩) 2 2)) := ⟨fun Y hY => by
    have h1 := hbp4.bel hY hbp4.1
    have h2 := hl4.bel hY hl4.1
    have h3 := hk4.bel hY hk4.1
    exact ⟨h1.2.1 0 (by simp), h1.2.1 1 (by simp), h1.2.1 2 (by simp), h1.2.1 3 (by simp), h1.2.1 4 (by simp), h1.2.1 5 (by simp), h1.2.1 6 (by simp), h2.2.1 13 (by simp), h3.2.1 7 (by simp), h3.2.1 8 (by simp), h3.2.1 9 (by simp), h3.2.1 10 (by simp), h3.2.1 11 (by simp)⟩⟩
  have hbd : Below w3.heap.size w3 w3.drew := (Below.refl _ _).drew
  have hS0 := hSH.out _ hbd
  have hty := Type_any plP (-1) plB none none none (some ⟨lb, 0, none⟩) none 0 0 0 2 0 (some ⟨ab, 0, none⟩) 2 w3.drew (pl_pke (hl4.bel hbd hl4.1) (hk4.bel hbd hk4.1) (ha4.bel hbd ha4.1)) (pl_fo (ha4.bel hbd ha4.1)) ⟨by decide, ⟨by decide, trivial, ⟨by decide, trivial, trivial⟩⟩⟩
  rw [plP_type] at hty
  have hty : Calls Try.prog 5 #[.agg #[.string ⟨#[112]⟩, .int .i64 2025, .slice none 0 0, .slice none 0 0, .slice none 0 0, .slice (some ⟨lb, 0, none⟩) 2 2, .slice none 0 0], .int .i64 (-1), .agg #[.int .i64 13, .int .i64 0, .int .i64 0, .int .i64 0, .slice (some ⟨ab, 0, none⟩) 2 2]] w3.drew (fun e W' => Below w3.drew.heap.size w3.drew W' ∧ e = .returned (.tuple #[.int .i64 1, .int .i64 (-1), .slice none 0 0, .int .i64 0])) := hty
  go_wp2_with fail
  go_region_held3 (fun Y => Y.cell? ⟨w1.heap.size, 0, none⟩ = some (.string ⟨#[112]⟩) ∧ Y.cell? ⟨w1.heap.size, 1, none⟩ = some (.int .i64 2025) ∧ Y.cell? ⟨w1.heap.size, 2, none⟩ = some (.slice none 0 0) ∧ Y.cell? ⟨w1.heap.size, 3, none⟩ = some (.slice none 0 0) ∧ Y.cell? ⟨w1.heap.size, 4, none⟩ = some (.slice none 0 0) ∧ Y.cell? ⟨w1.heap.size, 5, none⟩ = some (.slice (some ⟨lb, 0, none⟩) 2 2) ∧ Y.cell? ⟨w1.heap.size, 6, none⟩ = some (.slice none 0 0) ∧ Y.cell? ⟨lb, 13, none⟩ = some (.slice (some ⟨kb, 0, none⟩) 1 1) ∧ Y.cell? ⟨kb, 7, none⟩ = some (.int .i64 13) ∧ Y.cell? ⟨kb, 8, none⟩ = some (.int .i64 0) ∧ Y.cell? ⟨kb, 9, none⟩ = some (.int .i64 0) ∧ Y.cell? ⟨kb, 10, none⟩ = some (.int .i64 0) ∧ Y.cell? ⟨kb, 11, none⟩ = some (.slice (some ⟨ab, 0, none⟩) 2 2)) (assumption)
    (first | (go_at_call 5; refine hty.mono ?_; clear hty; rintro e w4 ⟨hB4a, rfl⟩; have hB4 := bthr hbd hB4a (Nat.le_refl _); have hS4 := hSH.out _ hB4))
  have hbp5 := hbp4.bel hB4 hbp4.1
  have hbs5 := hbs4.bel hB4 hbs4.1
  have hB4W := bthr hB3W hB4 (Nat.le_refl _)
  have hw1 : W.heap.size ≤ w1.heap.size := hB1.size
  have hsz : w1.heap.size < w2.heap.size := (hbp.bel hB2 hbp.1).1
  obtain ⟨V, hV⟩ : ∃ V, w4.setCell ⟨w1.heap.size, 5, none⟩ (.slice none 0 0) = V := ⟨_, rfl⟩
  have hbV : Bx V w1.heap.size [.string ⟨#[112]⟩, .int .i64 2025, .slice none 0 0, .slice none 0 0, .slice none 0 0, .slice none 0 0, .slice none 0 0] := by rw [← hV]; exact hbp5.set 5 _
  have hsV : Bx V w2.heap.size [.int .i64 0, .int .i64 0, .int .i64 0, .slice none 0 0] := by rw [← hV]; exact hbs5.kept (gr_set _ _ _ _) (by intro e; injection e with e; omega)
  have hBV : Below W.heap.size W V := by rw [← hV]; exact hB4W.setCell (p := ⟨w1.heap.size, 5, none⟩) hw1 _
  have g5 := hbp5.2.1 5 (by simp)
  have z5 := hbp5.2.2 5
  have p0 := hbV.2.1 0 (by simp)
  have p1 := hbV.2.1 1 (by simp)
  have p2 := hbV.2.1 2 (by simp)
  have p3 := hbV.2.1 3 (by simp)
  have p4 := hbV.2.1 4 (by simp)
  have p5 := hbV.2.1 5 (by simp)
  have p6 := hbV.2.1 6 (by simp)
  have hc2 := Check_any plZ none none none none none 0 0 0 0 0 V (pz_pke V) (pz_pkc V) plZ_sz
  rw [plZ_no] at hc2
  have hc2 : Calls Try.prog 8 #[.agg #[.string ⟨#[112]⟩, .int .i64 2025, .slice none 0 0, .slice none 0 0, .slice none 0 0, .slice none 0 0, .slice none 0 0]] V (fun e W' => Below V.heap.size V W' ∧ ∃ pv, e = .returned (.tuple #[.agg #[.int .i64 5, .int .i64 0, .int .i64 (-1), pv], .int .i64 60]) ∧ W'.ownsRow V.heap.size 3 1 pv 0 (ptC [])) := hc2
  clear hS4 hSH hS0
  go_wp2_with fail
  refine hc2.mono ?_
  clear hc2
  rintro e w5 ⟨hB5, pv, rfl, hown⟩
  obtain ⟨pa, pcap, rfl, -, -⟩ := own_int hown
  have hs5 := hsV.bel hB5 hsV.1
  have hB5W := bthr hBV hB5 (Nat.le_refl _)
  have uq0 := hs5
  have ug0 : w5.cell? ⟨w2.heap.size, 0, none⟩ = some (.int .i64 0) := uq0.2.1 0 (by simp)
  have uh0 := uq0.2.2 0
  have ul0 := uq0.1
  obtain ⟨U1, ux0⟩ : ∃ U1, w5.setCell ⟨w2.heap.size, 0, none⟩ (.int .i64 5) = U1 := ⟨_, rfl⟩
  have uq1 : Bx U1 w2.heap.size [(.int .i64 5), (.int .i64 0), (.int .i64 0), (.slice none 0 0)] := (by rw [← ux0]; exact uq0.set 0 (.int .i64 5))
  have ug1 : U1.cell? ⟨w2.heap.size, 1, none⟩ = some (.int .i64 0) := uq1.2.1 1 (by simp)
  have uh1 := uq1.2.2 1
  have ul1 := uq1.1
  obtain ⟨U2, ux1⟩ : ∃ U2, U1.setCell ⟨w2.heap.size, 1, none⟩ (.int .i64 0) = U2 := ⟨_, rfl⟩
  have uq2 : Bx U2 w2.heap.size [(.int .i64 5), (.int .i64 0), (.int .i64 0), (.slice none 0 0)] := (by rw [← ux1]; exact uq1.set 1 (.int .i64 0))
  have ug2 : U2.cell? ⟨w2.heap.size, 2, none⟩ = some (.int .i64 0) := uq2.2.1 2 (by simp)
  have uh2 := uq2.2.2 2
  have ul2 := uq2.1
  obtain ⟨U3, ux2⟩ : ∃ U3, U2.setCell ⟨w2.heap.size, 2, none⟩ (.int .i64 (-1)) = U3 := ⟨_, rfl⟩
  have uq3 : Bx U3 w2.heap.size [(.int .i64 5), (.int .i64 0), (.int .i64 (-1)), (.slice none 0 0)] := (by rw [← ux2]; exact uq2.set 2 (.int .i64 (-1)))
  have ug3 : U3.cell? ⟨w2.heap.size, 3, none⟩ = some (.slice none 0 0) := uq3.2.1 3 (by simp)
  have uh3 := uq3.2.2 3
  have ul3 := uq3.1
  obtain ⟨U4, ux3⟩ : ∃ U4, U3.setCell ⟨w2.heap.size, 3, none⟩ (.slice pa 0 pcap) = U4 := ⟨_, rfl⟩
  have uq4 : Bx U4 w2.heap.size [(.int .i64 5), (.int .i64 0), (.int .i64 (-1)), (.slice pa 0 pcap)] := (by rw [← ux3]; exact uq3.set 3 (.slice pa 0 pcap))
  have hBU : Below W.heap.size W U4 := by
    rw [← ux3, ← ux2, ← ux1, ← ux0]
    exact (((hB5W.setCell (p := ⟨w2.heap.size, 0, none⟩) (by show W.heap.size ≤ w2.heap.size; omega) _).setCell (p := ⟨w2.heap.size, 1, none⟩) (by show W.heap.size ≤ w2.heap.size; omega) _).setCell (p := ⟨w2.heap.size, 2, none⟩) (by show W.heap.size ≤ w2.heap.size; omega) _).setCell (p := ⟨w2.heap.size, 3, none⟩) (by show W.heap.size ≤ w2.heap.size; omega) _
  have f0 := uq4.2.1 0 (by simp)
  clear uq0 uq1 uq2 uq3 uq4
  go_wp2
  go_ret
  exact ⟨rfl, hBU⟩
end Go.Proofs.Yteiplejamciddaa


namespace Go.Proofs.Yteiplejamciddaa
open Go.RowKit

/-- Numbers that lie at a place. -/
def IA (W : World) (l : List Nat) (a : Option Addr) : Prop := ∀ j (h : j < l.length), ∃ g o, a = some ⟨g, o, none⟩ ∧ W.cell? ⟨g, o + j, none⟩ = some (.int .i64 (l[j] : Int))
set_option maxRecDepth 20000 in
set_option maxHeartbeats 1000000 in
theorem sameInts_eq (l : List Nat) (a b : Option Addr) (ca cb : Nat) (W : World) (ha : IA W l a) (hb : IA W l b) (hl : l.length ≤ 1000000) : Calls Try.prog 6 #[.slice a l.length ca, .slice b l.length cb] W (Lk (.bool true) W) := by
  go_enter Try.func6, Try.ntmps6
  go_wp2
  go_loopw [5] (fun iv wr => ∃ i : Nat, iv = .int .i64 (i : Int) ∧ i ≤ l.length ∧ Below W.heap.size W wr) (fun iv _ => l.length - (intOf iv).toNat)
  case atStart => exact ⟨0, rfl, Nat.zero_le _, Below.refl _ _⟩
  case round =>
    obtain ⟨i, rfl, hi, hBr⟩ := hrel
    by_cases hlt : i < l.length
    · have hlt' : (i : Int) < (l.length : Int) := by omega
      have hi0 : (0 : Int) ≤ (i : Int) := by omega
      obtain ⟨g1, o1, rfl, k1⟩ := ha i hlt
      obtain ⟨g2, o2, rfl, k2⟩ := hb i hlt
      have e1 := (bel_cell hBr (World.block_lt_of_cell? _ _ k1) (o1 + i)).trans k1
      have e2 := (bel_cell hBr (World.block_lt_of_cell? _ _ k2) (o2 + i)).trans k2
      generalize l[i] = z at e1 e2
      clear k1 k2
      go_wp2
      go_quiet (fail)
      have hBq : Below W.heap.size W (World.drewN wr nq) := hBr.trans ((bel_drewN _ _ _))
      go_wp2
      exact ⟨⟨i + 1, rfl, hlt, hBq⟩, by simp only [intOf]; omega⟩
    · have hlt' : ¬ (i : Int) < (l.length : Int) := by omega
      go_wp2
      go_ret
      exact ⟨rfl, hBr⟩
theorem ia_own {W : World} {B : Nat} {v : Value} {l : List Nat} (h : W.ownsRow B 3 1 v l.length (ptC l)) : ∃ a c, v = .slice a l.length c ∧ IA W l a ∧ l.length ≤ c := by
  obtain ⟨a, c, rfl, h1, h2⟩ := own_int h
  refine ⟨a, c, rfl, fun j hj => ?_, h2⟩
  have h' := h
  obtain ⟨hl, ⟨e, h0⟩ | ⟨g, cap, cur, e, hg, hc, h3⟩⟩ := h
  · omega
  · injection e with e1 e2 e3
    subst e1 e3
    refine ⟨g, 0, rfl, ?_⟩
    rw [Nat.zero_add, h'.cellAt j (by omega)]
    unfold ptC
    rw [List.getElem?_map, List.getElem?_eq_getElem hj]
    rfl
end Go.Proofs.Yteiplejamciddaa


namespace Go.Proofs.Yteiplejamciddaa
open Go.RowKit

set_option maxRecDepth 20000 in
set_option maxHeartbeats 4000000 in
theorem parts_walk (p : Pk) (g : Int) (x : Ex) (a3 a4 a5 a6 a7 : Option Addr) (c3 c4 c5 c6 c7 : Nat) (ax : Option Addr) (cx : Nat) (W : World) (hp : PkE W AnyB p [.string ⟨p.name.toArray⟩, .int .i64 p.year, .slice a3 p.opts.length c3, .slice a4 p.tabs.length c4, .slice a5 p.grps.length c5, .slice a6 p.lns.length c6, .slice a7 p.cks.length c7]) (hx : FoAt W AnyB x.args ax) (hz : SzE x) : Calls Try.prog 3 #[.agg #[.string ⟨p.name.toArray⟩, .int .i64 p.year, .slice a3 p.opts.length c3, .slice a4 p.tabs.length c4, .slice a5 p.grps.length c5, .slice a6 p.lns.length c6, .slice a7 p.cks.length c7], .int .i64 g, .agg #[.int .i64 x.op, .int .i64 x.num, .int .i64 x.den, .int .i64 x.mode, .slice ax x.args.len cx]] W (Lk (.bool true) W) := by
  obtain ⟨W2, hW2⟩ : ∃ W2, W2 = (W.alloc (.cells #[.string ⟨p.name.toArray⟩, .int .i64 p.year, .slice a3 p.opts.length c3, .slice a4 p.tabs.length c4, .slice a5 p.grps.length c5, .slice a6 p.lns.length c6, .slice a7 p.cks.length c7] 28)).alloc (.cells #[.int .i64 x.op, .int .i64 x.num, .int .i64 x.den, .int .i64 x.mode, .slice ax x.args.len cx] 31) := ⟨_, rfl⟩
  have hB2 : Below W.heap.size W W2 := by rw [hW2]; exact ((Below.refl _ _).alloc (Nat.le_refl _) _).alloc (by simp) _
  have hbp : Bx W2 W.heap.size [.string ⟨p.name.toArray⟩, .int .i64 p.year, .slice a3 p.opts.length c3, .slice a4 p.tabs.length c4, .slice a5 p.grps.length c5, .slice a6 p.lns.length c6, .slice a7 p.cks.length c7] := by rw [hW2]; exact (bx_new W #[.string ⟨p.name.toArray⟩, .int .i64 p.year, .slice a3 p.opts.length c3, .slice a4 p.tabs.length c4, .slice a5 p.grps.length c5, .slice a6 p.lns.length c6, .slice a7 p.cks.length c7] 28).kept (World.grownBy_alloc _ _ none) (by simp)
  have hbe : Bx W2 (W.heap.size + 1) [.int .i64 x.op, .int .i64 x.num, .int .i64 x.den, .int .i64 x.mode, .slice ax x.args.len cx] := by
    have := bx_new (W.alloc (.cells #[.string ⟨p.name.toArray⟩, .int .i64 p.year, .slice a3 p.opts.length c3, .slice a4 p.tabs.length c4, .slice a5 p.grps.length c5, .slice a6 p.lns.length c6, .slice a7 p.cks.length c7] 28)) #[.int .i64 x.op, .int .i64 x.num, .int .i64 x.den, .int .i64 x.mode, .slice ax x.args.len cx] 31
    rw [show (W.alloc (.cells #[.string ⟨p.name.toArray⟩, .int .i64 p.year, .slice a3 p.opts.length c3, .slice a4 p.tabs.length c4, .slice a5 p.grps.length c5, .slice a6 p.lns.length c6, .slice a7 p.cks.length c7] 28)).heap.size = W.heap.size + 1 by simp, ← hW2] at this
    exact this
  obtain ⟨tp1, tp2, tp3⟩ := type_parts p g x
  have hrow := row_of_fo hx
  have hlen : (toL x.args).length = x.args.len := toL_len _
  have hTy : Hid (∀ X, Below W2.heap.size W2 X → Calls Try.prog 5 #[.agg #[.string ⟨p.name.toArray⟩, .int .i64 p.year, .slice a3 p.opts.length c3, .slice a4 p.tabs.length c4, .slice a5 p.grps.length c5, .slice a6 p.lns.length c6, .slice a7 p.cks.length c7], .int .i64 g, .agg #[.int .i64 x.op, .int .i64 x.num, .int .i64 x.den, .int .i64 x.mode, .slice ax x.args.len cx]] X (TyP (tType p g x) X)) := ⟨fun X hX => by
    have hBX := bthr hB2 hX (Nat.le_refl _)
    exact Type_any p g x a3 a4 a5 a6 a7 c3 c4 c5 c6 c7 ax cx X (pke_fr hp hBX.size (fun b _ hlt => hBX.block b hlt)) (FoAt.fr hBX.size (fun b _ hlt => hBX.block b hlt) _ _ hx) hz⟩
  have hTa : Hid (∀ X i (hi : i < (toL x.args).length), Below W2.heap.size W2 X → ∃ gx ox ay cy, ax = some ⟨gx, ox, none⟩ ∧ (X.cell? ⟨gx, ox + i * 5, none⟩ = some (.int .i64 ((toL x.args)[i]).op) ∧ X.cell? ⟨gx, ox + i * 5 + 1, none⟩ = some (.int .i64 ((toL x.args)[i]).num) ∧ X.cell? ⟨gx, ox + i * 5 + 2, none⟩ = some (.int .i64 ((toL x.args)[i]).den) ∧ X.cell? ⟨gx, ox + i * 5 + 3, none⟩ = some (.int .i64 ((toL x.args)[i]).mode) ∧ X.cell? ⟨gx, ox + i * 5 + 4, none⟩ = some (.slice ay ((toL x.args)[i]).args.len cy)) ∧ Calls Try.prog 5 #[.agg #[.string ⟨p.name.toArray⟩, .int .i64 p.year, .slice a3 p.opts.length c3, .slice a4 p.tabs.length c4, .slice a5 p.grps.length c5, .slice a6 p.lns.length c6, .slice a7 p.cks.length c7], .int .i64 g, .agg #[.int .i64 ((toL x.args)[i]).op, .int .i64 ((toL x.args)[i]).num, .int .i64 ((toL x.args)[i]).den, .int .i64 ((toL x.args)[i]).mode, .slice ay ((toL x.args)[i]).args.len cy]] X (TyP (tType p g (toL x.args)[i]) X)) := ⟨fun X i hi hX => by
    have hBX := bthr hB2 hX (Nat.le_refl _)
    have hr := row_bel hrow hBX (Nat.le_refl _)
    obtain ⟨gx, ox, rfl⟩ := hr.some hi
    obtain ⟨cs, -, -, ⟨ay, cy, rfl, -, hFy⟩, hcs⟩ := hr.item hi
    exact ⟨gx, ox, ay, cy, rfl, ⟨hcs 0 (by decide), hcs 1 (by decide), hcs 2 (by decide), hcs 3 (by decide), hcs 4 (by decide)⟩, Type_any p g _ a3 a4 a5 a6 a7 c3 c4 c5 c6 c7 ay cy X (pke_fr hp hBX.size (fun b _ hlt => hBX.block b hlt)) hFy (toL_sz _ hz.2 _ (List.getElem_mem hi))⟩⟩
  have hPB : Hid (∀ X, Below W2.heap.size W2 X → Bx X W.heap.size [.string ⟨p.name.toArray⟩, .int .i64 p.year, .slice a3 p.opts.length c3, .slice a4 p.tabs.length c4, .slice a5 p.grps.length c5, .slice a6 p.lns.length c6, .slice a7 p.cks.length c7] ∧ Bx X (W.heap.size + 1) [.int .i64 x.op, .int .i64 x.num, .int .i64 x.den, .int .i64 x.mode, .slice ax x.args.len cx] ∧ Below W.heap.size W X) := ⟨fun X hX => ⟨hbp.bel hX hbp.1, hbe.bel hX hbe.1, bthr hB2 hX (Nat.le_refl _)⟩⟩
  have hkn := known_any W2
  have hW2H := Hid.mk hW2
  have hlenH := Hid.mk hlen
  have tp1H := Hid.mk tp1
  have tp2H := Hid.mk tp2
  have tp3H := Hid.mk tp3
  clear hW2 hlen tp1 tp2 tp3 hrow hp hx hbp hbe hB2
  go_enter Try.func3, Try.ntmps3
  go_wp2_with fail
  rw [← hW2H.out]
  clear hW2H
  refine hkn.mono ?_
  clear hkn
  rintro e w1 ⟨rfl, hb1⟩
  obtain ⟨hp1, he1, hB1⟩ := hPB.out w1 hb1
  have u0 := hp1.2.1 0 (by simp)
  have u1 := hp1.2.1 1 (by simp)
  have u2 := hp1.2.1 2 (by simp)
  have u3 := hp1.2.1 3 (by simp)
  have u4 := hp1.2.1 4 (by simp)
  have u5 := hp1.2.1 5 (by simp)
  have u6 := hp1.2.1 6 (by simp)
  have v0 := he1.2.1 0 (by simp)
  have v1 := he1.2.1 1 (by simp)
  have v2 := he1.2.1 2 (by simp)
  have v3 := he1.2.1 3 (by simp)
  have v4 := he1.2.1 4 (by simp)
  have hty := hTy.out w1 hb1
  obtain ⟨r, hr⟩ : ∃ r, tType p g x = r := ⟨_, rfl⟩
  rw [hr] at hty
  have hrH := Hid.mk hr
  clear hr
  cases r with
  | ok k =>
    have hk6 := (tp1H.out k hrH.out).1
    have hk6' : ¬ (6 : Int) < (x.args.len : Int) := by omega
    go_wp2_with fail
    refine hty.mono ?_
    clear hty u0 u1 u2 u3 u4 u5 u6 v0 v1 v2 v3 v4
    rintro e w2 ⟨hb2, rfl⟩
    have hbw := bthr hb1 hb2 (Nat.le_refl _)
    obtain ⟨hp2, he2, hB2⟩ := hPB.out w2 hbw
    have x4 := he2.2.1 4 (by simp)
    go_wp2
    go_loopw [11] (fun iv wr => ∃ i : Nat, iv = .int .i64 (i : Int) ∧ i ≤ x.args.len ∧ Below w2.heap.size w2 wr) (fun iv _ => x.args.len - (intOf iv).toNat)
    case atStart => exact ⟨0, rfl, Nat.zero_le _, Below.refl _ _⟩
    case round =>
      obtain ⟨i, rfl, hi, hBr⟩ := hrel
      have hbr := bthr hbw hBr (Nat.le_refl _)
      obtain ⟨hp3, he3, hB3⟩ := hPB.out wr hbr
      have x4r := he3.2.1 4 (by simp)
      by_cases hlt : i < x.args.len
      · have hlt' : (i : Int) < (x.args.len : Int) := by omega
        have hi0 : (0 : Int) ≤ (i : Int) := by omega
        have hix : i < (toL x.args).length := by rw [hlenH.out]; exact hlt
        obtain ⟨kj, hkj, hki⟩ := (tp1H.out k hrH.out).2 i hix
        have hki2 : 1 ≤ kj.1 ∧ kj.1 ≤ 5 := by
          unfold isK at hki
          rw [Bool.and_eq_true, decide_eq_true_eq, decide_eq_true_eq] at hki
          exact hki
        have hki3 : ¬ kj.1 < 1 := by omega
        have hki4 : ¬ 5 < kj.1 := by omega
        obtain ⟨gx, ox, ay, cy, hax, hcl, hcall⟩ := hTa.out wr.drew i hix (hbr.drew)
        subst hax
        rw [hkj] at hcall
        have hbd : Below wr.heap.size wr wr.drew := (Below.refl _ _).drew
        generalize (toL x.args)[i] = y at hcl hcall
        obtain ⟨t0, t1, t2, t3, t4⟩ := hcl
        have hgl := World.block_lt_of_cell? _ _ t0
        have hSH : Hid (∀ Y, Below wr.drew.heap.size wr.drew Y → Y.cell? ⟨W.heap.size, 0, none⟩ = some (.string ⟨p.name.toArray⟩) ∧ Y.cell? ⟨W.heap.size, 1, none⟩ = some (.int .i64 p.year) ∧ Y.cell? ⟨W.heap.size, 2, none⟩ = some (.slice a3 p.opts.length c3) ∧ Y.cell? ⟨W.heap.size, 3, none⟩ = some (.slice a4 p.tabs.length c4) ∧ Y.cell? ⟨W.heap.size, 4, none⟩ = some (.slice a5 p.grps.length c5) ∧ Y.cell? ⟨W.heap.size, 5, none⟩ = some (.slice a6 p.lns.length c6) ∧ Y.cell? ⟨W.heap.size, 6, none⟩ = some (.slice a7 p.cks.length c7) ∧ Y.cell? ⟨W.heap.size + 1, 4, none⟩ = some (.slice (some ⟨gx, ox, none⟩) x.args.len cx) ∧ Y.cell? ⟨gx, ox + i * 5, none⟩ = some (.int .i64 y.op) ∧ Y.cell? ⟨gx, ox + i * 5 + 1, none⟩ = some (.int .i64 y.num) ∧ Y.cell? ⟨gx, ox + i * 5 + 2, none⟩ = some (.int .i64 y.den) ∧ Y.cell? ⟨gx, ox + i * 5 + 3, none⟩ = some (.int .i64 y.mode) ∧ Y.cell? ⟨gx, ox + i * 5 + 4, none⟩ = some (.slice ay y.args.len cy)) := ⟨fun Y hY => by
          have h1 := (hp3.bel hbd hp3.1).bel hY (hp3.bel hbd hp3.1).1
          have h2 := (he3.bel hbd he3.1).bel hY (he3.bel hbd he3.1).1
          exact ⟨h1.2.1 0 (by simp), h1.2.1 1 (by simp), h1.2.1 2 (by simp), h1.2.1 3 (by simp), h1.2.1 4 (by simp), h1.2.1 5 (by simp), h1.2.1 6 (by simp), h2.2.1 4 (by simp), (bel_cell hY hgl _).trans t0, (bel_cell hY hgl _).trans t1, (bel_cell hY hgl _).trans t2, (bel_cell hY hgl _).trans t3, (bel_cell hY hgl _).trans t4⟩⟩
        have hS0 := hSH.out _ (Below.refl _ _)
        clear hkj t0 t1 t2 t3 t4
        go_wp2_with fail
        go_region_held3 (fun Y => Y.cell? ⟨W.heap.size, 0, none⟩ = some (.string ⟨p.name.toArray⟩) ∧ Y.cell? ⟨W.heap.size, 1, none⟩ = some (.int .i64 p.year) ∧ Y.cell? ⟨W.heap.size, 2, none⟩ = some (.slice a3 p.opts.length c3) ∧ Y.cell? ⟨W.heap.size, 3, none⟩ = some (.slice a4 p.tabs.length c4) ∧ Y.cell? ⟨W.heap.size, 4, none⟩ = some (.slice a5 p.grps.length c5) ∧ Y.cell? ⟨W.heap.size, 5, none⟩ = some (.slice a6 p.lns.length c6) ∧ Y.cell? ⟨W.heap.size, 6, none⟩ = some (.slice a7 p.cks.length c7) ∧ Y.cell? ⟨W.heap.size + 1, 4, none⟩ = some (.slice (some ⟨gx, ox, none⟩) x.args.len cx) ∧ Y.cell? ⟨gx, ox + i * 5, none⟩ = some (.int .i64 y.op) ∧ Y.cell? ⟨gx, ox + i * 5 + 1, none⟩ = some (.int .i64 y.num) ∧ Y.cell? ⟨gx, ox + i * 5 + 2, none⟩ = some (.int .i64 y.den) ∧ Y.cell? ⟨gx, ox + i * 5 + 3, none⟩ = some (.int .i64 y.mode) ∧ Y.cell? ⟨gx, ox + i * 5 + 4, none⟩ = some (.slice ay y.args.len cy)) (assumption)
          (first | (go_at_call 5; refine hcall.mono ?_; clear hcall; rintro e w5 ⟨hb5, rfl⟩; have hS5 := hSH.out _ hb5))
        have hB5 : Below w2.heap.size w2 w5 := bthr (bthr hBr hbd (Nat.le_refl _)) hb5 (Nat.le_refl _)
        clear hS5 hSH hS0
        go_wp2
        exact ⟨⟨i + 1, rfl, hlt, (by exact hB5)⟩, by simp only [intOf]; omega⟩
      · have hlt' : ¬ (i : Int) < (x.args.len : Int) := by omega
        go_wp2
        go_ret
        exact ⟨rfl, hB3⟩
  | error e =>
    obtain ⟨he60, he69⟩ := tp2H.out e hrH.out
    have hne0 : ((e.2 : Int) == 0) = false := by simp; omega
    have hge : (60 : Int) ≤ (e.2 : Int) := by omega
    have hle : (e.2 : Int) ≤ 69 := by omega
    by_cases h60 : e.2 = 60
    · have h60' : ((e.2 : Int) == 60) = true := by simp; omega
      go_wp2_with fail
      refine hty.mono ?_
      clear hty u0 u1 u2 u3 u4 u5 u6 v0 v1 v2 v3 v4
      rintro e2 w2 ⟨hb2, pv, rfl, hown⟩
      obtain ⟨pa, pcap, rfl, hIA, hpc⟩ := ia_own hown
      have hB2 := bthr hB1 hb2 (Nat.le_refl _)
      clear h60 hIA hown
      go_wp2
      go_ret
      exact ⟨rfl, hB2⟩
    · have h60' : ((e.2 : Int) == 60) = false := by simp; omega
      obtain ⟨ep, ec⟩ := e
      simp only at he60 he69 hne0 hge hle h60 h60'
      cases ep with
      | nil =>
        go_wp2_with fail
        refine hty.mono ?_
        clear hty u0 u1 u2 u3 u4 u5 u6 v0 v1 v2 v3 v4
        rintro e2 w2 ⟨hb2, pv, rfl, hown⟩
        obtain ⟨pa, pcap, rfl, hIA, hpc⟩ := ia_own hown
        have hB2 := bthr hB1 hb2 (Nat.le_refl _)
        clear hIA hown h60
        go_wp2
        go_ret
        exact ⟨rfl, hB2⟩
      | cons n rest =>
        obtain ⟨hnl, hoks, halt⟩ := tp3H.out (n :: rest, ec) n rest hrH.out h60 rfl
        have hnl2 : n < x.args.len := by rw [← hlenH.out]; exact hnl
        have hn0 : ¬ (n : Int) < 0 := by omega
        have hn1 : ¬ (x.args.len : Int) ≤ (n : Int) := by omega
        have hpl : (((n :: rest).length : Int) == 0) = false := by simp; omega
        go_wp2_with fail
        refine hty.mono ?_
        clear hty u0 u1 u2 u3 u4 u5 u6 v0 v1 v2 v3 v4
        rintro e2 w2 ⟨hb2, pv, rfl, hown⟩
        obtain ⟨pa, pcap, rfl, hIA, hpc⟩ := ia_own hown
        obtain ⟨gp, op, rfl, hc0⟩ := hIA 0 (Nat.zero_lt_succ _)
        have hbw := bthr hb1 hb2 (Nat.le_refl _)
        obtain ⟨hp2, he2, hB2⟩ := hPB.out w2 hbw
        have x4 := he2.2.1 4 (by simp)
        have c0 : w2.cell? ⟨gp, op, none⟩ = some (.int .i64 (n : Int)) := by simpa using hc0
        have hIAt : Hid (∀ Y, Below w2.heap.size w2 Y → IA Y rest (some ⟨gp, op + 1, none⟩)) := ⟨fun Y hY j hj => by
          obtain ⟨g2, o2, e2, k2⟩ := hIA (j + 1) (Nat.succ_lt_succ hj)
          injection e2 with e2
          cases e2
          refine ⟨gp, op + 1, rfl, ?_⟩
          rw [show op + 1 + j = op + (j + 1) by omega, bel_cell hY (World.block_lt_of_cell? _ _ k2)]
          exact k2⟩
        have hlr : (n :: rest).length = rest.length + 1 := rfl
        have hrl : rest.length ≤ 1000000 := by
          have h1 : tN p g 8 x 0 = ((tN p g 8 x 0).1, .error (n :: rest, ec)) := by
            have h2 : (tN p g 8 x 0).2 = .error (n :: rest, ec) := hrH.out
            rw [← h2]
          have := tN_plen p g 8 x 0 _ _ h1
          simp only [List.length_cons] at this
          omega
        have hrlc : rest.length + 1 ≤ pcap := hpc
        have hx4l : W.heap.size + 1 < w2.heap.size := he2.1
        clear hIA hown hc0 hpl
        simp only [List.length_cons]
        clear hlr
        go_wp2
        go_loopw [17] (fun iv wr => ∃ i : Nat, iv = .int .i64 (i : Int) ∧ i ≤ n ∧ Below w2.heap.size w2 wr) (fun iv _ => n - (intOf iv).toNat)
        case atStart => exact ⟨0, rfl, Nat.zero_le _, Below.refl _ _⟩
        case round =>
          obtain ⟨i, rfl, hi, hBr⟩ := hrel
          have hbr := bthr hbw hBr (Nat.le_refl _)
          obtain ⟨hp3, he3, hB3⟩ := hPB.out wr hbr
          have x4r := he3.2.1 4 (by simp)
          by_cases hlt : i < n
          · have hlt' : (i : Int) < (n : Int) := by omega
            have hi0 : (0 : Int) ≤ (i : Int) := by omega
            have hix : i < (toL x.args).length := by omega
            have hii : (i : Int) < (x.args.len : Int) := by omega
            have hi1 : (i : Int) + 1 ≤ 9223372036854775807 := by have := hz.1; omega
            obtain ⟨kj, hkj⟩ := hoks i hlt
            obtain ⟨gx, ox, ay, cy, hax, hcl, hcall⟩ := hTa.out wr.drew i hix (hbr.drew)
            subst hax
            rw [hkj] at hcall
            have hbd : Below wr.heap.size wr wr.drew := (Below.refl _ _).drew
            generalize (toL x.args)[i] = y at hcl hcall
            obtain ⟨t0, t1, t2, t3, t4⟩ := hcl
            have hgl := World.block_lt_of_cell? _ _ t0
            have hSH : Hid (∀ Y, Below wr.drew.heap.size wr.drew Y → Y.cell? ⟨W.heap.size, 0, none⟩ = some (.string ⟨p.name.toArray⟩) ∧ Y.cell? ⟨W.heap.size, 1, none⟩ = some (.int .i64 p.year) ∧ Y.cell? ⟨W.heap.size, 2, none⟩ = some (.slice a3 p.opts.length c3) ∧ Y.cell? ⟨W.heap.size, 3, none⟩ = some (.slice a4 p.tabs.length c4) ∧ Y.cell? ⟨W.heap.size, 4, none⟩ = some (.slice a5 p.grps.length c5) ∧ Y.cell? ⟨W.heap.size, 5, none⟩ = some (.slice a6 p.lns.length c6) ∧ Y.cell? ⟨W.heap.size, 6, none⟩ = some (.slice a7 p.cks.length c7) ∧ Y.cell? ⟨W.heap.size + 1, 4, none⟩ = some (.slice (some ⟨gx, ox, none⟩) x.args.len cx) ∧ Y.cell? ⟨gx, ox + i * 5, none⟩ = some (.int .i64 y.op) ∧ Y.cell? ⟨gx, ox + i * 5 + 1, none⟩ = some (.int .i64 y.num) ∧ Y.cell? ⟨gx, ox + i * 5 + 2, none⟩ = some (.int .i64 y.den) ∧ Y.cell? ⟨gx, ox + i * 5 + 3, none⟩ = some (.int .i64 y.mode) ∧ Y.cell? ⟨gx, ox + i * 5 + 4, none⟩ = some (.slice ay y.args.len cy)) := ⟨fun Y hY => by
              have h1 := (hp3.bel hbd hp3.1).bel hY (hp3.bel hbd hp3.1).1
              have h2 := (he3.bel hbd he3.1).bel hY (he3.bel hbd he3.1).1
              exact ⟨h1.2.1 0 (by simp), h1.2.1 1 (by simp), h1.2.1 2 (by simp), h1.2.1 3 (by simp), h1.2.1 4 (by simp), h1.2.1 5 (by simp), h1.2.1 6 (by simp), h2.2.1 4 (by simp), (bel_cell hY hgl _).trans t0, (bel_cell hY hgl _).trans t1, (bel_cell hY hgl _).trans t2, (bel_cell hY hgl _).trans t3, (bel_cell hY hgl _).trans t4⟩⟩
            have hS0 := hSH.out _ (Below.refl _ _)
            clear hkj t0 t1 t2 t3 t4
            go_wp2_with fail
            go_region_held3 (fun Y => Y.cell? ⟨W.heap.size, 0, none⟩ = some (.string ⟨p.name.toArray⟩) ∧ Y.cell? ⟨W.heap.size, 1, none⟩ = some (.int .i64 p.year) ∧ Y.cell? ⟨W.heap.size, 2, none⟩ = some (.slice a3 p.opts.length c3) ∧ Y.cell? ⟨W.heap.size, 3, none⟩ = some (.slice a4 p.tabs.length c4) ∧ Y.cell? ⟨W.heap.size, 4, none⟩ = some (.slice a5 p.grps.length c5) ∧ Y.cell? ⟨W.heap.size, 5, none⟩ = some (.slice a6 p.lns.length c6) ∧ Y.cell? ⟨W.heap.size, 6, none⟩ = some (.slice a7 p.cks.length c7) ∧ Y.cell? ⟨W.heap.size + 1, 4, none⟩ = some (.slice (some ⟨gx, ox, none⟩) x.args.len cx) ∧ Y.cell? ⟨gx, ox + i * 5, none⟩ = some (.int .i64 y.op) ∧ Y.cell? ⟨gx, ox + i * 5 + 1, none⟩ = some (.int .i64 y.num) ∧ Y.cell? ⟨gx, ox + i * 5 + 2, none⟩ = some (.int .i64 y.den) ∧ Y.cell? ⟨gx, ox + i * 5 + 3, none⟩ = some (.int .i64 y.mode) ∧ Y.cell? ⟨gx, ox + i * 5 + 4, none⟩ = some (.slice ay y.args.len cy)) (assumption)
              (first | (go_at_call 5; refine hcall.mono ?_; clear hcall; rintro e w5 ⟨hb5, rfl⟩; have hS5 := hSH.out _ hb5))
            have hB5 : Below w2.heap.size w2 w5 := bthr (bthr hBr hbd (Nat.le_refl _)) hb5 (Nat.le_refl _)
            clear hS5 hSH hS0
            go_wp2
            first | exact ⟨⟨i + 1, rfl, hlt, hB5⟩, by simp only [intOf]; omega⟩ | (go_roundw; (case rel => exact ⟨i + 1, by go_num, by omega, hB5⟩); (case measure => simp [intOf]; omega))
          · have hlt' : ¬ (i : Int) < (n : Int) := by omega
            have hi0 : (0 : Int) ≤ (n : Int) := by omega
            have hii : (n : Int) < (x.args.len : Int) := by omega
            rcases halt with ⟨kj, hkj, h69, hr0⟩ | hkj
            · subst hr0
              have h69' : ec = 69 := h69
              subst h69'
              clear h69
              obtain ⟨gx, ox, ay, cy, hax, hcl, hcall⟩ := hTa.out wr.drew n hnl (hbr.drew)
              subst hax
              rw [hkj] at hcall
              have hbd : Below wr.heap.size wr wr.drew := (Below.refl _ _).drew
              generalize (toL x.args)[n] = y at hcl hcall
              obtain ⟨t0, t1, t2, t3, t4⟩ := hcl
              have hgl := World.block_lt_of_cell? _ _ t0
              have hSH : Hid (∀ Y, Below wr.drew.heap.size wr.drew Y → Y.cell? ⟨W.heap.size, 0, none⟩ = some (.string ⟨p.name.toArray⟩) ∧ Y.cell? ⟨W.heap.size, 1, none⟩ = some (.int .i64 p.year) ∧ Y.cell? ⟨W.heap.size, 2, none⟩ = some (.slice a3 p.opts.length c3) ∧ Y.cell? ⟨W.heap.size, 3, none⟩ = some (.slice a4 p.tabs.length c4) ∧ Y.cell? ⟨W.heap.size, 4, none⟩ = some (.slice a5 p.grps.length c5) ∧ Y.cell? ⟨W.heap.size, 5, none⟩ = some (.slice a6 p.lns.length c6) ∧ Y.cell? ⟨W.heap.size, 6, none⟩ = some (.slice a7 p.cks.length c7) ∧ Y.cell? ⟨W.heap.size + 1, 4, none⟩ = some (.slice (some ⟨gx, ox, none⟩) x.args.len cx) ∧ Y.cell? ⟨gx, ox + n * 5, none⟩ = some (.int .i64 y.op) ∧ Y.cell? ⟨gx, ox + n * 5 + 1, none⟩ = some (.int .i64 y.num) ∧ Y.cell? ⟨gx, ox + n * 5 + 2, none⟩ = some (.int .i64 y.den) ∧ Y.cell? ⟨gx, ox + n * 5 + 3, none⟩ = some (.int .i64 y.mode) ∧ Y.cell? ⟨gx, ox + n * 5 + 4, none⟩ = some (.slice ay y.args.len cy)) := ⟨fun Y hY => by
                have h1 := (hp3.bel hbd hp3.1).bel hY (hp3.bel hbd hp3.1).1
                have h2 := (he3.bel hbd he3.1).bel hY (he3.bel hbd he3.1).1
                exact ⟨h1.2.1 0 (by simp), h1.2.1 1 (by simp), h1.2.1 2 (by simp), h1.2.1 3 (by simp), h1.2.1 4 (by simp), h1.2.1 5 (by simp), h1.2.1 6 (by simp), h2.2.1 4 (by simp), (bel_cell hY hgl _).trans t0, (bel_cell hY hgl _).trans t1, (bel_cell hY hgl _).trans t2, (bel_cell hY hgl _).trans t3, (bel_cell hY hgl _).trans t4⟩⟩
              have hS0 := hSH.out _ (Below.refl _ _)
              clear hkj t0 t1 t2 t3 t4
              go_wp2_with fail
              go_region_held3 (fun Y => Y.cell? ⟨W.heap.size, 0, none⟩ = some (.string ⟨p.name.toArray⟩) ∧ Y.cell? ⟨W.heap.size, 1, none⟩ = some (.int .i64 p.year) ∧ Y.cell? ⟨W.heap.size, 2, none⟩ = some (.slice a3 p.opts.length c3) ∧ Y.cell? ⟨W.heap.size, 3, none⟩ = some (.slice a4 p.tabs.length c4) ∧ Y.cell? ⟨W.heap.size, 4, none⟩ = some (.slice a5 p.grps.length c5) ∧ Y.cell? ⟨W.heap.size, 5, none⟩ = some (.slice a6 p.lns.length c6) ∧ Y.cell? ⟨W.heap.size, 6, none⟩ = some (.slice a7 p.cks.length c7) ∧ Y.cell? ⟨W.heap.size + 1, 4, none⟩ = some (.slice (some ⟨gx, ox, none⟩) x.args.len cx) ∧ Y.cell? ⟨gx, ox + n * 5, none⟩ = some (.int .i64 y.op) ∧ Y.cell? ⟨gx, ox + n * 5 + 1, none⟩ = some (.int .i64 y.num) ∧ Y.cell? ⟨gx, ox + n * 5 + 2, none⟩ = some (.int .i64 y.den) ∧ Y.cell? ⟨gx, ox + n * 5 + 3, none⟩ = some (.int .i64 y.mode) ∧ Y.cell? ⟨gx, ox + n * 5 + 4, none⟩ = some (.slice ay y.args.len cy)) (assumption)
                (first | (go_at_call 5; refine hcall.mono ?_; clear hcall; rintro e w5 ⟨hb5, rfl⟩; have hS5 := hSH.out _ hb5))
              have hB5 : Below w2.heap.size w2 w5 := bthr (bthr hBr hbd (Nat.le_refl _)) hb5 (Nat.le_refl _)
              clear hS5 hSH hS0
              go_wp2
              go_ret
              exact ⟨rfl, bthr (bthr hB1 hb2 (Nat.le_refl _)) hB5 (Nat.le_refl _)⟩
            · obtain ⟨gx, ox, ay, cy, hax, hcl, hcall⟩ := hTa.out wr.drew n hnl (hbr.drew)
              subst hax
              rw [hkj] at hcall
              have hbd : Below wr.heap.size wr wr.drew := (Below.refl _ _).drew
              generalize (toL x.args)[n] = y at hcl hcall
              obtain ⟨t0, t1, t2, t3, t4⟩ := hcl
              have hgl := World.block_lt_of_cell? _ _ t0
              have hSH : Hid (∀ Y, Below wr.drew.heap.size wr.drew Y → Y.cell? ⟨W.heap.size, 0, none⟩ = some (.string ⟨p.name.toArray⟩) ∧ Y.cell? ⟨W.heap.size, 1, none⟩ = some (.int .i64 p.year) ∧ Y.cell? ⟨W.heap.size, 2, none⟩ = some (.slice a3 p.opts.length c3) ∧ Y.cell? ⟨W.heap.size, 3, none⟩ = some (.slice a4 p.tabs.length c4) ∧ Y.cell? ⟨W.heap.size, 4, none⟩ = some (.slice a5 p.grps.length c5) ∧ Y.cell? ⟨W.heap.size, 5, none⟩ = some (.slice a6 p.lns.length c6) ∧ Y.cell? ⟨W.heap.size, 6, none⟩ = some (.slice a7 p.cks.length c7) ∧ Y.cell? ⟨W.heap.size + 1, 4, none⟩ = some (.slice (some ⟨gx, ox, none⟩) x.args.len cx) ∧ Y.cell? ⟨gx, ox + n * 5, none⟩ = some (.int .i64 y.op) ∧ Y.cell? ⟨gx, ox + n * 5 + 1, none⟩ = some (.int .i64 y.num) ∧ Y.cell? ⟨gx, ox + n * 5 + 2, none⟩ = some (.int .i64 y.den) ∧ Y.cell? ⟨gx, ox + n * 5 + 3, none⟩ = some (.int .i64 y.mode) ∧ Y.cell? ⟨gx, ox + n * 5 + 4, none⟩ = some (.slice ay y.args.len cy)) := ⟨fun Y hY => by
                have h1 := (hp3.bel hbd hp3.1).bel hY (hp3.bel hbd hp3.1).1
                have h2 := (he3.bel hbd he3.1).bel hY (he3.bel hbd he3.1).1
                exact ⟨h1.2.1 0 (by simp), h1.2.1 1 (by simp), h1.2.1 2 (by simp), h1.2.1 3 (by simp), h1.2.1 4 (by simp), h1.2.1 5 (by simp), h1.2.1 6 (by simp), h2.2.1 4 (by simp), (bel_cell hY hgl _).trans t0, (bel_cell hY hgl _).trans t1, (bel_cell hY hgl _).trans t2, (bel_cell hY hgl _).trans t3, (bel_cell hY hgl _).trans t4⟩⟩
              have hS0 := hSH.out _ (Below.refl _ _)
              clear hkj t0 t1 t2 t3 t4
              go_wp2_with fail
              go_region_held3 (fun Y => Y.cell? ⟨W.heap.size, 0, none⟩ = some (.string ⟨p.name.toArray⟩) ∧ Y.cell? ⟨W.heap.size, 1, none⟩ = some (.int .i64 p.year) ∧ Y.cell? ⟨W.heap.size, 2, none⟩ = some (.slice a3 p.opts.length c3) ∧ Y.cell? ⟨W.heap.size, 3, none⟩ = some (.slice a4 p.tabs.length c4) ∧ Y.cell? ⟨W.heap.size, 4, none⟩ = some (.slice a5 p.grps.length c5) ∧ Y.cell? ⟨W.heap.size, 5, none⟩ = some (.slice a6 p.lns.length c6) ∧ Y.cell? ⟨W.heap.size, 6, none⟩ = some (.slice a7 p.cks.length c7) ∧ Y.cell? ⟨W.heap.size + 1, 4, none⟩ = some (.slice (some ⟨gx, ox, none⟩) x.args.len cx) ∧ Y.cell? ⟨gx, ox + n * 5, none⟩ = some (.int .i64 y.op) ∧ Y.cell? ⟨gx, ox + n * 5 + 1, none⟩ = some (.int .i64 y.num) ∧ Y.cell? ⟨gx, ox + n * 5 + 2, none⟩ = some (.int .i64 y.den) ∧ Y.cell? ⟨gx, ox + n * 5 + 3, none⟩ = some (.int .i64 y.mode) ∧ Y.cell? ⟨gx, ox + n * 5 + 4, none⟩ = some (.slice ay y.args.len cy)) (assumption)
                (first | (go_at_call 5; refine hcall.mono ?_; clear hcall; rintro e w5 ⟨hb5, pv2, rfl, hown5⟩; obtain ⟨wa, wc, hpv2, hIA5, hwc⟩ := ia_own hown5; subst hpv2; have hS5 := hSH.out _ hb5))
              have hB5 : Below w2.heap.size w2 w5 := bthr (bthr hBr hbd (Nat.le_refl _)) hb5 (Nat.le_refl _)
              clear hS5 hSH hS0
              have hIAr := hIAt.out w5 hB5
              have hne2 : ((ec : Int) == (ec : Int)) = true := by simp
              go_wp2_with fail
              all_goals (refine (sameInts_eq rest wa _ wc _ w5 hIA5 (by first | exact hIAr | (intro j hj; exfalso; omega)) hrl).mono ?_; rintro e2 w6 ⟨rfl, hb6⟩; go_wp2; go_ret; exact ⟨rfl, bthr (bthr (bthr hB1 hb2 (Nat.le_refl _)) hB5 (Nat.le_refl _)) hb6 (Nat.le_refl _)⟩)
end Go.Proofs.Yteiplejamciddaa

import Derived.Test.YtekapipfaahhcaaGreatDoorWSpec
import Derived.Test.YtekapipfaahhcaaGreatDoorDParse
import Derived.Lib.OthersKept
import Derived.Laws.RangeAny
import Derived.WalkSmall
namespace Go.Proofs.YtekapipfaahhcaaGreatDoor
open Go.RowKit

/-- The table of the classes, as the package lays it. -/
def Cls (w : World) : Prop := 1 < w.heap.size ∧ ∀ i, i < 128 → w.cell? ⟨1, i, none⟩ = some (.int .u8 (cls i : Int))
theorem Cls.later {w w' : World} (h : Cls w) (hb : Below w.heap.size w w') : Cls w' := ⟨Nat.lt_of_lt_of_le h.1 hb.size, fun i hi => (hb.cell (p := ⟨1, i, none⟩) h.1).trans (h.2 i hi)⟩

theorem class_at (r : Int) (n : Nat) (hr : r = (n : Int)) (hn : n ≤ 2147483647) (z : Int) (hz : z = (cls n : Int)) (w : World) (hC : Cls w) : Calls Tryz.prog 77 #[.int .i32 r] w fun e w' => e = .returned (.int .u8 z) ∧ w' = w := by
  subst hr
  by_cases h : n < 128
  · have h1 : ¬ (128 : Int) ≤ (n : Int) := by omega
    have h2 : (n : Int) < 128 := by omega
    have h0 : (0 : Int) ≤ (n : Int) := by omega
    have hc := hC.2 n h
    rw [← hz] at hc
    clear hz hC
    go_enter Tryz.func77, Tryz.ntmps77
    go_wp2
    go_ret
    exact ⟨rfl, rfl⟩
  · have h1 : (128 : Int) ≤ (n : Int) := by omega
    rw [cls_high (by omega)] at hz
    have hz' : Hid (z = ((0 : Nat) : Int)) := hz
    clear hz
    go_enter Tryz.func77, Tryz.ntmps77
    go_wp2
    go_ret
    exact ⟨by rw [hz'.out]; rfl, rfl⟩

theorem size_list (s : ByteArray) : s.data.toList.length = s.size := Array.length_toList
theorem at_list (s : ByteArray) (i : Nat) (h : i < s.size) : s[i]'h = s.data.toList[i]'(by rw [size_list]; exact h) := by simp; rfl

set_option maxRecDepth 4000 in
/-- classAt, at a place in the text or behind it. -/
theorem classAt_any (s : ByteArray) (i : Nat) (z : Int) (hz : z = (clsAt s.data.toList i : Int)) (w : World) (hC : Cls w) : Calls Tryz.prog 41 #[.string s, .int .i64 i] w fun e w' => e = .returned (.int .u8 z) ∧ w' = w := by
  have hz' : Hid (z = (clsAt s.data.toList i : Int)) := hz
  clear hz
  by_cases h : i < s.size
  · have h1 : ¬ (s.size : Int) ≤ (i : Int) := by omega
    have hi0 : (0 : Int) ≤ (i : Int) := by omega
    have hi1 : (i : Int) < s.size := by omega
    obtain ⟨k, hk⟩ : ∃ k : Nat, (s[i]'h).toNat = k := ⟨_, rfl⟩
    have hk256 : k < 256 := by rw [← hk]; exact (s[i]'h).toNat_lt
    have hidx : ∀ W, (Instr.index 9 (.string s) (.int .i64 (i : Int))).run Tryz.prog W = .ok (.int .u8 (k : Int)) W := fun W => by
      rw [run_index_string W 9 s .i64 (i : Int) Tryz.underlying9, dif_pos ⟨hi0, hi1⟩, ← hk]
      rfl
    have hcl := class_at (k : Int) k rfl (by omega) z (by rw [hz'.out, clsAt_in (by rw [size_list]; exact h), ← at_list s i h, hk]) w hC
    clear hk
    go_enter Tryz.func41, Tryz.ntmps41
    go_wp2_with (first | (go_at_call 77; refine hcl.mono ?_; rintro e w1 ⟨rfl, rfl⟩))
    go_ret
    exact ⟨rfl, rfl⟩
  · have h1 : (s.size : Int) ≤ (i : Int) := by omega
    rw [clsAt_out (by rw [size_list]; omega)] at hz'
    go_enter Tryz.func41, Tryz.ntmps41
    go_wp2
    go_ret
    exact ⟨by rw [hz'.out]; rfl, rfl⟩

theorem ext_list (s : ByteArray) (a : Nat) : (s.extract a s.size).data.toList = s.data.toList.drop a := by
  rw [ByteArray.data_extract, Array.toList_extract]
  have h : s.size = s.data.toList.length := (size_list s).symm
  simp only [List.extract]
  rw [List.take_of_length_le]
  rw [List.length_drop]
  omega

end Go.Proofs.YtekapipfaahhcaaGreatDoor

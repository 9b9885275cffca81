import Derived.Test.YtjgngmmepheioaaJoin45
import Derived.Test.YtjgngmmepheioaaJoin46
import Derived.Test.YtjgngmmepheioaaPkQc
import Derived.Deep.RegionHeld3
namespace Go.Proofs.Ytjgngmmepheioaa
open Go.RowKit

theorem below_of {W A B : World} (h : Below W.heap.size W A) (k : Below A.heap.size A B) : Below W.heap.size W B := h.trans (k.mono h.size)

/-- A Room whose lists are nil but for the j-th. -/
def RoomBut (W : World) (R j : Nat) : Prop := ∀ k, k < 21 → k ≠ j → W.cell? ⟨R, k, none⟩ = some (.slice none 0 0)
theorem RoomBut.later {W W' : World} {R j : Nat} (h : RoomBut W R j) (hb : Below W.heap.size W W') : RoomBut W' R j := fun k hk hj => (hb.cell (p := ⟨R, k, none⟩) (World.block_lt_of_cell? _ _ (h k hk hj))).trans (h k hk hj)

set_option maxHeartbeats 4000000 in
theorem hold_ints (R : Nat) (W : World) (hR : RoomBut W R 1) (hJ : ∀ X, Below W.heap.size W X → Calls Try.prog 26 #[.pointer (some ⟨R, 0, none⟩)] X fun e X' => e = .returned (.bool true) ∧ Below X.heap.size X X') :
    Calls Try.prog 10 #[.pointer (some ⟨R, 0, none⟩)] W fun e W' => e = .returned (.bool true) ∧ Below W.heap.size W W' := by
  have hB := Below.refl W.heap.size W
  go_enter Try.func10, Try.ntmps10
  go_wp2_with (first | (go_at_call 25; refine (holdBytes_nil R _ (hR 0 (by omega) (by omega))).mono ?_; rintro _ X ⟨rfl, hb⟩; replace hR := hR.later hb; replace hB := below_of hB hb; clear hb) | (go_at_call 26; refine (hJ _ hB).mono ?_; rintro _ X ⟨rfl, hb⟩; replace hR := hR.later hb; replace hB := below_of hB hb; clear hb) | (go_at_call 27; refine (holdCells_nil R _ (hR 2 (by omega) (by omega))).mono ?_; rintro _ X ⟨rfl, hb⟩; replace hR := hR.later hb; replace hB := below_of hB hb; clear hb) | (go_at_call 28; refine (holdBools_nil R _ (hR 3 (by omega) (by omega))).mono ?_; rintro _ X ⟨rfl, hb⟩; replace hR := hR.later hb; replace hB := below_of hB hb; clear hb) | (go_at_call 29; refine (holdTexts_nil R _ (hR 4 (by omega) (by omega))).mono ?_; rintro _ X ⟨rfl, hb⟩; replace hR := hR.later hb; replace hB := below_of hB hb; clear hb) | (go_at_call 30; refine (holdValues_nil R _ (hR 5 (by omega) (by omega))).mono ?_; rintro _ X ⟨rfl, hb⟩; replace hR := hR.later hb; replace hB := below_of hB hb; clear hb) | (go_at_call 31; refine (holdBands_nil R _ (hR 6 (by omega) (by omega))).mono ?_; rintro _ X ⟨rfl, hb⟩; replace hR := hR.later hb; replace hB := below_of hB hb; clear hb) | (go_at_call 32; refine (holdTokens_nil R _ (hR 7 (by omega) (by omega))).mono ?_; rintro _ X ⟨rfl, hb⟩; replace hR := hR.later hb; replace hB := below_of hB hb; clear hb) | (go_at_call 33; refine (holdReads_nil R _ (hR 8 (by omega) (by omega))).mono ?_; rintro _ X ⟨rfl, hb⟩; replace hR := hR.later hb; replace hB := below_of hB hb; clear hb) | (go_at_call 34; refine (holdConflicts_nil R _ (hR 9 (by omega) (by omega))).mono ?_; rintro _ X ⟨rfl, hb⟩; replace hR := hR.later hb; replace hB := below_of hB hb; clear hb) | (go_at_call 35; refine (holdPoints_nil R _ (hR 10 (by omega) (by omega))).mono ?_; rintro _ X ⟨rfl, hb⟩; replace hR := hR.later hb; replace hB := below_of hB hb; clear hb) | (go_at_call 36; refine (holdNodes_nil R _ (hR 11 (by omega) (by omega))).mono ?_; rintro _ X ⟨rfl, hb⟩; replace hR := hR.later hb; replace hB := below_of hB hb; clear hb) | (go_at_call 37; refine (holdRecords_nil R _ (hR 12 (by omega) (by omega))).mono ?_; rintro _ X ⟨rfl, hb⟩; replace hR := hR.later hb; replace hB := below_of hB hb; clear hb) | (go_at_call 38; refine (holdFiles_nil R _ (hR 13 (by omega) (by omega))).mono ?_; rintro _ X ⟨rfl, hb⟩; replace hR := hR.later hb; replace hB := below_of hB hb; clear hb) | (go_at_call 39; refine (holdExprs_nil R _ (hR 14 (by omega) (by omega))).mono ?_; rintro _ X ⟨rfl, hb⟩; replace hR := hR.later hb; replace hB := below_of hB hb; clear hb) | (go_at_call 40; refine (holdClauses_nil R _ (hR 15 (by omega) (by omega))).mono ?_; rintro _ X ⟨rfl, hb⟩; replace hR := hR.later hb; replace hB := below_of hB hb; clear hb) | (go_at_call 41; refine (holdLines_nil R _ (hR 16 (by omega) (by omega))).mono ?_; rintro _ X ⟨rfl, hb⟩; replace hR := hR.later hb; replace hB := below_of hB hb; clear hb) | (go_at_call 42; refine (holdChecks_nil R _ (hR 17 (by omega) (by omega))).mono ?_; rintro _ X ⟨rfl, hb⟩; replace hR := hR.later hb; replace hB := below_of hB hb; clear hb) | (go_at_call 43; refine (holdOptions_nil R _ (hR 18 (by omega) (by omega))).mono ?_; rintro _ X ⟨rfl, hb⟩; replace hR := hR.later hb; replace hB := below_of hB hb; clear hb) | (go_at_call 44; refine (holdTables_nil R _ (hR 19 (by omega) (by omega))).mono ?_; rintro _ X ⟨rfl, hb⟩; replace hR := hR.later hb; replace hB := below_of hB hb; clear hb) | (go_at_call 45; refine (holdGroups_nil R _ (hR 20 (by omega) (by omega))).mono ?_; rintro _ X ⟨rfl, hb⟩; replace hR := hR.later hb; replace hB := below_of hB hb; clear hb))
  go_ret
  exact ⟨rfl, hB⟩

set_option maxHeartbeats 4000000 in
theorem hold_bands (R : Nat) (W : World) (hR : RoomBut W R 6) (hJ : ∀ X, Below W.heap.size W X → Calls Try.prog 31 #[.pointer (some ⟨R, 0, none⟩)] X fun e X' => e = .returned (.bool true) ∧ Below X.heap.size X X') :
    Calls Try.prog 10 #[.pointer (some ⟨R, 0, none⟩)] W fun e W' => e = .returned (.bool true) ∧ Below W.heap.size W W' := by
  have hB := Below.refl W.heap.size W
  go_enter Try.func10, Try.ntmps10
  go_wp2_with (first | (go_at_call 25; refine (holdBytes_nil R _ (hR 0 (by omega) (by omega))).mono ?_; rintro _ X ⟨rfl, hb⟩; replace hR := hR.later hb; replace hB := below_of hB hb; clear hb) | (go_at_call 26; refine (holdInts_nil R _ (hR 1 (by omega) (by omega))).mono ?_; rintro _ X ⟨rfl, hb⟩; replace hR := hR.later hb; replace hB := below_of hB hb; clear hb) | (go_at_call 27; refine (holdCells_nil R _ (hR 2 (by omega) (by omega))).mono ?_; rintro _ X ⟨rfl, hb⟩; replace hR := hR.later hb; replace hB := below_of hB hb; clear hb) | (go_at_call 28; refine (holdBools_nil R _ (hR 3 (by omega) (by omega))).mono ?_; rintro _ X ⟨rfl, hb⟩; replace hR := hR.later hb; replace hB := below_of hB hb; clear hb) | (go_at_call 29; refine (holdTexts_nil R _ (hR 4 (by omega) (by omega))).mono ?_; rintro _ X ⟨rfl, hb⟩; replace hR := hR.later hb; replace hB := below_of hB hb; clear hb) | (go_at_call 30; refine (holdValues_nil R _ (hR 5 (by omega) (by omega))).mono ?_; rintro _ X ⟨rfl, hb⟩; replace hR := hR.later hb; replace hB := below_of hB hb; clear hb) | (go_at_call 31; refine (hJ _ hB).mono ?_; rintro _ X ⟨rfl, hb⟩; replace hR := hR.later hb; replace hB := below_of hB hb; clear hb) | (go_at_call 32; refine (holdTokens_nil R _ (hR 7 (by omega) (by omega))).mono ?_; rintro _ X ⟨rfl, hb⟩; replace hR := hR.later hb; replace hB := below_of hB hb; clear hb) | (go_at_call 33; refine (holdReads_nil R _ (hR 8 (by omega) (by omega))).mono ?_; rintro _ X ⟨rfl, hb⟩; replace hR := hR.later hb; replace hB := below_of hB hb; clear hb) | (go_at_call 34; refine (holdConflicts_nil R _ (hR 9 (by omega) (by omega))).mono ?_; rintro _ X ⟨rfl, hb⟩; replace hR := hR.later hb; replace hB := below_of hB hb; clear hb) | (go_at_call 35; refine (holdPoints_nil R _ (hR 10 (by omega) (by omega))).mono ?_; rintro _ X ⟨rfl, hb⟩; replace hR := hR.later hb; replace hB := below_of hB hb; clear hb) | (go_at_call 36; refine (holdNodes_nil R _ (hR 11 (by omega) (by omega))).mono ?_; rintro _ X ⟨rfl, hb⟩; replace hR := hR.later hb; replace hB := below_of hB hb; clear hb) | (go_at_call 37; refine (holdRecords_nil R _ (hR 12 (by omega) (by omega))).mono ?_; rintro _ X ⟨rfl, hb⟩; replace hR := hR.later hb; replace hB := below_of hB hb; clear hb) | (go_at_call 38; refine (holdFiles_nil R _ (hR 13 (by omega) (by omega))).mono ?_; rintro _ X ⟨rfl, hb⟩; replace hR := hR.later hb; replace hB := below_of hB hb; clear hb) | (go_at_call 39; refine (holdExprs_nil R _ (hR 14 (by omega) (by omega))).mono ?_; rintro _ X ⟨rfl, hb⟩; replace hR := hR.later hb; replace hB := below_of hB hb; clear hb) | (go_at_call 40; refine (holdClauses_nil R _ (hR 15 (by omega) (by omega))).mono ?_; rintro _ X ⟨rfl, hb⟩; replace hR := hR.later hb; replace hB := below_of hB hb; clear hb) | (go_at_call 41; refine (holdLines_nil R _ (hR 16 (by omega) (by omega))).mono ?_; rintro _ X ⟨rfl, hb⟩; replace hR := hR.later hb; replace hB := below_of hB hb; clear hb) | (go_at_call 42; refine (holdChecks_nil R _ (hR 17 (by omega) (by omega))).mono ?_; rintro _ X ⟨rfl, hb⟩; replace hR := hR.later hb; replace hB := below_of hB hb; clear hb) | (go_at_call 43; refine (holdOptions_nil R _ (hR 18 (by omega) (by omega))).mono ?_; rintro _ X ⟨rfl, hb⟩; replace hR := hR.later hb; replace hB := below_of hB hb; clear hb) | (go_at_call 44; refine (holdTables_nil R _ (hR 19 (by omega) (by omega))).mono ?_; rintro _ X ⟨rfl, hb⟩; replace hR := hR.later hb; replace hB := below_of hB hb; clear hb) | (go_at_call 45; refine (holdGroups_nil R _ (hR 20 (by omega) (by omega))).mono ?_; rintro _ X ⟨rfl, hb⟩; replace hR := hR.later hb; replace hB := below_of hB hb; clear hb))
  go_ret
  exact ⟨rfl, hB⟩

end Go.Proofs.Ytjgngmmepheioaa


namespace Go.Proofs.Ytjgngmmepheioaa.G
open Go.RowKit

set_option maxHeartbeats 4000000 in
theorem hold_bytes (R : Nat) (W : World) (hR : RoomBut W R 0) (hJ : ∀ X, Below W.heap.size W X → Calls Try.prog 25 #[.pointer (some ⟨R, 0, none⟩)] X fun e X' => e = .returned (.bool true) ∧ Below X.heap.size X X') :
    Calls Try.prog 10 #[.pointer (some ⟨R, 0, none⟩)] W fun e W' => e = .returned (.bool true) ∧ Below W.heap.size W W' := by
  have hB := Below.refl W.heap.size W
  go_enter Try.func10, Try.ntmps10
  go_wp2_with (first | (go_at_call 25; refine (hJ _ hB).mono ?_; rintro _ X ⟨rfl, hb⟩; replace hR := hR.later hb; replace hB := below_of hB hb; clear hb) | (go_at_call 26; refine (holdInts_nil R _ (hR 1 (by omega) (by omega))).mono ?_; rintro _ X ⟨rfl, hb⟩; replace hR := hR.later hb; replace hB := below_of hB hb; clear hb) | (go_at_call 27; refine (holdCells_nil R _ (hR 2 (by omega) (by omega))).mono ?_; rintro _ X ⟨rfl, hb⟩; replace hR := hR.later hb; replace hB := below_of hB hb; clear hb) | (go_at_call 28; refine (holdBools_nil R _ (hR 3 (by omega) (by omega))).mono ?_; rintro _ X ⟨rfl, hb⟩; replace hR := hR.later hb; replace hB := below_of hB hb; clear hb) | (go_at_call 29; refine (holdTexts_nil R _ (hR 4 (by omega) (by omega))).mono ?_; rintro _ X ⟨rfl, hb⟩; replace hR := hR.later hb; replace hB := below_of hB hb; clear hb) | (go_at_call 30; refine (holdValues_nil R _ (hR 5 (by omega) (by omega))).mono ?_; rintro _ X ⟨rfl, hb⟩; replace hR := hR.later hb; replace hB := below_of hB hb; clear hb) | (go_at_call 31; refine (holdBands_nil R _ (hR 6 (by omega) (by omega))).mono ?_; rintro _ X ⟨rfl, hb⟩; replace hR := hR.later hb; replace hB := below_of hB hb; clear hb) | (go_at_call 32; refine (holdTokens_nil R _ (hR 7 (by omega) (by omega))).mono ?_; rintro _ X ⟨rfl, hb⟩; replace hR := hR.later hb; replace hB := below_of hB hb; clear hb) | (go_at_call 33; refine (holdReads_nil R _ (hR 8 (by omega) (by omega))).mono ?_; rintro _ X ⟨rfl, hb⟩; replace hR := hR.later hb; replace hB := below_of hB hb; clear hb) | (go_at_call 34; refine (holdConflicts_nil R _ (hR 9 (by omega) (by omega))).mono ?_; rintro _ X ⟨rfl, hb⟩; replace hR := hR.later hb; replace hB := below_of hB hb; clear hb) | (go_at_call 35; refine (holdPoints_nil R _ (hR 10 (by omega) (by omega))).mono ?_; rintro _ X ⟨rfl, hb⟩; replace hR := hR.later hb; replace hB := below_of hB hb; clear hb) | (go_at_call 36; refine (holdNodes_nil R _ (hR 11 (by omega) (by omega))).mono ?_; rintro _ X ⟨rfl, hb⟩; replace hR := hR.later hb; replace hB := below_of hB hb; clear hb) | (go_at_call 37; refine (holdRecords_nil R _ (hR 12 (by omega) (by omega))).mono ?_; rintro _ X ⟨rfl, hb⟩; replace hR := hR.later hb; replace hB := below_of hB hb; clear hb) | (go_at_call 38; refine (holdFiles_nil R _ (hR 13 (by omega) (by omega))).mono ?_; rintro _ X ⟨rfl, hb⟩; replace hR := hR.later hb; replace hB := below_of hB hb; clear hb) | (go_at_call 39; refine (holdExprs_nil R _ (hR 14 (by omega) (by omega))).mono ?_; rintro _ X ⟨rfl, hb⟩; replace hR := hR.later hb; replace hB := below_of hB hb; clear hb) | (go_at_call 40; refine (holdClauses_nil R _ (hR 15 (by omega) (by omega))).mono ?_; rintro _ X ⟨rfl, hb⟩; replace hR := hR.later hb; replace hB := below_of hB hb; clear hb) | (go_at_call 41; refine (holdLines_nil R _ (hR 16 (by omega) (by omega))).mono ?_; rintro _ X ⟨rfl, hb⟩; replace hR := hR.later hb; replace hB := below_of hB hb; clear hb) | (go_at_call 42; refine (holdChecks_nil R _ (hR 17 (by omega) (by omega))).mono ?_; rintro _ X ⟨rfl, hb⟩; replace hR := hR.later hb; replace hB := below_of hB hb; clear hb) | (go_at_call 43; refine (holdOptions_nil R _ (hR 18 (by omega) (by omega))).mono ?_; rintro _ X ⟨rfl, hb⟩; replace hR := hR.later hb; replace hB := below_of hB hb; clear hb) | (go_at_call 44; refine (holdTables_nil R _ (hR 19 (by omega) (by omega))).mono ?_; rintro _ X ⟨rfl, hb⟩; replace hR := hR.later hb; replace hB := below_of hB hb; clear hb) | (go_at_call 45; refine (holdGroups_nil R _ (hR 20 (by omega) (by omega))).mono ?_; rintro _ X ⟨rfl, hb⟩; replace hR := hR.later hb; replace hB := below_of hB hb; clear hb))
  go_ret
  exact ⟨rfl, hB⟩

end Go.Proofs.Ytjgngmmepheioaa.G


namespace Go.Proofs.Ytjgngmmepheioaa
open Go.RowKit

end Go.Proofs.Ytjgngmmepheioaa


namespace Go.Proofs.Ytjgngmmepheioaa
open Go.RowKit

theorem WS.gr {lo wb : Nat} {W W' : World} {acc : List UInt8} {b : Bool} (h : WS lo wb W acc b) (hg : W.grownBy W' none) : WS lo wb W' acc b := by
  obtain ⟨p, cap, h0, ho⟩ := h.own
  exact ⟨⟨p, cap, (gr_cell hg h.lt (by simp) 0).trans h0, ho.kept hg (by cases (Value.slice p acc.length cap).ownBlock <;> simp)⟩, (gr_cell hg h.lt (by simp) 1).trans h.c1, fun j => (gr_frozen hg h.lt (by simp) j).trans (h.fz j), h.le, h.lo⟩
theorem Bk.gr {lo wb : Nat} {W W' : World} (hg : W.grownBy W' none) (hl : lo ≤ W.heap.size) : Bk lo wb W W' := ⟨⟨hg.os, hg.tape, hg.output, hg.size, fun k hk => hg.block k (Nat.lt_of_lt_of_le hk hl) (by simp)⟩, fun k _ _ _ _ h0 _ => hg.block k (heap_lt h0) (by simp)⟩
def pz (x : Ex) (i : Nat) : List UInt8 := ([x.num, x.den, x.mode].take i).flatMap encZ
theorem pz_num (x : Ex) : pz x 1 = pz x 0 ++ encZ x.num := by simp [pz]
theorem pz_den (x : Ex) : pz x 2 = pz x 1 ++ encZ x.den := by simp [pz]
theorem pz_mode (x : Ex) : pz x 3 = pz x 2 ++ encZ x.mode := by simp [pz]
theorem pz_all (x : Ex) : pz x 3 = encZ x.num ++ (encZ x.den ++ encZ x.mode) := by simp [pz]
theorem cell_of {W : World} {n : Nat} {c : Array Value} {t : TypeId} {f} (h : W.heap[n]? = some (.cells c t f)) (j : Nat) : W.cell? ⟨n, j, none⟩ = c[j]? := by
  unfold World.cell?
  simp only [h]
  simp
end Go.Proofs.Ytjgngmmepheioaa


namespace Go.Proofs.Ytjgngmmepheioaa
open Go.RowKit

def SzC (c : Cl) : Prop := SzE c.guard ∧ SzE c.body
def SzL (x : Ln) : Prop := x.cls.length ≤ 9223372036854775807 ∧ ∀ c ∈ x.cls, SzC c
def okC (c : Cl) : Prop := deepE c.guard + 1 ≤ 65 ∧ deepE c.body + 1 ≤ 65
def okL (l : Ln) : Prop := ∀ c ∈ l.cls, okC c
def okK (c : Ck) : Prop := deepE c.when_ + 1 ≤ 65
theorem encC_pos (x : Cl) : 0 < (encC x).length := by unfold encC; have := encI_pos x.pri; simp only [List.length_append]; omega
theorem encLn_pos (x : Ln) : 0 < (encLn x).length := by unfold encLn; have := encS_pos x.name; simp only [List.length_append]; omega
theorem encK_pos (x : Ck) : 0 < (encK x).length := by unfold encK; have := encS_pos x.name; simp only [List.length_append]; omega

end Go.Proofs.Ytjgngmmepheioaa


namespace Go.Proofs.Ytjgngmmepheioaa
open Go.RowKit

end Go.Proofs.Ytjgngmmepheioaa


namespace Go.Proofs.Ytjgngmmepheioaa
open Go.RowKit

end Go.Proofs.Ytjgngmmepheioaa


namespace Go.Proofs.Ytjgngmmepheioaa
open Go.RowKit

end Go.Proofs.Ytjgngmmepheioaa


namespace Go.Proofs.Ytjgngmmepheioaa
open Go.RowKit

/-- What is known of the sizes of a pack. -/
structure SzP (p : Pk) : Prop where
  name : p.name.length ≤ 9223372036854775807
  opts : p.opts.length ≤ 9223372036854775807 ∧ ∀ o ∈ p.opts, o.1.length ≤ 9223372036854775807 ∧ o.2.length ≤ 9223372036854775807 ∧ ∀ s ∈ o.2, s.length ≤ 9223372036854775807
  tabs : p.tabs.length ≤ 9223372036854775807 ∧ ∀ o ∈ p.tabs, o.1.length ≤ 9223372036854775807 ∧ o.2.length ≤ 9223372036854775807
  grps : p.grps.length ≤ 9223372036854775807 ∧ ∀ o ∈ p.grps, o.1.length ≤ 9223372036854775807
  lns : p.lns.length ≤ 9223372036854775807 ∧ ∀ o ∈ p.lns, o.name.length ≤ 9223372036854775807 ∧ SzL o
  cks : p.cks.length ≤ 9223372036854775807 ∧ ∀ o ∈ p.cks, o.name.length ≤ 9223372036854775807 ∧ o.text.length ≤ 9223372036854775807 ∧ SzE o.when_
def okP (p : Pk) : Prop := (∀ l ∈ p.lns, okL l) ∧ ∀ c ∈ p.cks, okK c
theorem wr_sum {x a1 a2 : List UInt8} {b1 b2 : Bool} {p : Prop} (h : Wr [] false a1 b1 x p) (k : Wr a1 b1 a2 b2 (sum4 (fnvB a1)) True) : Wr [] false a2 b2 (x ++ sum4 (fnvB x)) p := by
  refine ⟨fun h2 => ?_, fun _ hl hp => ?_⟩
  · obtain ⟨k1, k2, -⟩ := k.1 h2
    obtain ⟨_, h3, h4⟩ := h.1 k1
    rw [List.nil_append] at h3
    subst h3
    exact ⟨rfl, by rw [k2, List.nil_append], h4⟩
  · rw [List.length_append] at hl
    have h1 := h.2 rfl (by omega) hp
    have h3 := (h.1 h1).2.1
    rw [List.nil_append] at h3
    subst h3
    exact k.2 h1 (by simpa using hl) trivial

/-- What Put answers. -/
def PutP (p : Pk) (W : World) (e : Ending) (W' : World) : Prop := Below W.heap.size W W' ∧ ∃ acc b, Wr [] false acc b (encP p ++ sum4 (fnvB (encP p))) (okP p) ∧ ((b = true ∧ e = .returned (.tuple #[.slice none 0 0, .int .i64 72])) ∨ (b = false ∧ ∃ pa cap, e = .returned (.tuple #[.slice pa acc.length cap, .int .i64 0]) ∧ W'.ownsRow W.heap.size 5 1 (.slice pa acc.length cap) acc.length (Go.Lib.byteCells acc) ∧ acc.length ≤ 131072))
theorem own_less {W : World} {g g2 n : Nat} {t : TypeId} {k : Nat} {v : Value} {xs : List Value} (h : W.ownsRow g t k v n xs) (hg : g2 ≤ g) : W.ownsRow g2 t k v n xs := by
  obtain ⟨hl, h | ⟨b, cap, cur, e, hge, h3⟩⟩ := h
  · exact ⟨hl, .inl h⟩
  · exact ⟨hl, .inr ⟨b, cap, cur, e, Nat.le_trans hg hge, h3⟩⟩
end Go.Proofs.Ytjgngmmepheioaa

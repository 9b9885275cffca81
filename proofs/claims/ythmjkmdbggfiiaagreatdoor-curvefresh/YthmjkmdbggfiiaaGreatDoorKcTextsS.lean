import Derived.Test.YthmjkmdbggfiiaaGreatDoorShelf
import Derived.Lib.ItoaMem
import Derived.Lib.AppendIntMem
import Derived.Laws.Concat
import Derived.Test.YthmjkmdbggfiiaaGreatDoorKcH
/- Texts: what is well formed; sameTexts. -/
namespace Go.Proofs.YthmjkmdbggfiiaaGreatDoor.KB
open Go.RowKit
set_option linter.constructorNameAsVariable false

def goodTexts (n : Nat) (L : List Value) : Prop := (∀ u ∈ L, u.oneCell' = true) ∧ ∀ j, j < n → ∃ x : ByteArray, L[j]? = some (.string x)
abbrev knTexts : Kn := ⟨9, 55, 1, by decide, goodTexts⟩
theorem goodTexts_set {n : Nat} {L : List Value} (h : goodTexts n L) (hl : L.length = n * 1) (j : Nat) (x : ByteArray) : goodTexts n (L.set j (.string x)) := by
  refine ⟨fun u hu => ?_, fun i hi => ?_⟩
  · rcases List.mem_or_eq_of_mem_set hu with hu | rfl
    · exact h.1 u hu
    · rfl
  · by_cases e : j = i
    · subst e
      exact ⟨x, by rw [List.getElem?_set, if_pos rfl, if_pos (by omega)]⟩
    · rw [List.getElem?_set, if_neg e]
      exact h.2 i hi
theorem goodTexts_snoc {n : Nat} {L : List Value} (h : goodTexts n L) (hl : L.length = n * 1) (x : ByteArray) : goodTexts (n + 1) (L ++ [.string x]) := by
  refine ⟨fun u hu => ?_, fun i hi => ?_⟩
  · rcases List.mem_append.1 hu with hu | hu
    · exact h.1 u hu
    · rw [List.mem_singleton.1 hu]
      rfl
  · by_cases e : i < n
    · rw [List.getElem?_append_left (by omega)]
      exact h.2 i e
    · obtain rfl : i = n := by omega
      exact ⟨x, by rw [List.getElem?_append_right (by omega), show i - L.length = 0 by omega]; rfl⟩
theorem goodTexts_of (l : List ByteArray) : goodTexts l.length (l.map Value.string) := by
  refine ⟨fun u hu => ?_, fun j hj => ⟨l[j], by simp [hj]⟩⟩
  obtain ⟨x, -, rfl⟩ := List.mem_map.1 hu
  rfl
theorem wrap64_range (n : Int) : -9223372036854775808 ≤ wrap64 n ∧ wrap64 n ≤ 9223372036854775807 := by unfold wrap64; omega
theorem text_any (n : Int) (h1 : -9223372036854775808 ≤ n) (h2 : n ≤ 9223372036854775807) (X : World) (hT : Go.Lib.TabIs Tryz.prog X "internal/strconv.uint64pow10" .u64 Go.Lib.pow10Tab) : Calls Tryz.prog 139 #[.int .i64 n] X fun e w' => ∃ s, e = .returned (.string s) ∧ Below X.heap.size X w' := by
  have hi := Tryz.strconv_Itoa n h1 h2 X hT
  go_enter Tryz.func139, Tryz.ntmps139
  go_wp2_with (go_at_call 140; refine hi.mono ?_; rintro e w1 ⟨rfl, k, os, hw1⟩; have hb1 : Below X.heap.size X w1 := (by rw [hw1]; exact Go.Lib.below_grow _ _ (Nat.le_refl _) _ _); clear hw1)
  go_ret
  exact ⟨_, rfl, hb1⟩
theorem infoTexts : (Tryz.prog.info? 9).map (fun i => (i.zero, i.size, i.bytes)) = some (some (.string "".toUTF8), 1, 16) := by kernel_rfl
theorem infoTextss : (Tryz.prog.info? 55).map (fun i => (i.zero, i.size, i.bytes)) = some (some (.slice none 0 0), 1, 24) := by kernel_rfl

set_option maxRecDepth 4000 in
set_option maxHeartbeats 1000000 in
/-- Of two lists that show the same, sameTexts says so. -/
theorem sameTexts_any {Z Y : Nat → Prop} (va vb : Value) (n : Nat) (L : List Value) (hg : knTexts.good n L) (hl : n ≤ 1000000000) (w : World) (ha : RwZ w Z va n L) (hb : RwZ w Y vb n L) : Calls Tryz.prog 64 #[va, vb] w fun e w' => e = .returned (.bool true) ∧ Below w.heap.size w w' := by
  obtain ⟨aa, ca, rfl, hda⟩ := ha
  obtain ⟨ab, cb, rfl, hdb⟩ := hb
  have hnn : ((n : Int) != (n : Int)) = false := by simp
  go_enter Tryz.func64, Tryz.ntmps64
  go_wp2
  go_loopw [5] (fun i wr => ∃ j : Nat, j ≤ n ∧ i = .int .i64 j ∧ Below w.heap.size w wr) (fun i _ => n - (intOf i).toNat)
  case atStart => exact ⟨0, by omega, rfl, Below.refl _ _⟩
  case round =>
    obtain ⟨j, hj, rfl, hbr⟩ := hrel
    by_cases hlt : j < n
    · have hlt' : (j : Int) < (n : Int) := by omega
      have hj0 : (0 : Int) ≤ (j : Int) := by omega
      obtain ⟨ba, rfl, -, hla, hca⟩ := hda.resolve_left (by omega)
      obtain ⟨bb, rfl, -, hlb, hcb⟩ := hdb.resolve_left (by omega)
      have kA : ∀ i u, L[i]? = some u → wr.cell? ⟨ba, i, none⟩ = some u := fun i u hu => (hbr.cell (p := ⟨ba, i, none⟩) hla).trans (hca _ _ hu)
      have kB : ∀ i u, L[i]? = some u → wr.cell? ⟨bb, i, none⟩ = some u := fun i u hu => (hbr.cell (p := ⟨bb, i, none⟩) hlb).trans (hcb _ _ hu)
      obtain ⟨x, hx⟩ := hg.2 j hlt
      have a0 := kA _ _ hx
      have b0 := kB _ _ hx
      clear kA kB hca hcb hda hdb hx
      go_wp2
      go_roundw
      case rel => exact ⟨j + 1, by omega, by first | rfl | go_num, hbr⟩
      case measure => simp [intOf]; omega
    · have hlt' : ¬ (j : Int) < (n : Int) := by omega
      go_wp2
      go_ret
      exact ⟨rfl, hbr⟩
end Go.Proofs.YthmjkmdbggfiiaaGreatDoor.KB

import Derived.Test.YthmjkmdbggfiiaaGreatDoorKcH
/- Ints: what is well formed; sameInts. -/
namespace Go.Proofs.YthmjkmdbggfiiaaGreatDoor.KB
open Go.RowKit
set_option linter.constructorNameAsVariable false

def goodInts (n : Nat) (L : List Value) : Prop := (∀ u ∈ L, u.oneCell' = true) ∧ ∀ j, j < n → ∃ x : Int, L[j]? = some (.int .i64 x)
abbrev knInts : Kn := ⟨3, 28, 1, by decide, goodInts⟩
theorem goodInts_set {n : Nat} {L : List Value} (h : goodInts n L) (hl : L.length = n * 1) (j : Nat) (x : Int) : goodInts n (L.set j (.int .i64 x)) := by
  refine ⟨fun u hu => ?_, fun i hi => ?_⟩
  · rcases List.mem_or_eq_of_mem_set hu with hu | rfl
    · exact h.1 u hu
    · rfl
  · by_cases e : j = i
    · subst e
      exact ⟨x, by rw [List.getElem?_set, if_pos rfl, if_pos (by omega)]⟩
    · rw [List.getElem?_set, if_neg e]
      exact h.2 i hi
theorem goodInts_snoc {n : Nat} {L : List Value} (h : goodInts n L) (hl : L.length = n * 1) (x : Int) : goodInts (n + 1) (L ++ [.int .i64 x]) := by
  refine ⟨fun u hu => ?_, fun i hi => ?_⟩
  · rcases List.mem_append.1 hu with hu | hu
    · exact h.1 u hu
    · rw [List.mem_singleton.1 hu]
      rfl
  · by_cases e : i < n
    · rw [List.getElem?_append_left (by omega)]
      exact h.2 i e
    · obtain rfl : i = n := by omega
      exact ⟨x, by rw [List.getElem?_append_right (by omega), show i - L.length = 0 by omega]; rfl⟩
theorem goodInts_of (l : List Int) : goodInts l.length (l.map (Value.int .i64)) := by
  refine ⟨fun u hu => ?_, fun j hj => ⟨l[j], by simp [hj]⟩⟩
  obtain ⟨x, -, rfl⟩ := List.mem_map.1 hu
  rfl
theorem infoInts : (Tryz.prog.info? 3).map (fun i => (i.zero, i.size, i.bytes)) = some (some (.int .i64 0), 1, 8) := by kernel_rfl
theorem infoIntss : (Tryz.prog.info? 28).map (fun i => (i.zero, i.size, i.bytes)) = some (some (.slice none 0 0), 1, 24) := by kernel_rfl

set_option maxRecDepth 4000 in
set_option maxHeartbeats 1000000 in
/-- Of two lists that show the same, sameInts says so. -/
theorem sameInts_any {Z Y : Nat → Prop} (va vb : Value) (n : Nat) (L : List Value) (hg : knInts.good n L) (hl : n ≤ 1000000000) (w : World) (ha : RwZ w Z va n L) (hb : RwZ w Y vb n L) : Calls Tryz.prog 61 #[va, vb] w fun e w' => e = .returned (.bool true) ∧ Below w.heap.size w w' := by
  obtain ⟨aa, ca, rfl, hda⟩ := ha
  obtain ⟨ab, cb, rfl, hdb⟩ := hb
  have hnn : ((n : Int) != (n : Int)) = false := by simp
  go_enter Tryz.func61, Tryz.ntmps61
  go_wp2
  go_loopw [5] (fun i wr => ∃ j : Nat, j ≤ n ∧ i = .int .i64 j ∧ Below w.heap.size w wr) (fun i _ => n - (intOf i).toNat)
  case atStart => exact ⟨0, by omega, rfl, Below.refl _ _⟩
  case round =>
    obtain ⟨j, hj, rfl, hbr⟩ := hrel
    by_cases hlt : j < n
    · have hlt' : (j : Int) < (n : Int) := by omega
      have hj0 : (0 : Int) ≤ (j : Int) := by omega
      obtain ⟨ba, rfl, -, hla, hca⟩ := hda.resolve_left (by omega)
      obtain ⟨bb, rfl, -, hlb, hcb⟩ := hdb.resolve_left (by omega)
      have kA : ∀ i u, L[i]? = some u → wr.cell? ⟨ba, i, none⟩ = some u := fun i u hu => (hbr.cell (p := ⟨ba, i, none⟩) hla).trans (hca _ _ hu)
      have kB : ∀ i u, L[i]? = some u → wr.cell? ⟨bb, i, none⟩ = some u := fun i u hu => (hbr.cell (p := ⟨bb, i, none⟩) hlb).trans (hcb _ _ hu)
      obtain ⟨x, hx⟩ := hg.2 j hlt
      have a0 := kA _ _ hx
      have b0 := kB _ _ hx
      have hxx : (x != x) = false := by simp
      clear kA kB hca hcb hda hdb hx
      go_wp2
      go_roundw
      case rel => exact ⟨j + 1, by omega, by first | rfl | go_num, hbr⟩
      case measure => simp [intOf]; omega
    · have hlt' : ¬ (j : Int) < (n : Int) := by omega
      go_wp2
      go_ret
      exact ⟨rfl, hbr⟩
end Go.Proofs.YthmjkmdbggfiiaaGreatDoor.KB

import Derived.Test.YthmjkmdbggfiiaaGreatDoorCw1
import Derived.Test.YthmjkmdbggfiiaaGreatDoorKcH
/- Points: what is well formed; samePoints. -/
namespace Go.Proofs.YthmjkmdbggfiiaaGreatDoor.KB
open Go.RowKit
set_option linter.constructorNameAsVariable false
attribute [local go_sem] CF.run_store_float

def goodPoints (n : Nat) (L : List Value) : Prop := (∀ u ∈ L, u.oneCell' = true) ∧ ∀ j, j < n → ∃ (x : Int) (b : Nat), L[j * 2]? = some (.int .i64 x) ∧ L[j * 2 + 1]? = some (.float .f32 b)
abbrev knPoints : Kn := ⟨64, 24, 2, by decide, goodPoints⟩
theorem goodPoints_set {n : Nat} {L : List Value} (h : goodPoints n L) (hl : L.length = n * 2) (j : Nat) (x : Int) (b : Nat) : goodPoints n ((L.set (j * 2) (.int .i64 x)).set (j * 2 + 1) (.float .f32 b)) := by
  refine ⟨fun u hu => ?_, fun i hi => ?_⟩
  · rcases List.mem_or_eq_of_mem_set hu with hu | rfl
    · rcases List.mem_or_eq_of_mem_set hu with hu | rfl
      · exact h.1 u hu
      · rfl
    · rfl
  · by_cases e : j = i
    · subst e
      exact ⟨x, b, by rw [List.getElem?_set_ne (by omega), List.getElem?_set_self (by omega)], by rw [List.getElem?_set_self (by rw [List.length_set]; omega)]⟩
    · obtain ⟨y, c, h1, h2⟩ := h.2 i hi
      exact ⟨y, c, by rw [List.getElem?_set_ne (by omega), List.getElem?_set_ne (by omega), h1], by rw [List.getElem?_set_ne (by omega), List.getElem?_set_ne (by omega), h2]⟩
theorem goodPoints_snoc {n : Nat} {L : List Value} (h : goodPoints n L) (hl : L.length = n * 2) (x : Int) : goodPoints (n + 1) (L ++ [.int .i64 x, .float .f32 0]) := by
  refine ⟨fun u hu => ?_, fun i hi => ?_⟩
  · rcases List.mem_append.1 hu with hu | hu
    · exact h.1 u hu
    · simp only [List.mem_cons, List.not_mem_nil, or_false] at hu
      rcases hu with rfl | rfl <;> rfl
  · by_cases e : i < n
    · rw [List.getElem?_append_left (by omega), List.getElem?_append_left (by omega)]
      exact h.2 i e
    · obtain rfl : i = n := by omega
      exact ⟨x, 0, by rw [List.getElem?_append_right (by omega), show i * 2 - L.length = 0 by omega]; rfl, by rw [List.getElem?_append_right (by omega), show i * 2 + 1 - L.length = 1 by omega]; rfl⟩
theorem infoPoints : (Tryz.prog.info? 64).map (fun i => (i.zero, i.size, i.bytes)) = some (some (.agg #[.int .i64 0, .float .f32 0]), 2, 16) := by kernel_rfl
theorem infoPointss : (Tryz.prog.info? 24).map (fun i => (i.zero, i.size, i.bytes)) = some (some (.slice none 0 0), 1, 24) := by kernel_rfl

set_option maxRecDepth 4000 in
set_option maxHeartbeats 1000000 in
/-- Of two lists that show the same, samePoints says so. -/
theorem samePoints_any {Z Y : Nat → Prop} (va vb : Value) (n : Nat) (L : List Value) (hg : knPoints.good n L) (hl : n ≤ 1000000000) (w : World) (ha : RwZ w Z va n L) (hb : RwZ w Y vb n L) : Calls Tryz.prog 73 #[va, vb] w fun e w' => e = .returned (.bool true) ∧ Below w.heap.size w w' := by
  obtain ⟨aa, ca, rfl, hda⟩ := ha
  obtain ⟨ab, cb, rfl, hdb⟩ := hb
  have hnn : ((n : Int) != (n : Int)) = false := by simp
  go_enter Tryz.func73, Tryz.ntmps73
  go_wp2
  go_loopw [5] (fun i wr => ∃ j : Nat, j ≤ n ∧ i = .int .i64 j ∧ Below w.heap.size w wr) (fun i _ => n - (intOf i).toNat)
  case atStart => exact ⟨0, by omega, rfl, Below.refl _ _⟩
  case round =>
    obtain ⟨j, hj, rfl, hbr⟩ := hrel
    by_cases hlt : j < n
    · have hlt' : (j : Int) < (n : Int) := by omega
      have hj0 : (0 : Int) ≤ (j : Int) := by omega
      obtain ⟨ba, rfl, -, hla, hca⟩ := hda.resolve_left (by omega)
      obtain ⟨bb, rfl, -, hlb, hcb⟩ := hdb.resolve_left (by omega)
      have kA : ∀ i u, L[i]? = some u → wr.cell? ⟨ba, i, none⟩ = some u := fun i u hu => (hbr.cell (p := ⟨ba, i, none⟩) hla).trans (hca _ _ hu)
      have kB : ∀ i u, L[i]? = some u → wr.cell? ⟨bb, i, none⟩ = some u := fun i u hu => (hbr.cell (p := ⟨bb, i, none⟩) hlb).trans (hcb _ _ hu)
      obtain ⟨x, b, hx0, hx1⟩ := hg.2 j hlt
      have a0 := kA _ _ hx0
      have a1 := kA _ _ hx1
      have b0 := kB _ _ hx0
      have b1 := kB _ _ hx1
      have hxx : (x != x) = false := by simp
      have hA : ∀ o, Below wr.heap.size wr (wr.alloc o) := fun o => (Below.refl _ _).alloc (Nat.le_refl _) o
      have hb1 : Hid (∀ o o', Below w.heap.size w ((wr.alloc o).alloc o')) := ⟨fun o o' => (hbr.alloc hbr.size o).alloc (by simp; exact Nat.le_succ_of_le hbr.size) o'⟩
      have b0' : ∀ o, (wr.alloc o).cell? ⟨bb, j * 2, none⟩ = some (.int .i64 x) := fun o => ((hA o).cell (p := ⟨bb, j * 2, none⟩) (World.block_lt_of_cell? _ _ b0)).trans b0
      have b1' : ∀ o, (wr.alloc o).cell? ⟨bb, j * 2 + 1, none⟩ = some (.float .f32 b) := fun o => ((hA o).cell (p := ⟨bb, j * 2 + 1, none⟩) (World.block_lt_of_cell? _ _ b1)).trans b1
      clear kA kB hca hcb hda hdb hx0 hx1 hA hbr
      by_cases hO : FloatKind.f32.format.order b b = some .eq
      · have h1 : (FloatKind.f32.format.order b b != some .eq) = false := by rw [hO]; rfl
        have h2 : (FloatKind.f32.format.order b b == some .eq) = true := by rw [hO]; rfl
        clear hO
        go_wp2
        go_roundw
        case rel => exact ⟨j + 1, by omega, by first | rfl | go_num, hb1.out _ _⟩
        case measure => simp [intOf]; omega
      · have h1 : (FloatKind.f32.format.order b b != some .eq) = true := by simpa using hO
        have h2 : (FloatKind.f32.format.order b b == some .eq) = false := by simpa using hO
        clear hO
        go_wp2
        go_roundw
        case rel => exact ⟨j + 1, by omega, by first | rfl | go_num, hb1.out _ _⟩
        case measure => simp [intOf]; omega
    · have hlt' : ¬ (j : Int) < (n : Int) := by omega
      go_wp2
      go_ret
      exact ⟨rfl, hbr⟩
end Go.Proofs.YthmjkmdbggfiiaaGreatDoor.KB

import Derived.Test.YteefieidfgpijaaCw9
namespace Go.Proofs.Yteefieidfgpijaa.CF
open Go.RowKit
attribute [local go_sem] run_store_float

theorem own_some {w : World} {base n size : Nat} {e : TypeId} {v : Value} {xs : List Value} (h : w.ownsRow base e size v n xs) (hn : 0 < n) : ∃ g cap, v = .slice (some ⟨g, 0, none⟩) n cap := by
  obtain ⟨_, h | ⟨g, cap, cur, rfl, _⟩⟩ := h
  · omega
  · exact ⟨g, cap, rfl⟩
theorem own_cap {w : World} {base n size g cap : Nat} {e : TypeId} {xs : List Value} (h : w.ownsRow base e size (.slice (some ⟨g, 0, none⟩) n cap) n xs) : n ≤ cap := by
  obtain ⟨_, h | ⟨g', cap', cur, h1, _, _, h2, _⟩⟩ := h
  · simp at h
  · simp at h1
    omega
def mk4 : List Value := [.int .i64 (-7701), .float .f32 0, .int .i64 (-7702), .float .f32 0]
/-- The list that is handed in, with its marks. -/
def InP (w : World) (base g cap : Nat) (D : Dots) : Prop := D.length + 2 ≤ cap ∧ w.ownsRow base 35 2 (.slice (some ⟨g, 0, none⟩) (D.length + 2) cap) (D.length + 2) (ptV D ++ mk4)
set_option maxRecDepth 8000 in
set_option maxHeartbeats 2000000 in
theorem points_law (D : Dots) (hl : D.length ≤ 8796093021952) (a : Option Addr) (c : Nat) (w : World) (h : RtAt w a D) : Calls Try.prog 19 #[.slice a D.length c] w fun e w' => ∃ g cap, e = .returned (.slice (some ⟨g, 0, none⟩) D.length cap) ∧ InP w' w.heap.size g cap D ∧ Below w.heap.size w w' := by
  obtain ⟨i0, hi, hz0, hz1, hz2⟩ := info_parts infoP
  obtain ⟨w0, hmk, ho0, hg0⟩ := run_make_own (P := Try.prog) w w.heap.size 27 35 i0 _ 2 Try.underlying27 hi hz0 hz1 .i64 .i64 (D.length + 2) (by rw [hz2]; omega) (by unfold maxLen; omega) (Nat.le_refl _)
  have hB0 : Below w.heap.size w w0 := (Below.refl _ _).grown hg0 (Nat.le_refl _) (fun j hj => by cases hj)
  have hmk2 : (Instr.makeSlice 27 (.int .i64 0) (.int .i64 ((D.length : Int) + 2))).run Try.prog w = .ok (.slice (some ⟨w.heap.size, 0, none⟩) 0 (D.length + 2)) w0 := by
    rw [← hmk, Int.natCast_add]
    rfl
  clear hmk hg0
  go_enter Try.func19, Try.ntmps19
  go_wp2
  go_loopw [3, 4] (fun v x wr => ∃ k : Nat, k ≤ D.length ∧ x = .int .i64 (k : Int) ∧ wr.ownsRow w.heap.size 35 2 v k (ptV (D.take k)) ∧ Below w.heap.size w wr) (fun _ x _ => D.length - (intOf x).toNat)
  case atStart => exact ⟨0, by omega, rfl, ho0, hB0⟩
  case round =>
    clear hmk2 ho0 hB0
    obtain ⟨k, hk, rfl, ho, hB⟩ := hrel
    by_cases hlt : k < D.length
    · have hlt' : (k : Int) < (D.length : Int) := by omega
      have hk0 : (0 : Int) ≤ (k : Int) := by omega
      obtain ⟨b, off, rfl, hc⟩ := h.cells hlt
      have hbl : b < w.heap.size := World.block_lt_of_cell? _ _ (hc k hlt).1
      have htk : Hid (D.take (k + 1) = D.take k ++ [((D.getD k (0, 0)).1, (D.getD k (0, 0)).2)]) := ⟨take_getD hlt⟩
      obtain ⟨s0, s1⟩ := hc k hlt
      generalize (D.getD k (0, 0)).1 = x at *
      generalize (D.getD k (0, 0)).2 = y at *
      have hfr := f32from (y : Int)
      rw [Int.toNat_natCast] at hfr
      have hS0 : ∀ X, Below w.heap.size w X → X.cell? ⟨b, off + k * 2, none⟩ = some (.int .i64 x) ∧ X.cell? ⟨b, off + k * 2 + 1, none⟩ = some (.int .u32 (y : Int)) := fun X hX => ⟨(hX.cell (p := ⟨b, off + k * 2, none⟩) hbl).trans s0, (hX.cell (p := ⟨b, off + k * 2 + 1, none⟩) hbl).trans s1⟩
      have hBD : Below w.heap.size w wr.drew := hB.drew
      have hS1 := hS0 _ hBD
      have hBA : Below w.heap.size w (wr.drew.alloc (.cells #[.int .i64 x, .float .f32 y] 35)) := hBD.alloc hBD.size _
      have hoA := ho.drew.alloc (.cells #[.int .i64 x, .float .f32 y] 35)
      have hlv := Hid.mk (fun (j : Nat) hj => (ho.lt j hj).1)
      clear hc s0 s1
      go_wp2_with fail
      go_region_held_law (fun X => X.cell? ⟨b, off + k * 2, none⟩ = some (.int .i64 x) ∧ X.cell? ⟨b, off + k * 2 + 1, none⟩ = some (.int .u32 (y : Int))) (first | (with_reducible assumption) | (exact hS0 _ (Below.alloc hBD hBD.size _)))
        ((refine step_append_own (P := Try.prog) _ rfl _ _ 27 rfl w.heap.size 35 i0 _ 2 16 Try.underlying27 hi hz0 hz1 hz2 rfl (by decide) _ k (ptV (D.take k)) rfl hoA ⟨wr.heap.size, 0, none⟩ 1 1 [.int .i64 x, .float .f32 y] rfl rfl (lit_at wr.drew _ _) (by simp [Value.oneCell']) (by unfold maxLen; omega) (by omega) hBA.size ?_; intro v' w4 hown' hgrow; have hB4 := hBA.grown hgrow hBA.size hlv.out; have hS4 := hS0 _ hB4))
      go_wp2
      go_roundw
      case rel => exact ⟨k + 1, by omega, by go_num, by rw [htk.out, ptV_snoc]; exact hown', hB4⟩
      case measure => simp [intOf]; omega
    · obtain rfl : k = D.length := by omega
      rw [List.take_length] at ho
      have hoA := ho.alloc (.cells #[.int .i64 (-7701), .float .f32 0, .int .i64 (-7702), .float .f32 0] 35)
      have hBA : Below w.heap.size w (wr.alloc (.cells #[.int .i64 (-7701), .float .f32 0, .int .i64 (-7702), .float .f32 0] 35)) := hB.alloc hB.size _
      have hlv := Hid.mk (fun (j : Nat) hj => (ho.lt j hj).1)
      clear h
      go_wp2_with (at_builtin; refine wpList_append_own _ rfl _ _ 27 rfl w.heap.size 35 i0 _ 2 16 Try.underlying27 hi hz0 hz1 hz2 rfl (by decide) _ D.length (ptV D) rfl hoA ⟨wr.heap.size, 0, none⟩ 2 2 mk4 rfl rfl (lit_at wr _ _) (by simp [mk4, Value.oneCell']) (by unfold maxLen; omega) (by omega) hBA.size ?_; intro v' w4 hown' hgrow _; obtain ⟨g, cap, rfl⟩ := own_some hown' (by omega); have hcap := own_cap hown'; have hB4 := hBA.grown hgrow hBA.size hlv.out)
      go_ret
      exact ⟨g, cap, rfl, ⟨hcap, hown'⟩, hB4⟩
end Go.Proofs.Yteefieidfgpijaa.CF

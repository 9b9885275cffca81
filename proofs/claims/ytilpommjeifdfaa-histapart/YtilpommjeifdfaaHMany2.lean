import Derived.Test.YtilpommjeifdfaaHMany
namespace Go.Proofs.Ytilpommjeifdfaa
open Go.RowKit

theorem u32w {x : Int} (h1 : 0 ≤ x) (h2 : x ≤ 1000) : IntKind.u32.wrap x = x := by
  rw [IntKind.wrap_u32]
  omega
theorem ents_cell {W : World} {a : Option Addr} {c m : Nat} {x y : Int} (h : EntsAt W (.slice a 1 c) [(m, (x, y))]) : ∃ g off, a = some ⟨g, off, none⟩ ∧ g < W.heap.size ∧ W.cell? ⟨g, off, none⟩ = some (.int .u32 (m : Int)) := by
  obtain ⟨a', c', e, h | ⟨g, off, rfl, hg, hc⟩⟩ := h
  · cases h
  · injection e with e1 e2 e3
    exact ⟨g, off, e1, hg, (hc 0 (by simp)).1⟩

/-- The row of twenty, while each gets its change. -/
def MK (w : World) (gl cap : Nat) (hs : Nat → Nat) (i : Nat) (X : World) : Prop := X.ownsRow w.heap.size 25 1 (.slice (some ⟨gl, 0, none⟩) 20 cap) 20 (ptrs hs 20) ∧ (∀ j, j < 20 → (j < i → HistAt X (hs j) [oneE j, twoE j] 1) ∧ (i ≤ j → HistAt X (hs j) [oneE j] 0)) ∧ Below w.heap.size w X
theorem MK.cell {w X : World} {gl cap i : Nat} {hs : Nat → Nat} (h : MK w gl cap hs i X) {j : Nat} (hj : j < 20) : X.cell? ⟨gl, j, none⟩ = some (.pointer (some ⟨hs j, 0, none⟩)) := (h.1.cellAt j (by omega)).trans (ptrs_at hs 20 j hj)
theorem MK.later {w X Y : World} {gl cap i : Nat} {hs : Nat → Nat} (h : MK w gl cap hs i X) (hb : Below X.heap.size X Y) : MK w gl cap hs i Y := ⟨own_laterB h.1 hb, fun j hj => ⟨fun h1 => ((h.2.1 j hj).1 h1).later hb, fun h1 => ((h.2.1 j hj).2 h1).later hb⟩, below_step h.2.2 hb⟩
theorem own_keptH {w X Y : World} {gl cap hb : Nat} {hs : Nat → Nat} {Ls : List Es} {p : Nat} (h : X.ownsRow w.heap.size 25 1 (.slice (some ⟨gl, 0, none⟩) 20 cap) 20 (ptrs hs 20)) (hH : HistAt X hb Ls p) (hg : X.grownBy Y (some hb)) : Y.ownsRow w.heap.size 25 1 (.slice (some ⟨gl, 0, none⟩) 20 cap) 20 (ptrs hs 20) := by
  refine h.kept hg (.inr fun e => ?_)
  simp only [Value.ownBlock, Option.some.injEq] at e
  obtain ⟨gl', cur, cap', e2, ht, -⟩ := row_apart h (by decide)
  injection e2 with e3
  injection e3 with e3
  injection e3 with e3
  subst e3
  obtain ⟨-, -, g0, cap0, vs0, hB0, -⟩ := hH
  exact tag_ne ht hB0 (by decide) e
theorem mk_push {w X Y : World} {gl cap i : Nat} {hs : Nat → Nat} (hne : ∀ a b, a < 20 → b < 20 → a ≠ b → hs a ≠ hs b) (hlo : ∀ j, j < 20 → w.heap.size ≤ hs j) (hi : i < 20) (h : MK w gl cap hs i X) (hH : HistAt Y (hs i) [oneE i, twoE i] 1) (hg : X.grownBy Y (some (hs i))) : MK w gl cap hs (i + 1) Y := by
  have hI := (h.2.1 i hi).2 (Nat.le_refl _)
  refine ⟨own_keptH h.1 hI hg, fun j hj => ⟨fun h1 => ?_, fun h1 => ?_⟩, grown_below h.2.2 hg (hlo i hi)⟩
  · by_cases e : j = i
    · subst e; exact hH
    · exact ((h.2.1 j hj).1 (by omega)).kept hI (hne j i hj hi e) hg
  · exact ((h.2.1 j hj).2 (by omega)).kept hI (hne j i hj hi (by omega)) hg
/-- The row, while the changes are taken back from the end. -/
def ML (w : World) (gl cap : Nat) (hs : Nat → Nat) (i : Nat) (X : World) : Prop := X.ownsRow w.heap.size 25 1 (.slice (some ⟨gl, 0, none⟩) 20 cap) 20 (ptrs hs 20) ∧ (∀ j, j < i → HistAt X (hs j) [oneE j, twoE j] 1) ∧ Below w.heap.size w X
theorem ML.cell {w X : World} {gl cap i : Nat} {hs : Nat → Nat} (h : ML w gl cap hs i X) {j : Nat} (hj : j < 20) : X.cell? ⟨gl, j, none⟩ = some (.pointer (some ⟨hs j, 0, none⟩)) := (h.1.cellAt j (by omega)).trans (ptrs_at hs 20 j hj)
theorem ML.later {w X Y : World} {gl cap i : Nat} {hs : Nat → Nat} (h : ML w gl cap hs i X) (hb : Below X.heap.size X Y) : ML w gl cap hs i Y := ⟨own_laterB h.1 hb, fun j hj => (h.2.1 j hj).later hb, below_step h.2.2 hb⟩
theorem ml_undo {w X Y : World} {gl cap i : Nat} {hs : Nat → Nat} (hne : ∀ a b, a < 20 → b < 20 → a ≠ b → hs a ≠ hs b) (hlo : ∀ j, j < 20 → w.heap.size ≤ hs j) (hi : i < 20) (h : ML w gl cap hs (i + 1) X) (hg : X.grownBy Y (some (hs i))) : ML w gl cap hs i Y := by
  have hI := h.2.1 i (Nat.lt_succ_self i)
  exact ⟨own_keptH h.1 hI hg, fun j hj => (h.2.1 j (by omega)).kept hI (hne j i (by omega) hi (by omega)) hg, grown_below h.2.2 hg (hlo i hi)⟩

set_option maxRecDepth 4000 in
set_option maxHeartbeats 8000000 in
theorem many_any (w : World) : Calls Try.prog 23 #[] w fun e w' => e = .returned (.bool true) ∧ Below w.heap.size w w' := by
  obtain ⟨ih, hih, hzh0, hzh1, hzh2⟩ := info_parts infoH
  go_enter Try.func23, Try.ntmps23
  go_wp2
  go_loopw [1, 2] (fun lv iv X => ∃ i : Nat, i ≤ 20 ∧ iv = .int .i64 (i : Int) ∧ MJ w i lv X) (fun _ iv _ => 20 - (intOf iv).toNat)
  case atStart => exact ⟨0, by omega, rfl, fun _ => 0, World.ownsRow_nil _ _ _ _, fun j hj => by omega, fun a b _ hb => by omega, fun _ => rfl, Below.refl _ _⟩
  case round =>
    obtain ⟨i, hi, rfl, hs, ho, hH, hup, hz, hB⟩ := hrel
    obtain ⟨la, ll, lc, hlv⟩ := own_slice ho
    subst hlv
    by_cases hlt : i < 20
    · have hlt' : (i : Int) < 20 := by omega
      have cv := u32w (x := (i : Int)) (by omega) (by omega)
      have hq := build_any _ _ _ (entA_one wr i (by omega) (i : Int) rfl 1 7)
      rw [mkE_one] at hq
      have hbA := (Below.refl wr.heap.size wr).alloc (Nat.le_refl _) (.cells #[.int .u32 (i : Int), .int .i64 1, .int .i64 7] 59)
      have hiH : Hid (i < 20) := hlt
      clear hlt
      go_wp2_with (go_at_call 14; fail)
      refine hq.mono ?_
      rintro e w2 ⟨mb, rfl, hm2, hb2⟩
      have hnw := new_any mb [(i, (1, 7))] (by simp) _ hm2
      go_wp2_with (go_at_call 8; fail)
      refine hnw.mono ?_
      rintro e w3 ⟨hb, rfl, hlo3, hN3, hb3⟩
      have hXY := below_step (below_step hbA hb2) hb3
      have hb4 := (Below.refl w3.heap.size w3).alloc (Nat.le_refl _) (.cells #[.pointer (some ⟨hb, 0, none⟩)] 25)
      have hownA := own_laterB (own_laterB ho hXY) hb4
      have hBA := below_step (below_step hB hXY) hb4
      have tok : True := trivial
      clear hq hnw hm2
      go_wp2_with (at_builtin; have _u := tok; clear tok; go_loud (refine wpList_append_own (P := Try.prog) _ rfl _ _ 84 rfl w.heap.size 25 ih _ 1 8 Try.underlying84 hih hzh0 hzh1 hzh2 rfl (by decide) _ i (ptrs hs i) rfl hownA ⟨w3.heap.size, 0, none⟩ 1 1 [.pointer (some ⟨hb, 0, none⟩)] rfl rfl (one_new _ _ _) (fun u hu => by rw [List.mem_singleton.1 hu]; rfl) (by unfold maxLen; omega) (by omega) hBA.size ?_); intro v10 w10 hown10 hgrow10 _h10)
      go_roundw
      case rel => exact ⟨i + 1, by have := hiH.out; omega, by go_num, mj_add ho hH hup hz (below_step hXY hb4) (Nat.le_trans (below_step hB (below_step hbA hb2)).size hlo3) (Nat.le_trans (below_step hbA hb2).size hlo3) (hN3.later hb4) hgrow10 hown10 (hBA.grown hgrow10 hBA.size (fun k hk => (hownA.lt k hk).1))⟩
      case measure => have := hiH.out; simp [intOf]; omega
    · have hlt' : ¬ (i : Int) < 20 := by omega
      obtain rfl : i = 20 := by omega
      obtain ⟨gl, cap, e⟩ := own_some ho (by decide)
      rw [e] at ho ⊢
      have hne : ∀ a b, a < 20 → b < 20 → a ≠ b → hs a ≠ hs b := fun a b ha hb hab => by
        rcases Nat.lt_or_gt_of_ne hab with h | h
        · have := hup a b h hb; omega
        · have := hup b a h ha; omega
      have hlo : ∀ j, j < 20 → w.heap.size ≤ hs j := fun j hj => (hH j hj).2
      have hK0 : MK w gl cap hs 0 wr := ⟨ho, fun j hj => ⟨fun h => by omega, fun _ => (hH j hj).1⟩, hB⟩
      clear e ho hH hup hz hB
      go_wp2
      go_loopw [4] (fun iv X => ∃ i : Nat, Hid (i ≤ 20) ∧ iv = .int .i64 (i : Int) ∧ MK w gl cap hs i X) (fun iv _ => 20 - (intOf iv).toNat)
      case atStart => exact ⟨0, Nat.zero_le 20, rfl, hK0⟩
      case round =>
        obtain ⟨i, hi2, rfl, hK⟩ := hrel
        clear hK0
        by_cases hlt2 : i < 20
        · have hlt2' : (i : Int) < 20 := by omega
          have hi0 : (0 : Int) ≤ (i : Int) := by omega
          obtain ⟨m, hm⟩ : ∃ m : Int, Hid (m = 100 + (i : Int)) := ⟨100 + (i : Int), show 100 + (i : Int) = _ from rfl⟩
          obtain ⟨cv1, cv2⟩ := wrI (x := 100 + (i : Int)) (y := m) hm.out.symm (by have := hm.out; omega) (by have := hm.out; omega)
          have cv := u32w (x := m) (by have := hm.out; omega) (by have := hm.out; omega)
          have hD := (Below.refl wr.heap.size wr).drew
          have hq := build_any _ _ _ (entA_one wr.drew (100 + i) (by omega) m (by have := hm.out; omega) 1 8)
          rw [mkE_one] at hq
          have hDA := hD.alloc (Nat.le_refl _) (.cells #[.int .u32 m, .int .i64 1, .int .i64 8] 59)
          have hcl : ∀ X, Below wr.heap.size wr X → X.cell? ⟨gl, i, none⟩ = some (.pointer (some ⟨hs i, 0, none⟩)) := fun X hX => (hK.later hX).cell hlt2
          have hSA : ∀ o, (wr.drew.alloc o).cell? ⟨gl, i, none⟩ = some (.pointer (some ⟨hs i, 0, none⟩)) := fun o => hcl _ (hD.alloc (Nat.le_refl _) o)
          have hS0 := hcl _ hD
          have hiH : Hid (i < 20) := hlt2
          have hI := (hK.2.1 i hlt2).2 (Nat.le_refl _)
          clear hlt2 hi hlt hlt'
          go_wp2
          go_region_held3 (fun X => X.cell? ⟨gl, i, none⟩ = some (.pointer (some ⟨hs i, 0, none⟩))) (first | (with_reducible assumption) | exact hSA _)
            (first
              | (go_at_call 14; refine hq.mono ?_; rintro e w5 ⟨mb, rfl, hm5, hb5⟩; have hB5 := below_step hDA hb5; have hS5 := hcl _ hB5; have hpu := push_some (hs i) mb [oneE i] 0 (by decide) (twoE i) (by simp [twoE]) w5 (hI.later hB5) hm5)
              | (go_at_call 13; refine hpu.mono ?_; rintro e w6 ⟨rfl, hH6, hg6⟩; have hK6 := mk_push hne hlo hiH.out (hK.later hB5) hH6 hg6; have hS6 := hK6.cell hiH.out))
          go_wp2
          go_roundw
          case rel => exact ⟨i + 1, (show i + 1 ≤ 20 from hiH.out), by go_num, hK6⟩
          case measure => have := hiH.out; simp [intOf]; omega
        · have hlt2' : ¬ (i : Int) < 20 := by omega
          obtain rfl : i = 20 := by have := hi2.out; omega
          have hL0 : ML w gl cap hs 20 wr := ⟨hK.1, fun j hj => (hK.2.1 j hj).1 hj, hK.2.2⟩
          clear hK hi hlt hlt' hi2 hlt2
          go_wp2
          go_loopw [5] (fun iv X => ∃ (i : Nat) (z : Int), Hid (i ≤ 20 ∧ z = (i : Int) - 1) ∧ iv = .int .i64 z ∧ ML w gl cap hs i X) (fun iv _ => (intOf iv + 1).toNat)
          case atStart => exact ⟨20, 19, ⟨Nat.le_refl 20, rfl⟩, rfl, hL0⟩
          case round =>
            obtain ⟨i, z, hiz, rfl, hL⟩ := hrel
            clear hL0 hlt2'
            cases i with
            | zero =>
              obtain rfl : z = -1 := hiz.out.2
              go_wp2
              go_ret
              exact ⟨rfl, hL.2.2⟩
            | succ k =>
              obtain rfl : z = (k : Int) := by have := hiz.out; omega
              have hk20 : k < 20 := by have := hiz.out; omega
              have hiH : Hid (k < 20) := hk20
              have g1 : (0 : Int) ≤ (k : Int) := by omega
              have g2 : (k : Int) < 20 := by omega
              have g3 := u32w (x := (k : Int)) (by omega) (by omega)
              obtain ⟨m, hm⟩ : ∃ m : Int, Hid (m = 100 + (k : Int)) := ⟨100 + (k : Int), show 100 + (k : Int) = _ from rfl⟩
              obtain ⟨cv1, cv2⟩ := wrI (x := 100 + (k : Int)) (y := m) hm.out.symm (by have := hm.out; omega) (by have := hm.out; omega)
              have cv := u32w (x := m) (by have := hm.out; omega) (by have := hm.out; omega)
              obtain ⟨cw1, cw2⟩ := wrI (x := (k : Int) - 1) (y := (k : Int) - 1) rfl (by omega) (by omega)
              have c0 := hL.cell hk20
              have hno := now_any (hs k) [oneE k, twoE k] 1 wr (hL.2.1 k (Nat.lt_succ_self k))
              clear hk20
              go_wp2_with (go_at_call 11; fail)
              refine hno.mono ?_
              rintro e w5 ⟨mb5, rfl, hm5, -, hb5⟩
              have hen := ents_map mb5 [(100 + k, (1, 8))] 1 rfl (by decide) _ hm5
              clear hno c0
              go_wp2_with (go_at_call 10; fail)
              refine hen.mono ?_
              rintro e w6 ⟨a6, c6, rfl, he6, hb6⟩
              have hL6 := (hL.later hb5).later hb6
              have c0 := hL6.cell hiH.out
              have hun := undo_some (hs k) [oneE k, twoE k] 0 w6 (hL6.2.1 k (Nat.lt_succ_self k))
              clear hen hm5 hL hb5 hb6
              go_wp2_with (go_at_call 17; fail)
              refine hun.mono ?_
              rintro e w7 ⟨mb7, rfl, hm7, -, hH7, hg7⟩
              have hL7 := ml_undo hne hlo hiH.out hL6 hg7
              have he7 := he6.kept (hL6.2.1 k (Nat.lt_succ_self k)) hg7
              have hen := ents_map mb7 [(k, (1, 7))] 1 rfl (by decide) _ hm7
              clear hun c0 hL6 hH7 hg7 he6
              go_wp2_with (go_at_call 10; fail)
              refine hen.mono ?_
              rintro e w8 ⟨a8, c8, rfl, he8, hb8⟩
              have hL8 := hL7.later hb8
              obtain ⟨gx, ox, rfl, -, cx⟩ := ents_cell (he7.later hb8)
              obtain ⟨gy, oy, rfl, -, cy⟩ := ents_cell he8
              rw [show (((100 + k : Nat)) : Int) = m from by have := hm.out; omega] at cx
              clear hen he7 he8 hL7 hm7
              go_wp2
              go_roundw
              case rel => exact ⟨k, (k : Int) - 1, ⟨Nat.le_of_lt hiH.out, rfl⟩, by go_num, hL8⟩
              case measure => simp [intOf]

theorem hapart_walk (v0 : Value) (S0 : List HOp) (v1 : Value) (S1 : List HOp) (v2 : Value) (S2 : List HOp) (w : World) (hS0 : OpsA w v0 S0) (hS1 : OpsA w v1 S1) (hS2 : OpsA w v2 S2) :
    Calls Try.prog 5 #[v0, v1, v2] w fun e w' => e = .returned (.bool true) ∧ Below w.heap.size w w' := hapart_if many_any v0 S0 v1 S1 v2 S2 w hS0 hS1 hS2

end Go.Proofs.Ytilpommjeifdfaa

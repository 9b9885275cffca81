import Derived.Test.YthnmjafoplfikaaGreatDoorJoin53
import Derived.Test.YthnmjafoplfikaaGreatDoorJoin54
import Derived.Test.YthnmjafoplfikaaGreatDoorYB
import Derived.Test.YthnmjafoplfikaaGreatDoorRows
import Derived.ProofKit
import Derived.OpenShut
import Derived.SizedLaws
import Derived.Deep.Slices
import Derived.Test.YthnmjafoplfikaaGreatDoorRmR
import Derived.Test.YthnmjafoplfikaaGreatDoorRmPack
import Derived.Deep.CutBlock
import Derived.Deep.DeepCutAuto
import Derived.Test.YthnmjafoplfikaaGreatDoorJoin52
namespace Go.Proofs.YthnmjafoplfikaaGreatDoor
open Go.RowKit

set_option maxRecDepth 100000 in
set_option maxHeartbeats 4000000 in
theorem holdTexts_rm (R lo N : Nat) (K : Nat → Value) (V : Nat → List Value) (W : World) (hN : N ≤ 2000000000) (hR : RmAt W R lo K V N) :
    Calls Tryz.prog 43 #[.pointer (some ⟨R, 0, none⟩)] W fun e W' => e = .returned (.bool true) ∧ Below W.heap.size W W' := by
  have hbX := bel_alloc W (.cells #[.string ⟨#[60, 111, 110, 101, 62]⟩, .string ⟨#[60, 116, 119, 111, 62]⟩] 9)
  have hMx := Hid.mk (heap_alloc_new W (.cells #[.string ⟨#[60, 111, 110, 101, 62]⟩, .string ⟨#[60, 116, 119, 111, 62]⟩] 9))
  have hXs : W.heap.size < (W.alloc (.cells #[.string ⟨#[60, 111, 110, 101, 62]⟩, .string ⟨#[60, 116, 119, 111, 62]⟩] 9)).heap.size := by simp
  obtain ⟨ka, kc, hK⟩ := own_shape (hR.own 4 (by decide))
  have hRX := hR.new hbX
  have hc := (hRX.cell (j := 4) (by decide)).1
  have hcl := Hid.mk (hR.few 4 (by decide))
  have hown := hR.own 4 (by decide)
  have hmks := Hid.mk (hR.mks 4 (by decide))
  rw [hK] at hc hown
  have e1 : ∀ w : World, (binOp .neq 9 (.string ⟨#[60, 111, 110, 101, 62]⟩) (.string ⟨#[60, 111, 110, 101, 62]⟩)).run Tryz.prog w = .ok (.bool false) w := fun _ => by kernel_rfl
  have e2 : ∀ w : World, (binOp .neq 9 (.string ⟨#[60, 116, 119, 111, 62]⟩) (.string ⟨#[60, 116, 119, 111, 62]⟩)).run Tryz.prog w = .ok (.bool false) w := fun _ => by kernel_rfl
  have hRlt := hRX.lt
  clear hR hRX hK
  go_enter Tryz.func43, Tryz.ntmps43
  go_wp2
  generalize W.alloc (.cells #[.string ⟨#[60, 111, 110, 101, 62]⟩, .string ⟨#[60, 116, 119, 111, 62]⟩] 9) = X at *
  generalize V 4 = vs at *
  go_loopw [4] (fun v wr => ∃ i : Nat, i ≤ vs.length ∧ v = .int .i64 (i : Int) ∧ Below X.heap.size X wr) (fun v _ => vs.length - (intOf v).toNat)
  case atStart => exact ⟨0, Nat.zero_le _, rfl, Below.refl _ _⟩
  case round =>
    obtain ⟨i, hi, rfl, hb⟩ := hrel
    have hc1 := (hb.cell (p := ⟨R, 4, none⟩) hRlt).trans hc
    by_cases hlt : i < vs.length
    · have hlt' : (i : Int) < (vs.length : Int) := by omega
      have hi0 : (0 : Int) ≤ (i : Int) := by omega
      have hlth := Hid.mk hlt
      obtain ⟨gr, cap2, hg, -⟩ := own_lit2 hown (by omega)
      injection hg with hg1 _ hg2
      subst hg1 hg2
      obtain ⟨g, n, cap, cs, f, hv, hgh, hsp, hn, hmk⟩ := hmks.out _ (List.getElem_mem hlt)
      obtain ⟨N0, rfl⟩ : ∃ N0, n = N0 + 40 := ⟨n - 40, by have : rmSp 4 = 40 := rfl; omega⟩
      have hrow : W.cell? ⟨gr, i, none⟩ = some (.slice (some ⟨g, 0, none⟩) (N0 + 40) cap) := by rw [hown.cellAt i (by omega), List.getElem?_eq_getElem hlt, hv]
      have hgrl := (hown.lt gr rfl).2
      have hgl : g < W.heap.size := (Array.getElem?_eq_some_iff.1 hgh).1
      have hr1 : Hid (∀ X', Below W.heap.size W X' → X'.cell? ⟨gr, i, none⟩ = some (.slice (some ⟨g, 0, none⟩) (N0 + 40) cap)) := ⟨fun X' h => (h.cell (p := ⟨gr, i, none⟩) hgrl).trans hrow⟩
      have hmk : Hid (∀ X', Below W.heap.size W X' → ∀ k, k < 40 → (k % 2 = 0 → X'.cell? ⟨g, N0 + k, none⟩ = some (.string ⟨#[60, 111, 110, 101, 62]⟩)) ∧ (k % 2 = 1 → X'.cell? ⟨g, N0 + k, none⟩ = some (.string ⟨#[60, 116, 119, 111, 62]⟩))) := ⟨fun X' h k hk => by
        have hcell : ∀ k, k < 40 → ∀ i u, (rmMk 4 k)[i]? = some u → X'.cell? ⟨g, (N0 + k) * rmS 4 + i, none⟩ = some u := fun k hk i u hu => by
          rw [h.cell (p := ⟨g, (N0 + k) * rmS 4 + i, none⟩) hgl, cell_of_row _ _ _ _ _ _ hgh]
          have := hmk k hk i u hu
          rwa [show N0 + 40 - rmSp 4 = N0 from Nat.add_sub_cancel _ _] at this
        exact ⟨fun hp => (by have h := (hcell k hk 0 _ (by unfold rmMk; rw [if_pos (hp)]; rfl)); rw [show (N0 + k) * rmS 4 + 0 = N0 + k from by simp [rmS]] at h; exact h), fun hp => (by have h := (hcell k hk 0 _ (by unfold rmMk; rw [if_neg (by omega)]; rfl)); rw [show (N0 + k) * rmS 4 + 0 = N0 + k from by simp [rmS]] at h; exact h)⟩⟩
      have hd1 := hr1.out wr (below_of2 hbX hb)
      have hN0 : N0 ≤ 2000000 := by omega
      clear hrow hgrl hgh hv hsp hn
      go_wp2
      obtain ⟨wz, hwz⟩ : ∃ wz, wz = wr := ⟨_, rfl⟩
      rw [← hwz] at hb hc1 hd1 ⊢
      go_loopw [6] (fun v wq => ∃ k : Nat, k ≤ 40 ∧ v = .int .i64 (k : Int) ∧ Below X.heap.size X wq) (fun v _ => (41 - intOf v).toNat)
      case atStart => exact ⟨0, by omega, rfl, hb⟩
      case round =>
        clear hc1 hd1 hb hwz
        obtain ⟨k, hk, rfl, hq⟩ := hrel
        have hc1 := (hq.cell (p := ⟨R, 4, none⟩) hRlt).trans hc
        have hd1 := hr1.out _ (below_of2 hbX hq)
        have hlX : W.heap.size < X.heap.size := hXs
        by_cases hk2 : k < 40
        · have hkk : (k : Int) < 40 := by omega
          have hk0 : (0 : Int) ≤ (k : Int) := by omega
          rcases (show k % 2 = 0 ∨ k % 2 = 1 by omega) with hp | hp
          · obtain q0 := (hmk.out wr (below_of2 hbX hq) k hk2).1 hp
            have hp' : (k : Int) % 2 = 0 := by omega
            have n0 : wr.cell? ⟨W.heap.size, 0, none⟩ = some (.string ⟨#[60, 111, 110, 101, 62]⟩) := (hq.cell (p := ⟨W.heap.size, 0, none⟩) hlX).trans (cell_of_row _ _ 0 _ _ _ hMx.out)
            clear hmk
            go_wp2
            go_roundw
            case rel => exact ⟨k + 1, by omega, by go_num, hq⟩
            case measure => simp [intOf]; omega
          · obtain q0 := (hmk.out wr (below_of2 hbX hq) k hk2).2 hp
            have hp' : (k : Int) % 2 = 1 := by omega
            have n0 : wr.cell? ⟨W.heap.size, 1, none⟩ = some (.string ⟨#[60, 116, 119, 111, 62]⟩) := (hq.cell (p := ⟨W.heap.size, 1, none⟩) hlX).trans (cell_of_row _ _ 1 _ _ _ hMx.out)
            clear hmk
            go_wp2
            go_roundw
            case rel => exact ⟨k + 1, by omega, by go_num, hq⟩
            case measure => simp [intOf]; omega
        · obtain rfl : k = 40 := by omega
          have h1 := hlth.out
          have h2 := hcl.out
          have h3 : (i : Int) < 2000000000 := by omega
          have h4 : (0 : Int) ≤ (i : Int) := by omega
          go_wp2
          go_roundw
          case rel =>
            have h1 := hlth.out
            have h2 := hcl.out
            exact ⟨i + 1, by omega, by go_num, hq⟩
          case measure =>
            have h1 := hlth.out
            have h2 := hcl.out
            simp [intOf]
            omega
    · obtain rfl : i = vs.length := by omega
      go_wp2
      go_ret
      exact ⟨rfl, below_of2 hbX hb⟩

end Go.Proofs.YthnmjafoplfikaaGreatDoor


namespace Go.Proofs.YthnmjafoplfikaaGreatDoor
open Go.RowKit

theorem RmAt.none {W : World} {R lo : Nat} {K : Nat → Value} {V : Nat → List Value} {N : Nat} (h : RmAt W R lo K V N) (j : Nat) (hj : j < 21) (h0 : rmT j = 0) : W.cell? ⟨R, j, none⟩ = some (.slice none 0 0) := by
  rw [(h.cell hj).1, h.nil j hj (h.un j hj h0)]

set_option maxHeartbeats 4000000 in
/-- No mark is written over. -/
theorem hold_rm (R lo N : Nat) (K : Nat → Value) (V : Nat → List Value) (W : World) (hN : N ≤ 2000000000) (hR : RmAt W R lo K V N) :
    Calls Tryz.prog 15 #[.pointer (some ⟨R, 0, none⟩)] W fun e W' => e = .returned (.bool true) ∧ Below W.heap.size W W' := by
  have hB := Below.refl W.heap.size W
  go_enter Tryz.func15, Tryz.ntmps15
  go_wp2_with (first | (go_at_call 39; refine (holdBytes_nil R _ (hR.none 0 (by decide) rfl)).mono ?_; rintro _ X ⟨rfl, hb⟩; replace hR := hR.new hb; replace hB := below_of2 hB hb; clear hb) | (go_at_call 40; refine (holdInts_nil R _ (hR.none 1 (by decide) rfl)).mono ?_; rintro _ X ⟨rfl, hb⟩; replace hR := hR.new hb; replace hB := below_of2 hB hb; clear hb) | (go_at_call 41; refine (holdCells_nil R _ (hR.none 2 (by decide) rfl)).mono ?_; rintro _ X ⟨rfl, hb⟩; replace hR := hR.new hb; replace hB := below_of2 hB hb; clear hb) | (go_at_call 42; refine (holdBools_nil R _ (hR.none 3 (by decide) rfl)).mono ?_; rintro _ X ⟨rfl, hb⟩; replace hR := hR.new hb; replace hB := below_of2 hB hb; clear hb) | (go_at_call 43; refine (holdTexts_rm R lo N K V _ hN hR).mono ?_; rintro _ X ⟨rfl, hb⟩; replace hR := hR.new hb; replace hB := below_of2 hB hb; clear hb) | (go_at_call 44; refine (holdValues_nil R _ (hR.none 5 (by decide) rfl)).mono ?_; rintro _ X ⟨rfl, hb⟩; replace hR := hR.new hb; replace hB := below_of2 hB hb; clear hb) | (go_at_call 45; refine (holdBands_rm R lo N K V _ hN hR).mono ?_; rintro _ X ⟨rfl, hb⟩; replace hR := hR.new hb; replace hB := below_of2 hB hb; clear hb) | (go_at_call 46; refine (holdTokens_nil R _ (hR.none 7 (by decide) rfl)).mono ?_; rintro _ X ⟨rfl, hb⟩; replace hR := hR.new hb; replace hB := below_of2 hB hb; clear hb) | (go_at_call 47; refine (holdReads_nil R _ (hR.none 8 (by decide) rfl)).mono ?_; rintro _ X ⟨rfl, hb⟩; replace hR := hR.new hb; replace hB := below_of2 hB hb; clear hb) | (go_at_call 48; refine (holdConflicts_nil R _ (hR.none 9 (by decide) rfl)).mono ?_; rintro _ X ⟨rfl, hb⟩; replace hR := hR.new hb; replace hB := below_of2 hB hb; clear hb) | (go_at_call 49; refine (holdPoints_nil R _ (hR.none 10 (by decide) rfl)).mono ?_; rintro _ X ⟨rfl, hb⟩; replace hR := hR.new hb; replace hB := below_of2 hB hb; clear hb) | (go_at_call 50; refine (holdNodes_nil R _ (hR.none 11 (by decide) rfl)).mono ?_; rintro _ X ⟨rfl, hb⟩; replace hR := hR.new hb; replace hB := below_of2 hB hb; clear hb) | (go_at_call 51; refine (holdRecords_nil R _ (hR.none 12 (by decide) rfl)).mono ?_; rintro _ X ⟨rfl, hb⟩; replace hR := hR.new hb; replace hB := below_of2 hB hb; clear hb) | (go_at_call 52; refine (holdFiles_nil R _ (hR.none 13 (by decide) rfl)).mono ?_; rintro _ X ⟨rfl, hb⟩; replace hR := hR.new hb; replace hB := below_of2 hB hb; clear hb) | (go_at_call 53; refine (holdExprs_rm R lo N K V _ hN hR).mono ?_; rintro _ X ⟨rfl, hb⟩; replace hR := hR.new hb; replace hB := below_of2 hB hb; clear hb) | (go_at_call 54; refine (holdClauses_rm R lo N K V _ hN hR).mono ?_; rintro _ X ⟨rfl, hb⟩; replace hR := hR.new hb; replace hB := below_of2 hB hb; clear hb) | (go_at_call 55; refine (holdLines_rm R lo N K V _ hN hR).mono ?_; rintro _ X ⟨rfl, hb⟩; replace hR := hR.new hb; replace hB := below_of2 hB hb; clear hb) | (go_at_call 56; refine (holdChecks_rm R lo N K V _ hN hR).mono ?_; rintro _ X ⟨rfl, hb⟩; replace hR := hR.new hb; replace hB := below_of2 hB hb; clear hb) | (go_at_call 57; refine (holdOptions_rm R lo N K V _ hN hR).mono ?_; rintro _ X ⟨rfl, hb⟩; replace hR := hR.new hb; replace hB := below_of2 hB hb; clear hb) | (go_at_call 58; refine (holdTables_rm R lo N K V _ hN hR).mono ?_; rintro _ X ⟨rfl, hb⟩; replace hR := hR.new hb; replace hB := below_of2 hB hb; clear hb) | (go_at_call 59; refine (holdGroups_rm R lo N K V _ hN hR).mono ?_; rintro _ X ⟨rfl, hb⟩; replace hR := hR.new hb; replace hB := below_of2 hB hb; clear hb))
  go_ret
  exact ⟨rfl, hB⟩

end Go.Proofs.YthnmjafoplfikaaGreatDoor


namespace Go.Proofs.YthnmjafoplfikaaGreatDoor
open Go.ChangeShapes Go.WideShapes Go.ChangeAt Go.WideMaps Go.WideElems Go.RowKit

theorem cellsI : Tryz.prog.cellsOf 3 = 1 := by kernel_rfl
theorem cellsI64 : Tryz.prog.cellsOf 2 = 1 := by kernel_rfl
theorem cellsS : Tryz.prog.cellsOf 9 = 1 := by kernel_rfl
theorem cellsBo : Tryz.prog.cellsOf 4 = 1 := by kernel_rfl
theorem cellsE : Tryz.prog.cellsOf 73 = 5 := by kernel_rfl
theorem cellsSE : Tryz.prog.cellsOf 71 = 1 := by kernel_rfl

theorem rg_of {n : Int} (h : (Lit.int .i64 n).wf = true) : Rg n := by
  simp [Lit.wf] at h
  exact h
set_option maxRecDepth 100000 in
/-- A list that came in, whatever its items are. -/
theorem open_row {α : Type} (D : Elt α) (Z : α → Prop) {t e : TypeId} (ht : Tryz.prog.underlying t = some (.slice e)) (hk : Tryz.prog.cellsOf e = D.k) (hp : 0 < D.k) {H : Type} {enc : TypeId × Value → H} {W : World} {fuel : Nat} {cs : List Value} {x : DataW H × List MemPlace} (hf : DataW.trod enc Tryz.prog W 0 (fun _ => true) true fuel t cs = some x)
    (el : ∀ (n : Nat) (cs' : List Value) (x' : DataW H × List MemPlace), n < fuel → cs'.length = D.k → DataW.trod enc Tryz.prog W 0 (fun _ => true) true n e cs' = some x' → ∃ o, D.E W AnyB o cs' ∧ Z o) : ∃ (l : List α) (a : Option Addr) (cap : Nat), cs = [.slice a l.length cap] ∧ l.length ≤ 9223372036854775807 ∧ RowR D W AnyB l a ∧ ∀ o ∈ l, Z o := by
  rcases DataW.trod_slice ht hf with ⟨hcs, hx⟩ | ⟨a, len, cap, elems, rest, n, hfu, hcs, hx, _, hl, hm, hlen, hel, -, -⟩
  · exact ⟨[], none, 0, hcs, by simp, .inl rfl, fun o ho => by cases ho⟩
  · have hmx : cap ≤ 9223372036854775807 := by unfold maxLen at hm; omega
    rw [hk] at hel
    by_cases h0 : len = 0
    · subst h0
      exact ⟨[], some a, cap, hcs, by simp, .inl rfl, fun o ho => by cases ho⟩
    have key0 : ∀ i, i < len → ∃ cs', W.cells? 0 (a.add (i * D.k)) D.k = some cs' ∧ ∃ y, DataW.trod enc Tryz.prog W 0 (fun _ => true) true n e cs' = some y := fun i hi => by
      have h := hel i hi
      rw [List.getElem?_eq_getElem (by omega)] at h
      cases hc : W.cells? 0 (a.add (i * D.k)) D.k with
      | none => rw [hc] at h; cases h
      | some cs' =>
        rw [hc] at h
        exact ⟨cs', rfl, _, h⟩
    obtain ⟨b, off, spot⟩ := a
    have hspot : spot = none := by
      obtain ⟨cs', h1, -⟩ := key0 0 (by omega)
      obtain ⟨_, hlen, hc⟩ := World.cells?_some h1
      have h2 := hc 0 (by omega)
      obtain ⟨c, hcc⟩ : ∃ c, cs'[0]? = some c := ⟨cs'[0]'(by omega), List.getElem?_eq_getElem _⟩
      rw [hcc] at h2
      simpa [Addr.add] using World.cell?_spot h2
    subst hspot
    have key : ∀ i, i < len → ∃ oc : α × List Value, oc.2.length = D.k ∧ D.E W AnyB oc.1 oc.2 ∧ Z oc.1 ∧ ∀ j, j < D.k → W.cell? ⟨b, off + i * D.k + j, none⟩ = oc.2[j]? := fun i hi => by
      obtain ⟨cs', h1, y, h2⟩ := key0 i hi
      obtain ⟨_, hlen', hc⟩ := World.cells?_some h1
      obtain ⟨o, ho, hz⟩ := el n cs' y (by omega) hlen' h2
      refine ⟨(o, cs'), hlen', ho, hz, fun j hj => ?_⟩
      have := hc j hj
      rwa [add_plain, add_plain] at this
    obtain ⟨q, hq⟩ : ∃ q : Nat → α × List Value, ∀ i, i < len → (q i).2.length = D.k ∧ D.E W AnyB (q i).1 (q i).2 ∧ Z (q i).1 ∧ ∀ j, j < D.k → W.cell? ⟨b, off + i * D.k + j, none⟩ = (q i).2[j]? := by
      obtain ⟨o0, -⟩ := key 0 (by omega)
      refine ⟨fun i => if h : i < len then Classical.choose (key i h) else o0, fun i hi => ?_⟩
      simp only [dif_pos hi]
      exact Classical.choose_spec (key i hi)
    have hb : b < W.heap.size := by
      have h := (hq 0 (by omega)).2.2.2 0 hp
      rw [List.getElem?_eq_getElem (by rw [(hq 0 (by omega)).1]; exact hp)] at h
      exact World.block_lt_of_cell? _ _ h
    have hrow : ∀ m, m ≤ len → ∃ cs2, Elems D W AnyB ((List.range m).map (fun i => (q i).1)) cs2 ∧ ∀ j, j < cs2.length → W.cell? ⟨b, off + j, none⟩ = cs2[j]? := fun m => by
      induction m with
      | zero => exact fun _ => ⟨[], Elems.nil _ _ _, fun j hj => by simp at hj⟩
      | succ m ih =>
        intro hm1
        obtain ⟨cs2, h1, h2⟩ := ih (by omega)
        obtain ⟨g1, g2, -, g4⟩ := hq m (by omega)
        have hcl := h1.1
        rw [List.length_map, List.length_range] at hcl
        refine ⟨cs2 ++ (q m).2, by rw [List.range_succ, List.map_append]; exact h1.snoc g2, fun j hj => ?_⟩
        by_cases hj2 : j < cs2.length
        · rw [h2 j hj2, List.getElem?_append_left hj2]
        · rw [List.length_append, g1] at hj
          have := g4 (j - cs2.length) (by omega)
          rw [List.getElem?_append_right (by omega), ← this]
          congr 2
          omega
    obtain ⟨cs2, h1, h2⟩ := hrow len (Nat.le_refl _)
    refine ⟨(List.range len).map (fun i => (q i).1), some ⟨b, off, none⟩, cap, by rw [List.length_map, List.length_range]; exact hcs, by rw [List.length_map, List.length_range]; omega, .inr ⟨b, off, cs2, rfl, trivial, hb, h2, h1⟩, fun o ho => ?_⟩
    obtain ⟨i, hi, rfl⟩ := List.mem_map.1 ho
    exact (hq i (List.mem_range.1 hi)).2.2.1
theorem fo_sz : ∀ l : List Ex, (∀ e ∈ l, SzE e ∧ RgE e) → SzF (ofL l) ∧ RgF (ofL l)
  | [], _ => ⟨trivial, trivial⟩
  | e :: l, h => by
    obtain ⟨h1, h2⟩ := h e (by simp)
    obtain ⟨h3, h4⟩ := fo_sz l (fun x hx => h x (List.mem_cons_of_mem _ hx))
    exact ⟨⟨h1.1, h1.2, h3⟩, h2.1, h2.2, h4⟩
set_option maxRecDepth 100000 in
set_option maxHeartbeats 1000000 in
theorem open_expr {H : Type} {enc : TypeId × Value → H} {W : World} : ∀ (fuel : Nat) (cs : List Value) (x : DataW H × List MemPlace), DataW.trod enc Tryz.prog W 0 (fun _ => true) true fuel 73 cs = some x → ∃ o, eE.E W AnyB o cs ∧ SzE o ∧ RgE o := fun fuel => by
  induction fuel using Nat.strongRecOn with
  | _ fuel ih =>
    intro cs x hf
    obtain ⟨xs, n, hfu, hx, hcl, hl, hg⟩ := DataW.trod_struct Tryz.underlying73 hf
    rw [cellsE] at hcl
    match cs, hcl, xs, hl with
    | [v0, v1, v2, v3, v4], _, [y0, y1, y2, y3, y4], _ =>
      have g0 := hg 0 _ rfl
      have g1 := hg 1 _ rfl
      have g2 := hg 2 _ rfl
      have g3 := hg 3 _ rfl
      have g4 := hg 4 _ rfl
      simp [cellsI, cellsI64, cellsSE] at g0 g1 g2 g3 g4
      obtain ⟨z0, e0, _, w0⟩ := DataW.trod_int Tryz.underlying3 g0
      obtain ⟨z1, e1, _, w1⟩ := DataW.trod_int Tryz.underlying2 g1
      obtain ⟨z2, e2, _, w2⟩ := DataW.trod_int Tryz.underlying2 g2
      obtain ⟨z3, e3, _, w3⟩ := DataW.trod_int Tryz.underlying3 g3
      obtain ⟨l, a, cap, e4, hl4, hR, hZ⟩ := open_row eE (fun o => SzE o ∧ RgE o) Tryz.underlying71 cellsE (by decide) g4 (fun m cs' x' hm _ h => ih m (by omega) cs' x' h)
      simp at e0 e1 e2 e3 e4
      subst e0 e1 e2 e3 e4
      obtain ⟨s1, s2⟩ := fo_sz l hZ
      refine ⟨⟨z0, z1, z2, z3, ofL l⟩, ⟨a, cap, by simp only [ofL_len], ⟨rg_of w0, rg_of w1, rg_of w2, rg_of w3⟩, fo_of_row hR⟩, ⟨by rw [ofL_len]; exact hl4, s1⟩, ⟨rg_of w0, rg_of w1, rg_of w2, rg_of w3⟩, s2⟩

end Go.Proofs.YthnmjafoplfikaaGreatDoor


namespace Go.Proofs.YthnmjafoplfikaaGreatDoor
open Go.ChangeShapes Go.WideShapes Go.ChangeAt Go.WideMaps Go.WideElems Go.RowKit

theorem cellsSS : Tryz.prog.cellsOf 64 = 1 := by kernel_rfl
theorem cellsSB : Tryz.prog.cellsOf 67 = 1 := by kernel_rfl
theorem cellsSC : Tryz.prog.cellsOf 76 = 1 := by kernel_rfl
theorem cellsSO : Tryz.prog.cellsOf 22 = 1 := by kernel_rfl
theorem cellsST : Tryz.prog.cellsOf 23 = 1 := by kernel_rfl
theorem cellsSG : Tryz.prog.cellsOf 24 = 1 := by kernel_rfl
theorem cellsSL : Tryz.prog.cellsOf 25 = 1 := by kernel_rfl
theorem cellsSK : Tryz.prog.cellsOf 26 = 1 := by kernel_rfl
theorem open_text {H : Type} {enc : TypeId × Value → H} {W : World} (fuel : Nat) (cs : List Value) (x : DataW H × List MemPlace) (hf : DataW.trod enc Tryz.prog W 0 (fun _ => true) true fuel 9 cs = some x) : ∃ o : List UInt8, eS.E W AnyB o cs ∧ o.length ≤ 9223372036854775807 := by
  obtain ⟨s, e, _, w⟩ := DataW.trod_string Tryz.underlying9 hf
  exact ⟨s.data.toList, by rw [e]; rfl, by have h : s.size ≤ maxLen := w; unfold maxLen at h; exact h⟩
set_option maxRecDepth 100000 in
set_option maxHeartbeats 1000000 in
theorem open_band {H : Type} {enc : TypeId × Value → H} {W : World} (fuel : Nat) (cs : List Value) (x : DataW H × List MemPlace) (hf : DataW.trod enc Tryz.prog W 0 (fun _ => true) true fuel 121 cs = some x) : ∃ o : Int × Int, eBd.E W AnyB o cs ∧ (True) := by
  obtain ⟨xs, n, hfu, hx, hcl, hl, hg⟩ := DataW.trod_struct Tryz.underlying121 hf
  rw [show Tryz.prog.cellsOf 121 = 2 from by kernel_rfl] at hcl
  match cs, hcl, xs, hl with
  | [v0, v1], _, [y0, y1], _ =>
    have g0 := hg 0 _ rfl
    have g1 := hg 1 _ rfl
    simp [cellsI64] at g0 g1
    obtain ⟨z0, e0, _, w0⟩ := DataW.trod_int Tryz.underlying2 g0
    obtain ⟨z1, e1, _, w1⟩ := DataW.trod_int Tryz.underlying2 g1
    simp at e0 e1
    subst e0
    subst e1
    exact ⟨(z0, z1), ⟨rfl, rg_of w0, rg_of w1⟩, trivial⟩
set_option maxRecDepth 100000 in
set_option maxHeartbeats 1000000 in
theorem open_group {H : Type} {enc : TypeId × Value → H} {W : World} (fuel : Nat) (cs : List Value) (x : DataW H × List MemPlace) (hf : DataW.trod enc Tryz.prog W 0 (fun _ => true) true fuel 96 cs = some x) : ∃ o : List UInt8 × Int, eG.E W AnyB o cs ∧ (o.1.length ≤ 9223372036854775807) := by
  obtain ⟨xs, n, hfu, hx, hcl, hl, hg⟩ := DataW.trod_struct Tryz.underlying96 hf
  rw [show Tryz.prog.cellsOf 96 = 2 from by kernel_rfl] at hcl
  match cs, hcl, xs, hl with
  | [v0, v1], _, [y0, y1], _ =>
    have g0 := hg 0 _ rfl
    have g1 := hg 1 _ rfl
    simp [cellsI, cellsS] at g0 g1
    obtain ⟨s0, e0, _, w0⟩ := DataW.trod_string Tryz.underlying9 g0
    have w0 : s0.data.toList.length ≤ 9223372036854775807 := by have h : s0.size ≤ maxLen := w0; unfold maxLen at h; exact h
    obtain ⟨z1, e1, _, w1⟩ := DataW.trod_int Tryz.underlying3 g1
    simp at e0 e1
    subst e0
    subst e1
    exact ⟨(s0.data.toList, z1), ⟨rfl, rg_of w1⟩, w0⟩
set_option maxRecDepth 100000 in
set_option maxHeartbeats 1000000 in
theorem open_options {H : Type} {enc : TypeId × Value → H} {W : World} (fuel : Nat) (cs : List Value) (x : DataW H × List MemPlace) (hf : DataW.trod enc Tryz.prog W 0 (fun _ => true) true fuel 66 cs = some x) : ∃ o : List UInt8 × List (List UInt8), eO.E W AnyB o cs ∧ (o.1.length ≤ 9223372036854775807 ∧ o.2.length ≤ 9223372036854775807 ∧ ∀ s ∈ o.2, s.length ≤ 9223372036854775807) := by
  obtain ⟨xs, n, hfu, hx, hcl, hl, hg⟩ := DataW.trod_struct Tryz.underlying66 hf
  rw [show Tryz.prog.cellsOf 66 = 2 from by kernel_rfl] at hcl
  match cs, hcl, xs, hl with
  | [v0, v1], _, [y0, y1], _ =>
    have g0 := hg 0 _ rfl
    have g1 := hg 1 _ rfl
    simp [cellsS, cellsSS] at g0 g1
    obtain ⟨s0, e0, _, w0⟩ := DataW.trod_string Tryz.underlying9 g0
    have w0 : s0.data.toList.length ≤ 9223372036854775807 := by have h : s0.size ≤ maxLen := w0; unfold maxLen at h; exact h
    obtain ⟨l1, a1, c1, e1, h1, R1, Z1⟩ := open_row eS (fun s => s.length ≤ 9223372036854775807) Tryz.underlying64 (by kernel_rfl) (by decide) g1 (fun m cs' x' _ _ h => open_text m cs' x' h)
    simp at e0 e1
    subst e0
    subst e1
    exact ⟨(s0.data.toList, l1), ⟨a1, c1, rfl, R1⟩, ⟨w0, h1, Z1⟩⟩
set_option maxRecDepth 100000 in
set_option maxHeartbeats 1000000 in
theorem open_table {H : Type} {enc : TypeId × Value → H} {W : World} (fuel : Nat) (cs : List Value) (x : DataW H × List MemPlace) (hf : DataW.trod enc Tryz.prog W 0 (fun _ => true) true fuel 69 cs = some x) : ∃ o : List UInt8 × List (Int × Int), eT.E W AnyB o cs ∧ (o.1.length ≤ 9223372036854775807 ∧ o.2.length ≤ 9223372036854775807 ∧ ∀ b ∈ o.2, Rg b.1 ∧ Rg b.2) := by
  obtain ⟨xs, n, hfu, hx, hcl, hl, hg⟩ := DataW.trod_struct Tryz.underlying69 hf
  rw [show Tryz.prog.cellsOf 69 = 2 from by kernel_rfl] at hcl
  match cs, hcl, xs, hl with
  | [v0, v1], _, [y0, y1], _ =>
    have g0 := hg 0 _ rfl
    have g1 := hg 1 _ rfl
    simp [cellsS, cellsSB] at g0 g1
    obtain ⟨s0, e0, _, w0⟩ := DataW.trod_string Tryz.underlying9 g0
    have w0 : s0.data.toList.length ≤ 9223372036854775807 := by have h : s0.size ≤ maxLen := w0; unfold maxLen at h; exact h
    obtain ⟨l1, a1, c1, e1, h1, R1, Z1⟩ := open_row eBd (fun b => Rg b.1 ∧ Rg b.2) Tryz.underlying67 (by kernel_rfl) (by decide) g1 (fun m cs' x' _ _ h => (open_band m cs' x' h).imp (fun o h => ⟨h.1, h.1.2⟩))
    simp at e0 e1
    subst e0
    subst e1
    exact ⟨(s0.data.toList, l1), ⟨a1, c1, rfl, R1⟩, ⟨w0, h1, Z1⟩⟩
set_option maxRecDepth 100000 in
set_option maxHeartbeats 1000000 in
theorem open_clause {H : Type} {enc : TypeId × Value → H} {W : World} (fuel : Nat) (cs : List Value) (x : DataW H × List MemPlace) (hf : DataW.trod enc Tryz.prog W 0 (fun _ => true) true fuel 80 cs = some x) : ∃ o : Cl, eC.E W AnyB o cs ∧ (SzC o ∧ RgC o) := by
  obtain ⟨xs, n, hfu, hx, hcl, hl, hg⟩ := DataW.trod_struct Tryz.underlying80 hf
  rw [show Tryz.prog.cellsOf 80 = 12 from by kernel_rfl] at hcl
  match cs, hcl, xs, hl with
  | [v0, v1, v2, v3, v4, v5, v6, v7, v8, v9, v10, v11], _, [y0, y1, y2, y3], _ =>
    have g0 := hg 0 _ rfl
    have g1 := hg 1 _ rfl
    have g2 := hg 2 _ rfl
    have g3 := hg 3 _ rfl
    simp [cellsI, cellsBo, cellsE] at g0 g1 g2 g3
    obtain ⟨z0, e0, _, w0⟩ := DataW.trod_int Tryz.underlying3 g0
    obtain ⟨z1, e1, _⟩ := DataW.trod_bool Tryz.underlying4 g1
    obtain ⟨x2, ⟨a2, c2, e2, r2, f2⟩, s2, t2⟩ := open_expr _ _ _ g2
    obtain ⟨x3, ⟨a3, c3, e3, r3, f3⟩, s3, t3⟩ := open_expr _ _ _ g3
    simp at e0 e1 e2 e3
    subst e0
    subst e1
    obtain ⟨e2_0, e2_1, e2_2, e2_3, e2_4⟩ := e2
    subst e2_0 e2_1 e2_2 e2_3 e2_4
    obtain ⟨e3_0, e3_1, e3_2, e3_3, e3_4⟩ := e3
    subst e3_0 e3_1 e3_2 e3_3 e3_4
    exact ⟨⟨z0, z1, x2, x3⟩, ⟨a2, c2, a3, c3, rfl, rg_of w0, ⟨r2, r3⟩, f2, f3⟩, ⟨⟨s2, s3⟩, rg_of w0, t2, t3⟩⟩
set_option maxRecDepth 100000 in
set_option maxHeartbeats 1000000 in
theorem open_line {H : Type} {enc : TypeId × Value → H} {W : World} (fuel : Nat) (cs : List Value) (x : DataW H × List MemPlace) (hf : DataW.trod enc Tryz.prog W 0 (fun _ => true) true fuel 78 cs = some x) : ∃ o : Ln, eL.E W AnyB o cs ∧ ((o.name.length ≤ 9223372036854775807 ∧ SzL o) ∧ RgL o) := by
  obtain ⟨xs, n, hfu, hx, hcl, hl, hg⟩ := DataW.trod_struct Tryz.underlying78 hf
  rw [show Tryz.prog.cellsOf 78 = 7 from by kernel_rfl] at hcl
  match cs, hcl, xs, hl with
  | [v0, v1, v2, v3, v4, v5, v6], _, [y0, y1, y2, y3, y4, y5, y6], _ =>
    have g0 := hg 0 _ rfl
    have g1 := hg 1 _ rfl
    have g2 := hg 2 _ rfl
    have g3 := hg 3 _ rfl
    have g4 := hg 4 _ rfl
    have g5 := hg 5 _ rfl
    have g6 := hg 6 _ rfl
    simp [cellsI, cellsS, cellsBo, cellsSC] at g0 g1 g2 g3 g4 g5 g6
    obtain ⟨s0, e0, _, w0⟩ := DataW.trod_string Tryz.underlying9 g0
    have w0 : s0.data.toList.length ≤ 9223372036854775807 := by have h : s0.size ≤ maxLen := w0; unfold maxLen at h; exact h
    obtain ⟨z1, e1, _⟩ := DataW.trod_bool Tryz.underlying4 g1
    obtain ⟨z2, e2, _⟩ := DataW.trod_bool Tryz.underlying4 g2
    obtain ⟨z3, e3, _, w3⟩ := DataW.trod_int Tryz.underlying3 g3
    obtain ⟨z4, e4, _, w4⟩ := DataW.trod_int Tryz.underlying3 g4
    obtain ⟨z5, e5, _, w5⟩ := DataW.trod_int Tryz.underlying3 g5
    obtain ⟨l6, a6, c6, e6, h6, R6, Z6⟩ := open_row eC (fun c => SzC c ∧ RgC c) Tryz.underlying76 (by kernel_rfl) (by decide) g6 (fun m cs' x' _ _ h => open_clause m cs' x' h)
    simp at e0 e1 e2 e3 e4 e5 e6
    subst e0
    subst e1
    subst e2
    subst e3
    subst e4
    subst e5
    subst e6
    exact ⟨⟨s0.data.toList, z1, z2, z3, z4, z5, l6⟩, ⟨a6, c6, rfl, ⟨rg_of w3, rg_of w4, rg_of w5⟩, R6⟩, ⟨⟨w0, h6, fun c hc => (Z6 c hc).1⟩, ⟨rg_of w3, rg_of w4, rg_of w5⟩, fun c hc => (Z6 c hc).2⟩⟩
set_option maxRecDepth 100000 in
set_option maxHeartbeats 1000000 in
theorem open_check {H : Type} {enc : TypeId × Value → H} {W : World} (fuel : Nat) (cs : List Value) (x : DataW H × List MemPlace) (hf : DataW.trod enc Tryz.prog W 0 (fun _ => true) true fuel 75 cs = some x) : ∃ o : Ck, eK.E W AnyB o cs ∧ ((o.name.length ≤ 9223372036854775807 ∧ o.text.length ≤ 9223372036854775807 ∧ SzE o.when_) ∧ RgK o) := by
  obtain ⟨xs, n, hfu, hx, hcl, hl, hg⟩ := DataW.trod_struct Tryz.underlying75 hf
  rw [show Tryz.prog.cellsOf 75 = 9 from by kernel_rfl] at hcl
  match cs, hcl, xs, hl with
  | [v0, v1, v2, v3, v4, v5, v6, v7, v8], _, [y0, y1, y2, y3, y4], _ =>
    have g0 := hg 0 _ rfl
    have g1 := hg 1 _ rfl
    have g2 := hg 2 _ rfl
    have g3 := hg 3 _ rfl
    have g4 := hg 4 _ rfl
    simp [cellsI, cellsS, cellsBo, cellsE] at g0 g1 g2 g3 g4
    obtain ⟨s0, e0, _, w0⟩ := DataW.trod_string Tryz.underlying9 g0
    have w0 : s0.data.toList.length ≤ 9223372036854775807 := by have h : s0.size ≤ maxLen := w0; unfold maxLen at h; exact h
    obtain ⟨z1, e1, _⟩ := DataW.trod_bool Tryz.underlying4 g1
    obtain ⟨z2, e2, _, w2⟩ := DataW.trod_int Tryz.underlying3 g2
    obtain ⟨x3, ⟨a3, c3, e3, r3, f3⟩, s3, t3⟩ := open_expr _ _ _ g3
    obtain ⟨s4, e4, _, w4⟩ := DataW.trod_string Tryz.underlying9 g4
    have w4 : s4.data.toList.length ≤ 9223372036854775807 := by have h : s4.size ≤ maxLen := w4; unfold maxLen at h; exact h
    simp at e0 e1 e2 e3 e4
    subst e0
    subst e1
    subst e2
    obtain ⟨e3_0, e3_1, e3_2, e3_3, e3_4⟩ := e3
    subst e3_0 e3_1 e3_2 e3_3 e3_4
    subst e4
    exact ⟨⟨s0.data.toList, z1, z2, x3, s4.data.toList⟩, ⟨a3, c3, rfl, rg_of w2, r3, f3⟩, ⟨⟨w0, w4, s3⟩, rg_of w2, t3⟩⟩
set_option maxRecDepth 100000 in
set_option maxHeartbeats 1000000 in
theorem open_pack {H : Type} {enc : TypeId × Value → H} {W : World} (fuel : Nat) (cs : List Value) (x : DataW H × List MemPlace) (hf : DataW.trod enc Tryz.prog W 0 (fun _ => true) true fuel 28 cs = some x) : ∃ o : Pk, PkE W AnyB o cs ∧ (SzP o ∧ RgP o) := by
  obtain ⟨xs, n, hfu, hx, hcl, hl, hg⟩ := DataW.trod_struct Tryz.underlying28 hf
  rw [show Tryz.prog.cellsOf 28 = 7 from by kernel_rfl] at hcl
  match cs, hcl, xs, hl with
  | [v0, v1, v2, v3, v4, v5, v6], _, [y0, y1, y2, y3, y4, y5, y6], _ =>
    have g0 := hg 0 _ rfl
    have g1 := hg 1 _ rfl
    have g2 := hg 2 _ rfl
    have g3 := hg 3 _ rfl
    have g4 := hg 4 _ rfl
    have g5 := hg 5 _ rfl
    have g6 := hg 6 _ rfl
    simp [cellsI, cellsS, cellsSG, cellsSK, cellsSL, cellsSO, cellsST] at g0 g1 g2 g3 g4 g5 g6
    obtain ⟨s0, e0, _, w0⟩ := DataW.trod_string Tryz.underlying9 g0
    have w0 : s0.data.toList.length ≤ 9223372036854775807 := by have h : s0.size ≤ maxLen := w0; unfold maxLen at h; exact h
    obtain ⟨z1, e1, _, w1⟩ := DataW.trod_int Tryz.underlying3 g1
    obtain ⟨l2, a2, c2, e2, h2, R2, Z2⟩ := open_row eO (fun o => o.1.length ≤ 9223372036854775807 ∧ o.2.length ≤ 9223372036854775807 ∧ ∀ s ∈ o.2, s.length ≤ 9223372036854775807) Tryz.underlying22 (by kernel_rfl) (by decide) g2 (fun m cs' x' _ _ h => open_options m cs' x' h)
    obtain ⟨l3, a3, c3, e3, h3, R3, Z3⟩ := open_row eT (fun o => o.1.length ≤ 9223372036854775807 ∧ o.2.length ≤ 9223372036854775807 ∧ ∀ b ∈ o.2, Rg b.1 ∧ Rg b.2) Tryz.underlying23 (by kernel_rfl) (by decide) g3 (fun m cs' x' _ _ h => open_table m cs' x' h)
    obtain ⟨l4, a4, c4, e4, h4, R4, Z4⟩ := open_row eG (fun o => o.1.length ≤ 9223372036854775807 ∧ Rg o.2) Tryz.underlying24 (by kernel_rfl) (by decide) g4 (fun m cs' x' _ _ h => (open_group m cs' x' h).imp (fun o h => ⟨h.1, h.2, h.1.2⟩))
    obtain ⟨l5, a5, c5, e5, h5, R5, Z5⟩ := open_row eL (fun o => (o.name.length ≤ 9223372036854775807 ∧ SzL o) ∧ RgL o) Tryz.underlying25 (by kernel_rfl) (by decide) g5 (fun m cs' x' _ _ h => open_line m cs' x' h)
    obtain ⟨l6, a6, c6, e6, h6, R6, Z6⟩ := open_row eK (fun o => (o.name.length ≤ 9223372036854775807 ∧ o.text.length ≤ 9223372036854775807 ∧ SzE o.when_) ∧ RgK o) Tryz.underlying26 (by kernel_rfl) (by decide) g6 (fun m cs' x' _ _ h => open_check m cs' x' h)
    simp at e0 e1 e2 e3 e4 e5 e6
    subst e0
    subst e1
    subst e2
    subst e3
    subst e4
    subst e5
    subst e6
    exact ⟨⟨s0.data.toList, z1, l2, l3, l4, l5, l6⟩, ⟨a2, c2, a3, c3, a4, c4, a5, c5, a6, c6, rfl, rg_of w1, R2, R3, R4, R5, R6⟩, ⟨w0, ⟨h2, Z2⟩, ⟨h3, fun o ho => ⟨(Z3 o ho).1, (Z3 o ho).2.1⟩⟩, ⟨h4, fun o ho => (Z4 o ho).1⟩, ⟨h5, fun o ho => (Z5 o ho).1⟩, ⟨h6, fun o ho => (Z6 o ho).1⟩⟩, ⟨rg_of w1, fun o ho => (Z3 o ho).2.2, fun o ho => (Z4 o ho).2, fun o ho => (Z5 o ho).2, fun o ho => (Z6 o ho).2⟩⟩

end Go.Proofs.YthnmjafoplfikaaGreatDoor


/- A pack that came in, with its weights: no list is longer than 2^47. -/
namespace Go.Proofs.YthnmjafoplfikaaGreatDoor
open Go.ChangeShapes Go.WideShapes Go.ChangeAt Go.WideMaps Go.WideElems Go.RowKit

theorem w_mem {H : Type} {P : Program} {e : TypeId} {d : DataW H} {n : Nat} : ∀ {l : List (DataW H)}, d ∈ l → n ∈ d.weights P e → n ∈ DataW.weightsAll P e l
  | x :: l, h, hn => by
    simp only [DataW.weightsAll, List.mem_append]
    rcases List.mem_cons.1 h with rfl | h
    · exact .inl hn
    · exact .inr (w_mem h hn)
def SwF : Fo → Prop
  | .nil => True
  | .cons _ _ _ _ args rest => (args.len ≤ 140737488355328 ∧ SwF args) ∧ SwF rest
def SwE (x : Ex) : Prop := x.args.len ≤ 140737488355328 ∧ SwF x.args
def SwC (c : Cl) : Prop := SwE c.guard ∧ SwE c.body
def SwL (l : Ln) : Prop := l.cls.length ≤ 140737488355328 ∧ ∀ c ∈ l.cls, SwC c
def SwP (p : Pk) : Prop := (p.opts.length ≤ 140737488355328 ∧ ∀ o ∈ p.opts, o.2.length ≤ 140737488355328) ∧ (p.tabs.length ≤ 140737488355328 ∧ ∀ o ∈ p.tabs, o.2.length ≤ 140737488355328) ∧ p.grps.length ≤ 140737488355328 ∧ (p.lns.length ≤ 140737488355328 ∧ ∀ o ∈ p.lns, SwL o) ∧ p.cks.length ≤ 140737488355328 ∧ ∀ o ∈ p.cks, SwE o.when_
theorem sw_of : ∀ l : List Ex, (∀ e ∈ l, SwE e) → SwF (ofL l)
  | [], _ => trivial
  | e :: l, h => ⟨h e (by simp), sw_of l (fun x hx => h x (List.mem_cons_of_mem _ hx))⟩
set_option maxRecDepth 100000 in
/-- A list that came in, whatever its items are. -/
theorem wopen_row {α : Type} (D : Elt α) (Z : α → Prop) {t e : TypeId} (ht : Tryz.prog.underlying t = some (.slice e)) (hk : Tryz.prog.cellsOf e = D.k) (hp : 0 < D.k) (hby : 0 < Tryz.prog.bytesOf e) {H : Type} {enc : TypeId × Value → H} {W : World} {fuel : Nat} {cs : List Value} {x : DataW H × List MemPlace} (hf : DataW.trod enc Tryz.prog W 0 (fun _ => true) true fuel t cs = some x) (hz : ∀ n ∈ x.1.weights Tryz.prog t, n ≤ reachBytes)
    (el : ∀ (n : Nat) (cs' : List Value) (x' : DataW H × List MemPlace), n < fuel → cs'.length = D.k → DataW.trod enc Tryz.prog W 0 (fun _ => true) true n e cs' = some x' → (∀ n ∈ x'.1.weights Tryz.prog e, n ≤ reachBytes) → ∃ o, D.E W AnyB o cs' ∧ Z o) : ∃ (l : List α) (a : Option Addr) (cap : Nat), cs = [.slice a l.length cap] ∧ l.length ≤ 140737488355328 ∧ RowR D W AnyB l a ∧ ∀ o ∈ l, Z o := by
  rcases DataW.trod_slice ht hf with ⟨hcs, hx⟩ | ⟨a, len, cap, elems, rest, n, hfu, hcs, hx, _, hl, hm, hlen, hel, -, -⟩
  · exact ⟨[], none, 0, hcs, by simp, .inl rfl, fun o ho => by cases ho⟩
  · have hw : ∀ m, m ∈ (DataW.slice (elems.map (·.1)) (rest.map (·.1)) : DataW H).weights Tryz.prog t → m ≤ reachBytes := by rw [hx] at hz; exact hz
    simp only [DataW.weights, ht] at hw
    have hlw : len ≤ 140737488355328 := by
      have h := hw _ List.mem_cons_self
      have h2 : elems.length * 1 ≤ (elems.length + rest.length) * Tryz.prog.bytesOf e := Nat.mul_le_mul (Nat.le_add_right _ _) hby
      simp at h
      unfold reachBytes at h
      omega
    rw [hk] at hel
    by_cases h0 : len = 0
    · subst h0
      exact ⟨[], some a, cap, hcs, by simp, .inl rfl, fun o ho => by cases ho⟩
    have key0 : ∀ i, i < len → ∃ cs', W.cells? 0 (a.add (i * D.k)) D.k = some cs' ∧ ∃ y, DataW.trod enc Tryz.prog W 0 (fun _ => true) true n e cs' = some y ∧ y ∈ elems := fun i hi => by
      have h := hel i hi
      rw [List.getElem?_eq_getElem (by omega)] at h
      cases hc : W.cells? 0 (a.add (i * D.k)) D.k with
      | none => rw [hc] at h; cases h
      | some cs' =>
        rw [hc] at h
        exact ⟨cs', rfl, _, h, List.getElem_mem _⟩
    obtain ⟨b, off, spot⟩ := a
    have hspot : spot = none := by
      obtain ⟨cs', h1, -⟩ := key0 0 (by omega)
      obtain ⟨_, hlen, hc⟩ := World.cells?_some h1
      have h2 := hc 0 (by omega)
      obtain ⟨c, hcc⟩ : ∃ c, cs'[0]? = some c := ⟨cs'[0]'(by omega), List.getElem?_eq_getElem _⟩
      rw [hcc] at h2
      simpa [Addr.add] using World.cell?_spot h2
    subst hspot
    have key : ∀ i, i < len → ∃ oc : α × List Value, oc.2.length = D.k ∧ D.E W AnyB oc.1 oc.2 ∧ Z oc.1 ∧ ∀ j, j < D.k → W.cell? ⟨b, off + i * D.k + j, none⟩ = oc.2[j]? := fun i hi => by
      obtain ⟨cs', h1, y, h2, hy⟩ := key0 i hi
      obtain ⟨_, hlen', hc⟩ := World.cells?_some h1
      obtain ⟨o, ho, hz⟩ := el n cs' y (by omega) hlen' h2 (fun m hm => hw m (List.mem_cons_of_mem _ (List.mem_append.2 (.inl (w_mem (List.mem_map.2 ⟨y, hy, rfl⟩) hm)))))
      refine ⟨(o, cs'), hlen', ho, hz, fun j hj => ?_⟩
      have := hc j hj
      rwa [add_plain, add_plain] at this
    obtain ⟨q, hq⟩ : ∃ q : Nat → α × List Value, ∀ i, i < len → (q i).2.length = D.k ∧ D.E W AnyB (q i).1 (q i).2 ∧ Z (q i).1 ∧ ∀ j, j < D.k → W.cell? ⟨b, off + i * D.k + j, none⟩ = (q i).2[j]? := by
      obtain ⟨o0, -⟩ := key 0 (by omega)
      refine ⟨fun i => if h : i < len then Classical.choose (key i h) else o0, fun i hi => ?_⟩
      simp only [dif_pos hi]
      exact Classical.choose_spec (key i hi)
    have hb : b < W.heap.size := by
      have h := (hq 0 (by omega)).2.2.2 0 hp
      rw [List.getElem?_eq_getElem (by rw [(hq 0 (by omega)).1]; exact hp)] at h
      exact World.block_lt_of_cell? _ _ h
    have hrow : ∀ m, m ≤ len → ∃ cs2, Elems D W AnyB ((List.range m).map (fun i => (q i).1)) cs2 ∧ ∀ j, j < cs2.length → W.cell? ⟨b, off + j, none⟩ = cs2[j]? := fun m => by
      induction m with
      | zero => exact fun _ => ⟨[], Elems.nil _ _ _, fun j hj => by simp at hj⟩
      | succ m ih =>
        intro hm1
        obtain ⟨cs2, h1, h2⟩ := ih (by omega)
        obtain ⟨g1, g2, -, g4⟩ := hq m (by omega)
        have hcl := h1.1
        rw [List.length_map, List.length_range] at hcl
        refine ⟨cs2 ++ (q m).2, by rw [List.range_succ, List.map_append]; exact h1.snoc g2, fun j hj => ?_⟩
        by_cases hj2 : j < cs2.length
        · rw [h2 j hj2, List.getElem?_append_left hj2]
        · rw [List.length_append, g1] at hj
          have := g4 (j - cs2.length) (by omega)
          rw [List.getElem?_append_right (by omega), ← this]
          congr 2
          omega
    obtain ⟨cs2, h1, h2⟩ := hrow len (Nat.le_refl _)
    refine ⟨(List.range len).map (fun i => (q i).1), some ⟨b, off, none⟩, cap, by rw [List.length_map, List.length_range]; exact hcs, by rw [List.length_map, List.length_range]; exact hlw, .inr ⟨b, off, cs2, rfl, trivial, hb, h2, h1⟩, fun o ho => ?_⟩
    obtain ⟨i, hi, rfl⟩ := List.mem_map.1 ho
    exact (hq i (List.mem_range.1 hi)).2.2.1
set_option maxRecDepth 100000 in
set_option maxHeartbeats 1000000 in
theorem wopen_expr {H : Type} {enc : TypeId × Value → H} {W : World} : ∀ (fuel : Nat) (cs : List Value) (x : DataW H × List MemPlace), DataW.trod enc Tryz.prog W 0 (fun _ => true) true fuel 73 cs = some x → (∀ n ∈ x.1.weights Tryz.prog 73, n ≤ reachBytes) → ∃ o, eE.E W AnyB o cs ∧ SwE o := fun fuel => by
  induction fuel using Nat.strongRecOn with
  | _ fuel ih =>
    intro cs x hf hz
    obtain ⟨xs, n, hfu, hx, hcl, hl, hg⟩ := DataW.trod_struct Tryz.underlying73 hf
    rw [cellsE] at hcl
    match cs, hcl, xs, hl with
    | [v0, v1, v2, v3, v4], _, [y0, y1, y2, y3, y4], _ =>
      have g0 := hg 0 _ rfl
      have g1 := hg 1 _ rfl
      have g2 := hg 2 _ rfl
      have g3 := hg 3 _ rfl
      have g4 := hg 4 _ rfl
      simp [cellsI, cellsI64, cellsSE] at g0 g1 g2 g3 g4
      obtain ⟨z0, e0, _, w0⟩ := DataW.trod_int Tryz.underlying3 g0
      obtain ⟨z1, e1, _, w1⟩ := DataW.trod_int Tryz.underlying2 g1
      obtain ⟨z2, e2, _, w2⟩ := DataW.trod_int Tryz.underlying2 g2
      obtain ⟨z3, e3, _, w3⟩ := DataW.trod_int Tryz.underlying3 g3
      obtain ⟨l, a, cap, e4, hl4, hR, hZ⟩ := wopen_row eE SwE Tryz.underlying71 cellsE (by decide) (of_decide_eq_true (by kernel_rfl)) g4 (fun n hn => hz n (by rw [hx]; simp only [DataW.weights, Tryz.underlying73]; exact DataW.weights_mem_each (j := 4) (t := 71) (d := y4.1) rfl rfl _ hn)) (fun m cs' x' hm _ h hz => ih m (by omega) cs' x' h hz)
      simp at e0 e1 e2 e3 e4
      subst e0 e1 e2 e3 e4
      refine ⟨⟨z0, z1, z2, z3, ofL l⟩, ⟨a, cap, by simp only [ofL_len], ⟨rg_of w0, rg_of w1, rg_of w2, rg_of w3⟩, fo_of_row hR⟩, by rw [ofL_len]; exact hl4, sw_of l hZ⟩

theorem wopen_text {H : Type} {enc : TypeId × Value → H} {W : World} (fuel : Nat) (cs : List Value) (x : DataW H × List MemPlace) (hf : DataW.trod enc Tryz.prog W 0 (fun _ => true) true fuel 9 cs = some x) (_ : ∀ n ∈ x.1.weights Tryz.prog 9, n ≤ reachBytes) : ∃ o : List UInt8, eS.E W AnyB o cs ∧ (True) := by
  obtain ⟨s, e, _, _⟩ := DataW.trod_string Tryz.underlying9 hf
  exact ⟨s.data.toList, by rw [e]; rfl, trivial⟩
set_option maxRecDepth 100000 in
set_option maxHeartbeats 1000000 in
theorem wopen_band {H : Type} {enc : TypeId × Value → H} {W : World} (fuel : Nat) (cs : List Value) (x : DataW H × List MemPlace) (hf : DataW.trod enc Tryz.prog W 0 (fun _ => true) true fuel 121 cs = some x) (_ : ∀ n ∈ x.1.weights Tryz.prog 121, n ≤ reachBytes) : ∃ o : Int × Int, eBd.E W AnyB o cs ∧ (True) := by
  obtain ⟨xs, n, hfu, hx, hcl, hl, hg⟩ := DataW.trod_struct Tryz.underlying121 hf
  rw [show Tryz.prog.cellsOf 121 = 2 from by kernel_rfl] at hcl
  match cs, hcl, xs, hl with
  | [v0, v1], _, [y0, y1], _ =>
    have g0 := hg 0 _ rfl
    have g1 := hg 1 _ rfl
    simp [cellsI64] at g0 g1
    obtain ⟨z0, e0, _, w0⟩ := DataW.trod_int Tryz.underlying2 g0
    obtain ⟨z1, e1, _, w1⟩ := DataW.trod_int Tryz.underlying2 g1
    simp at e0 e1
    subst e0
    subst e1
    exact ⟨(z0, z1), ⟨rfl, rg_of w0, rg_of w1⟩, trivial⟩
set_option maxRecDepth 100000 in
set_option maxHeartbeats 1000000 in
theorem wopen_group {H : Type} {enc : TypeId × Value → H} {W : World} (fuel : Nat) (cs : List Value) (x : DataW H × List MemPlace) (hf : DataW.trod enc Tryz.prog W 0 (fun _ => true) true fuel 96 cs = some x) (_ : ∀ n ∈ x.1.weights Tryz.prog 96, n ≤ reachBytes) : ∃ o : List UInt8 × Int, eG.E W AnyB o cs ∧ (True) := by
  obtain ⟨xs, n, hfu, hx, hcl, hl, hg⟩ := DataW.trod_struct Tryz.underlying96 hf
  rw [show Tryz.prog.cellsOf 96 = 2 from by kernel_rfl] at hcl
  match cs, hcl, xs, hl with
  | [v0, v1], _, [y0, y1], _ =>
    have g0 := hg 0 _ rfl
    have g1 := hg 1 _ rfl
    simp [cellsI, cellsS] at g0 g1
    obtain ⟨s0, e0, _, _⟩ := DataW.trod_string Tryz.underlying9 g0
    obtain ⟨z1, e1, _, w1⟩ := DataW.trod_int Tryz.underlying3 g1
    simp at e0 e1
    subst e0
    subst e1
    exact ⟨(s0.data.toList, z1), ⟨rfl, rg_of w1⟩, trivial⟩
set_option maxRecDepth 100000 in
set_option maxHeartbeats 1000000 in
theorem wopen_options {H : Type} {enc : TypeId × Value → H} {W : World} (fuel : Nat) (cs : List Value) (x : DataW H × List MemPlace) (hf : DataW.trod enc Tryz.prog W 0 (fun _ => true) true fuel 66 cs = some x) (hz : ∀ n ∈ x.1.weights Tryz.prog 66, n ≤ reachBytes) : ∃ o : List UInt8 × List (List UInt8), eO.E W AnyB o cs ∧ (o.2.length ≤ 140737488355328) := by
  obtain ⟨xs, n, hfu, hx, hcl, hl, hg⟩ := DataW.trod_struct Tryz.underlying66 hf
  rw [show Tryz.prog.cellsOf 66 = 2 from by kernel_rfl] at hcl
  match cs, hcl, xs, hl with
  | [v0, v1], _, [y0, y1], _ =>
    have g0 := hg 0 _ rfl
    have g1 := hg 1 _ rfl
    simp [cellsS, cellsSS] at g0 g1
    obtain ⟨s0, e0, _, _⟩ := DataW.trod_string Tryz.underlying9 g0
    obtain ⟨l1, a1, c1, e1, h1, R1, _⟩ := wopen_row eS (fun _ => True) Tryz.underlying64 (by kernel_rfl) (by decide) (of_decide_eq_true (by kernel_rfl)) g1 (fun n hn => hz n (by rw [hx]; simp only [DataW.weights, Tryz.underlying66]; exact DataW.weights_mem_each (j := 1) (t := 64) (d := y1.1) rfl rfl _ hn)) (fun m cs' x' _ _ h hz => wopen_text m cs' x' h hz)
    simp at e0 e1
    subst e0
    subst e1
    exact ⟨(s0.data.toList, l1), ⟨a1, c1, rfl, R1⟩, h1⟩
set_option maxRecDepth 100000 in
set_option maxHeartbeats 1000000 in
theorem wopen_table {H : Type} {enc : TypeId × Value → H} {W : World} (fuel : Nat) (cs : List Value) (x : DataW H × List MemPlace) (hf : DataW.trod enc Tryz.prog W 0 (fun _ => true) true fuel 69 cs = some x) (hz : ∀ n ∈ x.1.weights Tryz.prog 69, n ≤ reachBytes) : ∃ o : List UInt8 × List (Int × Int), eT.E W AnyB o cs ∧ (o.2.length ≤ 140737488355328) := by
  obtain ⟨xs, n, hfu, hx, hcl, hl, hg⟩ := DataW.trod_struct Tryz.underlying69 hf
  rw [show Tryz.prog.cellsOf 69 = 2 from by kernel_rfl] at hcl
  match cs, hcl, xs, hl with
  | [v0, v1], _, [y0, y1], _ =>
    have g0 := hg 0 _ rfl
    have g1 := hg 1 _ rfl
    simp [cellsS, cellsSB] at g0 g1
    obtain ⟨s0, e0, _, _⟩ := DataW.trod_string Tryz.underlying9 g0
    obtain ⟨l1, a1, c1, e1, h1, R1, _⟩ := wopen_row eBd (fun _ => True) Tryz.underlying67 (by kernel_rfl) (by decide) (of_decide_eq_true (by kernel_rfl)) g1 (fun n hn => hz n (by rw [hx]; simp only [DataW.weights, Tryz.underlying69]; exact DataW.weights_mem_each (j := 1) (t := 67) (d := y1.1) rfl rfl _ hn)) (fun m cs' x' _ _ h hz => wopen_band m cs' x' h hz)
    simp at e0 e1
    subst e0
    subst e1
    exact ⟨(s0.data.toList, l1), ⟨a1, c1, rfl, R1⟩, h1⟩
set_option maxRecDepth 100000 in
set_option maxHeartbeats 1000000 in
theorem wopen_clause {H : Type} {enc : TypeId × Value → H} {W : World} (fuel : Nat) (cs : List Value) (x : DataW H × List MemPlace) (hf : DataW.trod enc Tryz.prog W 0 (fun _ => true) true fuel 80 cs = some x) (hz : ∀ n ∈ x.1.weights Tryz.prog 80, n ≤ reachBytes) : ∃ o : Cl, eC.E W AnyB o cs ∧ (SwC o) := by
  obtain ⟨xs, n, hfu, hx, hcl, hl, hg⟩ := DataW.trod_struct Tryz.underlying80 hf
  rw [show Tryz.prog.cellsOf 80 = 12 from by kernel_rfl] at hcl
  match cs, hcl, xs, hl with
  | [v0, v1, v2, v3, v4, v5, v6, v7, v8, v9, v10, v11], _, [y0, y1, y2, y3], _ =>
    have g0 := hg 0 _ rfl
    have g1 := hg 1 _ rfl
    have g2 := hg 2 _ rfl
    have g3 := hg 3 _ rfl
    simp [cellsI, cellsBo, cellsE] at g0 g1 g2 g3
    obtain ⟨z0, e0, _, w0⟩ := DataW.trod_int Tryz.underlying3 g0
    obtain ⟨z1, e1, _⟩ := DataW.trod_bool Tryz.underlying4 g1
    obtain ⟨x2, ⟨a2, c2, e2, r2, f2⟩, s2⟩ := wopen_expr _ _ _ g2 (fun n hn => hz n (by rw [hx]; simp only [DataW.weights, Tryz.underlying80]; exact DataW.weights_mem_each (j := 2) (t := 73) (d := y2.1) rfl rfl _ hn))
    obtain ⟨x3, ⟨a3, c3, e3, r3, f3⟩, s3⟩ := wopen_expr _ _ _ g3 (fun n hn => hz n (by rw [hx]; simp only [DataW.weights, Tryz.underlying80]; exact DataW.weights_mem_each (j := 3) (t := 73) (d := y3.1) rfl rfl _ hn))
    simp at e0 e1 e2 e3
    subst e0
    subst e1
    obtain ⟨e2_0, e2_1, e2_2, e2_3, e2_4⟩ := e2
    subst e2_0 e2_1 e2_2 e2_3 e2_4
    obtain ⟨e3_0, e3_1, e3_2, e3_3, e3_4⟩ := e3
    subst e3_0 e3_1 e3_2 e3_3 e3_4
    exact ⟨⟨z0, z1, x2, x3⟩, ⟨a2, c2, a3, c3, rfl, rg_of w0, ⟨r2, r3⟩, f2, f3⟩, s2, s3⟩
set_option maxRecDepth 100000 in
set_option maxHeartbeats 1000000 in
theorem wopen_line {H : Type} {enc : TypeId × Value → H} {W : World} (fuel : Nat) (cs : List Value) (x : DataW H × List MemPlace) (hf : DataW.trod enc Tryz.prog W 0 (fun _ => true) true fuel 78 cs = some x) (hz : ∀ n ∈ x.1.weights Tryz.prog 78, n ≤ reachBytes) : ∃ o : Ln, eL.E W AnyB o cs ∧ (SwL o) := by
  obtain ⟨xs, n, hfu, hx, hcl, hl, hg⟩ := DataW.trod_struct Tryz.underlying78 hf
  rw [show Tryz.prog.cellsOf 78 = 7 from by kernel_rfl] at hcl
  match cs, hcl, xs, hl with
  | [v0, v1, v2, v3, v4, v5, v6], _, [y0, y1, y2, y3, y4, y5, y6], _ =>
    have g0 := hg 0 _ rfl
    have g1 := hg 1 _ rfl
    have g2 := hg 2 _ rfl
    have g3 := hg 3 _ rfl
    have g4 := hg 4 _ rfl
    have g5 := hg 5 _ rfl
    have g6 := hg 6 _ rfl
    simp [cellsI, cellsS, cellsBo, cellsSC] at g0 g1 g2 g3 g4 g5 g6
    obtain ⟨s0, e0, _, _⟩ := DataW.trod_string Tryz.underlying9 g0
    obtain ⟨z1, e1, _⟩ := DataW.trod_bool Tryz.underlying4 g1
    obtain ⟨z2, e2, _⟩ := DataW.trod_bool Tryz.underlying4 g2
    obtain ⟨z3, e3, _, w3⟩ := DataW.trod_int Tryz.underlying3 g3
    obtain ⟨z4, e4, _, w4⟩ := DataW.trod_int Tryz.underlying3 g4
    obtain ⟨z5, e5, _, w5⟩ := DataW.trod_int Tryz.underlying3 g5
    obtain ⟨l6, a6, c6, e6, h6, R6, Z6⟩ := wopen_row eC SwC Tryz.underlying76 (by kernel_rfl) (by decide) (of_decide_eq_true (by kernel_rfl)) g6 (fun n hn => hz n (by rw [hx]; simp only [DataW.weights, Tryz.underlying78]; exact DataW.weights_mem_each (j := 6) (t := 76) (d := y6.1) rfl rfl _ hn)) (fun m cs' x' _ _ h hz => wopen_clause m cs' x' h hz)
    simp at e0 e1 e2 e3 e4 e5 e6
    subst e0
    subst e1
    subst e2
    subst e3
    subst e4
    subst e5
    subst e6
    exact ⟨⟨s0.data.toList, z1, z2, z3, z4, z5, l6⟩, ⟨a6, c6, rfl, ⟨rg_of w3, rg_of w4, rg_of w5⟩, R6⟩, h6, Z6⟩
set_option maxRecDepth 100000 in
set_option maxHeartbeats 1000000 in
theorem wopen_check {H : Type} {enc : TypeId × Value → H} {W : World} (fuel : Nat) (cs : List Value) (x : DataW H × List MemPlace) (hf : DataW.trod enc Tryz.prog W 0 (fun _ => true) true fuel 75 cs = some x) (hz : ∀ n ∈ x.1.weights Tryz.prog 75, n ≤ reachBytes) : ∃ o : Ck, eK.E W AnyB o cs ∧ (SwE o.when_) := by
  obtain ⟨xs, n, hfu, hx, hcl, hl, hg⟩ := DataW.trod_struct Tryz.underlying75 hf
  rw [show Tryz.prog.cellsOf 75 = 9 from by kernel_rfl] at hcl
  match cs, hcl, xs, hl with
  | [v0, v1, v2, v3, v4, v5, v6, v7, v8], _, [y0, y1, y2, y3, y4], _ =>
    have g0 := hg 0 _ rfl
    have g1 := hg 1 _ rfl
    have g2 := hg 2 _ rfl
    have g3 := hg 3 _ rfl
    have g4 := hg 4 _ rfl
    simp [cellsI, cellsS, cellsBo, cellsE] at g0 g1 g2 g3 g4
    obtain ⟨s0, e0, _, _⟩ := DataW.trod_string Tryz.underlying9 g0
    obtain ⟨z1, e1, _⟩ := DataW.trod_bool Tryz.underlying4 g1
    obtain ⟨z2, e2, _, w2⟩ := DataW.trod_int Tryz.underlying3 g2
    obtain ⟨x3, ⟨a3, c3, e3, r3, f3⟩, s3⟩ := wopen_expr _ _ _ g3 (fun n hn => hz n (by rw [hx]; simp only [DataW.weights, Tryz.underlying75]; exact DataW.weights_mem_each (j := 3) (t := 73) (d := y3.1) rfl rfl _ hn))
    obtain ⟨s4, e4, _, _⟩ := DataW.trod_string Tryz.underlying9 g4
    simp at e0 e1 e2 e3 e4
    subst e0
    subst e1
    subst e2
    obtain ⟨e3_0, e3_1, e3_2, e3_3, e3_4⟩ := e3
    subst e3_0 e3_1 e3_2 e3_3 e3_4
    subst e4
    exact ⟨⟨s0.data.toList, z1, z2, x3, s4.data.toList⟩, ⟨a3, c3, rfl, rg_of w2, r3, f3⟩, s3⟩
set_option maxRecDepth 100000 in
set_option maxHeartbeats 1000000 in
theorem wopen_pack {H : Type} {enc : TypeId × Value → H} {W : World} (fuel : Nat) (cs : List Value) (x : DataW H × List MemPlace) (hf : DataW.trod enc Tryz.prog W 0 (fun _ => true) true fuel 28 cs = some x) (hz : ∀ n ∈ x.1.weights Tryz.prog 28, n ≤ reachBytes) : ∃ o : Pk, PkE W AnyB o cs ∧ (SwP o) := by
  obtain ⟨xs, n, hfu, hx, hcl, hl, hg⟩ := DataW.trod_struct Tryz.underlying28 hf
  rw [show Tryz.prog.cellsOf 28 = 7 from by kernel_rfl] at hcl
  match cs, hcl, xs, hl with
  | [v0, v1, v2, v3, v4, v5, v6], _, [y0, y1, y2, y3, y4, y5, y6], _ =>
    have g0 := hg 0 _ rfl
    have g1 := hg 1 _ rfl
    have g2 := hg 2 _ rfl
    have g3 := hg 3 _ rfl
    have g4 := hg 4 _ rfl
    have g5 := hg 5 _ rfl
    have g6 := hg 6 _ rfl
    simp [cellsI, cellsS, cellsSG, cellsSK, cellsSL, cellsSO, cellsST] at g0 g1 g2 g3 g4 g5 g6
    obtain ⟨s0, e0, _, _⟩ := DataW.trod_string Tryz.underlying9 g0
    obtain ⟨z1, e1, _, w1⟩ := DataW.trod_int Tryz.underlying3 g1
    obtain ⟨l2, a2, c2, e2, h2, R2, Z2⟩ := wopen_row eO (fun o => o.2.length ≤ 140737488355328) Tryz.underlying22 (by kernel_rfl) (by decide) (of_decide_eq_true (by kernel_rfl)) g2 (fun n hn => hz n (by rw [hx]; simp only [DataW.weights, Tryz.underlying28]; exact DataW.weights_mem_each (j := 2) (t := 22) (d := y2.1) rfl rfl _ hn)) (fun m cs' x' _ _ h hz => wopen_options m cs' x' h hz)
    obtain ⟨l3, a3, c3, e3, h3, R3, Z3⟩ := wopen_row eT (fun o => o.2.length ≤ 140737488355328) Tryz.underlying23 (by kernel_rfl) (by decide) (of_decide_eq_true (by kernel_rfl)) g3 (fun n hn => hz n (by rw [hx]; simp only [DataW.weights, Tryz.underlying28]; exact DataW.weights_mem_each (j := 3) (t := 23) (d := y3.1) rfl rfl _ hn)) (fun m cs' x' _ _ h hz => wopen_table m cs' x' h hz)
    obtain ⟨l4, a4, c4, e4, h4, R4, _⟩ := wopen_row eG (fun _ => True) Tryz.underlying24 (by kernel_rfl) (by decide) (of_decide_eq_true (by kernel_rfl)) g4 (fun n hn => hz n (by rw [hx]; simp only [DataW.weights, Tryz.underlying28]; exact DataW.weights_mem_each (j := 4) (t := 24) (d := y4.1) rfl rfl _ hn)) (fun m cs' x' _ _ h hz => wopen_group m cs' x' h hz)
    obtain ⟨l5, a5, c5, e5, h5, R5, Z5⟩ := wopen_row eL SwL Tryz.underlying25 (by kernel_rfl) (by decide) (of_decide_eq_true (by kernel_rfl)) g5 (fun n hn => hz n (by rw [hx]; simp only [DataW.weights, Tryz.underlying28]; exact DataW.weights_mem_each (j := 5) (t := 25) (d := y5.1) rfl rfl _ hn)) (fun m cs' x' _ _ h hz => wopen_line m cs' x' h hz)
    obtain ⟨l6, a6, c6, e6, h6, R6, Z6⟩ := wopen_row eK (fun o => SwE o.when_) Tryz.underlying26 (by kernel_rfl) (by decide) (of_decide_eq_true (by kernel_rfl)) g6 (fun n hn => hz n (by rw [hx]; simp only [DataW.weights, Tryz.underlying28]; exact DataW.weights_mem_each (j := 6) (t := 26) (d := y6.1) rfl rfl _ hn)) (fun m cs' x' _ _ h hz => wopen_check m cs' x' h hz)
    simp at e0 e1 e2 e3 e4 e5 e6
    subst e0
    subst e1
    subst e2
    subst e3
    subst e4
    subst e5
    subst e6
    exact ⟨⟨s0.data.toList, z1, l2, l3, l4, l5, l6⟩, ⟨a2, c2, a3, c3, a4, c4, a5, c5, a6, c6, rfl, rg_of w1, R2, R3, R4, R5, R6⟩, ⟨h2, Z2⟩, ⟨h3, Z3⟩, h4, ⟨h5, Z5⟩, h6, Z6⟩


end Go.Proofs.YthnmjafoplfikaaGreatDoor


namespace Go.Proofs.YthnmjafoplfikaaGreatDoor
open Go.RowKit

theorem toL_sw : ∀ f : Fo, SwF f → ∀ x ∈ toL f, SwE x
  | .nil, _, x, hx => by cases hx
  | .cons a b c d y r, h, x, hx => by
    rcases List.mem_cons.1 hx with rfl | hx
    · exact h.1
    · exact toL_sw r h.2 x hx
/-- What exprParts tells: all parts, if they are at most so many. -/
def PtR (x : Ex) (most : Int) (W : World) (e : Ending) (W' : World) : Prop := ∃ r : Int, e = .returned (.int .i64 r) ∧ (1 ≤ r ∧ r ≤ most + 1) ∧ Hid (r ≤ most → r = 1 + (cN x.args : Int)) ∧ Below W.heap.size W W'
theorem bel_cellR {W W' : World} (h : Below W.heap.size W W') {b i : Nat} {v : Value} (hc : W.cell? ⟨b, i, none⟩ = some v) : W'.cell? ⟨b, i, none⟩ = some v := (h.cell (p := ⟨b, i, none⟩) (World.block_lt_of_cell? _ _ hc)).trans hc
theorem bel2 {W A B : World} (h : Below W.heap.size W A) (k : Below A.heap.size A B) : Below W.heap.size W B := h.trans (k.mono h.size)

set_option maxRecDepth 4000 in
set_option maxHeartbeats 4000000 in
theorem parts_s (x : Ex) (ih : ∀ y : Ex, cN y.args < cN x.args → ∀ (a : Option Addr) (cap : Nat) (W : World) (most : Int), 0 ≤ most → most ≤ 10000 → SwE y → FoAt W AnyB y.args a → Calls Tryz.prog 17 #[.agg #[.int .i64 y.op, .int .i64 y.num, .int .i64 y.den, .int .i64 y.mode, .slice a y.args.len cap], .int .i64 most] W (PtR y most W))
    (a : Option Addr) (cap : Nat) (W : World) (most : Int) (hm0 : 0 ≤ most) (hm1 : most ≤ 10000) (hS : SwE x) (hF : FoAt W AnyB x.args a) : Calls Tryz.prog 17 #[.agg #[.int .i64 x.op, .int .i64 x.num, .int .i64 x.den, .int .i64 x.mode, .slice a x.args.len cap], .int .i64 most] W (PtR x most W) := by
  have hb0 := bel_alloc W (.cells #[.int .i64 x.op, .int .i64 x.num, .int .i64 x.den, .int .i64 x.mode, .slice a x.args.len cap] 73)
  have hr0 := heap_alloc_new W (.cells #[.int .i64 x.op, .int .i64 x.num, .int .i64 x.den, .int .i64 x.mode, .slice a x.args.len cap] 73)
  have hrow := row_of_fo (fo_bel hF hb0 (Nat.le_refl _))
  have hsw := Hid.mk (toL_sw _ hS.2)
  have hlen := hS.1
  rw [← toL_len] at hlen hr0 hb0 hrow ⊢
  have hcN := Hid.mk (cL_toL x.args)
  have hcm := Hid.mk (cL_mem (toL x.args))
  have ihH := Hid.mk ih
  clear ih hF hS
  go_enter Tryz.func17, Tryz.ntmps17
  go_wp2
  generalize hX : W.alloc (.cells #[.int .i64 x.op, .int .i64 x.num, .int .i64 x.den, .int .i64 x.mode, .slice a (toL x.args).length cap] 73) = X at *
  clear hX
  have c4 : X.cell? ⟨W.heap.size, 4, none⟩ = some (.slice a (toL x.args).length cap) := cell_of_row _ _ 4 _ _ _ hr0
  generalize hxs : toL x.args = xs at *
  have hXl := (Array.getElem?_eq_some_iff.1 hr0).1
  clear hxs hr0
  go_loopw [5, 6] (fun nv iv wr => ∃ (k : Nat) (n : Int), k ≤ xs.length ∧ iv = .int .i64 (k : Int) ∧ nv = .int .i64 n ∧ (1 ≤ n ∧ n ≤ most + 1) ∧ Hid (n ≤ most → n = 1 + (cL (xs.take k) : Int)) ∧ Below X.heap.size X wr) (fun _ iv _ => xs.length - (intOf iv).toNat)
  case atStart => exact ⟨0, 1, Nat.zero_le _, rfl, rfl, ⟨by omega, by omega⟩, ⟨fun _ => by simp [cL]⟩, Below.refl _ _⟩
  case round =>
    obtain ⟨k, n, hk, rfl, rfl, ⟨hn0, hn1⟩, hn, hb⟩ := hrel
    have d4 := (hb.cell (p := ⟨W.heap.size, 4, none⟩) hXl).trans c4
    by_cases hlt : k < xs.length
    · have hlt' : (k : Int) < (xs.length : Int) := by omega
      have hk0 : (0 : Int) ≤ (k : Int) := by omega
      by_cases hle : n ≤ most
      · obtain ⟨ga, oa, rfl⟩ : ∃ ga oa, a = some ⟨ga, oa, none⟩ := by
          rcases hrow with h0 | ⟨ga, oa, -, h1, -⟩
          · rw [h0] at hlt; simp at hlt
          · exact ⟨ga, oa, h1⟩
        obtain ⟨cx, hcl, -, hE1, hcc⟩ := (row_bel hrow hb (Nat.le_refl _)).item hlt
        have hym : xs[k] ∈ xs := List.getElem_mem hlt
        have htk : Hid (cL (xs.take (k + 1)) = cL (xs.take k) + (1 + cN xs[k].args)) := ⟨by rw [List.take_succ_eq_append_getElem hlt, cL_snoc]⟩
        have hsy := hsw.out _ hym
        have hcy := hcm.out _ hym
        have hc0 := hcc 0 (by decide)
        have hc1 := hcc 1 (by decide)
        have hc2 := hcc 2 (by decide)
        have hc3 := hcc 3 (by decide)
        have hc4 := hcc 4 (by decide)
        generalize xs[k] = y at *
        obtain ⟨a1, c1, rfl, -, hFo⟩ := hE1
        have e0 : wr.cell? ⟨ga, oa + k * 5, none⟩ = some (.int .i64 y.op) := hc0
        have e1 : wr.cell? ⟨ga, oa + k * 5 + 1, none⟩ = some (.int .i64 y.num) := hc1
        have e2 : wr.cell? ⟨ga, oa + k * 5 + 2, none⟩ = some (.int .i64 y.den) := hc2
        have e3 : wr.cell? ⟨ga, oa + k * 5 + 3, none⟩ = some (.int .i64 y.mode) := hc3
        have e4 : wr.cell? ⟨ga, oa + k * 5 + 4, none⟩ = some (.slice a1 y.args.len c1) := hc4
        have hcall := ihH.out y (by have := hcN.out; omega) a1 c1 wr (most - n) (by omega) (by omega) hsy hFo
        have hnv := hn.out hle
        have hnvH := Hid.mk hnv
        clear hc0 hc1 hc2 hc3 hc4 hcc hcl hn hnv hcy hsy
        go_wp2_with (go_at_call 17; fail)
        refine hcall.mono ?_
        rintro e w3 ⟨r, rfl, ⟨hr0, hr1⟩, hr, hb3⟩
        clear e0 e1 e2 e3 e4 hcall
        go_wp2
        go_roundw
        case rel =>
          refine ⟨k + 1, n + r, by omega, by go_num, by go_num, ⟨by omega, by omega⟩, ⟨fun h => ?_⟩, bel2 hb hb3⟩
          have h1 := hr.out (by omega)
          have h2 := hnvH.out
          have h3 := htk.out
          omega
        case measure => simp [intOf]; omega
      · have hle' : ¬ n ≤ most := hle
        clear hn
        go_wp2
        go_ret
        exact ⟨n, rfl, ⟨hn0, hn1⟩, ⟨fun h => by omega⟩, bel2 hb0 hb⟩
    · have hlt' : ¬ (k : Int) < (xs.length : Int) := by omega
      obtain rfl : k = xs.length := by omega
      go_wp2
      go_ret
      refine ⟨n, rfl, ⟨hn0, hn1⟩, ⟨fun h => ?_⟩, bel2 hb0 hb⟩
      have h1 := hn.out h
      rw [List.take_length, hcN.out] at h1
      exact h1

theorem parts_any : ∀ (n : Nat) (x : Ex), cN x.args < n → ∀ (a : Option Addr) (cap : Nat) (W : World) (most : Int), 0 ≤ most → most ≤ 10000 → SwE x → FoAt W AnyB x.args a → Calls Tryz.prog 17 #[.agg #[.int .i64 x.op, .int .i64 x.num, .int .i64 x.den, .int .i64 x.mode, .slice a x.args.len cap], .int .i64 most] W (PtR x most W)
  | 0, _, h => absurd h (Nat.not_lt_zero _)
  | n + 1, x, h => fun a cap W most h0 h1 hS hF => parts_s x (fun y hy => parts_any n y (by omega)) a cap W most h0 h1 hS hF

set_option maxRecDepth 4000 in
set_option maxHeartbeats 4000000 in
theorem parts_neg (x : Ex) (a : Option Addr) (cap : Nat) (W : World) (hS : SwE x) : Calls Tryz.prog 17 #[.agg #[.int .i64 x.op, .int .i64 x.num, .int .i64 x.den, .int .i64 x.mode, .slice a x.args.len cap], .int .i64 (-1)] W (fun e W' => e = .returned (.int .i64 1) ∧ Below W.heap.size W W') := by
  have hb0 := bel_alloc W (.cells #[.int .i64 x.op, .int .i64 x.num, .int .i64 x.den, .int .i64 x.mode, .slice a x.args.len cap] 73)
  have hr0 := heap_alloc_new W (.cells #[.int .i64 x.op, .int .i64 x.num, .int .i64 x.den, .int .i64 x.mode, .slice a x.args.len cap] 73)
  have hlen := hS.1
  generalize x.args.len = m at *
  clear hS
  go_enter Tryz.func17, Tryz.ntmps17
  go_wp2
  generalize hX : W.alloc (.cells #[.int .i64 x.op, .int .i64 x.num, .int .i64 x.den, .int .i64 x.mode, .slice a m cap] 73) = X at *
  clear hX
  have c4 : X.cell? ⟨W.heap.size, 4, none⟩ = some (.slice a m cap) := cell_of_row _ _ 4 _ _ _ hr0
  clear hr0
  go_loopw [5, 6] (fun nv iv wr => iv = .int .i64 0 ∧ nv = .int .i64 1 ∧ wr = X) (fun _ _ _ => 0)
  case atStart => exact ⟨rfl, rfl, rfl⟩
  case round =>
    obtain ⟨rfl, rfl, rfl⟩ := hrel
    by_cases hlt : (0 : Int) < (m : Int)
    · go_wp2
      go_ret
      exact ⟨rfl, hb0⟩
    · go_wp2
      go_ret
      exact ⟨rfl, hb0⟩
/-- The same for a bound that may be -1. -/
theorem parts_two (x : Ex) (a : Option Addr) (cap : Nat) (W : World) (most : Int) (h0 : -1 ≤ most) (h1 : most ≤ 10000) (hS : SwE x) (hF : FoAt W AnyB x.args a) : Calls Tryz.prog 17 #[.agg #[.int .i64 x.op, .int .i64 x.num, .int .i64 x.den, .int .i64 x.mode, .slice a x.args.len cap], .int .i64 most] W (fun e W' => ∃ r : Int, e = .returned (.int .i64 r) ∧ (1 ≤ r ∧ r ≤ 10001 ∧ (0 ≤ most → r ≤ most + 1)) ∧ Hid (r ≤ most → r = 1 + (cN x.args : Int)) ∧ Below W.heap.size W W') := by
  by_cases hm : 0 ≤ most
  · refine (parts_any (cN x.args + 1) x (Nat.lt_succ_self _) a cap W most hm h1 hS hF).mono ?_
    rintro e w ⟨r, rfl, ⟨hr0, hr1⟩, hr, hb⟩
    exact ⟨r, rfl, ⟨hr0, by omega, fun _ => hr1⟩, hr, hb⟩
  · obtain rfl : most = -1 := by omega
    refine (parts_neg x a cap W hS).mono ?_
    rintro e w ⟨rfl, hb⟩
    exact ⟨1, rfl, ⟨by omega, by omega, fun h => by omega⟩, ⟨fun h => by omega⟩, hb⟩

end Go.Proofs.YthnmjafoplfikaaGreatDoor


namespace Go.Proofs.YthnmjafoplfikaaGreatDoor
open Go.RowKit

/-- What Few tells. -/
def FwP (p : Pk) (W : World) (e : Ending) (W' : World) : Prop := ∃ o : Bool, e = .returned (.bool o) ∧ Below W.heap.size W W' ∧ Hid (o = true → SzR p ∧ cP p ≤ 1000000)
/-- So many parts are counted. -/
def sL {α β : Type} (xs : List (α × List β)) : Nat := cSum (fun x => x.2.length) xs
def wC2 (c : Cl) : Nat := 2 + cN c.guard.args + cN c.body.args
theorem sum_mem {α : Type} (f : α → Nat) : ∀ (xs : List α) (x : α), x ∈ xs → f x ≤ cSum f xs
  | [], x, h => by cases h
  | y :: ys, x, h => by
    have h0 : cSum f (y :: ys) = f y + cSum f ys := by simp [cSum]
    rcases List.mem_cons.1 h with rfl | h
    · omega
    · have := sum_mem f ys x h
      omega
theorem cSum_nil {α : Type} (f : α → Nat) : cSum f [] = 0 := rfl
theorem take_one {α : Type} (f : α → Nat) (xs : List α) (k : Nat) (h : k < xs.length) : cSum f (xs.take (k + 1)) = cSum f (xs.take k) + f xs[k] := by
  rw [List.take_succ_eq_append_getElem h, cSum_snoc]
/-- A box of seven cells. -/
theorem few_end (p : Pk) (n : Int) (hn : n ≤ 10000) (he : n = (p.opts.length : Int) + p.tabs.length + p.grps.length + p.lns.length + p.cks.length + cSum (fun x => x.2.length) p.opts + cSum (fun x => x.2.length) p.tabs + cSum wK p.cks + cSum (fun l : Ln => cSum wC l.cls) p.lns) : SzR p ∧ cP p ≤ 1000000 := by
  have hq : ∀ xs : List Ln, cSum wL xs = cSum (fun l : Ln => cSum wC l.cls) xs + xs.length := by
    intro xs
    induction xs with
    | nil => rfl
    | cons x xs ih =>
      have h1 : cSum wL (x :: xs) = wL x + cSum wL xs := by simp [cSum]
      have h2 : cSum (fun l : Ln => cSum wC l.cls) (x :: xs) = cSum wC x.cls + cSum (fun l : Ln => cSum wC l.cls) xs := by simp [cSum]
      have h3 : wL x = cSum wC x.cls + 1 := rfl
      rw [h1, h2, ih, h3, List.length_cons]; omega
  have hL := hq p.lns
  have hcl : ∀ xs : List Cl, xs.length ≤ cSum wC xs := by
    intro xs
    induction xs with
    | nil => exact Nat.le_refl _
    | cons x xs ih =>
      have h1 : cSum wC (x :: xs) = wC x + cSum wC xs := by simp [cSum]
      have h3 : wC x = cN x.guard.args + cN x.body.args + 2 := rfl
      rw [h1, h3, List.length_cons]; omega
  have e1 : cLn p.lns = cSum wL p.lns := rfl
  have e2 : cK p.cks = cSum wK p.cks := rfl
  refine ⟨⟨by omega, fun x hx => ?_, by omega, fun x hx => ?_, by omega, by omega, fun x hx => ?_, by omega, by omega, by omega⟩, ?_⟩
  · have := sum_mem (fun x : List UInt8 × List (List UInt8) => x.2.length) _ x hx
    omega
  · have := sum_mem (fun x : List UInt8 × List (Int × Int) => x.2.length) _ x hx
    omega
  · have h1 := sum_mem (fun l : Ln => cSum wC l.cls) _ x hx
    have h2 := hcl x.cls
    omega
  · unfold cP cO; omega

set_option maxRecDepth 4000 in
set_option maxHeartbeats 4000000 in
theorem few_any (p : Pk) (a3 a4 a5 a6 a7 : Option Addr) (c3 c4 c5 c6 c7 : Nat) (W : World) (hs : SwP p) (h0 : RowR eO W AnyB p.opts a3) (h1 : RowR eT W AnyB p.tabs a4) (h3 : RowR eL W AnyB p.lns a6) (h4 : RowR eK W AnyB p.cks a7) :
    Calls Tryz.prog 4 #[.agg #[.string ⟨p.name.toArray⟩, .int .i64 p.year, .slice a3 p.opts.length c3, .slice a4 p.tabs.length c4, .slice a5 p.grps.length c5, .slice a6 p.lns.length c6, .slice a7 p.cks.length c7]] W (FwP p W) := by
  obtain ⟨A, hA⟩ : ∃ A, A = Obj.cells #[.string ⟨p.name.toArray⟩, .int .i64 p.year, .slice a3 p.opts.length c3, .slice a4 p.tabs.length c4, .slice a5 p.grps.length c5, .slice a6 p.lns.length c6, .slice a7 p.cks.length c7] 28 := ⟨_, rfl⟩
  have hb0 := bel_alloc W A
  have hr0 := heap_alloc_new W A
  obtain ⟨X, hX⟩ : ∃ X, X = W.alloc A := ⟨_, rfl⟩
  rw [← hX] at hb0 hr0
  rw [hA] at hr0 hX
  have hXl : W.heap.size < X.heap.size := (Array.getElem?_eq_some_iff.1 hr0).1
  have hXe : W.alloc (.cells #[.string ⟨p.name.toArray⟩, .int .i64 p.year, .slice a3 p.opts.length c3, .slice a4 p.tabs.length c4, .slice a5 p.grps.length c5, .slice a6 p.lns.length c6, .slice a7 p.cks.length c7] 28) = X := hX.symm
  have hOr := row_bel h0 hb0 (Nat.le_refl _)
  have hTr := row_bel h1 hb0 (Nat.le_refl _)
  have hLr := row_bel h3 hb0 (Nat.le_refl _)
  have hKr := row_bel h4 hb0 (Nat.le_refl _)
  have b2 : X.cell? ⟨W.heap.size, 2, none⟩ = some (.slice a3 p.opts.length c3) := cell_of_row _ _ 2 _ _ _ hr0
  have b3 : X.cell? ⟨W.heap.size, 3, none⟩ = some (.slice a4 p.tabs.length c4) := cell_of_row _ _ 3 _ _ _ hr0
  have b4 : X.cell? ⟨W.heap.size, 4, none⟩ = some (.slice a5 p.grps.length c5) := cell_of_row _ _ 4 _ _ _ hr0
  have b5 : X.cell? ⟨W.heap.size, 5, none⟩ = some (.slice a6 p.lns.length c6) := cell_of_row _ _ 5 _ _ _ hr0
  have b6 : X.cell? ⟨W.heap.size, 6, none⟩ = some (.slice a7 p.cks.length c7) := cell_of_row _ _ 6 _ _ _ hr0
  obtain ⟨⟨so, so2⟩, ⟨st, st2⟩, sg, ⟨sl, sl2⟩, sk, sk2⟩ := hs
  have hfin := Hid.mk (few_end p)
  obtain ⟨Q, hQ⟩ : ∃ Q, FwP p W = Q := ⟨_, rfl⟩
  have hno : Hid (∀ (o : Bool) W', Below X.heap.size X W' → (o = true → SzR p ∧ cP p ≤ 1000000) → Q (.returned (.bool o)) W') := ⟨fun o W' hb ho => by rw [← hQ]; exact ⟨o, rfl, bel2 hb0 hb, ⟨ho⟩⟩⟩
  rw [hQ]
  generalize hOs : p.opts = os at *
  generalize hTs : p.tabs = ts at *
  generalize hLs : p.lns = ls at *
  generalize hKs : p.cks = ks at *
  generalize hGs : p.grps.length = gl at *
  replace so2 := Hid.mk so2
  replace st2 := Hid.mk st2
  replace sl2 := Hid.mk sl2
  replace sk2 := Hid.mk sk2
  clear hX hA hr0 hb0 h0 h1 h3 h4 hOs hTs hLs hKs hGs hQ
  go_enter Tryz.func4, Tryz.ntmps4
  go_upto_block 0 with fail
  have hN0 : (0 : Int) ≤ (os.length : Int) + ts.length + gl + ls.length + ks.length ∧ (os.length : Int) + ts.length + gl + ls.length + ks.length ≤ 1000000000000000 := by omega
  obtain ⟨N0, hN0e⟩ : ∃ N0 : Int, N0 = (os.length : Int) + ts.length + gl + ls.length + ks.length := ⟨_, rfl⟩
  rw [← hN0e] at hN0 ⊢
  replace hN0e := Hid.mk hN0e
  go_cut [3] (fun nv wx => ∃ n : Int, nv = .int .i64 n ∧ Below X.heap.size X wx ∧ (0 ≤ n ∧ n ≤ 1000000000000000) ∧ Hid (n ≤ 10000 → n = N0 + cSum (fun x : List UInt8 × List (List UInt8) => x.2.length) os))
  case first =>
    go_wp2_with fail
    go_loopw [3, 4] (fun nv iv wr => ∃ (k : Nat) (n : Int), k ≤ os.length ∧ iv = .int .i64 (k : Int) ∧ nv = .int .i64 n ∧ (0 ≤ n ∧ n ≤ 1000000000000000) ∧ Hid (n ≤ 10000 → n = N0 + cSum (fun x : List UInt8 × List (List UInt8) => x.2.length) (os.take k)) ∧ Below X.heap.size X wr) (fun _ iv _ => os.length - (intOf iv).toNat)
    case atStart => exact ⟨0, N0, Nat.zero_le _, rfl, rfl, ⟨by omega, by omega⟩, ⟨fun _ => by simp [cSum]⟩, Below.refl _ _⟩
    case round =>
      obtain ⟨k, n, hk, rfl, rfl, ⟨hn0, hn1⟩, hn, hb⟩ := hrel
      obtain ⟨wz, hwz⟩ : ∃ wz, wz = wr := ⟨_, rfl⟩
      rw [← hwz] at hb ⊢
      clear hwz
      have d := (bel_cell hb hXl 2).trans b2
      by_cases hlt : k < os.length
      · have hlt' : (k : Int) < (os.length : Int) := by omega
        have hk0 : (0 : Int) ≤ (k : Int) := by omega
        by_cases hle : n ≤ 10000
        · obtain ⟨ga, oa, hga⟩ := hOr.some hlt
          have hrw := row_bel hOr hb (Nat.le_refl _)
          rw [hga] at hrw d
          clear hga
          obtain ⟨cx, hcl, -, hE1, hcc⟩ := hrw.item hlt
          have hym := so2.out _ (List.getElem_mem hlt)
          have htk := Hid.mk (take_one (fun x : List UInt8 × List (List UInt8) => x.2.length) os k hlt)
          generalize os[k] = y at *
          obtain ⟨a1, c1, rfl, -⟩ := hE1
          have e1 : wz.cell? ⟨ga, oa + k * 2 + 1, none⟩ = some (.slice a1 y.2.length c1) := hcc 1 (by decide)
          have hnv := hn.out hle
          have hnvH := Hid.mk hnv
          clear hcc hcl hn hnv hrw
          go_wp2
          go_roundw
          case rel => exact ⟨k + 1, n + (y.2.length : Int), by omega, by go_num, by go_num, ⟨by omega, by omega⟩, ⟨fun h => by have h2 := hnvH.out; have h3 := htk.out; omega⟩, hb⟩
          case measure => simp [intOf]; omega
        · have hle' : ¬ n ≤ 10000 := hle
          clear hn
          go_wp2_with fail
          go_meet
          exact ⟨n, rfl, hb, ⟨hn0, hn1⟩, ⟨fun h => by omega⟩⟩
      · have hlt' : ¬ (k : Int) < (os.length : Int) := by omega
        obtain rfl : k = os.length := by omega
        rw [List.take_length] at hn
        go_wp2_with fail
        go_meet
        exact ⟨n, rfl, hb, ⟨hn0, hn1⟩, hn⟩
  case rest =>
  obtain ⟨N1, rfl, hb1, ⟨hn10, hn11⟩, hN1⟩ := hcut
  obtain ⟨w1, hw1⟩ : ∃ w1, w1 = wc := ⟨_, rfl⟩
  rw [← hw1] at hb1 ⊢
  clear hw1
  go_upto_block 2 with fail
  go_cut [3] (fun nv wx => ∃ n : Int, nv = .int .i64 n ∧ Below X.heap.size X wx ∧ (0 ≤ n ∧ n ≤ 1000000000000000) ∧ Hid (n ≤ 10000 → n = N1 + cSum (fun x : List UInt8 × List (Int × Int) => x.2.length) ts))
  case first =>
    go_wp2_with fail
    go_loopw [3, 5] (fun nv iv wr => ∃ (k : Nat) (n : Int), k ≤ ts.length ∧ iv = .int .i64 (k : Int) ∧ nv = .int .i64 n ∧ (0 ≤ n ∧ n ≤ 1000000000000000) ∧ Hid (n ≤ 10000 → n = N1 + cSum (fun x : List UInt8 × List (Int × Int) => x.2.length) (ts.take k)) ∧ Below X.heap.size X wr) (fun _ iv _ => ts.length - (intOf iv).toNat)
    case atStart => exact ⟨0, N1, Nat.zero_le _, rfl, rfl, ⟨by omega, by omega⟩, ⟨fun _ => by simp [cSum]⟩, hb1⟩
    case round =>
      obtain ⟨k, n, hk, rfl, rfl, ⟨hn0, hn1⟩, hn, hb⟩ := hrel
      obtain ⟨wz, hwz⟩ : ∃ wz, wz = wr := ⟨_, rfl⟩
      rw [← hwz] at hb ⊢
      clear hwz
      have d := (bel_cell hb hXl 3).trans b3
      by_cases hlt : k < ts.length
      · have hlt' : (k : Int) < (ts.length : Int) := by omega
        have hk0 : (0 : Int) ≤ (k : Int) := by omega
        by_cases hle : n ≤ 10000
        · obtain ⟨ga, oa, hga⟩ := hTr.some hlt
          have hrw := row_bel hTr hb (Nat.le_refl _)
          rw [hga] at hrw d
          clear hga
          obtain ⟨cx, hcl, -, hE1, hcc⟩ := hrw.item hlt
          have hym := st2.out _ (List.getElem_mem hlt)
          have htk := Hid.mk (take_one (fun x : List UInt8 × List (Int × Int) => x.2.length) ts k hlt)
          generalize ts[k] = y at *
          obtain ⟨a1, c1, rfl, -⟩ := hE1
          have e1 : wz.cell? ⟨ga, oa + k * 2 + 1, none⟩ = some (.slice a1 y.2.length c1) := hcc 1 (by decide)
          have hnv := hn.out hle
          have hnvH := Hid.mk hnv
          clear hcc hcl hn hnv hrw
          go_wp2
          go_roundw
          case rel => exact ⟨k + 1, n + (y.2.length : Int), by omega, by go_num, by go_num, ⟨by omega, by omega⟩, ⟨fun h => by have h2 := hnvH.out; have h3 := htk.out; omega⟩, hb⟩
          case measure => simp [intOf]; omega
        · have hle' : ¬ n ≤ 10000 := hle
          clear hn
          go_wp2_with fail
          go_meet
          exact ⟨n, rfl, hb, ⟨hn0, hn1⟩, ⟨fun h => by omega⟩⟩
      · have hlt' : ¬ (k : Int) < (ts.length : Int) := by omega
        obtain rfl : k = ts.length := by omega
        rw [List.take_length] at hn
        go_wp2_with fail
        go_meet
        exact ⟨n, rfl, hb, ⟨hn0, hn1⟩, hn⟩
  case rest =>
  obtain ⟨N2, rfl, hb2, ⟨hn20, hn21⟩, hN2⟩ := hcut
  obtain ⟨w2, hw2⟩ : ∃ w2, w2 = wc := ⟨_, rfl⟩
  rw [← hw2] at hb2 ⊢
  clear hw2
  go_upto_block 4 with fail
  go_cut [3] (fun nv wx => ∃ n : Int, nv = .int .i64 n ∧ Below X.heap.size X wx ∧ (0 ≤ n ∧ n ≤ 1000000000000000) ∧ Hid (n ≤ 10000 → n = N2 + cSum wK ks))
  case first =>
    go_wp2_with fail
    go_loopw [3, 6] (fun nv iv wr => ∃ (k : Nat) (n : Int), k ≤ ks.length ∧ iv = .int .i64 (k : Int) ∧ nv = .int .i64 n ∧ (0 ≤ n ∧ n ≤ 1000000000000000) ∧ Hid (n ≤ 10000 → n = N2 + cSum wK (ks.take k)) ∧ Below X.heap.size X wr) (fun _ iv _ => ks.length - (intOf iv).toNat)
    case atStart => exact ⟨0, N2, Nat.zero_le _, rfl, rfl, ⟨by omega, by omega⟩, ⟨fun _ => by simp [cSum]⟩, hb2⟩
    case round =>
      obtain ⟨k, n, hk, rfl, rfl, ⟨hn0, hn1⟩, hn, hb⟩ := hrel
      obtain ⟨wz, hwz⟩ : ∃ wz, wz = wr := ⟨_, rfl⟩
      rw [← hwz] at hb ⊢
      clear hwz
      have d := (bel_cell hb hXl 6).trans b6
      by_cases hlt : k < ks.length
      · have hlt' : (k : Int) < (ks.length : Int) := by omega
        have hk0 : (0 : Int) ≤ (k : Int) := by omega
        by_cases hle : n ≤ 10000
        · obtain ⟨ga, oa, hga⟩ := hKr.some hlt
          have hrw := row_bel hKr hb (Nat.le_refl _)
          rw [hga] at hrw d
          clear hga
          obtain ⟨cx, hcl, -, hE1, hcc⟩ := hrw.item hlt
          have hym := sk2.out _ (List.getElem_mem hlt)
          have htk := Hid.mk (take_one wK ks k hlt)
          generalize ks[k] = y at *
          obtain ⟨a1, c1, rfl, -, -, hFo⟩ := hE1
          have e0 : wz.cell? ⟨ga, oa + k * 9 + 3, none⟩ = some (.int .i64 y.when_.op) := hcc 3 (by decide)
          have e1 : wz.cell? ⟨ga, oa + k * 9 + 4, none⟩ = some (.int .i64 y.when_.num) := hcc 4 (by decide)
          have e2 : wz.cell? ⟨ga, oa + k * 9 + 5, none⟩ = some (.int .i64 y.when_.den) := hcc 5 (by decide)
          have e3 : wz.cell? ⟨ga, oa + k * 9 + 6, none⟩ = some (.int .i64 y.when_.mode) := hcc 6 (by decide)
          have e4 : wz.cell? ⟨ga, oa + k * 9 + 7, none⟩ = some (.slice a1 y.when_.args.len c1) := hcc 7 (by decide)
          have hcall := parts_two y.when_ a1 c1 wz (10000 - n) (by omega) (by omega) hym hFo
          have hnv := hn.out hle
          have hnvH := Hid.mk hnv
          have hwy : Hid (wK y = cN y.when_.args + 1) := ⟨rfl⟩
          clear hcc hcl hn hnv hrw hFo hym
          go_wp2_with (go_at_call 17; fail)
          refine hcall.mono ?_
          rintro e w3 ⟨r, rfl, ⟨hr0, hr1, hrm⟩, hr, hb3⟩
          clear e0 e1 e2 e3 e4 hcall d hrm
          go_wp2
          go_roundw
          case rel => exact ⟨k + 1, n + r, by omega, by go_num, by go_num, ⟨by omega, by omega⟩, ⟨fun h => by have h1 := hr.out (by omega); have h2 := hnvH.out; have h3 := htk.out; have h4 := hwy.out; omega⟩, bel2 hb hb3⟩
          case measure => simp [intOf]; omega
        · have hle' : ¬ n ≤ 10000 := hle
          clear hn
          go_wp2_with fail
          go_meet
          exact ⟨n, rfl, hb, ⟨hn0, hn1⟩, ⟨fun h => by omega⟩⟩
      · have hlt' : ¬ (k : Int) < (ks.length : Int) := by omega
        obtain rfl : k = ks.length := by omega
        rw [List.take_length] at hn
        go_wp2_with fail
        go_meet
        exact ⟨n, rfl, hb, ⟨hn0, hn1⟩, hn⟩
  case rest =>
  obtain ⟨N3, rfl, hb3, ⟨hn30, hn31⟩, hN3⟩ := hcut
  obtain ⟨w3, hw3⟩ : ∃ w3, w3 = wc := ⟨_, rfl⟩
  rw [← hw3] at hb3 ⊢
  clear hw3
  go_upto_block 6 with fail
  go_cut [3] (fun nv wx => ∃ n : Int, nv = .int .i64 n ∧ Below X.heap.size X wx ∧ (0 ≤ n ∧ n ≤ 1000000000000000) ∧ Hid (n ≤ 10000 → n = N3 + cSum (fun l : Ln => cSum wC l.cls) ls))
  case first =>
    go_wp2_with fail
    go_loopw [3, 7] (fun nv iv wr => ∃ (k : Nat) (n : Int), k ≤ ls.length ∧ iv = .int .i64 (k : Int) ∧ nv = .int .i64 n ∧ (0 ≤ n ∧ n ≤ 1000000000000000) ∧ Hid (n ≤ 10000 → n = N3 + cSum (fun l : Ln => cSum wC l.cls) (ls.take k)) ∧ Below X.heap.size X wr) (fun _ iv _ => ls.length - (intOf iv).toNat)
    case atStart => exact ⟨0, N3, Nat.zero_le _, rfl, rfl, ⟨by omega, by omega⟩, ⟨fun _ => by simp [cSum]⟩, hb3⟩
    case round =>
      obtain ⟨k, n, hk, rfl, rfl, ⟨hn0, hn1⟩, hn, hb⟩ := hrel
      obtain ⟨wz, hwz⟩ : ∃ wz, wz = wr := ⟨_, rfl⟩
      rw [← hwz] at hb ⊢
      clear hwz
      have d := (bel_cell hb hXl 5).trans b5
      by_cases hlt : k < ls.length
      · have hlt' : (k : Int) < (ls.length : Int) := by omega
        have hk0 : (0 : Int) ≤ (k : Int) := by omega
        by_cases hle : n ≤ 10000
        · obtain ⟨ga, oa, hga⟩ := hLr.some hlt
          have hrw := row_bel hLr hb (Nat.le_refl _)
          rw [hga] at hrw d
          clear hga
          obtain ⟨cx, hcl, -, hE1, hcc⟩ := hrw.item hlt
          have hym := sl2.out _ (List.getElem_mem hlt)
          have htk := Hid.mk (take_one (fun l : Ln => cSum wC l.cls) ls k hlt)
          generalize ls[k] = y at *
          obtain ⟨a1, c1, rfl, -, hCr⟩ := hE1
          have e6 : wz.cell? ⟨ga, oa + k * 7 + 6, none⟩ = some (.slice a1 y.cls.length c1) := hcc 6 (by decide)
          have hnv := hn.out hle
          have hnvH := Hid.mk hnv
          have hyl := hym.1
          have hyl2 := Hid.mk hym.2
          have htk : Hid (cSum (fun l : Ln => cSum wC l.cls) (ls.take (k + 1)) = cSum (fun l : Ln => cSum wC l.cls) (ls.take k) + cSum wC y.cls) := htk
          generalize y.cls = cl at *
          clear hcc hcl hn hnv hrw hym
          · skip
            go_wp2_with fail
            clear d e6
            go_loopw [3, 9] (fun nv iv wr => ∃ (k2 : Nat) (m : Int), k2 ≤ cl.length ∧ iv = .int .i64 (k2 : Int) ∧ nv = .int .i64 m ∧ (0 ≤ m ∧ m ≤ 1000000000000000) ∧ Hid (m ≤ 10000 → m = n + cSum wC (cl.take k2)) ∧ Below wz.heap.size wz wr) (fun _ iv _ => cl.length - (intOf iv).toNat)
            case atStart => exact ⟨0, n, Nat.zero_le _, rfl, rfl, ⟨by omega, by omega⟩, ⟨fun _ => by simp [cSum]⟩, Below.refl _ _⟩
            case round =>
              obtain ⟨k2, m, hk2, rfl, rfl, ⟨hm0, hm1⟩, hm, hb'⟩ := hrel
              obtain ⟨wy, hwy⟩ : ∃ wy, wy = wr := ⟨_, rfl⟩
              rw [← hwy] at hb' ⊢
              clear hwy
              by_cases hlt2 : k2 < cl.length
              · have hlt2' : (k2 : Int) < (cl.length : Int) := by omega
                have hk20 : (0 : Int) ≤ (k2 : Int) := by omega
                by_cases hle2 : m ≤ 10000
                · obtain ⟨gb, ob, hgb⟩ := hCr.some hlt2
                  have hrw2 := row_bel hCr hb' (Nat.le_refl _)
                  rw [hgb] at hrw2 ⊢
                  clear hgb
                  obtain ⟨cx2, hcl2, -, hE2, hcc2⟩ := hrw2.item hlt2
                  have hym2 := hyl2.out _ (List.getElem_mem hlt2)
                  have htk2 := Hid.mk (take_one wC cl k2 hlt2)
                  generalize cl[k2] = z at *
                  obtain ⟨a2, c2, a3b, c3b, rfl, -, -, hFg, hFb⟩ := hE2
                  have e0 : wy.cell? ⟨gb, ob + k2 * 12 + 2, none⟩ = some (.int .i64 z.guard.op) := hcc2 2 (by decide)
                  have e1 : wy.cell? ⟨gb, ob + k2 * 12 + 3, none⟩ = some (.int .i64 z.guard.num) := hcc2 3 (by decide)
                  have e2 : wy.cell? ⟨gb, ob + k2 * 12 + 4, none⟩ = some (.int .i64 z.guard.den) := hcc2 4 (by decide)
                  have e3 : wy.cell? ⟨gb, ob + k2 * 12 + 5, none⟩ = some (.int .i64 z.guard.mode) := hcc2 5 (by decide)
                  have e4 : wy.cell? ⟨gb, ob + k2 * 12 + 6, none⟩ = some (.slice a2 z.guard.args.len c2) := hcc2 6 (by decide)
                  have hcall := parts_two z.guard a2 c2 wy (10000 - m) (by omega) (by omega) hym2.1 hFg
                  have hnv := hm.out hle2
                  have hnvH2 := Hid.mk hnv
                  have hwz2 : Hid (wC z = cN z.guard.args + cN z.body.args + 2) := ⟨rfl⟩
                  have hgl : gb < wy.heap.size := World.block_lt_of_cell? _ _ e0
                  have hcc2 := Hid.mk hcc2
                  clear hcl2 hm hnv hrw2 hFg
                  go_wp2_with (go_at_call 17; fail)
                  refine hcall.mono ?_
                  rintro e w4 ⟨r, rfl, ⟨hr0, hr1, hrm⟩, hr, hb4⟩
                  replace hrm := hrm (by omega)
                  clear e0 e1 e2 e3 e4 hcall
                  have hcc3 := fun j hj => (bel_cell hb4 hgl (ob + k2 * 12 + j)).trans (hcc2.out j hj)
                  have e0 : w4.cell? ⟨gb, ob + k2 * 12 + 7, none⟩ = some (.int .i64 z.body.op) := hcc3 7 (by decide)
                  have e1 : w4.cell? ⟨gb, ob + k2 * 12 + 8, none⟩ = some (.int .i64 z.body.num) := hcc3 8 (by decide)
                  have e2 : w4.cell? ⟨gb, ob + k2 * 12 + 9, none⟩ = some (.int .i64 z.body.den) := hcc3 9 (by decide)
                  have e3 : w4.cell? ⟨gb, ob + k2 * 12 + 10, none⟩ = some (.int .i64 z.body.mode) := hcc3 10 (by decide)
                  have e4 : w4.cell? ⟨gb, ob + k2 * 12 + 11, none⟩ = some (.slice a3b z.body.args.len c3b) := hcc3 11 (by decide)
                  have hcall := parts_two z.body a3b c3b w4 (10000 - (m + r)) (by omega) (by omega) hym2.2 (fo_bel hFb hb4 (Nat.le_refl _))
                  clear hcc2 hcc3 hFb
                  go_wp2_with (go_at_call 17; fail)
                  refine hcall.mono ?_
                  rintro e w5 ⟨r2, rfl, ⟨hr20, hr21, hrm2⟩, hr2, hb5⟩
                  clear e0 e1 e2 e3 e4 hcall hrm2
                  go_wp2
                  go_roundw
                  case rel => exact ⟨k2 + 1, m + r + r2, by omega, by go_num, by go_num, ⟨by omega, by omega⟩, ⟨fun h => by have h1 := hr.out (by omega); have h5 := hr2.out (by omega); have h2 := hnvH2.out; have h3 := htk2.out; have h4 := hwz2.out; omega⟩, bel2 (bel2 hb' hb4) hb5⟩
                  case measure => simp [intOf]; omega
                · have hle' : ¬ m ≤ 10000 := hle2
                  clear hm
                  go_wp2
                  go_roundw
                  case rel => exact ⟨k + 1, m, by omega, by go_num, by go_num, ⟨hm0, hm1⟩, ⟨fun h => by omega⟩, bel2 hb hb'⟩
                  case measure => simp [intOf]; omega
              · have hlt' : ¬ (k2 : Int) < (cl.length : Int) := by omega
                obtain rfl : k2 = cl.length := by omega
                rw [List.take_length] at hm
                go_wp2
                go_roundw
                case rel => exact ⟨k + 1, m, by omega, by go_num, by go_num, ⟨hm0, hm1⟩, ⟨fun h => by have h1 := hm.out h; have h2 := hnvH.out; have h3 := htk.out; omega⟩, bel2 hb hb'⟩
                case measure => simp [intOf]; omega
        · have hle' : ¬ n ≤ 10000 := hle
          clear hn
          go_wp2_with fail
          go_meet
          exact ⟨n, rfl, hb, ⟨hn0, hn1⟩, ⟨fun h => by omega⟩⟩
      · have hlt' : ¬ (k : Int) < (ls.length : Int) := by omega
        obtain rfl : k = ls.length := by omega
        rw [List.take_length] at hn
        go_wp2_with fail
        go_meet
        exact ⟨n, rfl, hb, ⟨hn0, hn1⟩, hn⟩
  case rest =>
  obtain ⟨N4, rfl, hb4, ⟨hn40, hn41⟩, hN4⟩ := hcut
  obtain ⟨w4, hw4⟩ : ∃ w4, w4 = wc := ⟨_, rfl⟩
  rw [← hw4] at hb4 ⊢
  clear hw4
  by_cases hle : N4 ≤ 10000
  · have hf := hno.out true w4 hb4 (fun _ => hfin.out N4 hle (by have h4 := hN4.out hle; have h3 := hN3.out (by omega); have h2 := hN2.out (by omega); have h1 := hN1.out (by omega); have h0 := hN0e.out; omega))
    clear hno hfin
    go_wp2
    exact hf
  · have hle' : ¬ N4 ≤ 10000 := hle
    have hf := hno.out false w4 hb4 (fun h => by cases h)
    clear hno hfin
    go_wp2
    exact hf

end Go.Proofs.YthnmjafoplfikaaGreatDoor


namespace Go.Proofs.YthnmjafoplfikaaGreatDoor
open Go.RowKit

theorem sz_sw : ∀ f : Fo, SwF f → SzF f
  | .nil, _ => trivial
  | .cons _ _ _ _ _ r, h => ⟨by have := h.1.1; omega, sz_sw _ h.1.2, sz_sw r h.2⟩
theorem szE_sw {x : Ex} (h : SwE x) : SzE x := ⟨by have := h.1; omega, sz_sw _ h.2⟩
theorem szL_sw {x : Ln} (h : SwL x) : SzL x := ⟨by have := h.1; omega, fun c hc => ⟨szE_sw (h.2 c hc).1, szE_sw (h.2 c hc).2⟩⟩
/-- The lists of a pack. -/
def PRows (W : World) (p : Pk) (a3 a4 a5 a6 a7 : Option Addr) : Prop := RowR eO W AnyB p.opts a3 ∧ RowR eT W AnyB p.tabs a4 ∧ RowR eG W AnyB p.grps a5 ∧ RowR eL W AnyB p.lns a6 ∧ RowR eK W AnyB p.cks a7
theorem PRows.bel {W W' : World} {p : Pk} {a3 a4 a5 a6 a7 : Option Addr} (h : PRows W p a3 a4 a5 a6 a7) (hb : Below W.heap.size W W') : PRows W' p a3 a4 a5 a6 a7 :=
  ⟨row_bel h.1 hb (Nat.le_refl _), row_bel h.2.1 hb (Nat.le_refl _), row_bel h.2.2.1 hb (Nat.le_refl _), row_bel h.2.2.2.1 hb (Nat.le_refl _), row_bel h.2.2.2.2 hb (Nat.le_refl _)⟩
def nils : Array Value := #[.slice none 0 0, .slice none 0 0, .slice none 0 0, .slice none 0 0, .slice none 0 0, .slice none 0 0, .slice none 0 0, .slice none 0 0, .slice none 0 0, .slice none 0 0, .slice none 0 0, .slice none 0 0, .slice none 0 0, .slice none 0 0, .slice none 0 0, .slice none 0 0, .slice none 0 0, .slice none 0 0, .slice none 0 0, .slice none 0 0, .slice none 0 0]

theorem nils_at : ∀ j, j < 21 → nils[j]? = some (.slice none 0 0)
  | 0, _ => rfl
  | 1, _ => rfl
  | 2, _ => rfl
  | 3, _ => rfl
  | 4, _ => rfl
  | 5, _ => rfl
  | 6, _ => rfl
  | 7, _ => rfl
  | 8, _ => rfl
  | 9, _ => rfl
  | 10, _ => rfl
  | 11, _ => rfl
  | 12, _ => rfl
  | 13, _ => rfl
  | 14, _ => rfl
  | 15, _ => rfl
  | 16, _ => rfl
  | 17, _ => rfl
  | 18, _ => rfl
  | 19, _ => rfl
  | 20, _ => rfl
  | j + 21, h => absurd h (by omega)

set_option maxRecDepth 20000 in
set_option maxHeartbeats 2000000 in
theorem looks_walk (p : Pk) (a3 a4 a5 a6 a7 : Option Addr) (c3 c4 c5 c6 c7 : Nat) (nm : List UInt8) (tb ln k n : Int) (W : World) (hK : Kinds W) (hs : SwP p) (hP : PRows W p a3 a4 a5 a6 a7) : Calls Tryz.prog 3 #[.agg #[.string ⟨p.name.toArray⟩, .int .i64 p.year, .slice a3 p.opts.length c3, .slice a4 p.tabs.length c4, .slice a5 p.grps.length c5, .slice a6 p.lns.length c6, .slice a7 p.cks.length c7], .string ⟨nm.toArray⟩, .int .i64 tb, .int .i64 ln, .agg #[.int .i64 k, .int .i64 n]] W (Lk (.bool true) W) := by
  obtain ⟨A, hA⟩ : ∃ A, A = Obj.cells #[.string ⟨p.name.toArray⟩, .int .i64 p.year, .slice a3 p.opts.length c3, .slice a4 p.tabs.length c4, .slice a5 p.grps.length c5, .slice a6 p.lns.length c6, .slice a7 p.cks.length c7] 28 := ⟨_, rfl⟩
  have hb0 := bel_alloc W A
  have hr0 := heap_alloc_new W A
  have hs1 : (W.alloc A).heap.size = W.heap.size + 1 := by simp
  have hb1 := bel_alloc (W.alloc A) (.cells #[.int .i64 k, .int .i64 n] 30)
  have hr1 := heap_alloc_new (W.alloc A) (.cells #[.int .i64 k, .int .i64 n] 30)
  rw [hs1] at hr1
  obtain ⟨X, hX⟩ : ∃ X, X = (W.alloc A).alloc (.cells #[.int .i64 k, .int .i64 n] 30) := ⟨_, rfl⟩
  rw [← hX] at hb1 hr1
  have hbX : Below W.heap.size W X := belT hb0 hb1
  have hr0 : X.heap[W.heap.size]? = some A := bel_cells hb1 (by omega) hr0
  rw [hA] at hr0 hX
  have hXe : (W.alloc (.cells #[.string ⟨p.name.toArray⟩, .int .i64 p.year, .slice a3 p.opts.length c3, .slice a4 p.tabs.length c4, .slice a5 p.grps.length c5, .slice a6 p.lns.length c6, .slice a7 p.cks.length c7] 28)).alloc (.cells #[.int .i64 k, .int .i64 n] 30) = X := hX.symm
  have hX1 : W.heap.size + 1 < X.heap.size := (Array.getElem?_eq_some_iff.1 hr1).1
  have hX0 : W.heap.size < X.heap.size := by omega
  have hBx : Hid (∀ w : World, Below X.heap.size X w → (w.cell? ⟨W.heap.size, 0, none⟩ = some (.string ⟨p.name.toArray⟩) ∧ w.cell? ⟨W.heap.size, 1, none⟩ = some (.int .i64 p.year) ∧ w.cell? ⟨W.heap.size, 2, none⟩ = some (.slice a3 p.opts.length c3) ∧ w.cell? ⟨W.heap.size, 3, none⟩ = some (.slice a4 p.tabs.length c4) ∧ w.cell? ⟨W.heap.size, 4, none⟩ = some (.slice a5 p.grps.length c5) ∧ w.cell? ⟨W.heap.size, 5, none⟩ = some (.slice a6 p.lns.length c6) ∧ w.cell? ⟨W.heap.size, 6, none⟩ = some (.slice a7 p.cks.length c7)) ∧ (w.cell? ⟨W.heap.size + 1, 0, none⟩ = some (.int .i64 k) ∧ w.cell? ⟨W.heap.size + 1, 1, none⟩ = some (.int .i64 n))) := ⟨fun w hw => ⟨⟨(bel_cell hw hX0 0).trans (cell_of_row _ _ 0 _ _ _ hr0), (bel_cell hw hX0 1).trans (cell_of_row _ _ 1 _ _ _ hr0), (bel_cell hw hX0 2).trans (cell_of_row _ _ 2 _ _ _ hr0), (bel_cell hw hX0 3).trans (cell_of_row _ _ 3 _ _ _ hr0), (bel_cell hw hX0 4).trans (cell_of_row _ _ 4 _ _ _ hr0), (bel_cell hw hX0 5).trans (cell_of_row _ _ 5 _ _ _ hr0), (bel_cell hw hX0 6).trans (cell_of_row _ _ 6 _ _ _ hr0)⟩, (bel_cell hw hX1 0).trans (cell_of_row _ _ 0 _ _ _ hr1), (bel_cell hw hX1 1).trans (cell_of_row _ _ 1 _ _ _ hr1)⟩⟩
  have hPX := hP.bel hbX
  have hfew := few_any p a3 a4 a5 a6 a7 c3 c4 c5 c6 c7 X hs hPX.1 hPX.2.1 hPX.2.2.2.1 hPX.2.2.2.2
  have hKX := Hid.mk (hK.later hbX)
  have hPX := Hid.mk hPX
  have hbX := Hid.mk hbX
  have hsH := Hid.mk hs
  obtain ⟨⟨p0, p1, p2, p3, p4, p5, p6⟩, v0, v1⟩ := hBx.out X (Below.refl _ _)
  clear hX hA hr0 hr1 hb0 hb1 hs1 hP hK hs
  go_enter Tryz.func3, Tryz.ntmps3
  go_wp2_with (go_at_call 4; fail)
  refine hfew.mono ?_
  rintro e w1 ⟨o, rfl, hb1, ho⟩
  clear hfew hXe p0 p1 p2 p3 p4 p5 p6 v0 v1
  cases o with
  | false =>
    have hbf := belT hbX.out hb1
    clear hBx ho
    go_wp2
    go_ret
    exact ⟨rfl, hbf⟩
  | true =>
  obtain ⟨hsz, hcp⟩ := ho.out rfl
  obtain ⟨⟨p0, p1, p2, p3, p4, p5, p6⟩, v0, v1⟩ := hBx.out w1 hb1
  have hbR := bel_alloc w1 (.cells nils 55)
  have hR0 := rm_new w1 nils nils_at
  have hP1 := hPX.out.bel hb1
  have hP2 := hP1.bel hbR
  have hlow : PRows w1 p a3 a4 a5 a6 a7 → True := fun _ => trivial
  have hpk := pack_rm p w1.heap.size w1.heap.size 0 (fun _ => .slice none 0 0) (fun _ => []) a3 a4 a5 a6 a7 c3 c4 c5 c6 c7 (w1.alloc (.cells nils 55)) hsz (by omega) hR0 ((hP1.1.mo (fun b hlt _ => hlt)).fr hbR.size (fun b hb _ => hbR.block b hb)) ((hP1.2.1.mo (fun b hlt _ => hlt)).fr hbR.size (fun b hb _ => hbR.block b hb)) ((hP1.2.2.1.mo (fun b hlt _ => hlt)).fr hbR.size (fun b hb _ => hbR.block b hb)) ((hP1.2.2.2.1.mo (fun b hlt _ => hlt)).fr hbR.size (fun b hb _ => hbR.block b hb)) ((hP1.2.2.2.2.mo (fun b hlt _ => hlt)).fr hbR.size (fun b hb _ => hbR.block b hb))
  obtain ⟨w2, hw2⟩ : ∃ w2, w1.alloc (.cells nils 55) = w2 := ⟨_, rfl⟩
  rw [hw2] at hpk hbR hR0
  unfold nils at hw2
  have hR0 := Hid.mk hR0
  have hP1 := Hid.mk hP1
  obtain ⟨⟨r0, r1, r2, r3, r4, r5, r6⟩, -⟩ := hBx.out w2 (belT hb1 hbR)
  have hcpH := Hid.mk hcp
  have hszH := Hid.mk hsz
  clear ho hP2 hlow hcp hsz p0 p1 p2 p3 p4 p5 p6 v0 v1
  go_wp2_with (go_at_call 5; fail)
  refine hpk.mono ?_
  rintro e w3 ⟨g0, g1, g2, g3, g4, K', V', rfl, hR3, hs3, m0, m1, m2, m3, m4⟩
  have hBl : Below w1.heap.size w2 w3 := RmStep.below hR0.out hs3
  have hb13 : Below w1.heap.size w1 w3 := hbR.trans hBl
  have hbX3 := belT hb1 hb13
  have hP3 := hP1.out.bel hb13
  have hQ3 : PRows w3 p (some ⟨g0, 0, none⟩) (some ⟨g1, 0, none⟩) (some ⟨g2, 0, none⟩) (some ⟨g3, 0, none⟩) (some ⟨g4, 0, none⟩) := ⟨m0.mo (fun _ _ _ => trivial), m1.mo (fun _ _ _ => trivial), m2.mo (fun _ _ _ => trivial), m3.mo (fun _ _ _ => trivial), m4.mo (fun _ _ _ => trivial)⟩
  have hK3 := hKX.out.later hbX3
  have hb34 := bel_alloc w3 (.cells #[.string ⟨p.name.toArray⟩, .int .i64 p.year, .slice (some ⟨g0, 0, none⟩) p.opts.length (p.opts.length + 40), .slice (some ⟨g1, 0, none⟩) p.tabs.length (p.tabs.length + 40), .slice (some ⟨g2, 0, none⟩) p.grps.length (p.grps.length + 40), .slice (some ⟨g3, 0, none⟩) p.lns.length (p.lns.length + 40), .slice (some ⟨g4, 0, none⟩) p.cks.length (p.cks.length + 40)] 28)
  have hr4 := heap_alloc_new w3 (.cells #[.string ⟨p.name.toArray⟩, .int .i64 p.year, .slice (some ⟨g0, 0, none⟩) p.opts.length (p.opts.length + 40), .slice (some ⟨g1, 0, none⟩) p.tabs.length (p.tabs.length + 40), .slice (some ⟨g2, 0, none⟩) p.grps.length (p.grps.length + 40), .slice (some ⟨g3, 0, none⟩) p.lns.length (p.lns.length + 40), .slice (some ⟨g4, 0, none⟩) p.cks.length (p.cks.length + 40)] 28)
  obtain ⟨w4, hw4⟩ : ∃ w4, w3.alloc (.cells #[.string ⟨p.name.toArray⟩, .int .i64 p.year, .slice (some ⟨g0, 0, none⟩) p.opts.length (p.opts.length + 40), .slice (some ⟨g1, 0, none⟩) p.tabs.length (p.tabs.length + 40), .slice (some ⟨g2, 0, none⟩) p.grps.length (p.grps.length + 40), .slice (some ⟨g3, 0, none⟩) p.lns.length (p.lns.length + 40), .slice (some ⟨g4, 0, none⟩) p.cks.length (p.cks.length + 40)] 28) = w4 := ⟨_, rfl⟩
  rw [hw4] at hb34 hr4
  have hq4 : w3.heap.size < w4.heap.size := (Array.getElem?_eq_some_iff.1 hr4).1
  have hAll : Hid (∀ w : World, Below w4.heap.size w4 w → (((w.cell? ⟨W.heap.size, 0, none⟩ = some (.string ⟨p.name.toArray⟩) ∧ w.cell? ⟨W.heap.size, 1, none⟩ = some (.int .i64 p.year) ∧ w.cell? ⟨W.heap.size, 2, none⟩ = some (.slice a3 p.opts.length c3) ∧ w.cell? ⟨W.heap.size, 3, none⟩ = some (.slice a4 p.tabs.length c4) ∧ w.cell? ⟨W.heap.size, 4, none⟩ = some (.slice a5 p.grps.length c5) ∧ w.cell? ⟨W.heap.size, 5, none⟩ = some (.slice a6 p.lns.length c6) ∧ w.cell? ⟨W.heap.size, 6, none⟩ = some (.slice a7 p.cks.length c7)) ∧ (w.cell? ⟨W.heap.size + 1, 0, none⟩ = some (.int .i64 k) ∧ w.cell? ⟨W.heap.size + 1, 1, none⟩ = some (.int .i64 n)) ∧ (w.cell? ⟨w3.heap.size, 0, none⟩ = some (.string ⟨p.name.toArray⟩) ∧ w.cell? ⟨w3.heap.size, 1, none⟩ = some (.int .i64 p.year) ∧ w.cell? ⟨w3.heap.size, 2, none⟩ = some (.slice (some ⟨g0, 0, none⟩) p.opts.length (p.opts.length + 40)) ∧ w.cell? ⟨w3.heap.size, 3, none⟩ = some (.slice (some ⟨g1, 0, none⟩) p.tabs.length (p.tabs.length + 40)) ∧ w.cell? ⟨w3.heap.size, 4, none⟩ = some (.slice (some ⟨g2, 0, none⟩) p.grps.length (p.grps.length + 40)) ∧ w.cell? ⟨w3.heap.size, 5, none⟩ = some (.slice (some ⟨g3, 0, none⟩) p.lns.length (p.lns.length + 40)) ∧ w.cell? ⟨w3.heap.size, 6, none⟩ = some (.slice (some ⟨g4, 0, none⟩) p.cks.length (p.cks.length + 40))))) ∧ Kinds w ∧ PRows w p a3 a4 a5 a6 a7 ∧ PRows w p (some ⟨g0, 0, none⟩) (some ⟨g1, 0, none⟩) (some ⟨g2, 0, none⟩) (some ⟨g3, 0, none⟩) (some ⟨g4, 0, none⟩) ∧ RmAt w w1.heap.size w1.heap.size K' V' (0 + cP p) ∧ Below W.heap.size W w) := ⟨fun w hw => by
    have h1 := belT hb34 hw
    have h2 := belT hbX3 h1
    obtain ⟨hc1, hc2⟩ := hBx.out w h2
    exact ⟨⟨hc1, hc2, (bel_cell hw hq4 0).trans (cell_of_row _ _ 0 _ _ _ hr4), (bel_cell hw hq4 1).trans (cell_of_row _ _ 1 _ _ _ hr4), (bel_cell hw hq4 2).trans (cell_of_row _ _ 2 _ _ _ hr4), (bel_cell hw hq4 3).trans (cell_of_row _ _ 3 _ _ _ hr4), (bel_cell hw hq4 4).trans (cell_of_row _ _ 4 _ _ _ hr4), (bel_cell hw hq4 5).trans (cell_of_row _ _ 5 _ _ _ hr4), (bel_cell hw hq4 6).trans (cell_of_row _ _ 6 _ _ _ hr4)⟩, hK3.later h1, hP3.bel h1, hQ3.bel h1, (hR3.new hb34).new hw, belT hbX.out h2⟩⟩
  clear hpk hBx r0 r1 r2 r3 r4 r5 r6 m0 m1 m2 m3 m4 hQ3 hP3 hK3 hr4 hR3 hs3 hBl hb13 hbX3 hb34 hR0 hP1 hPX hKX hbX hw2 hbR hb1 hq4
  obtain ⟨NA, hNA⟩ : ∃ N, ixF nmL p.lns nm 0 = N := ⟨_, rfl⟩
  obtain ⟨NB, hNB⟩ : ∃ N, opIx p.opts tb nm = N := ⟨_, rfl⟩
  obtain ⟨NC, hNC⟩ : ∃ N, fitF p ln k n = N := ⟨_, rfl⟩
  obtain ⟨ND, hND⟩ : ∃ N, cesF p = N := ⟨_, rfl⟩
  have hNA' : (NA != NA) = false := by simp
  have hNB' : (NB != NB) = false := by simp
  have hNC' : (NC != NC) = false := by simp
  have hND' : (ND != ND) = false := by simp
  replace hNA := Hid.mk hNA
  replace hNB := Hid.mk hNB
  replace hNC := Hid.mk hNC
  replace hND := Hid.mk hND
  have hbb := Below.refl w4.heap.size w4
  obtain ⟨⟨⟨p0, p1, p2, p3, p4, p5, p6⟩, ⟨v0, v1⟩, q0, q1, q2, q3, q4, q5, q6⟩, hKw, hPw, hQw, hRw, hBw⟩ := hAll.out w4 hbb
  have hc := tline_any p (some ⟨g0, 0, none⟩) (some ⟨g1, 0, none⟩) (some ⟨g2, 0, none⟩) (some ⟨g3, 0, none⟩) (some ⟨g4, 0, none⟩) (p.opts.length + 40) (p.tabs.length + 40) (p.grps.length + 40) (p.lns.length + 40) (p.cks.length + 40) nm w4 hQw.2.2.2.1 (by have := hszH.out.l1; omega)
  rw [hNA.out] at hc
  clear hKw hPw hQw hRw hBw
  go_wp2_with (go_at_call 6; fail)
  refine hc.mono ?_
  rintro e w5 ⟨rfl, hb'⟩
  replace hbb := belT hbb hb'
  clear hc hb' p0 p1 p2 p3 p4 p5 p6 v0 v1 q0 q1 q2 q3 q4 q5 q6 hw4
  obtain ⟨⟨⟨p0, p1, p2, p3, p4, p5, p6⟩, ⟨v0, v1⟩, q0, q1, q2, q3, q4, q5, q6⟩, hKw, hPw, hQw, hRw, hBw⟩ := hAll.out w5 hbb
  have hc := topt_any p (some ⟨g0, 0, none⟩) (some ⟨g1, 0, none⟩) (some ⟨g2, 0, none⟩) (some ⟨g3, 0, none⟩) (some ⟨g4, 0, none⟩) (p.opts.length + 40) (p.tabs.length + 40) (p.grps.length + 40) (p.lns.length + 40) (p.cks.length + 40) tb nm w5 hQw.1 (by have := hszH.out.o1; omega) (fun o ho => by have := hszH.out.o2 o ho; omega)
  rw [hNB.out] at hc
  clear hKw hPw hQw hRw hBw
  go_wp2_with (go_at_call 7; fail)
  refine hc.mono ?_
  rintro e w6 ⟨rfl, hb'⟩
  replace hbb := belT hbb hb'
  clear hc hb' p0 p1 p2 p3 p4 p5 p6 v0 v1 q0 q1 q2 q3 q4 q5 q6
  obtain ⟨⟨⟨p0, p1, p2, p3, p4, p5, p6⟩, ⟨v0, v1⟩, q0, q1, q2, q3, q4, q5, q6⟩, hKw, hPw, hQw, hRw, hBw⟩ := hAll.out w6 hbb
  have hc := tfits_any p (some ⟨g0, 0, none⟩) (some ⟨g1, 0, none⟩) (some ⟨g2, 0, none⟩) (some ⟨g3, 0, none⟩) (some ⟨g4, 0, none⟩) (p.opts.length + 40) (p.tabs.length + 40) (p.grps.length + 40) (p.lns.length + 40) (p.cks.length + 40) ln k n w6 hKw hQw.1 hQw.2.2.2.1 (by have := hszH.out.l1; omega)
  rw [hNC.out] at hc
  clear hKw hPw hQw hRw hBw
  go_wp2_with (go_at_call 8; fail)
  refine hc.mono ?_
  rintro e w7 ⟨rfl, hb'⟩
  replace hbb := belT hbb hb'
  clear hc hb' p0 p1 p2 p3 p4 p5 p6 v0 v1 q0 q1 q2 q3 q4 q5 q6
  obtain ⟨⟨⟨p0, p1, p2, p3, p4, p5, p6⟩, ⟨v0, v1⟩, q0, q1, q2, q3, q4, q5, q6⟩, hKw, hPw, hQw, hRw, hBw⟩ := hAll.out w7 hbb
  have hc := Cells_any p (some ⟨g0, 0, none⟩) (some ⟨g1, 0, none⟩) (some ⟨g2, 0, none⟩) (some ⟨g3, 0, none⟩) (some ⟨g4, 0, none⟩) (p.opts.length + 40) (p.tabs.length + 40) (p.grps.length + 40) (p.lns.length + 40) (p.cks.length + 40) w7 hQw.2.2.1 hQw.2.2.2.1 hQw.2.2.2.2 hszH.out.g1 hszH.out.l1 hszH.out.k1
  rw [hND.out] at hc
  clear hKw hPw hQw hRw hBw
  go_wp2_with (go_at_call 9; fail)
  refine hc.mono ?_
  rintro e w8 ⟨rfl, hb'⟩
  replace hbb := belT hbb hb'
  clear hc hb' p0 p1 p2 p3 p4 p5 p6 v0 v1 q0 q1 q2 q3 q4 q5 q6
  obtain ⟨⟨⟨p0, p1, p2, p3, p4, p5, p6⟩, ⟨v0, v1⟩, q0, q1, q2, q3, q4, q5, q6⟩, hKw, hPw, hQw, hRw, hBw⟩ := hAll.out w8 hbb
  have hc := rline_any p a3 a4 a5 a6 a7 c3 c4 c5 c6 c7 nm w8 hPw.2.2.2.1 (by have := hszH.out.l1; omega)
  rw [hNA.out] at hc
  clear hKw hPw hQw hRw hBw
  go_wp2_with (go_at_call 10; fail)
  refine hc.mono ?_
  rintro e w9 ⟨rfl, hb'⟩
  replace hbb := belT hbb hb'
  clear hc hb' p0 p1 p2 p3 p4 p5 p6 v0 v1 q0 q1 q2 q3 q4 q5 q6
  obtain ⟨⟨⟨p0, p1, p2, p3, p4, p5, p6⟩, ⟨v0, v1⟩, q0, q1, q2, q3, q4, q5, q6⟩, hKw, hPw, hQw, hRw, hBw⟩ := hAll.out w9 hbb
  have hc := ropt_any p a3 a4 a5 a6 a7 c3 c4 c5 c6 c7 tb nm w9 hPw.1 (by have := hszH.out.o1; omega) (fun o ho => by have := hszH.out.o2 o ho; omega)
  rw [hNB.out] at hc
  clear hKw hPw hQw hRw hBw
  go_wp2_with (go_at_call 11; fail)
  refine hc.mono ?_
  rintro e w10 ⟨rfl, hb'⟩
  replace hbb := belT hbb hb'
  clear hc hb' p0 p1 p2 p3 p4 p5 p6 v0 v1 q0 q1 q2 q3 q4 q5 q6
  obtain ⟨⟨⟨p0, p1, p2, p3, p4, p5, p6⟩, ⟨v0, v1⟩, q0, q1, q2, q3, q4, q5, q6⟩, hKw, hPw, hQw, hRw, hBw⟩ := hAll.out w10 hbb
  have hc := rfits_any p a3 a4 a5 a6 a7 c3 c4 c5 c6 c7 ln k n w10 hKw hPw.1 hPw.2.2.2.1 (by have := hszH.out.l1; omega) (by have := hszH.out.o1; omega) (fun o ho => by have := hszH.out.o2 o ho; omega)
  rw [hNC.out] at hc
  clear hKw hPw hQw hRw hBw
  go_wp2_with (go_at_call 12; fail)
  refine hc.mono ?_
  rintro e w11 ⟨rfl, hb'⟩
  replace hbb := belT hbb hb'
  clear hc hb' p0 p1 p2 p3 p4 p5 p6 v0 v1 q0 q1 q2 q3 q4 q5 q6
  obtain ⟨⟨⟨p0, p1, p2, p3, p4, p5, p6⟩, ⟨v0, v1⟩, q0, q1, q2, q3, q4, q5, q6⟩, hKw, hPw, hQw, hRw, hBw⟩ := hAll.out w11 hbb
  have hc := rcells_any p a3 a4 a5 a6 a7 c3 c4 c5 c6 c7 w11 hPw.2.2.1 hPw.2.2.2.1 hPw.2.2.2.2 hszH.out.g1 hszH.out.l1 hszH.out.k1
  rw [hND.out] at hc
  clear hKw hPw hQw hRw hBw
  go_wp2_with (go_at_call 13; fail)
  refine hc.mono ?_
  rintro e w12 ⟨rfl, hb'⟩
  replace hbb := belT hbb hb'
  clear hc hb' p0 p1 p2 p3 p4 p5 p6 v0 v1 q0 q1 q2 q3 q4 q5 q6
  obtain ⟨⟨⟨p0, p1, p2, p3, p4, p5, p6⟩, ⟨v0, v1⟩, q0, q1, q2, q3, q4, q5, q6⟩, hKw, hPw, hQw, hRw, hBw⟩ := hAll.out w12 hbb
  have hc := samePack_any p.name p.name p.year p.year p.opts p.opts p.tabs p.tabs p.grps p.grps p.lns p.lns p.cks p.cks a3 a4 a5 a6 a7 (some ⟨g0, 0, none⟩) (some ⟨g1, 0, none⟩) (some ⟨g2, 0, none⟩) (some ⟨g3, 0, none⟩) (some ⟨g4, 0, none⟩) c3 c4 c5 c6 c7 (p.opts.length + 40) (p.tabs.length + 40) (p.grps.length + 40) (p.lns.length + 40) (p.cks.length + 40) w12 ⟨⟨(by have := hszH.out.o1; omega), fun x hx => by have := hszH.out.o2 x hx; omega⟩, ⟨(by have := hszH.out.t1; omega), fun x hx => by have := hszH.out.t2 x hx; omega⟩, (by have := hszH.out.g1; omega)⟩ ⟨⟨(by have := hszH.out.l1; omega), fun x hx => szL_sw (hsH.out.2.2.2.1.2 x hx)⟩, (by have := hszH.out.k1; omega), fun x hx => szE_sw (hsH.out.2.2.2.2.2 x hx)⟩ hPw.1 hQw.1 hPw.2.1 hQw.2.1 hPw.2.2.1 hQw.2.2.1 hPw.2.2.2.1 hQw.2.2.2.1 hPw.2.2.2.2 hQw.2.2.2.2 ⟨rfl, rfl, rfl, rfl, rfl⟩
  clear hKw hPw hQw hRw hBw
  go_wp2_with (go_at_call 14; fail)
  refine hc.mono ?_
  rintro e w13 ⟨hb', r, rfl, hr⟩
  replace hbb := belT hbb hb'
  obtain rfl : r = true := hr.2 ⟨⟨rfl, rfl, rfl, rfl, rfl⟩, rfl, rfl⟩
  clear hc hb' hr p0 p1 p2 p3 p4 p5 p6 v0 v1 q0 q1 q2 q3 q4 q5 q6
  obtain ⟨-, -, -, -, hRw, -⟩ := hAll.out w13 hbb
  have hc := hold_rm w1.heap.size w1.heap.size (0 + cP p) K' V' w13 (by have := hcpH.out; omega) hRw
  clear hRw
  go_wp2_with (go_at_call 15; fail)
  refine hc.mono ?_
  rintro e w14 ⟨rfl, hb'⟩
  replace hbb := belT hbb hb'
  clear hc hb'
  have hc := known_any w14
  go_wp2_with (go_at_call 16; fail)
  refine hc.mono ?_
  rintro e w15 ⟨rfl, hb'⟩
  replace hbb := belT hbb hb'
  obtain ⟨-, -, -, -, -, hBw⟩ := hAll.out w15 hbb
  clear hc hb' hAll
  go_wp2
  go_ret
  exact ⟨rfl, hBw⟩

end Go.Proofs.YthnmjafoplfikaaGreatDoor

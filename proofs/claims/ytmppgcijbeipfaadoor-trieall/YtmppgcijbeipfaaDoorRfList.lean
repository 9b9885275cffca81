import Derived.Test.YtmppgcijbeipfaaDoorRfStamp
import Derived.BigQuiet
import Derived.Deep.DeepCutAuto
import Derived.Deep.RegionLaw
import Derived.Maps.AppendAt
namespace Go.Proofs.YtmppgcijbeipfaaDoor
open Go.RowKit

set_option maxRecDepth 4000 in
set_option maxHeartbeats 4000000 in
theorem list_rf (b : Nat) (L : Es) (hl : L.length ≤ 5000000000) (w : World) (h : RfAt w b L) : Calls Tryd.prog 24 #[.pointer (some ⟨b, 0, none⟩)] w fun e w' => ∃ a c, e = .returned (.slice a L.length c) ∧ EntsAt w' (.slice a L.length c) L ∧ Below w.heap.size w w' := by
  have hbV : Hid (b < w.heap.size) := h.lt
  obtain ⟨ai, av, az, ci, cv, cs, c0, c1, c2, hc⟩ := h.cells
  obtain ⟨ik, hik, hz0, hz1, hz2⟩ := info_parts infoE
  go_enter Tryd.func24, Tryd.ntmps24
  go_wp2
  go_loopw [3, 4] (fun lv iv X => ∃ t : Nat, Hid (t ≤ L.length) ∧ iv = .int .i64 (t : Int) ∧ X.ownsRow w.heap.size 49 3 lv t (flat3 (L.take t)) ∧ Below w.heap.size w X) (fun _ iv _ => L.length - (intOf iv).toNat)
  case atStart => exact ⟨0, Nat.zero_le _, rfl, World.ownsRow_nil _ _ _ _, Below.refl _ _⟩
  case round =>
    obtain ⟨t, ht, rfl, hown, hB⟩ := hrel
    obtain ⟨ea, ec, rfl, -⟩ := own_sl hown
    have d0 := (hB.cell (p := ⟨b, 0, none⟩) hbV.out).trans c0
    have d1 := (hB.cell (p := ⟨b, 1, none⟩) hbV.out).trans c1
    by_cases hlt : t < L.length
    · have hlt' : (t : Int) < (L.length : Int) := Int.ofNat_lt.2 hlt
      have ht0 : (0 : Int) ≤ (t : Int) := Int.natCast_nonneg _
      obtain ⟨gi, gv, gs, rfl, rfl, rfl, hgi, hgv, -, hcc, -⟩ := hc (Nat.lt_of_le_of_lt (Nat.zero_le _) hlt)
      obtain ⟨a0, a1, a2⟩ := hcc t hlt
      have b0 := (hB.cell (p := ⟨gi, t, none⟩) hgi).trans a0
      have b1 := (hB.cell (p := ⟨gv, t * 2, none⟩) hgv).trans a1
      have b2 := (hB.cell (p := ⟨gv, t * 2 + 1, none⟩) hgv).trans a2
      have htk : Hid (flat3 (L.take (t + 1)) = flat3 (L.take t) ++ [.int .u32 (L[t].1 : Int), .int .i64 L[t].2.1, .int .i64 L[t].2.2]) := by
        show flat3 _ = _
        rw [List.take_succ_eq_append_getElem hlt]
        exact flat3_snoc _ L[t].1 L[t].2.1 L[t].2.2
      generalize L[t].1 = key at *
      generalize L[t].2.1 = kx at *
      generalize L[t].2.2 = ky at *
      have hlt2 : Hid (t < L.length ∧ L.length ≤ 5000000000) := ⟨hlt, hl⟩
      have hbA : Below wr.heap.size wr (wr.alloc (.cells #[.int .u32 (key : Int), .int .i64 kx, .int .i64 ky] 49)).drew := ((Below.refl wr.heap.size wr).alloc (Nat.le_refl _) _).drew
      have hA := own_laterB hown hbA
      have hBA := below_step hB hbA
      have hnl : t + 1 ≤ maxLen ∧ (t + 1) * 24 ≤ 140737488355328 := by have := hlt2.out; unfold maxLen; omega
      have hlo : ∀ j, (Value.slice ea t ec).ownBlock = some j → w.heap.size ≤ j := fun j e => (hown.lt j e).1
      clear hcc hc a0 a1 a2 hlt ht c0 c1 c2
      go_wp2_with fail
      go_region_law (refine step_append_own _ rfl _ _ 44 rfl w.heap.size 49 ik _ 3 24 Tryd.underlying44 hik hz0 hz1 hz2 rfl (by decide) _ t (flat3 (L.take t)) rfl hA ⟨wr.heap.size, 0, none⟩ 1 1 [.int .u32 (key : Int), .int .i64 kx, .int .i64 ky] rfl rfl (cells3_at wr _ rfl _ _ _ _) (fun u hu => by { simp at hu; rcases hu with rfl | rfl | rfl <;> rfl }) hnl.1 hnl.2 hBA.size ?_; intro v2 w2 hown2 hgrow2; obtain ⟨g2, cap2, rfl⟩ := own_some hown2 (by omega))
      all_goals
        have hB2 := hBA.grown hgrow2 hBA.size hlo
        rw [← htk.out] at hown2
        clear hA hBA hbA hgrow2 hnl htk hlo
        obtain ⟨hn5, hn4⟩ := hlt2.out
        go_wp2
        exact ⟨⟨t + 1, hn5, by go_num, hown2, hB2⟩, by simp [intOf]; omega⟩
    · have hlt' : ¬ (t : Int) < (L.length : Int) := fun h => hlt (Int.ofNat_lt.1 h)
      obtain rfl : t = L.length := by have := ht.out; omega
      rw [List.take_length] at hown
      have hE := ents_of_own hown
      clear hc c0 c1 c2
      go_wp2
      go_ret
      exact ⟨_, _, rfl, hE, hB⟩

end Go.Proofs.YtmppgcijbeipfaaDoor

import Derived.Test.YteefieidfgpijaaCrF
namespace Go.Proofs.Yteefieidfgpijaa.CF
open Go.RowKit
attribute [local go_sem] run_store_float

theorem infoN : (Try.prog.info? 3).map (fun i => (i.zero, i.size, i.bytes)) = some (some (.int .i64 0), 1, 8) := by kernel_rfl
theorem xs_of_own {w : World} {base : Nat} {T : TypeId} {v : Value} {L : List Int} (h : w.ownsRow base T 1 v L.length (L.map (Value.int .i64))) : ∃ a c, v = .slice a L.length c ∧ XsAt w a L := by
  have h0 := h
  obtain ⟨_, ⟨rfl, hn⟩ | ⟨g, cap, cur, rfl, hb, hc, _⟩⟩ := h0
  · have : L = [] := List.eq_nil_of_length_eq_zero hn
    subst this
    exact ⟨none, 0, rfl, .inl rfl⟩
  · refine ⟨_, _, rfl, .inr ⟨g, 0, rfl, (h.lt g rfl).2, fun i hi => ?_⟩⟩
    rw [Nat.zero_add, h.cellAt i (by omega), List.getElem?_map, List.getElem?_eq_getElem hi]
    rfl
/-- P17.7: the jumps. -/
def jumpsN (D : Dots) (z : Nat) : Nat → List Int
  | 0 => []
  | k + 1 => jumpsN D z k ++ if jmp (subN (D.getD (k + 1) (0, 0)).2 (D.getD k (0, 0)).2) z = true then [((k + 1 : Nat) : Int)] else []
theorem jumpsN_len (D : Dots) (z : Nat) : ∀ k, (jumpsN D z k).length ≤ k
  | 0 => Nat.le_refl _
  | k + 1 => by
    have := jumpsN_len D z k
    unfold jumpsN
    rw [List.length_append]
    split <;> simp <;> omega
def OutJ (w : World) (L : List Int) (e : Ending) (w' : World) : Prop := ∃ a' c', e = .returned (.slice a' L.length c') ∧ XsAt w' a' L ∧ Below w.heap.size w w'
set_option maxRecDepth 8000 in
set_option maxHeartbeats 2000000 in
theorem jumpsP_any (D : Dots) (hD : Ok D) (hl : D.length ≤ 8796093021952) (z : Nat) (hz : z < 4294967296) (a : Option Addr) (c : Nat) (w : World) (h : PtAt w a D) : Calls Try.prog 14 #[.slice a D.length c, .float .f32 z] w (OutJ w (jumpsN D z (D.length - 1))) := by
  obtain ⟨i0, hi, hz0, hz1, hz2⟩ := info_parts infoN
  go_enter Try.func14, Try.ntmps14
  go_wp2
  go_loopw [5, 6] (fun v x wr => ∃ k : Nat, k ≤ D.length - 1 ∧ x = .int .i64 ((k + 1 : Nat) : Int) ∧ wr.ownsRow w.heap.size 3 1 v (jumpsN D z k).length ((jumpsN D z k).map (Value.int .i64)) ∧ Below w.heap.size w wr) (fun _ x _ => D.length - (intOf x).toNat)
  case atStart => exact ⟨0, by omega, rfl, World.ownsRow_nil _ _ _ _, Below.refl _ _⟩
  case round =>
    obtain ⟨k, hk, rfl, ho, hB⟩ := hrel
    by_cases hlt : k + 1 < D.length
    · have hlt' : ((k + 1 : Nat) : Int) < (D.length : Int) := by omega
      obtain ⟨b, off, rfl, hc⟩ := (h.later hB).cells hlt
      obtain ⟨-, s1⟩ := hc k (by omega)
      obtain ⟨-, q1⟩ := hc (k + 1) hlt
      have hu := (hD.getD k).2
      have hv := (hD.getD (k + 1)).2
      have hjl := jumpsN_len D z k
      have hjd : Hid (jumpsN D z (k + 1) = jumpsN D z k ++ if jmp (subN (D.getD (k + 1) (0, 0)).2 (D.getD k (0, 0)).2) z = true then [((k + 1 : Nat) : Int)] else []) := ⟨rfl⟩
      generalize (D.getD (k + 1) (0, 0)).2 = v2 at *
      generalize (D.getD k (0, 0)).2 = u2 at *
      have hS1 : wr.drew.cell? ⟨b, off + k * 2 + 1, none⟩ = some (.float .f32 u2) ∧ wr.drew.cell? ⟨b, off + (k + 1) * 2 + 1, none⟩ = some (.float .f32 v2) := ⟨s1, q1⟩
      have hS2 : wr.drew.drew.cell? ⟨b, off + k * 2 + 1, none⟩ = some (.float .f32 u2) ∧ wr.drew.drew.cell? ⟨b, off + (k + 1) * 2 + 1, none⟩ = some (.float .f32 v2) := ⟨s1, q1⟩
      have e1 : IntKind.i64.wrap (((k + 1 : Nat) : Int) - 1) = (k : Int) := by rw [IntKind.wrap_i64]; omega
      have e1' : IntKind.i64.wrap ((k : Int) + 1 - 1) = (k : Int) := by rw [IntKind.wrap_i64]; omega
      have e2 : (0 : Int) ≤ (k : Int) := by omega
      have e3 : (k : Int) < (D.length : Int) := by omega
      have e4 : (0 : Int) ≤ ((k + 1 : Nat) : Int) := by omega
      have e5' : (k : Int) + 1 < (D.length : Int) := by omega
      have e6 : IntKind.i64.wrap (k : Int) = (k : Int) := by rw [IntKind.wrap_i64]; omega
      have e8 : ((k : Int) + 1).toNat = k + 1 := by omega
      have e9 : (0 : Int) ≤ (k : Int) + 1 := by omega
      have e11 : k < D.length := by omega
      clear hc hD h
      rcases sub_cases hv hu with ⟨hsn, hse⟩ | ⟨hss, hd1, hd2⟩
      · obtain ⟨nb, hn1, hn2, hrun⟩ := sub_nan hsn wr.drew
        have hje : Hid (jumpsN D z (k + 1) = jumpsN D z k) := ⟨by
          rw [hjd.out, hse, if_neg, List.append_nil]
          unfold jmp
          rw [decide_eq_false (fun h => absurd h.1 (by decide))]
          decide⟩
        have ham := fun W => amount_any nb hn2 W
        have hja := jmp_eq hn2 hz
        have hjn : jmp nb z = false := decide_eq_false (fun h => by have := h.1; omega)
        rw [hjn] at hja
        have kg : (FloatKind.f32.format.order (amtN nb) z == some .gt || FloatKind.f32.format.order (amtN nb) z == some .eq) = false := hja
        generalize amtN nb = A at *
        clear hsn hse hjd hja hjn hn1 hn2 hu hv
        go_upto_region 5 with fail
        go_region_held_law (fun X => X.cell? ⟨b, off + k * 2 + 1, none⟩ = some (.float .f32 u2) ∧ X.cell? ⟨b, off + (k + 1) * 2 + 1, none⟩ = some (.float .f32 v2)) (with_reducible assumption) ((go_at_call 29; refine (ham _).mono ?_; rintro _ w9 ⟨rfl, hw9⟩; subst w9))
        go_wp2
        go_roundw
        case rel => exact ⟨k + 1, by omega, by go_num, by rw [hje.out]; exact ho.drew.drew, hB.drew.drew⟩
        case measure => simp [intOf]; omega
      · have o1 := sub_f32 hss
        have ham := fun W => amount_any (subN v2 u2) hd2 W
        have hja := jmp_eq hd2 hz
        have kg : (FloatKind.f32.format.order (amtN (subN v2 u2)) z == some .gt || FloatKind.f32.format.order (amtN (subN v2 u2)) z == some .eq) = jmp (subN v2 u2) z := hja
        obtain ⟨J, hJ⟩ : ∃ J, jmp (subN v2 u2) z = J := ⟨_, rfl⟩
        rw [hJ] at kg hjd
        generalize amtN (subN v2 u2) = A at *
        generalize subN v2 u2 = S at *
        clear hss hd1 hd2 hja hJ hu hv
        cases J with
        | false =>
          have hje : Hid (jumpsN D z (k + 1) = jumpsN D z k) := ⟨by rw [hjd.out, if_neg (by decide), List.append_nil]⟩
          clear hjd
          go_upto_region 5 with fail
          go_region_held3 (fun X => X.cell? ⟨b, off + k * 2 + 1, none⟩ = some (.float .f32 u2) ∧ X.cell? ⟨b, off + (k + 1) * 2 + 1, none⟩ = some (.float .f32 v2)) (with_reducible assumption) ((go_at_call 29; refine (ham _).mono ?_; rintro _ w9 ⟨rfl, hw9⟩; subst w9))
          go_wp2
          go_roundw
          case rel => exact ⟨k + 1, by omega, by go_num, by rw [hje.out]; exact ho.drew, hB.drew⟩
          case measure => simp [intOf]; omega
        | true =>
          have hje : Hid (jumpsN D z (k + 1) = jumpsN D z k ++ [((k + 1 : Nat) : Int)]) := ⟨by rw [hjd.out, if_pos rfl]⟩
          have hoA := ho.drew.alloc (.cells #[.int .i64 ((k + 1 : Nat) : Int)] 3)
          have hBD : Below w.heap.size w wr.drew := hB.drew
          have hBA : Below w.heap.size w (wr.drew.alloc (.cells #[.int .i64 ((k + 1 : Nat) : Int)] 3)) := hBD.alloc hBD.size _
          have hlv := Hid.mk (fun (j : Nat) hj => (ho.lt j hj).1)
          clear hjd
          go_upto_region 5 with fail
          go_region_held3 (fun X => X.cell? ⟨b, off + k * 2 + 1, none⟩ = some (.float .f32 u2) ∧ X.cell? ⟨b, off + (k + 1) * 2 + 1, none⟩ = some (.float .f32 v2)) (with_reducible assumption) ((go_at_call 29; refine (ham _).mono ?_; rintro _ w9 ⟨rfl, hw9⟩; subst w9))
          go_wp2_with (at_builtin; refine wpList_append_own _ rfl _ _ 38 rfl w.heap.size 3 i0 _ 1 8 Try.underlying38 hi hz0 hz1 hz2 rfl (by decide) _ (jumpsN D z k).length ((jumpsN D z k).map (Value.int .i64)) rfl hoA ⟨wr.heap.size, 0, none⟩ 1 1 [.int .i64 ((k + 1 : Nat) : Int)] rfl rfl (lit_at wr.drew _ _) (by simp [Value.oneCell']) (by unfold maxLen; omega) (by omega) hBA.size ?_; intro v4 w4 hown4 hgrow4 _; have hB4 := hBA.grown hgrow4 hBA.size hlv.out)
          go_roundw
          case rel => exact ⟨k + 1, by omega, by go_num, by rw [hje.out, List.length_append, List.map_append]; exact hown4, hB4⟩
          case measure => simp [intOf]; omega
    · obtain rfl : k = D.length - 1 := by omega
      have hlt' : ¬ ((D.length - 1 + 1 : Nat) : Int) < (D.length : Int) := by omega
      obtain ⟨a', c', rfl, hP⟩ := xs_of_own ho
      go_wp2
      exact bodyPost_ret (v := .slice a' (jumpsN D z (D.length - 1)).length c') (by simp [results, Try.results14, go_sem]) rfl ⟨a', c', rfl, hP, hB⟩
end Go.Proofs.Yteefieidfgpijaa.CF

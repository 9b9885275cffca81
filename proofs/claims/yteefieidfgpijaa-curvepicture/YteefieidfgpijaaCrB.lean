import Derived.Test.YteefieidfgpijaaCrA
namespace Go.Proofs.Yteefieidfgpijaa.CF
open Go.RowKit
attribute [local go_sem] run_store_float

/-- A list of points and an error are told. -/
def OutP (w : World) (D : Dots) (en : Int) (e : Ending) (w' : World) : Prop := ∃ a' c', e = .returned (.tuple #[.slice a' D.length c', .int .i64 en]) ∧ PtAt w' a' D ∧ Below w.heap.size w w'
def OutR (w : World) (D : Dots) (en : Int) (e : Ending) (w' : World) : Prop := ∃ a' c', e = .returned (.tuple #[.slice a' D.length c', .int .i64 en]) ∧ RtAt w' a' D ∧ Below w.heap.size w w'
set_option maxHeartbeats 1000000 in
theorem rise_any (a b : Int × Nat) (ha : a.2 < 4294967296) (hb : b.2 < 4294967296) (fa : a.2 % 2147483648 < 2139095040) (fb : b.2 % 2147483648 < 2139095040) (h1 : a.1 < b.1) (h4 : -9999999999999 ≤ a.1) (h5 : b.1 ≤ 9999999999999) (w : World) : Calls Try.prog 26 #[.agg #[.int .i64 a.1, .float .f32 a.2], .agg #[.int .i64 b.1, .float .f32 b.2]] w fun e w' => e = .returned (.float .f32 (riseN a b)) ∧ Below w.heap.size w w' := by
  have q1 := subN_le (a := b.2) (b := a.2) ha fb fa
  obtain ⟨q2, q3, q4⟩ := whole_some (z := b.1 - a.1) (by omega) (by omega) (by omega)
  have c2 := conv_f32 (b.1 - a.1)
  have o2 := sub_f32 (sub_some hb ha fb fa)
  have o3 := quo_f32 (div_le q1.2 q2 q1.1 q3 q4)
  have hR : divN (subN b.2 a.2) (wholeN (b.1 - a.1)) = riseN a b := rfl
  rw [hR] at o3
  have hB : Below w.heap.size w ((w.alloc (.cells #[.int .i64 a.1, .float .f32 a.2] 35)).alloc (.cells #[.int .i64 b.1, .float .f32 b.2] 35)) := ((Below.refl _ _).alloc (Nat.le_refl _) _).alloc (by simp) _
  clear q1 q2 q3 q4 ha hb fa fb hR
  generalize riseN a b = R at *
  generalize wholeN (b.1 - a.1) = V at *
  generalize subN b.2 a.2 = S at *
  generalize a.1 = a1 at *
  generalize a.2 = a2 at *
  generalize b.1 = b1 at *
  generalize b.2 = b2 at *
  go_enter Try.func26, Try.ntmps26
  go_wp2
  go_ret
  exact ⟨rfl, hB⟩
theorem riseN_lt {a b : Int × Nat} (ha : a.2 < 4294967296) (fa : a.2 % 2147483648 < 2139095040) (fb : b.2 % 2147483648 < 2139095040) (h1 : a.1 < b.1) (h4 : -9999999999999 ≤ a.1) (h5 : b.1 ≤ 9999999999999) : riseN a b < 4294967296 := by
  have q1 := subN_le (a := b.2) (b := a.2) ha fb fa
  obtain ⟨q2, q3, q4⟩ := whole_some (z := b.1 - a.1) (by omega) (by omega) (by omega)
  exact divN_lt q1.2 q2 q3 q4
/-- What Slope tells. -/
def slopeD (D : Dots) : Dots := if inO D = true then slopeN D (D.length - 1) else []
def slopeE (D : Dots) : Int := if inO D = true then 0 else 172
theorem nbr {D : Dots} (h : inO D = true) {k : Nat} (hk : k + 1 < D.length) : (D.getD k (0, 0)).1 < (D.getD (k + 1) (0, 0)).1 ∧ -9999999999999 ≤ (D.getD k (0, 0)).1 ∧ (D.getD (k + 1) (0, 0)).1 ≤ 9999999999999 ∧ (D.getD k (0, 0)).2 % 2147483648 < 2139095040 ∧ (D.getD (k + 1) (0, 0)).2 % 2147483648 < 2139095040 := by
  have h1 := gB_parts (inO_true.1 h k (by omega))
  have h2 := gB_parts (inO_true.1 h (k + 1) hk)
  have h3 := h2.2.resolve_left (by omega)
  rw [Nat.add_sub_cancel] at h3
  exact ⟨h3, h1.1.1.1, h2.1.1.2, h1.1.2, h2.1.2⟩
set_option maxRecDepth 8000 in
set_option maxHeartbeats 2000000 in
theorem slopeP_any (D : Dots) (hD : Ok D) (hl : D.length ≤ 8796093021952) (a : Option Addr) (c : Nat) (w : World) (h : PtAt w a D) : Calls Try.prog 11 #[.slice a D.length c] w (OutP w (slopeD D) (slopeE D)) := by
  obtain ⟨i0, hi, hz0, hz1, hz2⟩ := info_parts infoP
  have hio := inOrder_any D hD (by omega) a c w h
  cases hO : inO D with
  | false =>
    have e1 : slopeD D = [] := if_neg (by rw [hO]; decide)
    have e2 : slopeE D = 172 := if_neg (by rw [hO]; decide)
    rw [e1, e2]
    rw [hO] at hio
    go_enter Try.func11, Try.ntmps11
    go_wp2_with (go_at_call 25; refine hio.mono ?_; rintro _ w1 ⟨rfl, hB1⟩)
    exact bodyPost_ret (v := .tuple #[.slice none 0 0, .int .i64 172]) (by simp [results, Try.results11, go_sem]) rfl ⟨none, 0, rfl, .inl rfl, hB1⟩
  | true =>
    have e1 : slopeD D = slopeN D (D.length - 1) := if_pos hO
    have e2 : slopeE D = 0 := if_pos hO
    rw [e1, e2]
    rw [hO] at hio
    have hnb := Hid.mk (fun k hk => nbr hO (k := k) hk)
    clear e1 e2 hO
    go_enter Try.func11, Try.ntmps11
    go_wp2_with (go_at_call 25; refine hio.mono ?_; clear hio; rintro _ w1 ⟨rfl, hB1⟩)
    go_loopw [4, 5] (fun v x wr => ∃ k : Nat, k ≤ D.length - 1 ∧ x = .int .i64 ((k + 1 : Nat) : Int) ∧ wr.ownsRow w.heap.size 35 2 v k (ptV (slopeN D k)) ∧ Below w.heap.size w wr) (fun _ x _ => D.length - (intOf x).toNat)
    case atStart => exact ⟨0, by omega, rfl, World.ownsRow_nil _ _ _ _, hB1⟩
    case round =>
      clear hB1
      obtain ⟨k, hk, rfl, ho, hB⟩ := hrel
      by_cases hlt : k + 1 < D.length
      · have hlt' : ((k + 1 : Nat) : Int) < (D.length : Int) := by omega
        obtain ⟨b, off, rfl, hc⟩ := h.cells hlt
        obtain ⟨s0, s1⟩ := hc k (by omega)
        obtain ⟨q0, q1⟩ := hc (k + 1) hlt
        have hbl : b < w.heap.size := World.block_lt_of_cell? _ _ s0
        obtain ⟨n1, n2, n3, n4, n5⟩ := hnb.out k hlt
        have hri := fun W => rise_any (D.getD k (0, 0)) (D.getD (k + 1) (0, 0)) (hD.getD k).2 (hD.getD (k + 1)).2 n4 n5 n1 n2 n3 W
        have hsd : Hid (slopeN D (k + 1) = slopeN D k ++ [((D.getD k (0, 0)).1, riseN (D.getD k (0, 0)) (D.getD (k + 1) (0, 0)))]) := ⟨rfl⟩
        generalize riseN (D.getD k (0, 0)) (D.getD (k + 1) (0, 0)) = R at *
        generalize (D.getD (k + 1) (0, 0)).1 = v1 at *
        generalize (D.getD (k + 1) (0, 0)).2 = v2 at *
        generalize (D.getD k (0, 0)).1 = u1 at *
        generalize (D.getD k (0, 0)).2 = u2 at *
        have hS0 : ∀ X, Below w.heap.size w X → X.cell? ⟨b, off + k * 2, none⟩ = some (.int .i64 u1) ∧ X.cell? ⟨b, off + k * 2 + 1, none⟩ = some (.float .f32 u2) ∧ X.cell? ⟨b, off + (k + 1) * 2, none⟩ = some (.int .i64 v1) ∧ X.cell? ⟨b, off + (k + 1) * 2 + 1, none⟩ = some (.float .f32 v2) := fun X hX => ⟨(hX.cell (p := ⟨b, off + k * 2, none⟩) hbl).trans s0, (hX.cell (p := ⟨b, off + k * 2 + 1, none⟩) hbl).trans s1, (hX.cell (p := ⟨b, off + (k + 1) * 2, none⟩) hbl).trans q0, (hX.cell (p := ⟨b, off + (k + 1) * 2 + 1, none⟩) hbl).trans q1⟩
        have hBD : Below w.heap.size w wr.drew := hB.drew
        have hS1 := hS0 _ hBD
        have hoD := ho.drew
        clear hc s0 s1 q0 q1 n1 n2 n3 n4 n5 hD h hnb
        go_upto_region 7 with fail
        have e1 : IntKind.i64.wrap (((k + 1 : Nat) : Int) - 1) = (k : Int) := by rw [IntKind.wrap_i64]; omega
        have e1' : IntKind.i64.wrap ((k : Int) + 1 - 1) = (k : Int) := by rw [IntKind.wrap_i64]; omega
        have e2 : (0 : Int) ≤ (k : Int) := by omega
        have e3 : (k : Int) < (D.length : Int) := by omega
        have e4 : (0 : Int) ≤ ((k + 1 : Nat) : Int) := by omega
        have e5' : (k : Int) + 1 < (D.length : Int) := by omega
        have e6 : IntKind.i64.wrap (k : Int) = (k : Int) := by rw [IntKind.wrap_i64]; omega
        have e8 : ((k : Int) + 1).toNat = k + 1 := by omega
        have e9 : (0 : Int) ≤ (k : Int) + 1 := by omega
        have e11 : k < D.length := by omega
        go_region_held3 (fun X => X.cell? ⟨b, off + k * 2, none⟩ = some (.int .i64 u1) ∧ X.cell? ⟨b, off + k * 2 + 1, none⟩ = some (.float .f32 u2) ∧ X.cell? ⟨b, off + (k + 1) * 2, none⟩ = some (.int .i64 v1) ∧ X.cell? ⟨b, off + (k + 1) * 2 + 1, none⟩ = some (.float .f32 v2)) (first | (with_reducible assumption) | (exact hS0 _ (Below.alloc hBX hBX.size _))) (first | (go_at_call 26; refine (hri _).mono ?_; rintro _ X ⟨rfl, hBX0⟩; have hoX := own_bel hoD hBX0; have hBX : Below w.heap.size w X := hBD.trans (hBX0.mono hBD.size); have hSX := hS0 _ hBX; have hoA := hoX.alloc (.cells #[.int .i64 u1, .float .f32 R] 35); have hBA : Below w.heap.size w (X.alloc (.cells #[.int .i64 u1, .float .f32 R] 35)) := hBX.alloc hBX.size _; have hlv := Hid.mk (fun (j : Nat) hj => (hoX.lt j hj).1)) | ((refine step_append_own (P := Try.prog) _ rfl _ _ 27 rfl w.heap.size 35 i0 _ 2 16 Try.underlying27 hi hz0 hz1 hz2 rfl (by decide) _ k (ptV (slopeN D k)) rfl hoA ⟨X.heap.size, 0, none⟩ 1 1 [.int .i64 u1, .float .f32 R] rfl rfl (lit_at X _ _) (by simp [Value.oneCell']) (by unfold maxLen; omega) (by omega) hBA.size ?_; intro v4 w4 hown4 hgrow4; have hB4 := hBA.grown hgrow4 hBA.size hlv.out; have hS4 := hS0 _ hB4)))
        go_wp2
        go_roundw
        case rel => exact ⟨k + 1, by omega, by go_num, by rw [hsd.out, ptV_snoc]; exact hown4, hB4⟩
        case measure => simp [intOf]; omega
      · obtain rfl : k = D.length - 1 := by omega
        have hlt' : ¬ ((D.length - 1 + 1 : Nat) : Int) < (D.length : Int) := by omega
        obtain ⟨a', c', rfl, hP⟩ := pt_of_own ho (slopeN_len D _).symm
        go_wp2
        exact bodyPost_ret (v := .tuple #[.slice a' (slopeN D (D.length - 1)).length c', .int .i64 0]) (by simp [results, Try.results11, go_sem]) rfl ⟨a', c', rfl, hP, hB⟩
end Go.Proofs.Yteefieidfgpijaa.CF

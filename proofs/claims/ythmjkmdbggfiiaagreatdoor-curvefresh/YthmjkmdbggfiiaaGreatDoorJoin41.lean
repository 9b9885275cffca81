import Derived.Test.YthmjkmdbggfiiaaGreatDoorJoin25
import Derived.Test.YthmjkmdbggfiiaaGreatDoorKcD
import Derived.Test.YthmjkmdbggfiiaaGreatDoorTurnCrD
import Derived.Test.YthmjkmdbggfiiaaGreatDoorJoin35
import Derived.Test.YthmjkmdbggfiiaaGreatDoorJoin37
import Derived.Test.YthmjkmdbggfiiaaGreatDoorKcPointsS
/- CurveFresh: the curve's answers are rows of their own. -/
namespace Go.Proofs.YthmjkmdbggfiiaaGreatDoor.CF
open Go.RowKit
attribute [local go_sem] run_store_float
set_option maxRecDepth 8000 in
set_option maxHeartbeats 2000000 in
theorem rateO_any (D : Dots) (hD : Ok D) (hl : D.length ≤ 8796093021952) (a : Option Addr) (c : Nat) (w : World) (h : PtAt w a D) : Calls Tryz.prog 18 #[.slice a D.length c] w fun e w' => ∃ v, e = .returned v ∧ w'.ownsRow w.heap.size 64 2 v (rateN D D.length).length (ptV (rateN D D.length)) ∧ Below w.heap.size w w' := by
  obtain ⟨i0, hi, hz0, hz1, hz2⟩ := info_parts infoP
  go_enter Tryz.func18, Tryz.ntmps18
  go_wp2
  go_loopw [3, 8] (fun v x wr => ∃ k : Nat, k ≤ D.length ∧ x = .int .i64 (k : Int) ∧ wr.ownsRow w.heap.size 64 2 v (rateN D k).length (ptV (rateN D k)) ∧ Below w.heap.size w wr) (fun _ x _ => D.length - (intOf x).toNat)
  case atStart => exact ⟨0, by omega, rfl, World.ownsRow_nil _ _ _ _, Below.refl _ _⟩
  case round =>
    obtain ⟨k, hk, rfl, ho, hB⟩ := hrel
    by_cases hlt : k < D.length
    · have hlt' : (k : Int) < (D.length : Int) := by omega
      have hk0 : (0 : Int) ≤ (k : Int) := by omega
      obtain ⟨b, off, rfl, hc⟩ := (h.later hB).cells hlt
      obtain ⟨p0, p1⟩ := hc k hlt
      obtain ⟨hx, hy⟩ := hD.getD k
      have hln := rateN_len D k
      have hrd : Hid (rateN D (k + 1) = rateN D k ++ if (D.getD k (0, 0)).1 ≠ 0 ∧ (D.getD k (0, 0)).2 % 2147483648 < 2139095040 then [((D.getD k (0, 0)).1, divN (D.getD k (0, 0)).2 (wholeN (D.getD k (0, 0)).1))] else []) := ⟨rfl⟩
      generalize (D.getD k (0, 0)).1 = x at *
      generalize (D.getD k (0, 0)).2 = y at *
      have hfi := fun W => finP_any y hy W
      obtain ⟨X, hX⟩ : ∃ X, wr.alloc (.cells #[.int .i64 x, .float .f32 y] 64) = X := ⟨_, rfl⟩
      have t0 : X.cell? ⟨wr.heap.size, 0, none⟩ = some (.int .i64 x) := by rw [← hX]; simp
      have t1 : X.cell? ⟨wr.heap.size, 1, none⟩ = some (.float .f32 y) := by rw [← hX]; simp
      have hBX : Below w.heap.size w X := by rw [← hX]; exact hB.alloc hB.size _
      have hoX := ho.alloc (.cells #[.int .i64 x, .float .f32 y] 64)
      rw [hX] at hoX
      replace hX := Hid.mk hX
      by_cases hx0 : x = 0
      · have hxe : (x != 0) = false := by rw [hx0]; rfl
        have hre : Hid (rateN D (k + 1) = rateN D k) := ⟨by rw [hrd.out, if_neg (fun h => h.1 hx0), List.append_nil]⟩
        clear hc hD h hrd hx0 hx
        go_upto_region 5 with fail
        rw [hX.out]
        go_wp2
        go_roundw
        case rel => exact ⟨k + 1, by omega, by go_num, by rw [hre.out]; exact hoX, hBX⟩
        case measure => simp [intOf]; omega
      · have hxe : (x != 0) = true := bne_iff_ne.2 hx0
        by_cases hf : y % 2147483648 < 2139095040
        · have hbf : bf y = true := decide_eq_true hf
          have hre : Hid (rateN D (k + 1) = rateN D k ++ [(x, divN y (wholeN x))]) := ⟨by rw [hrd.out, if_pos ⟨hx0, hf⟩]⟩
          obtain ⟨q1, q2, q3⟩ := whole_some hx0 hx.1 hx.2
          have o1 := conv_f32 x
          have o2 := quo_f32 (div_some hy q1 hf q2 q3)
          rw [hbf] at hfi
          generalize wholeN x = U at *
          generalize divN y U = V at *
          have hoA := hoX.alloc (.cells #[.int .i64 x, .float .f32 V] 64)
          have hBA : Below w.heap.size w (X.alloc (.cells #[.int .i64 x, .float .f32 V] 64)) := hBX.alloc hBX.size _
          have hlv := Hid.mk (fun (j : Nat) hj => (hoX.lt j hj).1)
          clear hc hD h hrd hx0 hx hbf hf q1 q2 q3 hy ho hB
          go_upto_region 5 with fail
          rw [hX.out]
          go_wp2_with (first | (go_at_call 53; refine (hfi _).mono ?_; rintro _ w1 ⟨rfl, hw1⟩; subst w1) | (at_builtin; refine wpList_append_own _ rfl _ _ 24 rfl w.heap.size 64 i0 _ 2 16 Tryz.underlying24 hi hz0 hz1 hz2 rfl (by decide) _ (rateN D k).length (ptV (rateN D k)) rfl hoA ⟨X.heap.size, 0, none⟩ 1 1 [.int .i64 x, .float .f32 V] rfl rfl (lit_at X _ _) (by simp [Value.oneCell']) (by unfold maxLen; omega) (by omega) hBA.size ?_; intro v4 w4 hown4 hgrow4 _; have hB4 := hBA.grown hgrow4 hBA.size hlv.out))
          go_roundw
          case rel => exact ⟨k + 1, by omega, by go_num, by rw [hre.out, List.length_append, ptV_snoc]; exact hown4, hB4⟩
          case measure => simp [intOf]; omega
        · have hbf : bf y = false := decide_eq_false hf
          have hre : Hid (rateN D (k + 1) = rateN D k) := ⟨by rw [hrd.out, if_neg (fun h => hf h.2), List.append_nil]⟩
          rw [hbf] at hfi
          clear hc hD h hrd hx0 hx hbf hf
          go_upto_region 5 with fail
          rw [hX.out]
          go_wp2_with (go_at_call 53; refine (hfi _).mono ?_; rintro _ w1 ⟨rfl, hw1⟩; subst w1)
          go_roundw
          case rel => exact ⟨k + 1, by omega, by go_num, by rw [hre.out]; exact hoX, hBX⟩
          case measure => simp [intOf]; omega
    · obtain rfl : k = D.length := by omega
      obtain ⟨a', c', rfl⟩ := KB.own_sl ho
      go_wp2
      go_ret
      exact ⟨_, rfl, ho, hB⟩
end Go.Proofs.YthmjkmdbggfiiaaGreatDoor.CF


/- CurveFresh: the curve's answers are rows of their own. -/
namespace Go.Proofs.YthmjkmdbggfiiaaGreatDoor.CF
open Go.RowKit
attribute [local go_sem] run_store_float
def OutO (w : World) (D : Dots) (en : Int) (e : Ending) (w' : World) : Prop := ∃ v, e = .returned (.tuple #[v, .int .i64 en]) ∧ w'.ownsRow w.heap.size 64 2 v D.length (ptV D) ∧ Below w.heap.size w w'
set_option maxRecDepth 8000 in
set_option maxHeartbeats 2000000 in
theorem slopeO_any (D : Dots) (hD : Ok D) (hl : D.length ≤ 8796093021952) (a : Option Addr) (c : Nat) (w : World) (h : PtAt w a D) : Calls Tryz.prog 14 #[.slice a D.length c] w (OutO w (slopeD D) (slopeE D)) := by
  obtain ⟨i0, hi, hz0, hz1, hz2⟩ := info_parts infoP
  have hio := inOrder_any D hD (by omega) a c w h
  cases hO : inO D with
  | false =>
    have e1 : slopeD D = [] := if_neg (by rw [hO]; decide)
    have e2 : slopeE D = 172 := if_neg (by rw [hO]; decide)
    rw [e1, e2]
    rw [hO] at hio
    go_enter Tryz.func14, Tryz.ntmps14
    go_wp2_with (go_at_call 49; refine hio.mono ?_; rintro _ w1 ⟨rfl, hB1⟩)
    exact bodyPost_ret (v := .tuple #[.slice none 0 0, .int .i64 172]) (by simp [results, Tryz.results14, go_sem]) rfl ⟨_, rfl, World.ownsRow_nil _ _ _ _, hB1⟩
  | true =>
    have e1 : slopeD D = slopeN D (D.length - 1) := if_pos hO
    have e2 : slopeE D = 0 := if_pos hO
    rw [e1, e2]
    rw [hO] at hio
    have hnb := Hid.mk (fun k hk => nbr hO (k := k) hk)
    clear e1 e2 hO
    go_enter Tryz.func14, Tryz.ntmps14
    go_wp2_with (go_at_call 49; refine hio.mono ?_; clear hio; rintro _ w1 ⟨rfl, hB1⟩)
    go_loopw [4, 5] (fun v x wr => ∃ k : Nat, k ≤ D.length - 1 ∧ x = .int .i64 ((k + 1 : Nat) : Int) ∧ wr.ownsRow w.heap.size 64 2 v k (ptV (slopeN D k)) ∧ Below w.heap.size w wr) (fun _ x _ => D.length - (intOf x).toNat)
    case atStart => exact ⟨0, by omega, rfl, World.ownsRow_nil _ _ _ _, hB1⟩
    case round =>
      clear hB1
      obtain ⟨k, hk, rfl, ho, hB⟩ := hrel
      by_cases hlt : k + 1 < D.length
      · have hlt' : ((k + 1 : Nat) : Int) < (D.length : Int) := by omega
        obtain ⟨b, off, rfl, hc⟩ := h.cells hlt
        obtain ⟨s0, s1⟩ := hc k (by omega)
        obtain ⟨q0, q1⟩ := hc (k + 1) hlt
        have hbl : b < w.heap.size := World.block_lt_of_cell? _ _ s0
        obtain ⟨n1, n2, n3, n4, n5⟩ := hnb.out k hlt
        have hri := fun W => rise_any (D.getD k (0, 0)) (D.getD (k + 1) (0, 0)) (hD.getD k).2 (hD.getD (k + 1)).2 n4 n5 n1 n2 n3 W
        have hsd : Hid (slopeN D (k + 1) = slopeN D k ++ [((D.getD k (0, 0)).1, riseN (D.getD k (0, 0)) (D.getD (k + 1) (0, 0)))]) := ⟨rfl⟩
        generalize riseN (D.getD k (0, 0)) (D.getD (k + 1) (0, 0)) = R at *
        generalize (D.getD (k + 1) (0, 0)).1 = v1 at *
        generalize (D.getD (k + 1) (0, 0)).2 = v2 at *
        generalize (D.getD k (0, 0)).1 = u1 at *
        generalize (D.getD k (0, 0)).2 = u2 at *
        have hS0 : ∀ X, Below w.heap.size w X → X.cell? ⟨b, off + k * 2, none⟩ = some (.int .i64 u1) ∧ X.cell? ⟨b, off + k * 2 + 1, none⟩ = some (.float .f32 u2) ∧ X.cell? ⟨b, off + (k + 1) * 2, none⟩ = some (.int .i64 v1) ∧ X.cell? ⟨b, off + (k + 1) * 2 + 1, none⟩ = some (.float .f32 v2) := fun X hX => ⟨(hX.cell (p := ⟨b, off + k * 2, none⟩) hbl).trans s0, (hX.cell (p := ⟨b, off + k * 2 + 1, none⟩) hbl).trans s1, (hX.cell (p := ⟨b, off + (k + 1) * 2, none⟩) hbl).trans q0, (hX.cell (p := ⟨b, off + (k + 1) * 2 + 1, none⟩) hbl).trans q1⟩
        have hBD : Below w.heap.size w wr.drew := hB.drew
        have hS1 := hS0 _ hBD
        have hoD := ho.drew
        clear hc s0 s1 q0 q1 n1 n2 n3 n4 n5 hD h hnb
        go_upto_region 7 with fail
        have e1 : IntKind.i64.wrap (((k + 1 : Nat) : Int) - 1) = (k : Int) := by rw [IntKind.wrap_i64]; omega
        have e1' : IntKind.i64.wrap ((k : Int) + 1 - 1) = (k : Int) := by rw [IntKind.wrap_i64]; omega
        have e2 : (0 : Int) ≤ (k : Int) := by omega
        have e3 : (k : Int) < (D.length : Int) := by omega
        have e4 : (0 : Int) ≤ ((k + 1 : Nat) : Int) := by omega
        have e5' : (k : Int) + 1 < (D.length : Int) := by omega
        have e6 : IntKind.i64.wrap (k : Int) = (k : Int) := by rw [IntKind.wrap_i64]; omega
        have e8 : ((k : Int) + 1).toNat = k + 1 := by omega
        have e9 : (0 : Int) ≤ (k : Int) + 1 := by omega
        have e11 : k < D.length := by omega
        go_region_held3 (fun X => X.cell? ⟨b, off + k * 2, none⟩ = some (.int .i64 u1) ∧ X.cell? ⟨b, off + k * 2 + 1, none⟩ = some (.float .f32 u2) ∧ X.cell? ⟨b, off + (k + 1) * 2, none⟩ = some (.int .i64 v1) ∧ X.cell? ⟨b, off + (k + 1) * 2 + 1, none⟩ = some (.float .f32 v2)) (first | (with_reducible assumption) | (exact hS0 _ (Below.alloc hBX hBX.size _))) (first | (go_at_call 50; refine (hri _).mono ?_; rintro _ X ⟨rfl, hBX0⟩; have hoX := own_bel hoD hBX0; have hBX : Below w.heap.size w X := hBD.trans (hBX0.mono hBD.size); have hSX := hS0 _ hBX; have hoA := hoX.alloc (.cells #[.int .i64 u1, .float .f32 R] 64); have hBA : Below w.heap.size w (X.alloc (.cells #[.int .i64 u1, .float .f32 R] 64)) := hBX.alloc hBX.size _; have hlv := Hid.mk (fun (j : Nat) hj => (hoX.lt j hj).1)) | ((refine step_append_own (P := Tryz.prog) _ rfl _ _ 24 rfl w.heap.size 64 i0 _ 2 16 Tryz.underlying24 hi hz0 hz1 hz2 rfl (by decide) _ k (ptV (slopeN D k)) rfl hoA ⟨X.heap.size, 0, none⟩ 1 1 [.int .i64 u1, .float .f32 R] rfl rfl (lit_at X _ _) (by simp [Value.oneCell']) (by unfold maxLen; omega) (by omega) hBA.size ?_; intro v4 w4 hown4 hgrow4; have hB4 := hBA.grown hgrow4 hBA.size hlv.out; have hS4 := hS0 _ hB4)))
        go_wp2
        go_roundw
        case rel => exact ⟨k + 1, by omega, by go_num, by rw [hsd.out, ptV_snoc]; exact hown4, hB4⟩
        case measure => simp [intOf]; omega
      · obtain rfl : k = D.length - 1 := by omega
        have hlt' : ¬ ((D.length - 1 + 1 : Nat) : Int) < (D.length : Int) := by omega
        have ho9 : wr.ownsRow w.heap.size 64 2 u4 (slopeN D (D.length - 1)).length (ptV (slopeN D (D.length - 1))) := by rw [slopeN_len]; exact ho
        obtain ⟨a', c', rfl⟩ := KB.own_sl ho9
        go_wp2
        exact bodyPost_ret (v := .tuple #[.slice a' (slopeN D (D.length - 1)).length c', .int .i64 0]) (by simp [results, Tryz.results14, go_sem]) rfl ⟨_, rfl, ho9, hB⟩
end Go.Proofs.YthmjkmdbggfiiaaGreatDoor.CF


/- CurveFresh: the curve's answers are rows of their own. -/
namespace Go.Proofs.YthmjkmdbggfiiaaGreatDoor.CF
open Go.RowKit
attribute [local go_sem] run_store_float
set_option maxRecDepth 8000 in
set_option maxHeartbeats 2000000 in
theorem smoothO_any (D : Dots) (hD : Ok D) (hl : D.length ≤ 8796093021952) (n : Int) (a : Option Addr) (c : Nat) (hcl : D.length ≤ c) (w : World) (h : PtAt w a D) : Calls Tryz.prog 17 #[.slice a D.length c, .int .i64 n] w (OutO w (smoothD D n) (smoothE D n)) := by
  obtain ⟨i0, hi, hz0, hz1, hz2⟩ := info_parts infoP
  have hio := inOrder_any D hD (by omega) a c w h
  cases hW : okW n with
  | false =>
    have e1 : smoothD D n = [] := if_neg (fun h => by rw [hW] at h; cases h.1)
    have e2 : smoothE D n = 173 := if_pos hW
    rw [e1, e2]
    unfold okW at hW
    clear hio hD h e1 e2
    obtain ⟨c1, h1⟩ : ∃ c1, decide (n < 1) = c1 := ⟨_, rfl⟩
    obtain ⟨c2, h2⟩ : ∃ c2, decide (15 < n) = c2 := ⟨_, rfl⟩
    rw [h1, h2] at hW
    cases c1 with
    | true =>
      go_enter Tryz.func17, Tryz.ntmps17
      go_wp2
      exact bodyPost_ret (v := .tuple #[.slice none 0 0, .int .i64 173]) (by simp [results, Tryz.results17, go_sem]) rfl ⟨_, rfl, World.ownsRow_nil _ _ _ _, Below.refl _ _⟩
    | false =>
      cases c2 with
      | true =>
        go_enter Tryz.func17, Tryz.ntmps17
        go_wp2
        exact bodyPost_ret (v := .tuple #[.slice none 0 0, .int .i64 173]) (by simp [results, Tryz.results17, go_sem]) rfl ⟨_, rfl, World.ownsRow_nil _ _ _ _, Below.refl _ _⟩
      | false =>
        have h3 : n.tmod 2 = 0 := by simpa using hW
        have h4 : IntKind.i64.wrap (n.tmod 2) = 0 := by rw [h3]; rfl
        have h5 : (n.tmod 2 == 0) = true := by rw [h3]; rfl
        go_enter Tryz.func17, Tryz.ntmps17
        go_wp2
        exact bodyPost_ret (v := .tuple #[.slice none 0 0, .int .i64 173]) (by simp [results, Tryz.results17, go_sem]) rfl ⟨_, rfl, World.ownsRow_nil _ _ _ _, Below.refl _ _⟩
  | true =>
    obtain ⟨r, hr, hr7⟩ := okW_parts hW
    have h1 : decide (n < 1) = false := decide_eq_false (by omega)
    have h2 : decide (15 < n) = false := decide_eq_false (by omega)
    have h3 : n.tmod 2 = 1 := by rw [Int.tmod_eq_emod_of_nonneg (by omega)]; omega
    have h4 : IntKind.i64.wrap (n.tmod 2) = 1 := by rw [h3]; rfl
    cases hO : inO D with
    | false =>
      have e1 : smoothD D n = [] := if_neg (fun h => by rw [hO] at h; cases h.2)
      have e2 : smoothE D n = 172 := by unfold smoothE; rw [if_neg (by rw [hW]; decide), if_neg (by rw [hO]; decide)]
      rw [e1, e2]
      rw [hO] at hio
      clear hr hr7 hW
      go_enter Tryz.func17, Tryz.ntmps17
      go_wp2_with (go_at_call 49; refine hio.mono ?_; rintro _ w1 ⟨rfl, hB1⟩)
      exact bodyPost_ret (v := .tuple #[.slice none 0 0, .int .i64 172]) (by simp [results, Tryz.results17, go_sem]) rfl ⟨_, rfl, World.ownsRow_nil _ _ _ _, hB1⟩
    | true =>
      have e0 : ((n - 1) / 2).toNat = r := by omega
      have e1 : smoothD D n = smoothN D r D.length := by unfold smoothD; rw [if_pos ⟨hW, hO⟩, e0]
      have e2 : smoothE D n = 0 := by unfold smoothE; rw [if_neg (by rw [hW]; decide), if_pos hO]
      rw [e1, e2]
      rw [hO] at hio
      have h6 : IntKind.i64.wrap (n - 1) = n - 1 := by rw [IntKind.wrap_i64]; omega
      have h7 : (n - 1).tdiv 2 = (r : Int) := by rw [Int.tdiv_eq_ediv_of_nonneg (by omega)]; omega
      have h8 : IntKind.i64.wrap (r : Int) = (r : Int) := by rw [IntKind.wrap_i64]; omega
      clear e0 e1 e2 hW
      replace hr := Hid.mk hr
      go_enter Tryz.func17, Tryz.ntmps17
      go_wp2_with (go_at_call 49; refine hio.mono ?_; clear hio; rintro _ w1 ⟨rfl, hB1⟩)
      go_loopw [7, 32] (fun v x wr => ∃ k : Nat, k ≤ D.length ∧ x = .int .i64 (k : Int) ∧ wr.ownsRow w.heap.size 64 2 v k (ptV (smoothN D r k)) ∧ Below w.heap.size w wr) (fun _ x _ => D.length - (intOf x).toNat)
      case atStart => exact ⟨0, by omega, rfl, World.ownsRow_nil _ _ _ _, hB1⟩
      case round =>
        clear hB1
        obtain ⟨k, hk, rfl, ho, hB⟩ := hrel
        by_cases hlt : k < D.length
        · have hlt' : (k : Int) < (D.length : Int) := by omega
          have hk0 : (0 : Int) ≤ (k : Int) := by omega
          obtain ⟨b, off, rfl, hc⟩ := (h.later hB).cells hlt
          obtain ⟨p0, p1⟩ := hc k hlt
          have hbl : b < wr.heap.size := World.block_lt_of_cell? _ _ p0
          obtain ⟨lo, hlo⟩ : ∃ lo, lo = loN k r := ⟨_, rfl⟩
          obtain ⟨m, hm⟩ : ∃ m, hiN k r D.length = lo + m + 1 := ⟨hiN k r D.length - lo - 1, by rw [hlo]; unfold hiN loN; omega⟩
          have hlm : lo + m < D.length := by have : hiN k r D.length ≤ D.length := Nat.min_le_right _ _; omega
          have hsd : Hid (smoothN D r (k + 1) = smoothN D r k ++ [((D.getD k (0, 0)).1, divN (sumS D lo m) (wholeN ((m : Int) + 1)))]) := ⟨by
            show _ ++ [(_, meanN D (loN k r) (hiN k r D.length))] = _
            rw [← hlo, hm]
            unfold meanN
            rw [show lo + m + 1 - lo - 1 = m by omega, show ((lo + m + 1 : Nat) : Int) - (lo : Int) = (m : Int) + 1 by omega]⟩
          have g1 : Hid ((if (k : Int) - (r : Int) < 0 then 0 else (k : Int) - (r : Int)) = (lo : Int)) := ⟨by rw [hlo]; unfold loN; split <;> omega⟩
          have g2 : Hid ((if (D.length : Int) < (k : Int) + (r : Int) + 1 then (D.length : Int) else (k : Int) + (r : Int) + 1) = ((lo + m + 1 : Nat) : Int)) := ⟨by rw [← hm]; unfold hiN; split <;> omega⟩
          have g3 : IntKind.i64.wrap ((k : Int) - (r : Int)) = (k : Int) - (r : Int) := by rw [IntKind.wrap_i64]; omega
          have g4 : IntKind.i64.wrap ((k : Int) + (r : Int)) = (k : Int) + (r : Int) := by rw [IntKind.wrap_i64]; omega
          have g5 : IntKind.i64.wrap ((k : Int) + (r : Int) + 1) = (k : Int) + (r : Int) + 1 := by rw [IntKind.wrap_i64]; omega
          generalize (D.getD k (0, 0)).1 = x at *
          generalize (D.getD k (0, 0)).2 = y at *
          obtain ⟨X, hX⟩ : ∃ X, wr.alloc (.cells #[.int .i64 x, .float .f32 y] 64) = X := ⟨_, rfl⟩
          have t0 : X.cell? ⟨wr.heap.size, 0, none⟩ = some (.int .i64 x) := by rw [← hX]; simp
          have hX3l : wr.heap.size < X.heap.size := World.block_lt_of_cell? _ _ t0
          have hB0X : Below wr.heap.size wr X := by rw [← hX]; exact (Below.refl _ _).alloc (Nat.le_refl _) _
          have hBX : Below w.heap.size w X := hB.trans (hB0X.mono hB.size)
          have hoX := own_bel ho hB0X
          have hcX := Hid.mk (fun i hi => (⟨(hB0X.cell (p := ⟨b, off + i * 2, none⟩) hbl).trans (hc i hi).1, (hB0X.cell (p := ⟨b, off + i * 2 + 1, none⟩) hbl).trans (hc i hi).2⟩ : X.cell? ⟨b, off + i * 2, none⟩ = some (.int .i64 (D.getD i (0, 0)).1) ∧ X.cell? ⟨b, off + i * 2 + 1, none⟩ = some (.float .f32 (D.getD i (0, 0)).2)))
          replace hX := Hid.mk hX
          replace hlo := Hid.mk hlo
          replace hm := Hid.mk hm
          clear hc
          go_upto_region 10 with fail
          rw [hX.out]
          go_upto_region 11 with fail
          rw [g1.out, g2.out, Int.toNat_natCast, Int.toNat_natCast, show lo + m + 1 - lo = m + 1 by omega]
          have hme := mean_any D hD hO hl b off lo m (c - lo) hlm (by omega) X.drew hcX.out
          generalize divN (sumS D lo m) (wholeN ((m : Int) + 1)) = R at *
          have hq0 : ∀ Y, Below X.heap.size X Y → Y.cell? ⟨wr.heap.size, 0, none⟩ = some (.int .i64 x) := fun Y hY => (hY.cell (p := ⟨wr.heap.size, 0, none⟩) hX3l).trans t0
          have hXD : Below X.heap.size X X.drew := (Below.refl _ _).drew
          have hq1 := hq0 _ hXD
          have hun : Hid (u7.ownBlock ≠ some wr.heap.size) := ⟨fun e => absurd (ho.lt _ e).2 (Nat.lt_irrefl _)⟩
          replace g1 := g1.out
          clear hD hO hcX g1 g2 g3 g4 g5 h h1 h2 h3 h4 h6 h7 h8
          go_region_held3 (fun Z => Z.cell? ⟨wr.heap.size, 0, none⟩ = some (.int .i64 x)) (first | (with_reducible assumption) | (exact hq0 _ (Below.alloc hBY1 hBY1.size _))) (first | (go_at_call 56; refine hme.mono ?_; rintro _ Y ⟨rfl, hBY0⟩; have hBY1 : Below X.heap.size X Y := hXD.trans (hBY0.mono hXD.size); have hBY : Below w.heap.size w Y := hBX.trans (hBY1.mono hBX.size); have hoY := own_bel hoX hBY1; have hqY := hq0 _ hBY1; have hoA := hoY.alloc (.cells #[.int .i64 x, .float .f32 R] 64); have hBA : Below w.heap.size w (Y.alloc (.cells #[.int .i64 x, .float .f32 R] 64)) := hBY.alloc hBY.size _; have hqA := hq0 _ (Below.alloc hBY1 hBY1.size (.cells #[.int .i64 x, .float .f32 R] 64)); have hAl := Hid.mk (World.block_lt_of_cell? _ _ hqA); have hlv := Hid.mk (fun (j : Nat) hj => (hoY.lt j hj).1)) | ((refine step_append_own (P := Tryz.prog) _ rfl _ _ 24 rfl w.heap.size 64 i0 _ 2 16 Tryz.underlying24 hi hz0 hz1 hz2 rfl (by decide) _ k (ptV (smoothN D r k)) rfl hoA ⟨Y.heap.size, 0, none⟩ 1 1 [.int .i64 x, .float .f32 R] rfl rfl (lit_at Y _ _) (by simp [Value.oneCell']) (by unfold maxLen; omega) (by omega) hBA.size ?_; intro v4 w4 hown4 hgrow4; have hB4 := hBA.grown hgrow4 hBA.size hlv.out; have hS4 := (grown_cell hgrow4 (o := 0) hAl.out hun.out).trans hqA)))
          go_wp2
          go_roundw
          case rel => exact ⟨k + 1, by omega, by go_num, by rw [hsd.out, ptV_snoc]; exact hown4, hB4⟩
          case measure => simp [intOf]; omega
        · obtain rfl : k = D.length := by omega
          have ho9 : wr.ownsRow w.heap.size 64 2 u7 (smoothN D r D.length).length (ptV (smoothN D r D.length)) := by rw [smoothN_len]; exact ho
          obtain ⟨a', c', rfl⟩ := KB.own_sl ho9
          go_wp2
          exact bodyPost_ret (v := .tuple #[.slice a' (smoothN D r D.length).length c', .int .i64 0]) (by simp [results, Tryz.results17, go_sem]) rfl ⟨_, rfl, ho9, hB⟩
end Go.Proofs.YthmjkmdbggfiiaaGreatDoor.CF


/- CurveFresh: all heights are numbers or infinities. -/
namespace Go.Proofs.YthmjkmdbggfiiaaGreatDoor.CF
open Go.RowKit

theorem divN_no {a b : Nat} (ha : a < 4294967296) (h1 : a % 2147483648 ≤ 2139095040) (hb : b < 4294967296) (h2 : b % 2147483648 < 2139095040) (h0 : pM b ≠ 0) : divN a b % 2147483648 ≤ 2139095040 := by
  rw [divN_eq ha hb h2 h0]
  unfold Ieee.Format.div
  by_cases h3 : a % 2147483648 < 2139095040
  · rw [read_fin ha h3, read_fin hb h2]
    unfold Ieee.Datum.quotient
    simp only
    rw [if_neg h0]
    simp only [Option.map_some, Option.getD_some, write_num]
    exact near_le _ _ _
  · rw [read_inf ha (by omega), read_fin hb h2]
    show Ieee.single.write (.infinity (pS a ^^ pS b)) % _ ≤ _
    rw [write_inf']
    unfold wd
    split <;> omega
/-- No height is a NaN. -/
def NN (D : Dots) : Prop := ∀ d ∈ D, d.2 < 4294967296 ∧ d.2 % 2147483648 ≤ 2139095040
theorem NN.nil : NN [] := fun _ h => by cases h
theorem NN.snoc {D : Dots} (h : NN D) {d : Int × Nat} (hd : d.2 < 4294967296 ∧ d.2 % 2147483648 ≤ 2139095040) : NN (D ++ [d]) := fun x hx => by
  rcases List.mem_append.1 hx with hx | hx
  · exact h x hx
  · rw [List.mem_singleton.1 hx]
    exact hd
theorem rate_nn {D : Dots} (hD : Ok D) : ∀ k, NN (rateN D k)
  | 0 => NN.nil
  | k + 1 => by
    unfold rateN
    split
    · rename_i hc
      have hk := hD.getD k
      obtain ⟨q1, q2, q3⟩ := whole_some hc.1 hk.1.1 hk.1.2
      exact (rate_nn hD k).snoc ⟨divN_lt hk.2 q1 q2 q3, divN_no hk.2 (by omega) q1 q2 q3⟩
    · rw [List.append_nil]
      exact rate_nn hD k
theorem slope_nn {D : Dots} (hD : Ok D) (hO : inO D = true) : ∀ k, k + 1 ≤ D.length ∨ k = 0 → NN (slopeN D k)
  | 0, _ => NN.nil
  | k + 1, h => by
    obtain ⟨n1, n2, n3, n4, n5⟩ := nbr hO (k := k) (by omega)
    have h1 := (hD.getD k).2
    have h2 := (hD.getD (k + 1)).2
    obtain ⟨q1, q2, q3⟩ := whole_some (z := (D.getD (k + 1) (0, 0)).1 - (D.getD k (0, 0)).1) (by omega) (by omega) (by omega)
    obtain ⟨s1, s2⟩ := subN_le (a := (D.getD (k + 1) (0, 0)).2) h1 n5 n4
    exact (slope_nn hD hO k (by omega)).snoc ⟨divN_lt s2 q1 q2 q3, divN_no s2 s1 q1 q2 q3⟩
theorem smooth_nn {D : Dots} (hD : Ok D) (hO : inO D = true) (hl : D.length ≤ 1000000) (r : Nat) : ∀ k, k ≤ D.length → NN (smoothN D r k)
  | 0, _ => NN.nil
  | k + 1, h => by
    have h1 : loN k r < hiN k r D.length := by unfold loN hiN; omega
    have h2 : hiN k r D.length ≤ D.length := by unfold hiN; omega
    obtain ⟨s1, s2⟩ := sumS_le hD hO (lo := loN k r) (hiN k r D.length - loN k r - 1) (by omega)
    obtain ⟨q1, q2, q3⟩ := whole_some (z := (hiN k r D.length : Int) - (loN k r : Int)) (by omega) (by omega) (by omega)
    exact (smooth_nn hD hO hl r k (by omega)).snoc ⟨divN_lt s2 q1 q2 q3, divN_no s2 s1 q1 q2 q3⟩
theorem pts_nn (f s : Int) (g : Nat → Int) (hg : ∀ k, (g k).natAbs < 16777216) : ∀ k, NN (ptsW f s g k)
  | 0 => NN.nil
  | k + 1 => by
    obtain ⟨x1, x2, x3, x4⟩ := whole_parts (hg k)
    exact (pts_nn f s g hg k).snoc ⟨x1, by omega⟩
theorem ptK_get (D : Dots) (j : Nat) (h : j < D.length) : (ptV D)[j * 2]? = some (.int .i64 D[j].1) ∧ (ptV D)[j * 2 + 1]? = some (.float .f32 D[j].2) := by
  induction D generalizing j with
  | nil => simp at h
  | cons d D ih =>
    show (([.int .i64 d.1, .float .f32 d.2] ++ ptV D)[j * 2]? = _) ∧ (([.int .i64 d.1, .float .f32 d.2] ++ ptV D)[j * 2 + 1]? = _)
    cases j with
    | zero => exact ⟨rfl, rfl⟩
    | succ j =>
      have := ih j (by simpa using h)
      rw [List.getElem?_append_right (show 2 ≤ (j + 1) * 2 by omega), List.getElem?_append_right (show 2 ≤ (j + 1) * 2 + 1 by omega)]
      simp only [List.length_cons, List.length_nil, List.getElem_cons_succ]
      rw [show (j + 1) * 2 - (0 + 1 + 1) = j * 2 by omega, show (j + 1) * 2 + 1 - (0 + 1 + 1) = j * 2 + 1 by omega]
      exact this
theorem ptV_one (D : Dots) : ∀ u ∈ ptV D, u.oneCell' = true := fun u hu => by
  unfold ptV at hu
  obtain ⟨d, -, hd⟩ := List.mem_flatMap.1 hu
  simp at hd
  rcases hd with rfl | rfl <;> rfl
theorem ptV_good (D : Dots) : KB.goodPoints D.length (ptV D) := ⟨ptV_one D, fun j hj => ⟨_, _, (ptK_get D j hj).1, (ptK_get D j hj).2⟩⟩
/-- Points that are the same as themselves. -/
def GP (n : Nat) (L : List Value) : Prop := KB.goodPoints n L ∧ ∀ j, j < n → ∃ (x : Int) (b : Nat), L[j * 2]? = some (.int .i64 x) ∧ L[j * 2 + 1]? = some (.float .f32 b) ∧ Op.floatEq .f32 b b = true
theorem gp_of {D : Dots} (h : NN D) : GP D.length (ptV D) := ⟨ptV_good D, fun j hj => ⟨_, _, (ptK_get D j hj).1, (ptK_get D j hj).2, by
  have := h _ (List.getElem_mem hj)
  exact feq this.1 this.1 this.2 this.2 rfl⟩⟩
end Go.Proofs.YthmjkmdbggfiiaaGreatDoor.CF

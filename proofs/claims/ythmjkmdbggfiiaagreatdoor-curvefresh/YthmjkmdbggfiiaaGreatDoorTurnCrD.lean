import Derived.Test.YthmjkmdbggfiiaaGreatDoorJoin26
namespace Go.Proofs.YthmjkmdbggfiiaaGreatDoor.CF
open Go.RowKit
attribute [local go_sem] run_store_float

theorem grown_cell {W W' : World} {r : Option Nat} (hg : W.grownBy W' r) {b o : Nat} (hl : b < W.heap.size) (hne : r ≠ some b) : W'.cell? ⟨b, o, none⟩ = W.cell? ⟨b, o, none⟩ := by
  have := hg.block b hl hne.symm
  simp only [World.cell?, this]
def okW (n : Int) : Bool := !(decide (n < 1) || decide (15 < n) || (n.tmod 2 == 0))
def smoothD (D : Dots) (n : Int) : Dots := if okW n = true ∧ inO D = true then smoothN D ((n - 1) / 2).toNat D.length else []
def smoothE (D : Dots) (n : Int) : Int := if okW n = false then 173 else if inO D = true then 0 else 172
theorem okW_parts {n : Int} (h : okW n = true) : ∃ r : Nat, n = 2 * (r : Int) + 1 ∧ r ≤ 7 := by
  unfold okW at h
  simp at h
  obtain ⟨⟨h1, h2⟩, h3⟩ := h
  refine ⟨((n - 1) / 2).toNat, ?_, ?_⟩
  · have : n.tmod 2 = n % 2 := Int.tmod_eq_emod_of_nonneg (by omega)
    omega
  · omega
set_option maxRecDepth 8000 in
set_option maxHeartbeats 2000000 in
theorem smoothP_any (D : Dots) (hD : Ok D) (hl : D.length ≤ 8796093021952) (n : Int) (a : Option Addr) (c : Nat) (hcl : D.length ≤ c) (w : World) (h : PtAt w a D) : Calls Tryz.prog 17 #[.slice a D.length c, .int .i64 n] w (OutP w (smoothD D n) (smoothE D n)) := by
  obtain ⟨i0, hi, hz0, hz1, hz2⟩ := info_parts infoP
  have hio := inOrder_any D hD (by omega) a c w h
  cases hW : okW n with
  | false =>
    have e1 : smoothD D n = [] := if_neg (fun h => by rw [hW] at h; cases h.1)
    have e2 : smoothE D n = 173 := if_pos hW
    rw [e1, e2]
    unfold okW at hW
    clear hio hD h e1 e2
    obtain ⟨c1, h1⟩ : ∃ c1, decide (n < 1) = c1 := ⟨_, rfl⟩
    obtain ⟨c2, h2⟩ : ∃ c2, decide (15 < n) = c2 := ⟨_, rfl⟩
    rw [h1, h2] at hW
    cases c1 with
    | true =>
      go_enter Tryz.func17, Tryz.ntmps17
      go_wp2
      exact bodyPost_ret (v := .tuple #[.slice none 0 0, .int .i64 173]) (by simp [results, Tryz.results17, go_sem]) rfl ⟨none, 0, rfl, .inl rfl, Below.refl _ _⟩
    | false =>
      cases c2 with
      | true =>
        go_enter Tryz.func17, Tryz.ntmps17
        go_wp2
        exact bodyPost_ret (v := .tuple #[.slice none 0 0, .int .i64 173]) (by simp [results, Tryz.results17, go_sem]) rfl ⟨none, 0, rfl, .inl rfl, Below.refl _ _⟩
      | false =>
        have h3 : n.tmod 2 = 0 := by simpa using hW
        have h4 : IntKind.i64.wrap (n.tmod 2) = 0 := by rw [h3]; rfl
        have h5 : (n.tmod 2 == 0) = true := by rw [h3]; rfl
        go_enter Tryz.func17, Tryz.ntmps17
        go_wp2
        exact bodyPost_ret (v := .tuple #[.slice none 0 0, .int .i64 173]) (by simp [results, Tryz.results17, go_sem]) rfl ⟨none, 0, rfl, .inl rfl, Below.refl _ _⟩
  | true =>
    obtain ⟨r, hr, hr7⟩ := okW_parts hW
    have h1 : decide (n < 1) = false := decide_eq_false (by omega)
    have h2 : decide (15 < n) = false := decide_eq_false (by omega)
    have h3 : n.tmod 2 = 1 := by rw [Int.tmod_eq_emod_of_nonneg (by omega)]; omega
    have h4 : IntKind.i64.wrap (n.tmod 2) = 1 := by rw [h3]; rfl
    cases hO : inO D with
    | false =>
      have e1 : smoothD D n = [] := if_neg (fun h => by rw [hO] at h; cases h.2)
      have e2 : smoothE D n = 172 := by unfold smoothE; rw [if_neg (by rw [hW]; decide), if_neg (by rw [hO]; decide)]
      rw [e1, e2]
      rw [hO] at hio
      clear hr hr7 hW
      go_enter Tryz.func17, Tryz.ntmps17
      go_wp2_with (go_at_call 49; refine hio.mono ?_; rintro _ w1 ⟨rfl, hB1⟩)
      exact bodyPost_ret (v := .tuple #[.slice none 0 0, .int .i64 172]) (by simp [results, Tryz.results17, go_sem]) rfl ⟨none, 0, rfl, .inl rfl, hB1⟩
    | true =>
      have e0 : ((n - 1) / 2).toNat = r := by omega
      have e1 : smoothD D n = smoothN D r D.length := by unfold smoothD; rw [if_pos ⟨hW, hO⟩, e0]
      have e2 : smoothE D n = 0 := by unfold smoothE; rw [if_neg (by rw [hW]; decide), if_pos hO]
      rw [e1, e2]
      rw [hO] at hio
      have h6 : IntKind.i64.wrap (n - 1) = n - 1 := by rw [IntKind.wrap_i64]; omega
      have h7 : (n - 1).tdiv 2 = (r : Int) := by rw [Int.tdiv_eq_ediv_of_nonneg (by omega)]; omega
      have h8 : IntKind.i64.wrap (r : Int) = (r : Int) := by rw [IntKind.wrap_i64]; omega
      clear e0 e1 e2 hW
      replace hr := Hid.mk hr
      go_enter Tryz.func17, Tryz.ntmps17
      go_wp2_with (go_at_call 49; refine hio.mono ?_; clear hio; rintro _ w1 ⟨rfl, hB1⟩)
      go_loopw [7, 32] (fun v x wr => ∃ k : Nat, k ≤ D.length ∧ x = .int .i64 (k : Int) ∧ wr.ownsRow w.heap.size 64 2 v k (ptV (smoothN D r k)) ∧ Below w.heap.size w wr) (fun _ x _ => D.length - (intOf x).toNat)
      case atStart => exact ⟨0, by omega, rfl, World.ownsRow_nil _ _ _ _, hB1⟩
      case round =>
        clear hB1
        obtain ⟨k, hk, rfl, ho, hB⟩ := hrel
        by_cases hlt : k < D.length
        · have hlt' : (k : Int) < (D.length : Int) := by omega
          have hk0 : (0 : Int) ≤ (k : Int) := by omega
          obtain ⟨b, off, rfl, hc⟩ := (h.later hB).cells hlt
          obtain ⟨p0, p1⟩ := hc k hlt
          have hbl : b < wr.heap.size := World.block_lt_of_cell? _ _ p0
          obtain ⟨lo, hlo⟩ : ∃ lo, lo = loN k r := ⟨_, rfl⟩
          obtain ⟨m, hm⟩ : ∃ m, hiN k r D.length = lo + m + 1 := ⟨hiN k r D.length - lo - 1, by rw [hlo]; unfold hiN loN; omega⟩
          have hlm : lo + m < D.length := by have : hiN k r D.length ≤ D.length := Nat.min_le_right _ _; omega
          have hsd : Hid (smoothN D r (k + 1) = smoothN D r k ++ [((D.getD k (0, 0)).1, divN (sumS D lo m) (wholeN ((m : Int) + 1)))]) := ⟨by
            show _ ++ [(_, meanN D (loN k r) (hiN k r D.length))] = _
            rw [← hlo, hm]
            unfold meanN
            rw [show lo + m + 1 - lo - 1 = m by omega, show ((lo + m + 1 : Nat) : Int) - (lo : Int) = (m : Int) + 1 by omega]⟩
          have g1 : Hid ((if (k : Int) - (r : Int) < 0 then 0 else (k : Int) - (r : Int)) = (lo : Int)) := ⟨by rw [hlo]; unfold loN; split <;> omega⟩
          have g2 : Hid ((if (D.length : Int) < (k : Int) + (r : Int) + 1 then (D.length : Int) else (k : Int) + (r : Int) + 1) = ((lo + m + 1 : Nat) : Int)) := ⟨by rw [← hm]; unfold hiN; split <;> omega⟩
          have g3 : IntKind.i64.wrap ((k : Int) - (r : Int)) = (k : Int) - (r : Int) := by rw [IntKind.wrap_i64]; omega
          have g4 : IntKind.i64.wrap ((k : Int) + (r : Int)) = (k : Int) + (r : Int) := by rw [IntKind.wrap_i64]; omega
          have g5 : IntKind.i64.wrap ((k : Int) + (r : Int) + 1) = (k : Int) + (r : Int) + 1 := by rw [IntKind.wrap_i64]; omega
          generalize (D.getD k (0, 0)).1 = x at *
          generalize (D.getD k (0, 0)).2 = y at *
          obtain ⟨X, hX⟩ : ∃ X, wr.alloc (.cells #[.int .i64 x, .float .f32 y] 64) = X := ⟨_, rfl⟩
          have t0 : X.cell? ⟨wr.heap.size, 0, none⟩ = some (.int .i64 x) := by rw [← hX]; simp
          have hX3l : wr.heap.size < X.heap.size := World.block_lt_of_cell? _ _ t0
          have hB0X : Below wr.heap.size wr X := by rw [← hX]; exact (Below.refl _ _).alloc (Nat.le_refl _) _
          have hBX : Below w.heap.size w X := hB.trans (hB0X.mono hB.size)
          have hoX := own_bel ho hB0X
          have hcX := Hid.mk (fun i hi => (⟨(hB0X.cell (p := ⟨b, off + i * 2, none⟩) hbl).trans (hc i hi).1, (hB0X.cell (p := ⟨b, off + i * 2 + 1, none⟩) hbl).trans (hc i hi).2⟩ : X.cell? ⟨b, off + i * 2, none⟩ = some (.int .i64 (D.getD i (0, 0)).1) ∧ X.cell? ⟨b, off + i * 2 + 1, none⟩ = some (.float .f32 (D.getD i (0, 0)).2)))
          replace hX := Hid.mk hX
          replace hlo := Hid.mk hlo
          replace hm := Hid.mk hm
          clear hc
          go_upto_region 10 with fail
          rw [hX.out]
          go_upto_region 11 with fail
          rw [g1.out, g2.out, Int.toNat_natCast, Int.toNat_natCast, show lo + m + 1 - lo = m + 1 by omega]
          have hme := mean_any D hD hO hl b off lo m (c - lo) hlm (by omega) X.drew hcX.out
          generalize divN (sumS D lo m) (wholeN ((m : Int) + 1)) = R at *
          have hq0 : ∀ Y, Below X.heap.size X Y → Y.cell? ⟨wr.heap.size, 0, none⟩ = some (.int .i64 x) := fun Y hY => (hY.cell (p := ⟨wr.heap.size, 0, none⟩) hX3l).trans t0
          have hXD : Below X.heap.size X X.drew := (Below.refl _ _).drew
          have hq1 := hq0 _ hXD
          have hun : Hid (u7.ownBlock ≠ some wr.heap.size) := ⟨fun e => absurd (ho.lt _ e).2 (Nat.lt_irrefl _)⟩
          replace g1 := g1.out
          clear hD hO hcX g1 g2 g3 g4 g5 h h1 h2 h3 h4 h6 h7 h8
          go_region_held3 (fun Z => Z.cell? ⟨wr.heap.size, 0, none⟩ = some (.int .i64 x)) (first | (with_reducible assumption) | (exact hq0 _ (Below.alloc hBY1 hBY1.size _))) (first | (go_at_call 56; refine hme.mono ?_; rintro _ Y ⟨rfl, hBY0⟩; have hBY1 : Below X.heap.size X Y := hXD.trans (hBY0.mono hXD.size); have hBY : Below w.heap.size w Y := hBX.trans (hBY1.mono hBX.size); have hoY := own_bel hoX hBY1; have hqY := hq0 _ hBY1; have hoA := hoY.alloc (.cells #[.int .i64 x, .float .f32 R] 64); have hBA : Below w.heap.size w (Y.alloc (.cells #[.int .i64 x, .float .f32 R] 64)) := hBY.alloc hBY.size _; have hqA := hq0 _ (Below.alloc hBY1 hBY1.size (.cells #[.int .i64 x, .float .f32 R] 64)); have hAl := Hid.mk (World.block_lt_of_cell? _ _ hqA); have hlv := Hid.mk (fun (j : Nat) hj => (hoY.lt j hj).1)) | ((refine step_append_own (P := Tryz.prog) _ rfl _ _ 24 rfl w.heap.size 64 i0 _ 2 16 Tryz.underlying24 hi hz0 hz1 hz2 rfl (by decide) _ k (ptV (smoothN D r k)) rfl hoA ⟨Y.heap.size, 0, none⟩ 1 1 [.int .i64 x, .float .f32 R] rfl rfl (lit_at Y _ _) (by simp [Value.oneCell']) (by unfold maxLen; omega) (by omega) hBA.size ?_; intro v4 w4 hown4 hgrow4; have hB4 := hBA.grown hgrow4 hBA.size hlv.out; have hS4 := (grown_cell hgrow4 (o := 0) hAl.out hun.out).trans hqA)))
          go_wp2
          go_roundw
          case rel => exact ⟨k + 1, by omega, by go_num, by rw [hsd.out, ptV_snoc]; exact hown4, hB4⟩
          case measure => simp [intOf]; omega
        · obtain rfl : k = D.length := by omega
          obtain ⟨a', c', rfl, hP⟩ := pt_of_own ho (smoothN_len D _ _).symm
          go_wp2
          exact bodyPost_ret (v := .tuple #[.slice a' (smoothN D r D.length).length c', .int .i64 0]) (by simp [results, Tryz.results17, go_sem]) rfl ⟨a', c', rfl, hP, hB⟩
end Go.Proofs.YthmjkmdbggfiiaaGreatDoor.CF

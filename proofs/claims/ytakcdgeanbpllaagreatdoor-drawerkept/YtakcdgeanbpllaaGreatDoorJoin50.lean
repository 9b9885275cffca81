import Derived.Test.YtakcdgeanbpllaaGreatDoorJoin49
import Derived.Deep.DeepCutAuto
import Derived.Test.YtakcdgeanbpllaaGreatDoorJoin44
import Derived.Test.YtakcdgeanbpllaaGreatDoorDmQ
import Derived.Test.YtakcdgeanbpllaaGreatDoorDmN
import Derived.Test.YtakcdgeanbpllaaGreatDoorJoin47
import Derived.Test.YtakcdgeanbpllaaGreatDoorDrC
import Derived.Test.YtakcdgeanbpllaaGreatDoorJoin48
/- DrawerCost. -/
namespace Go.Proofs.YtakcdgeanbpllaaGreatDoor.DJ
open Go.RowKit
set_option linter.constructorNameAsVariable false

theorem slice_to (a : Option Addr) (n cap k : Nat) (ha : ∀ p, a = some p → ∃ b off, p = ⟨b, off, none⟩) (hk : k ≤ cap) : ∀ X, (Instr.slice 23 (.slice a n cap) none (some (.int .i64 (k : Int))) none).run Tryz.prog X = .ok (.slice a k cap) X := fun X => by
  rw [run_slice_h _ _ _ _ _ under_u8 .i64 (k : Int) (by omega) (by omega), size_u8, Result.andThen_ok, sliced, Int.toNat_natCast]
  congr 2
  split
  · rfl
  · cases a with
    | none => rfl
    | some p =>
      obtain ⟨b, off, rfl⟩ := ha p rfl
      simp [Go.WideShapes.add_plain]

set_option maxRecDepth 4000 in
set_option maxHeartbeats 4000000 in
theorem cost_walk (sum : Nat) (hsum : sum < 4294967296) (kd : Int) (a : Option Addr) (cap : Nat) (bs : List Nat) (hcap : bs.length ≤ cap) (ha : a = none → cap = 0) (w : World) (ht : TabL w.heap.size w) (h : Byts w a bs) :
    Calls Tryz.prog 3 #[.int .u32 (sum : Int), .int .i64 kd, .slice a bs.length cap] w fun e w' => e = .returned (.bool true) ∧ Below w.heap.size w w' := by
  have hK := known_any w (Nat.le_refl _) ht
  go_enter Tryz.func3, Tryz.ntmps3
  go_upto_if 17 with (go_at_call 7; refine hK.mono ?_; rintro e w1 ⟨rfl, hb1⟩)
  go_cut [2] (fun v wx => ∃ bs' : List Nat, v = .slice a bs'.length cap ∧ bs'.length ≤ 1048576 ∧ Byts wx a bs' ∧ Below w.heap.size w wx)
  case first =>
    by_cases hbig : 1048576 < bs.length
    · have hbig' : (1048576 : Int) < (bs.length : Int) := by omega
      have hsl := slice_to a bs.length cap 1048576 (fun p e => by
        obtain ⟨b, off, e', -⟩ := byts_at h (i := 0) (by omega)
        rw [e'] at e
        cases e
        exact ⟨b, off, rfl⟩) (by omega)
      have hT : (bs.take 1048576).length = 1048576 := by rw [List.length_take]; omega
      have hB : Hid (∃ bs' : List Nat, Value.slice a 1048576 cap = .slice a bs'.length cap ∧ bs'.length ≤ 1048576 ∧ Byts w1 a bs' ∧ Below w.heap.size w w1) := ⟨bs.take 1048576, by rw [hT], by omega, byts_take (h.later hb1) _, hb1⟩
      clear hT hbig
      go_wp2
      go_meet
      exact hB.out
    · have hbig' : ¬ (1048576 : Int) < (bs.length : Int) := by omega
      go_wp2
      go_meet
      exact ⟨bs, rfl, by omega, h.later hb1, hb1⟩
  case rest =>
    obtain ⟨B, rfl, hBl, hBy, hb2⟩ := hcut
    clear hK hb1 hcap h
    have hBI : (B.length : Int) ≤ 1048576 := by omega
    have hB0 : (0 : Int) ≤ (B.length : Int) := by omega
    go_wp2_with fail
    go_loopw [8] (fun v wr => ∃ k : Nat, k ≤ 4 ∧ v = .int .i64 (k : Int) ∧ Below wc.heap.size wc wr) (fun v _ => 4 - (intOf v).toNat)
    case atStart => exact ⟨0, by decide, rfl, Below.refl _ _⟩
    case round =>
      obtain ⟨k, hk, rfl, hbr⟩ := hrel
      have hbw : Below w.heap.size w wr := hb2.trans (hbr.mono hb2.size)
      have htr : TabL wr.heap.size wr := (ht.next hbw).mono hbw.size
      have hBg := begin_any sum wr
      have hWo := fun (X : World) (S : Nat → Prop) (db ub : Nat) (hX : Below wr.heap.size wr X) (hD : DiskAt X wr.heap.size S db dk0) (hub : ¬ S ub) (hlu : wr.heap.size ≤ ub) hrow => wopen_fresh (wp := none) (sum := sum) hsum calm0 rfl X hX.size (htr.next hX) hD hub hlu hrow
      have hnil : ∀ (b : Nat) (W : World), (binOp BinOp.eql 25 (.pointer (some ⟨b, 0, none⟩)) (.pointer none)).run Tryz.prog W = .ok (.bool false) W := fun _ _ => rfl
      have hnil2 : ∀ (b : Nat) (W : World), (binOp BinOp.eql 28 (.pointer (some ⟨b, 0, none⟩)) (.pointer none)).run Tryz.prog W = .ok (.bool false) W := fun _ _ => rfl
      replace hWo := Hid.mk hWo
      obtain ⟨kN, hkN⟩ : ∃ n : Nat, kd % 256 = (n : Int) := ⟨(kd % 256).toNat, by omega⟩
      have hkl : kN < 256 := by omega
      obtain rfl | rfl | rfl | rfl | rfl : k = 0 ∨ k = 1 ∨ k = 2 ∨ k = 3 ∨ k = 4 := by omega
      · clear hbw
        have hcp := cp0 hsum (r := (kN, B)) hBl
        go_upto_region 18 with (first | (go_at_call 8; refine hBg.mono ?_; rintro e x1 ⟨S1, db, ub, rfl, hD1, hr1, hu1, hl1, hb1⟩) | (go_at_call 9; refine (hWo.out _ _ _ _ hb1 hD1 hu1 hl1 hr1).mono ?_; rintro e w2 ⟨rfl, S2, wb, hF2, hb2⟩; have R2 := Fresh.run hF2; have c1 := R2.c1; have c0 := R2.c0; have hb2' : Below wr.heap.size wr w2 := hb1.trans hb2))
        obtain ⟨w3, hw3⟩ : ∃ w3, w2 = w3 := ⟨_, rfl⟩
        rw [hw3] at R2 hb2' ⊢
        have R3 := R2
        have hb3 := hb2'
        clear hBg hWo c1 c0 hF2 hD1 hr1 hu1 hl1 hb1 hb2
        obtain ⟨P1, hP1⟩ : ∃ P, putR ((openD dk0 sum).2.2) sum 1 0 false (kN, B) = P := ⟨_, rfl⟩
        have hn1 := putR_len ((openD dk0 sum).2.2) sum false (kN, B)
        rw [hP1] at hcp hn1
        have hPt := run_put R3 hsum (by decide) hb3.size (htr.next hb3) kN hkl B (by omega)
        rw [hP1, hcp.1] at hPt
        have D3 : Below w3.heap.size w3 w3.drew := (Below.refl _ _).drew
        have hRc := record_any kd a cap ha B (by omega) w3.drew (hBy.later (hbr.trans ((hb3.trans (D3.mono hb3.size)).mono hbr.size)))
        rw [hkN] at hRc
        have cA : ∀ X, Below w3.heap.size w3 X → X.cell? ⟨ub, 1, none⟩ = some (.pointer (some ⟨wb, 0, none⟩)) := fun X hX => (R3.later hX).c1
        have S3 := cA _ D3
        replace cA := Hid.mk cA
        replace hPt := Hid.mk hPt
        go_region_held3 (fun X => X.cell? ⟨ub, 1, none⟩ = some (.pointer (some ⟨wb, 0, none⟩))) (with_reducible assumption) (first | (go_at_call 13; refine hRc.mono ?_; rintro e w4 ⟨p4, c4, rfl, ho4, hb4⟩; have B4 := D3.trans (hb4.mono D3.size); have S4 := cA.out _ B4; have hby4 := Hid.mk (byts_of_own (n := B.length) (bs := B) hBy.1 ho4); have hcc4 := own_none ho4) | (go_at_call 12; refine (hPt.out w4 B4 p4 c4 hcc4 hby4.out).mono ?_; rintro e w5 ⟨rfl, S5, R5, hb5⟩; have S5' := R5.c1))
        have hb5' : Below wr.heap.size wr w5 := hb3.trans hb5
        clear hPt cA hRc S3 S4 ho4 hby4 hcc4 B4 hb4 hb5 R3 D3 hP1
        have hPt := run_put R5 hsum (by omega) hb5'.size (htr.next hb5') kN hkl [] (by decide)
        have h2nd := hcp.2
        unfold second at h2nd
        rw [h2nd] at hPt
        have D5 : Below w5.heap.size w5 w5.drew := (Below.refl _ _).drew
        have hRc := record_any kd none 0 (fun _ => rfl) [] (by decide) w5.drew ⟨fun x hx => by simp at hx, .inl rfl⟩
        rw [hkN] at hRc
        have cA : ∀ X, Below w5.heap.size w5 X → X.cell? ⟨ub, 1, none⟩ = some (.pointer (some ⟨wb, 0, none⟩)) := fun X hX => (R5.later hX).c1
        have S5'' := cA _ D5
        replace cA := Hid.mk cA
        replace hPt := Hid.mk hPt
        clear hcp h2nd
        go_upto_region 21 with fail
        go_region_held3 (fun X => X.cell? ⟨ub, 1, none⟩ = some (.pointer (some ⟨wb, 0, none⟩))) (with_reducible assumption) (first | (go_at_call 13; refine hRc.mono ?_; rintro e w6 ⟨p6, c6, rfl, ho6, hb6⟩; have B6 := D5.trans (hb6.mono D5.size); have S6 := cA.out _ B6; have hcc6 := own_none ho6) | (go_at_call 12; refine (hPt.out w6 B6 p6 c6 hcc6 ⟨fun x hx => (by simp at hx), .inl rfl⟩).mono ?_; rintro e w7 ⟨rfl, S7, R7, hb7⟩; have S7' := R7.c1))
        have hb7' : Below wc.heap.size wc w7 := hbr.trans ((hb5'.trans hb7).mono hbr.size)
        clear hPt cA hRc S5'' S5' S6 S7' ho6 B6 hb6 hcc6 R5 R7 hb7 D5 hb5' hb3 R2 hb2'
        go_wp2
        go_roundw
        case rel => exact ⟨1, by decide, rfl, hb7'⟩
        case measure => simp [intOf]
      · clear hbw
        have hcp := cp1 hsum (r := (kN, B)) hBl
        have hRg := fun (X : World) (S : Nat → Prop) (db : Nat) (D : Dk) (hD : DiskAt X wr.heap.size S db D) => arm_any (u := (B.length : Int) + 18 + 2) (by omega) (by omega) X hD
        replace hRg := Hid.mk hRg
        go_upto_region 18 with (first | (go_at_call 8; refine hBg.mono ?_; rintro e x1 ⟨S1, db, ub, rfl, hD1, hr1, hu1, hl1, hb1⟩) | (go_at_call 9; refine (hWo.out _ _ _ _ hb1 hD1 hu1 hl1 hr1).mono ?_; rintro e w2 ⟨rfl, S2, wb, hF2, hb2⟩; have R2 := Fresh.run hF2; have c1 := R2.c1; have c0 := R2.c0; have hb2' : Below wr.heap.size wr w2 := hb1.trans hb2) | (go_at_call 10; refine (hRg.out _ _ _ _ R2.disk).mono ?_; rintro e w3 ⟨rfl, hD3, hg3⟩; have R3 := Run.rig R2 hD3 hg3; have hb3 : Below wr.heap.size wr w3 := hb2'.trans (hg3.below hb2'.size (fun k e => e ▸ R2.ldb))))
        clear hBg hWo c1 c0 hF2 hD1 hr1 hu1 hl1 hb1 hb2
        obtain ⟨P1, hP1⟩ : ∃ P, putR (arm (openD dk0 sum).2.2 ((B.length : Int) + 18 + 2)) sum 1 0 false (kN, B) = P := ⟨_, rfl⟩
        have hn1 := putR_len (arm (openD dk0 sum).2.2 ((B.length : Int) + 18 + 2)) sum false (kN, B)
        rw [hP1] at hcp hn1
        have hPt := run_put R3 hsum (by decide) hb3.size (htr.next hb3) kN hkl B (by omega)
        rw [hP1, hcp.1] at hPt
        have D3 : Below w3.heap.size w3 w3.drew := (Below.refl _ _).drew
        have hRc := record_any kd a cap ha B (by omega) w3.drew (hBy.later (hbr.trans ((hb3.trans (D3.mono hb3.size)).mono hbr.size)))
        rw [hkN] at hRc
        have cA : ∀ X, Below w3.heap.size w3 X → X.cell? ⟨ub, 1, none⟩ = some (.pointer (some ⟨wb, 0, none⟩)) := fun X hX => (R3.later hX).c1
        have S3 := cA _ D3
        replace cA := Hid.mk cA
        replace hPt := Hid.mk hPt
        go_region_held3 (fun X => X.cell? ⟨ub, 1, none⟩ = some (.pointer (some ⟨wb, 0, none⟩))) (with_reducible assumption) (first | (go_at_call 13; refine hRc.mono ?_; rintro e w4 ⟨p4, c4, rfl, ho4, hb4⟩; have B4 := D3.trans (hb4.mono D3.size); have S4 := cA.out _ B4; have hby4 := Hid.mk (byts_of_own (n := B.length) (bs := B) hBy.1 ho4); have hcc4 := own_none ho4) | (go_at_call 12; refine (hPt.out w4 B4 p4 c4 hcc4 hby4.out).mono ?_; rintro e w5 ⟨rfl, S5, R5, hb5⟩; have S5' := R5.c1))
        have hb5' : Below wr.heap.size wr w5 := hb3.trans hb5
        clear hPt cA hRc S3 S4 ho4 hby4 hcc4 B4 hb4 hb5 R3 D3 hP1
        have hPt := run_put R5 hsum (by omega) hb5'.size (htr.next hb5') kN hkl [] (by decide)
        have h2nd := hcp.2
        unfold second at h2nd
        rw [h2nd] at hPt
        have D5 : Below w5.heap.size w5 w5.drew := (Below.refl _ _).drew
        have hRc := record_any kd none 0 (fun _ => rfl) [] (by decide) w5.drew ⟨fun x hx => by simp at hx, .inl rfl⟩
        rw [hkN] at hRc
        have cA : ∀ X, Below w5.heap.size w5 X → X.cell? ⟨ub, 1, none⟩ = some (.pointer (some ⟨wb, 0, none⟩)) := fun X hX => (R5.later hX).c1
        have S5'' := cA _ D5
        replace cA := Hid.mk cA
        replace hPt := Hid.mk hPt
        clear hcp h2nd
        go_upto_region 21 with fail
        go_region_held3 (fun X => X.cell? ⟨ub, 1, none⟩ = some (.pointer (some ⟨wb, 0, none⟩))) (with_reducible assumption) (first | (go_at_call 13; refine hRc.mono ?_; rintro e w6 ⟨p6, c6, rfl, ho6, hb6⟩; have B6 := D5.trans (hb6.mono D5.size); have S6 := cA.out _ B6; have hcc6 := own_none ho6) | (go_at_call 12; refine (hPt.out w6 B6 p6 c6 hcc6 ⟨fun x hx => (by simp at hx), .inl rfl⟩).mono ?_; rintro e w7 ⟨rfl, S7, R7, hb7⟩; have S7' := R7.c1))
        have hb7' : Below wc.heap.size wc w7 := hbr.trans ((hb5'.trans hb7).mono hbr.size)
        clear hPt cA hRc S5'' S5' S6 S7' ho6 B6 hb6 hcc6 R5 R7 hb7 D5 hb5' hb3 R2 hb2'
        go_wp2
        go_roundw
        case rel => exact ⟨2, by decide, rfl, hb7'⟩
        case measure => simp [intOf]
      · clear hbw
        have hcp := cp2 hsum (r := (kN, B)) hBl
        have hRg := fun (X : World) (S : Nat → Prop) (db : Nat) (D : Dk) (hD : DiskAt X wr.heap.size S db D) => arm_any (u := (B.length : Int) + 18 + 2 - 1) (by omega) (by omega) X hD
        replace hRg := Hid.mk hRg
        go_upto_region 18 with (first | (go_at_call 8; refine hBg.mono ?_; rintro e x1 ⟨S1, db, ub, rfl, hD1, hr1, hu1, hl1, hb1⟩) | (go_at_call 9; refine (hWo.out _ _ _ _ hb1 hD1 hu1 hl1 hr1).mono ?_; rintro e w2 ⟨rfl, S2, wb, hF2, hb2⟩; have R2 := Fresh.run hF2; have c1 := R2.c1; have c0 := R2.c0; have hb2' : Below wr.heap.size wr w2 := hb1.trans hb2) | (go_at_call 10; refine (hRg.out _ _ _ _ R2.disk).mono ?_; rintro e w3 ⟨rfl, hD3, hg3⟩; have R3 := Run.rig R2 hD3 hg3; have hb3 : Below wr.heap.size wr w3 := hb2'.trans (hg3.below hb2'.size (fun k e => e ▸ R2.ldb))))
        clear hBg hWo c1 c0 hF2 hD1 hr1 hu1 hl1 hb1 hb2
        obtain ⟨P1, hP1⟩ : ∃ P, putR (arm (openD dk0 sum).2.2 ((B.length : Int) + 18 + 2 - 1)) sum 1 0 false (kN, B) = P := ⟨_, rfl⟩
        have hn1 := putR_len (arm (openD dk0 sum).2.2 ((B.length : Int) + 18 + 2 - 1)) sum false (kN, B)
        rw [hP1] at hcp hn1
        have hPt := run_put R3 hsum (by decide) hb3.size (htr.next hb3) kN hkl B (by omega)
        rw [hP1, hcp.1] at hPt
        have D3 : Below w3.heap.size w3 w3.drew := (Below.refl _ _).drew
        have hRc := record_any kd a cap ha B (by omega) w3.drew (hBy.later (hbr.trans ((hb3.trans (D3.mono hb3.size)).mono hbr.size)))
        rw [hkN] at hRc
        have cA : ∀ X, Below w3.heap.size w3 X → X.cell? ⟨ub, 1, none⟩ = some (.pointer (some ⟨wb, 0, none⟩)) := fun X hX => (R3.later hX).c1
        have S3 := cA _ D3
        replace cA := Hid.mk cA
        replace hPt := Hid.mk hPt
        go_region_held3 (fun X => X.cell? ⟨ub, 1, none⟩ = some (.pointer (some ⟨wb, 0, none⟩))) (with_reducible assumption) (first | (go_at_call 13; refine hRc.mono ?_; rintro e w4 ⟨p4, c4, rfl, ho4, hb4⟩; have B4 := D3.trans (hb4.mono D3.size); have S4 := cA.out _ B4; have hby4 := Hid.mk (byts_of_own (n := B.length) (bs := B) hBy.1 ho4); have hcc4 := own_none ho4) | (go_at_call 12; refine (hPt.out w4 B4 p4 c4 hcc4 hby4.out).mono ?_; rintro e w5 ⟨rfl, S5, R5, hb5⟩; have S5' := R5.c1))
        have hb5' : Below wr.heap.size wr w5 := hb3.trans hb5
        clear hPt cA hRc S3 S4 ho4 hby4 hcc4 B4 hb4 hb5 R3 D3 hP1
        have hPt := run_put R5 hsum (by omega) hb5'.size (htr.next hb5') kN hkl [] (by decide)
        have h2nd := hcp.2
        unfold second at h2nd
        rw [h2nd] at hPt
        have D5 : Below w5.heap.size w5 w5.drew := (Below.refl _ _).drew
        have hRc := record_any kd none 0 (fun _ => rfl) [] (by decide) w5.drew ⟨fun x hx => by simp at hx, .inl rfl⟩
        rw [hkN] at hRc
        have cA : ∀ X, Below w5.heap.size w5 X → X.cell? ⟨ub, 1, none⟩ = some (.pointer (some ⟨wb, 0, none⟩)) := fun X hX => (R5.later hX).c1
        have S5'' := cA _ D5
        replace cA := Hid.mk cA
        replace hPt := Hid.mk hPt
        clear hcp h2nd
        go_upto_region 21 with fail
        go_region_held3 (fun X => X.cell? ⟨ub, 1, none⟩ = some (.pointer (some ⟨wb, 0, none⟩))) (with_reducible assumption) (first | (go_at_call 13; refine hRc.mono ?_; rintro e w6 ⟨p6, c6, rfl, ho6, hb6⟩; have B6 := D5.trans (hb6.mono D5.size); have S6 := cA.out _ B6; have hcc6 := own_none ho6) | (go_at_call 12; refine (hPt.out w6 B6 p6 c6 hcc6 ⟨fun x hx => (by simp at hx), .inl rfl⟩).mono ?_; rintro e w7 ⟨rfl, S7, R7, hb7⟩; have S7' := R7.c1))
        have hb7' : Below wc.heap.size wc w7 := hbr.trans ((hb5'.trans hb7).mono hbr.size)
        clear hPt cA hRc S5'' S5' S6 S7' ho6 B6 hb6 hcc6 R5 R7 hb7 D5 hb5' hb3 R2 hb2'
        go_wp2
        go_roundw
        case rel => exact ⟨3, by decide, rfl, hb7'⟩
        case measure => simp [intOf]
      · clear hbw
        have hcp := cp3 hsum (r := (kN, B)) hBl
        have hRg := fun (X : World) (S : Nat → Prop) (db : Nat) (D : Dk) (hD : DiskAt X wr.heap.size S db D) => fail_any (a := 2) (c := 1) (by decide) (by decide) (by decide) (by decide) X hD
        replace hRg := Hid.mk hRg
        go_upto_region 18 with (first | (go_at_call 8; refine hBg.mono ?_; rintro e x1 ⟨S1, db, ub, rfl, hD1, hr1, hu1, hl1, hb1⟩) | (go_at_call 9; refine (hWo.out _ _ _ _ hb1 hD1 hu1 hl1 hr1).mono ?_; rintro e w2 ⟨rfl, S2, wb, hF2, hb2⟩; have R2 := Fresh.run hF2; have c1 := R2.c1; have c0 := R2.c0; have hb2' : Below wr.heap.size wr w2 := hb1.trans hb2) | (go_at_call 11; refine (hRg.out _ _ _ _ R2.disk).mono ?_; rintro e w3 ⟨rfl, hD3, hg3⟩; have R3 := Run.rig R2 hD3 hg3; have hb3 : Below wr.heap.size wr w3 := hb2'.trans (hg3.below hb2'.size (fun k e => e ▸ R2.ldb))))
        clear hBg hWo c1 c0 hF2 hD1 hr1 hu1 hl1 hb1 hb2
        obtain ⟨P1, hP1⟩ : ∃ P, putR (fail (openD dk0 sum).2.2 2 1) sum 1 0 false (kN, B) = P := ⟨_, rfl⟩
        have hn1 := putR_len (fail (openD dk0 sum).2.2 2 1) sum false (kN, B)
        rw [hP1] at hcp hn1
        have hPt := run_put R3 hsum (by decide) hb3.size (htr.next hb3) kN hkl B (by omega)
        rw [hP1, hcp.1] at hPt
        have D3 : Below w3.heap.size w3 w3.drew := (Below.refl _ _).drew
        have hRc := record_any kd a cap ha B (by omega) w3.drew (hBy.later (hbr.trans ((hb3.trans (D3.mono hb3.size)).mono hbr.size)))
        rw [hkN] at hRc
        have cA : ∀ X, Below w3.heap.size w3 X → X.cell? ⟨ub, 1, none⟩ = some (.pointer (some ⟨wb, 0, none⟩)) := fun X hX => (R3.later hX).c1
        have S3 := cA _ D3
        replace cA := Hid.mk cA
        replace hPt := Hid.mk hPt
        go_region_held3 (fun X => X.cell? ⟨ub, 1, none⟩ = some (.pointer (some ⟨wb, 0, none⟩))) (with_reducible assumption) (first | (go_at_call 13; refine hRc.mono ?_; rintro e w4 ⟨p4, c4, rfl, ho4, hb4⟩; have B4 := D3.trans (hb4.mono D3.size); have S4 := cA.out _ B4; have hby4 := Hid.mk (byts_of_own (n := B.length) (bs := B) hBy.1 ho4); have hcc4 := own_none ho4) | (go_at_call 12; refine (hPt.out w4 B4 p4 c4 hcc4 hby4.out).mono ?_; rintro e w5 ⟨rfl, S5, R5, hb5⟩; have S5' := R5.c1))
        have hb5' : Below wr.heap.size wr w5 := hb3.trans hb5
        clear hPt cA hRc S3 S4 ho4 hby4 hcc4 B4 hb4 hb5 R3 D3 hP1
        have hPt := run_put R5 hsum (by omega) hb5'.size (htr.next hb5') kN hkl [] (by decide)
        have h2nd := hcp.2
        unfold second at h2nd
        rw [h2nd] at hPt
        have D5 : Below w5.heap.size w5 w5.drew := (Below.refl _ _).drew
        have hRc := record_any kd none 0 (fun _ => rfl) [] (by decide) w5.drew ⟨fun x hx => by simp at hx, .inl rfl⟩
        rw [hkN] at hRc
        have cA : ∀ X, Below w5.heap.size w5 X → X.cell? ⟨ub, 1, none⟩ = some (.pointer (some ⟨wb, 0, none⟩)) := fun X hX => (R5.later hX).c1
        have S5'' := cA _ D5
        replace cA := Hid.mk cA
        replace hPt := Hid.mk hPt
        clear hcp h2nd
        go_upto_region 21 with fail
        go_region_held3 (fun X => X.cell? ⟨ub, 1, none⟩ = some (.pointer (some ⟨wb, 0, none⟩))) (with_reducible assumption) (first | (go_at_call 13; refine hRc.mono ?_; rintro e w6 ⟨p6, c6, rfl, ho6, hb6⟩; have B6 := D5.trans (hb6.mono D5.size); have S6 := cA.out _ B6; have hcc6 := own_none ho6) | (go_at_call 12; refine (hPt.out w6 B6 p6 c6 hcc6 ⟨fun x hx => (by simp at hx), .inl rfl⟩).mono ?_; rintro e w7 ⟨rfl, S7, R7, hb7⟩; have S7' := R7.c1))
        have hb7' : Below wc.heap.size wc w7 := hbr.trans ((hb5'.trans hb7).mono hbr.size)
        clear hPt cA hRc S5'' S5' S6 S7' ho6 B6 hb6 hcc6 R5 R7 hb7 D5 hb5' hb3 R2 hb2'
        go_wp2
        go_roundw
        case rel => exact ⟨4, by decide, rfl, hb7'⟩
        case measure => simp [intOf]
      · clear hBg hWo
        go_wp2
        go_ret
        exact ⟨rfl, hbw⟩
end Go.Proofs.YtakcdgeanbpllaaGreatDoor.DJ


/- Restart, where the list may be empty. -/
namespace Go.Proofs.YtakcdgeanbpllaaGreatDoor.DJ
open Go.RowKit

theorem KpAt.grS2 {S : Nat → Prop} {W W' : World} {a : Option Addr} {ks : List Int} (h : KpAt W a ks) (hg : GrS S W W') (hn : ks = [] ∨ ∀ p, a = some p → ¬ S p.block) : KpAt W' a ks := hn.elim .inl (fun hn => h.grS hg hn)
theorem GrS.byts2 {S : Nat → Prop} {W W' : World} (h : GrS S W W') {a : Option Addr} {bs : List Nat} (ho : Byts W a bs) (hn : bs = [] ∨ ∀ p, a = some p → ¬ S p.block) : Byts W' a bs := hn.elim (fun e => ⟨ho.1, .inl e⟩) (fun hn => h.byts ho hn)

set_option maxRecDepth 4000 in
set_option maxHeartbeats 1000000 in
theorem restart_any2 {lo db : Nat} {S : Nat → Prop} {d : Dk} (ks : List Int) (hkl : ks.length ≤ 4611686018427387904) (a : Option Addr) (cap : Nat) (w : World) (hlo : lo ≤ w.heap.size) (hK : KpAt w a ks) (hap : ks = [] ∨ ∀ p, a = some p → ¬ S p.block) (h : DiskAt w lo S db d) :
    Calls Tryz.prog 19 #[.pointer (some ⟨db, 0, none⟩), .slice a ks.length cap] w fun e w' => e = .returned (.tuple #[]) ∧ ∃ S', DiskAt w' lo S' db (restart d ks) ∧ Dv S w S' w' := by
  have hC := crash_any w h
  have hSl := h.low
  have hSd : S db := by
    obtain ⟨mb, D, fb, vv, h⟩ := h
    exact h.Sdb
  have hok : Ok d := by
    obtain ⟨mb, D, fb, vv, h⟩ := h
    exact h.ok
  have h40 := hok.len
  go_enter Tryz.func19, Tryz.ntmps19
  go_wp2_with (first | (go_at_call 37; refine hC.mono ?_; rintro e w1 ⟨rfl, hD1, hg1⟩; clear hC) | (go_at_call 34; refine (names_any w1 hD1).mono ?_; rintro e w2 ⟨v, rfl, hrow, hb2⟩; obtain ⟨p, c, rfl⟩ := own_lenB hrow))
  have hrow' : w2.ownsRow w1.heap.size 9 1 (.slice p d.fs.length c) d.fs.length (nmV d.fs) := hrow
  have hD2 := hD1.later hb2
  have hv2 : Dv S w S w2 := ⟨(hg1.mono (fun k _ e => e ▸ hSd)).trans (.of_below hb2), fun _ h => .inl h⟩
  have hpS : ∀ q, p = some q → ¬ S q.block ∧ q.block < w2.heap.size := fun q hq => by
    subst hq
    obtain ⟨-, ⟨e, -⟩ | ⟨gg, cc, cur, e, hb, r, -⟩⟩ := hrow'
    · cases e
    · injection e with e1
      injection e1 with e1
      subst e1
      refine ⟨fun hS => ?_, (Array.getElem?_eq_some_iff.1 r).1⟩
      have h1 : gg < w.heap.size := (hSl _ hS).2
      have h2 := hg1.size
      have h3 : w1.heap.size ≤ gg := hb
      omega
  have hlo2 : lo ≤ w2.heap.size := Nat.le_trans hlo hv2.gr.size
  have hK2 : KpAt w2 a ks := hK.grS2 hv2.gr hap
  clear hrow hD1 hb2 hg1
  go_loopw [13] (fun v wr => ∃ i : Nat, i ≤ d.fs.length ∧ v = .int .i64 (i : Int) ∧ ∃ S', DiskAt wr lo S' db ⟨part ks d.fs i, true, none, 0, 0⟩ ∧ Dv S w2 S' wr) (fun v _ => d.fs.length - (intOf v).toNat)
  case atStart =>
    refine ⟨0, Nat.zero_le _, rfl, S, ?_, .refl _ _⟩
    rw [part_zero]
    exact hD2
  case round =>
    obtain ⟨i, hi, rfl, S', hDr, hvr⟩ := hrel
    clear hD2
    by_cases hlt : i < d.fs.length
    · have hlt' : (i : Int) < (d.fs.length : Int) := by omega
      have hi0 : (0 : Int) ≤ (i : Int) := by omega
      have hin := part_mem ks hlt
      have hstep := part_step ks hok.srt hlt
      obtain ⟨f, hf⟩ : ∃ f, d.fs[i] = f := ⟨_, rfl⟩
      rw [hf] at hin hstep
      obtain ⟨gp, hgp⟩ : ∃ gp, p = some ⟨gp, 0, none⟩ := by
        obtain ⟨-, ⟨e, h0⟩ | ⟨gg, cc, cur, e, -⟩⟩ := hrow'
        · omega
        · injection e with e1
          exact ⟨gg, e1⟩
      subst hgp
      have hnm := (hvr.gr.cell (b := gp) (o := i) (hpS _ rfl).2 (hpS _ rfl).1).trans (name_at hrow' hlt rfl)
      rw [hf] at hnm
      obtain ⟨mb, D, fb, vv, hL⟩ := hDr
      obtain ⟨c0, -⟩ := hL.cells
      have hlk := hL.look hin
      have hFA := hL.fil f hin
      obtain ⟨k0, k1, f0, f1⟩ := hFA.cells
      have hsur := hL.ok.sur f hin
      have hsiz := hL.ok.siz f hin
      have hbyt := hL.ok.byt f hin
      have hlor : lo ≤ wr.heap.size := Nat.le_trans hlo2 hvr.gr.size
      have hKr : KpAt wr a ks := hK2.grS2 hvr.gr hap
      obtain ⟨s, hs⟩ : ∃ s, strB f.nm = s := ⟨_, rfl⟩
      obtain ⟨b, hb⟩ : ∃ b, fb f.nm = b := ⟨_, rfl⟩
      rw [hs] at hnm hlk
      rw [hb] at hlk k0 k1 f0 f1 hFA
      obtain ⟨pv, cv, hv⟩ := own_lenB hFA.dat
      rw [hv] at k0
      have fin : ∀ (n : Nat) (k : Int) (X : World) (v' : Value), n = f.sure + min k.toNat (f.dat.length - f.sure) → k = ks.getD (i % ks.length) 0 → FileAt X lo b v' (cutTo n f) → GrS (fun z => z = b) wr X → (v'.ownBlock = (vv f.nm).ownBlock ∨ ∀ z, v'.ownBlock = some z → wr.heap.size ≤ z) → ∃ S', DiskAt (X.setCell ⟨b, 1, none⟩ (.int .i64 ((cutTo n f).dat.length : Int))) lo S' db ⟨part ks d.fs (i + 1), true, none, 0, 0⟩ ∧ Dv S w2 S' (X.setCell ⟨b, 1, none⟩ (.int .i64 ((cutTo n f).dat.length : Int))) := fun n k X v' hn hk hF hg hv' => by
        have hF' : FileAt (X.setCell ⟨b, 1, none⟩ (.int .i64 ((cutTo n f).dat.length : Int))) lo b v' (cutF k f) := by
          rw [← cut_is hsur hn]
          refine ⟨?_, ?_⟩
          · rw [heap_setCell_same _ _ _ _ _ _ hF.row]; rfl
          · refine (grS_set X b 1 _).own hF.dat (fun z hz e => ?_)
            obtain ⟨-, cs, r⟩ := own_row hF.dat hz
            rw [e, hF.row] at r
            simp at r
        have hlc : (cutF k f).dat.length ≤ f.dat.length := by simp [cutF]; omega
        subst hb
        obtain ⟨S2, hL2, hv2'⟩ := hL.turn (d' := ⟨part ks d.fs (i + 1), true, none, 0, 0⟩) hin ((hg.trans (grS_set X _ 1 _)).mono (fun z _ e => .inl e)) (f' := cutF k f) rfl hF' (fun z hz => hv'.elim (fun e => .inl (e ▸ hz)) (fun e => .inr (e z hz))) (by rw [hk]; exact hstep.symm) rfl rfl rfl rfl (Nat.le_trans hlc hsiz) (by simp only [cutF, List.length_take]; omega) (fun x hx => hbyt x (List.mem_of_mem_take hx))
        exact ⟨S2, ⟨mb, D, fb, _, hL2⟩, Dv.trans hvr hv2'⟩
      replace fin := Hid.mk fin
      have hcut : ∀ (n : Nat), n ≤ 9223372036854775807 → ∀ m, Calls Tryz.prog 39 #[.pointer (some ⟨b, 0, none⟩), .int .i64 (n : Int)] (wr.drewN m) fun e X => e = .returned (.tuple #[]) ∧ ∃ v', FileAt X lo b v' (cutTo n f) ∧ GrS (fun z => z = b) wr X ∧ (v'.ownBlock = (vv f.nm).ownBlock ∨ ∀ z, v'.ownBlock = some z → wr.heap.size ≤ z) := fun n hn m => by
        have hbm := below_drewN (Below.refl wr.heap.size wr) m
        refine (cut_any (n := n) hn hbyt hsiz hsur (wr.drewN m) (Nat.le_trans hlor hbm.size) (hFA.grS (S := fun _ => False) (.of_below hbm) (fun h => h) (fun _ _ h => h))).mono ?_
        rintro e X ⟨rfl, v', q1, q2, q3⟩
        exact ⟨rfl, v', q1, (GrS.of_below hbm).trans q2, q3.imp id (fun h z hz => Nat.le_trans hbm.size (h z hz))⟩
      have hsI : (f.sure : Int) ≤ (f.dat.length : Int) := by omega
      have hdI : (f.dat.length : Int) ≤ 2097152 := by omega
      have hs0 : (0 : Int) ≤ (f.sure : Int) := by omega
      rw [hv] at fin hcut
      by_cases hk0 : 0 < ks.length
      · have hk0' : (0 : Int) < (ks.length : Int) := by omega
        obtain ⟨kb, ko, rfl, hkb, hkc⟩ := hKr.resolve_left (fun e => by rw [e] at hk0; simp at hk0)
        obtain ⟨j, hj⟩ : ∃ j, i % ks.length = j := ⟨_, rfl⟩
        have hjl : j < ks.length := by rw [← hj]; exact Nat.mod_lt _ hk0
        have hkj := hkc j hjl
        obtain ⟨k, hk⟩ : ∃ k, ks[j] = k := ⟨_, rfl⟩
        have hkk : Hid (k = ks.getD (i % ks.length) 0) := ⟨by rw [hj, ← hk, List.getD_eq_getElem?_getD, List.getElem?_eq_getElem hjl]; rfl⟩
        rw [hk] at hkj
        have hrem : Hid (Int.tmod (i : Int) (ks.length : Int) = (j : Int)) := ⟨by rw [← hj]; rw [Int.tmod_eq_emod_of_nonneg (by omega)]; omega⟩
        have hjI : (j : Int) < (ks.length : Int) := by omega
        have hj0 : (0 : Int) ≤ (j : Int) := by omega
        obtain ⟨K, hKd⟩ : ∃ K, f.sure + min k.toNat (f.dat.length - f.sure) = K := ⟨_, rfl⟩
        have hKI : Hid ((f.sure : Int) + min (max k 0) ((f.dat.length : Int) - (f.sure : Int)) = (K : Int)) := ⟨by rw [← hKd]; omega⟩
        have hcK := hcut K (by omega)
        have hKn : Hid (K = f.sure + min k.toNat (f.dat.length - f.sure)) := ⟨hKd.symm⟩
        clear hkc hj hk hKd hcut hL hFA
        go_upto_region 6 with fail
        have hrem' := hrem.out
        go_quiet (fail)
        go_wp2_with (go_at_call 39; fail)
        rw [hKI.out]
        refine (hcK nq).mono ?_
        rintro e X ⟨rfl, v', hFX, hgX, hvX⟩
        obtain ⟨p', c', rfl⟩ := own_lenB hFX.dat
        have hfinX := fin.out K k X _ hKn.out hkk.out hFX hgX hvX
        obtain ⟨x0, x1, x2, x3⟩ := hFX.cells
        replace hfinX := Hid.mk hfinX
        clear hcK hFX fin hgX
        go_wp2
        go_roundw
        case rel => exact ⟨i + 1, by omega, by first | rfl | go_num, hfinX.out⟩
        case measure => simp [intOf]; omega
      · have hk0' : ¬ (0 : Int) < (ks.length : Int) := by omega
        have hks : ks = [] := List.length_eq_zero_iff.mp (by omega)
        have hkk : Hid ((0 : Int) = ks.getD (i % ks.length) 0) := ⟨by rw [hks]; rfl⟩
        have hKn : Hid (f.sure = f.sure + min (0 : Int).toNat (f.dat.length - f.sure)) := ⟨by simp⟩
        have hcK := hcut f.sure (by omega) 0
        rw [show wr.drewN 0 = wr from rfl] at hcK
        clear hks hcut hL hFA
        go_wp2_with (go_at_call 39; fail)
        refine hcK.mono ?_
        rintro e X ⟨rfl, v', hFX, hgX, hvX⟩
        obtain ⟨p', c', rfl⟩ := own_lenB hFX.dat
        have hfinX := fin.out f.sure 0 X _ hKn.out hkk.out hFX hgX hvX
        obtain ⟨x0, x1, x2, x3⟩ := hFX.cells
        replace hfinX := Hid.mk hfinX
        clear hcK hFX fin hgX
        go_wp2
        go_roundw
        case rel => exact ⟨i + 1, by omega, by first | rfl | go_num, hfinX.out⟩
        case measure => simp [intOf]; omega
    · have hlt' : ¬ (i : Int) < (d.fs.length : Int) := by omega
      obtain rfl : i = d.fs.length := by omega
      rw [part_all] at hDr
      obtain ⟨mb, D, fb, vv, hL⟩ := hDr
      obtain ⟨c0, c1, c2, c3, c4, c5⟩ := hL.cells
      have hr := hL.row
      unfold dkRow at hr
      have f5 := frozen_of_row wr db 5 _ _ hr
      have hF : Hid (∃ S', DiskAt (wr.setCell ⟨db, 5, none⟩ (.bool false)) lo S' db (restart d ks) ∧ Dv S w S' (wr.setCell ⟨db, 5, none⟩ (.bool false))) := ⟨S', ⟨mb, D, fb, vv, hL.flag (d' := restart d ks) (grS_set _ _ _ _) rfl ⟨fun u h => (by cases h), Nat.zero_le _, Nat.zero_le _, fun h => (by cases h)⟩ (by
        rw [heap_setCell_same _ _ _ _ _ _ hr]
        rfl)⟩, Dv.trans hv2 (Dv.trans hvr ⟨(grS_set wr db 5 _).mono (fun k _ e => e ▸ hL.Sdb), fun _ h => .inl h⟩)⟩
      clear hL hr
      go_wp2
      go_end0
      exact ⟨rfl, hF.out⟩
end Go.Proofs.YtakcdgeanbpllaaGreatDoor.DJ


/- Files in memory; NewDisk of files that may be. -/
namespace Go.Proofs.YtakcdgeanbpllaaGreatDoor.DJ
open Go.RowKit

/-- A list of files. -/
def FfAt (w : World) (a : Option Addr) (L : List Fl) : Prop := L = [] ∨ ∃ b off, a = some ⟨b, off, none⟩ ∧ b < w.heap.size ∧ ∀ i (h : i < L.length), w.cell? ⟨b, off + i * 3, none⟩ = some (.string (strB L[i].nm)) ∧ (∃ p c, w.cell? ⟨b, off + i * 3 + 1, none⟩ = some (.slice p L[i].dat.length c) ∧ (p = none → c = 0) ∧ L[i].dat.length ≤ c ∧ Byts w p L[i].dat) ∧ w.cell? ⟨b, off + i * 3 + 2, none⟩ = some (.int .i64 (L[i].sure : Int))
theorem FfAt.later {w w' : World} {a : Option Addr} {L : List Fl} (h : FfAt w a L) (hb : Below w.heap.size w w') : FfAt w' a L := by
  rcases h with h | ⟨b, off, ha, hlt, hc⟩
  · exact .inl h
  · refine .inr ⟨b, off, ha, Nat.lt_of_lt_of_le hlt hb.size, fun i hi => ?_⟩
    obtain ⟨h1, ⟨p, c, h2, h3, h4, h5⟩, h6⟩ := hc i hi
    exact ⟨(hb.cell (p := ⟨b, off + i * 3, none⟩) hlt).trans h1, ⟨p, c, (hb.cell (p := ⟨b, off + i * 3 + 1, none⟩) hlt).trans h2, h3, h4, h5.later hb⟩, (hb.cell (p := ⟨b, off + i * 3 + 2, none⟩) hlt).trans h6⟩

/-- Files that may be. -/
structure Fit (f : Fl) : Prop where
  nm : named f.nm
  siz : f.dat.length ≤ 2097152
  sur : f.sure ≤ f.dat.length
  byt : ∀ x ∈ f.dat, x < 256
set_option maxRecDepth 4000 in
set_option maxHeartbeats 1000000 in
theorem mayBe_any {f : Fl} (hf : Fit f) (p : Option Addr) (c : Nat) (w : World) :
    Calls Tryz.prog 52 #[.agg #[.string (strB f.nm), .slice p f.dat.length c, .int .i64 (f.sure : Int)]] w fun e w' => e = .returned (.bool true) ∧ Below w.heap.size w w' := by
  have h1 : (f.dat.length : Int) ≤ 2097152 := by have := hf.siz; omega
  have h2 : (0 : Int) ≤ (f.sure : Int) := by omega
  have h3 : (f.sure : Int) ≤ (f.dat.length : Int) := by have := hf.sur; omega
  have hN := fun X => isName_any (strB f.nm) X
  rw [bs_strB (named_lt hf.nm), decide_eq_true hf.nm] at hN
  have B := (Below.refl w.heap.size w).alloc (Nat.le_refl _) (.cells #[.string (strB f.nm), .slice p f.dat.length c, .int .i64 (f.sure : Int)] 45)
  generalize strB f.nm = s at *
  go_enter Tryz.func52, Tryz.ntmps52
  go_wp2_with (go_at_call 111; refine (hN _).mono ?_; rintro e w1 ⟨rfl, rfl⟩)
  go_ret
  exact ⟨rfl, B⟩

/-- A file with its bytes comes into the disk's map. -/
theorem add_file {w X : World} {lo db : Nat} {S : Nat → Prop} {d : Dk} {mb : Nat} {D : DataW Nat} {fb : List Nat → Nat} {vv : List Nat → Value} (h : Lay w lo S db d mb D fb vv) (hlo : lo ≤ w.heap.size) (hB : Below w.heap.size w X) {xb : Nat} (hxb : w.heap.size ≤ xb) {x : Fl} {v : Value} (hF : FileAt X lo xb v x) (hv : ∀ k, v.ownBlock = some k → w.heap.size ≤ k) (hg : get d.fs x.nm = none) (hf : Fit x) (hl : d.fs.length < 40) :
    ∃ w9, (Instr.mapUpdate 72 (.map (some mb)) (.string (strB x.nm)) (.pointer (some ⟨xb, 0, none⟩))).run Tryz.prog X = .ok () w9 ∧ (∃ S1, DiskAt w9 lo S1 db { d with fs := ins d.fs x } ∧ Dv S w S1 w9) ∧ GrS (fun k => k = mb) X w9 := by
  have hX := h.grS (T := fun _ => False) (.of_below hB) (fun _ _ h => h)
  obtain ⟨w9, hrun, hown, hturn⟩ := hX.map.store bkey bmapT (Nat.lt_of_lt_of_le hl (by decide)) (bkeyOf (strB_len (Nat.le_trans hf.nm.2.2 (by decide)))) (show bR (.pointer (some ⟨xb, 0, none⟩)) = some (.held xb, []) from rfl)
  have hG9 : GrS (fun k => k = mb) X w9 := .of_grown hturn.grown rfl
  have hG : GrS (fun k => k = mb) w w9 := (GrS.of_below hB).trans hG9
  have hmb := h.hi _ h.Smb
  have hF9 : FileAt w9 lo xb v x := hF.grS hG9 (by omega) (fun g hg' e => by have := hv g hg'; omega)
  obtain ⟨S1, hL, hv1⟩ := h.add (x := x) (d' := { d with fs := ins d.fs x }) hg hf.nm hf.siz hf.sur hf.byt hl hG hxb hv hF9 hlo hown rfl rfl rfl rfl rfl
  exact ⟨w9, hrun, ⟨S1, ⟨_, _, _, _, hL⟩, hv1⟩, hG9⟩

theorem add_clone {w w4 w5 : World} {lo db : Nat} {S : Nat → Prop} {d : Dk} {mb : Nat} {D : DataW Nat} {fb : List Nat → Nat} {vv : List Nat → Value} (h : Lay w lo S db d mb D fb vv) (hlo : lo ≤ w.heap.size) (B4 : Below w.heap.size w w4) {x : Fl} {p5 : Option Addr} {n c5 : Nat} (hn : n = x.dat.length) (ho : w5.ownsRow w4.heap.size 5 1 (.slice p5 n c5) n (bysV x.dat)) (hb5 : Below w4.heap.size w4 w5) (hg : get d.fs x.nm = none) (hf : Fit x) (hl : d.fs.length < 40) :
    ∃ w9, (Instr.mapUpdate 72 (.map (some mb)) (.string (strB x.nm)) (.pointer (some ⟨w5.heap.size, 0, none⟩))).run Tryz.prog (w5.alloc (.cells #[.slice p5 n c5, .int .i64 (x.sure : Int)] 89)) = .ok () w9 ∧ (∃ S1, DiskAt w9 lo S1 db { d with fs := ins d.fs x }) ∧ Below lo w w9 ∧ ∀ b o v, (w5.alloc (.cells #[.slice p5 n c5, .int .i64 (x.sure : Int)] 89)).cell? ⟨b, o, none⟩ = some v → b ≠ mb → w9.cell? ⟨b, o, none⟩ = some v := by
  subst hn
  have B5 := B4.trans (hb5.mono B4.size)
  have BA := (Below.refl w5.heap.size w5).alloc (Nat.le_refl _) (.cells #[.slice p5 x.dat.length c5, .int .i64 (x.sure : Int)] 89)
  have hF : FileAt (w5.alloc (.cells #[.slice p5 x.dat.length c5, .int .i64 (x.sure : Int)] 89)) lo w5.heap.size (.slice p5 x.dat.length c5) x := ⟨heap_new w5 _, (own_later ho BA).mono (Nat.le_trans hlo B4.size)⟩
  obtain ⟨w9, q1, ⟨S1, q2, q3⟩, q4⟩ := add_file h hlo (below_step B5 BA) B5.size hF (fun k hk => Nat.le_trans B4.size (own_rowT ho hk).1) hg hf hl
  exact ⟨w9, q1, ⟨S1, q2⟩, q3.below' hlo (fun k hk => ⟨h.low k hk, h.hi k hk⟩), fun b o v hc hne => (q4.cell (World.block_lt_of_cell? _ _ hc) hne).trans hc⟩

def insAll (L : List Fl) : List Fl := L.foldl ins []
theorem insAll_snoc (L : List Fl) (x : Fl) : insAll (L ++ [x]) = ins (insAll L) x := by unfold insAll; rw [List.foldl_append]; rfl
theorem insF_mem (L : List Fl) : ∀ (A : List Fl) (f : Fl), f ∈ L.foldl ins A ↔ f ∈ L ∨ f ∈ A := by
  induction L with
  | nil => intro A f; simp
  | cons x L ih =>
    intro A f
    rw [List.foldl_cons, ih, mem_ins, List.mem_cons]
    constructor
    · rintro (h | h | h)
      · exact .inl (.inr h)
      · exact .inl (.inl h)
      · exact .inr h
    · rintro ((h | h) | h)
      · exact .inr (.inl h)
      · exact .inl h
      · exact .inr (.inr h)
theorem insF_len (L : List Fl) : ∀ A : List Fl, (L.foldl ins A).length = L.length + A.length := by
  induction L with
  | nil => intro A; simp
  | cons x L ih =>
    intro A
    rw [List.foldl_cons, ih, ins_len, List.length_cons]
    omega
theorem insAll_mem (L : List Fl) (f : Fl) : f ∈ insAll L ↔ f ∈ L := by
  unfold insAll
  rw [insF_mem]
  simp
theorem insAll_len (L : List Fl) : (insAll L).length = L.length := by
  unfold insAll
  rw [insF_len]
  simp

set_option maxRecDepth 8000 in
set_option maxHeartbeats 400000 in
theorem newDisk_ok (L : List Fl) (hf : ∀ f ∈ L, Fit f) (hd : ∀ i j (hi : i < L.length) (hj : j < L.length), i ≠ j → L[i].nm ≠ L[j].nm) (h40 : L.length ≤ 40) (a : Option Addr) (cap : Nat) (w : World) (hA : FfAt w a L) :
    Calls Tryz.prog 26 #[.slice a L.length cap] w fun e w' => ∃ S db, e = .returned (.tuple #[.pointer (some ⟨db, 0, none⟩), .int .i64 0]) ∧ DiskAt w' w.heap.size S db ⟨insAll L, false, none, 0, 0⟩ ∧ Below w.heap.size w w' := by
  have hmm := @run_makeMap Tryz.prog
  have ho := World.ownsMap_made w Tryz.prog 9 bR
  obtain ⟨W1, hW1⟩ : ∃ W1, w.alloc (.map #[] 0) = W1 := ⟨_, rfl⟩
  obtain ⟨W2, hW2⟩ : ∃ W2, W1.alloc (.cells #[.map (some w.heap.size), .bool false, .int .i64 0, .int .i64 0, .int .i64 0, .bool false] 76) = W2 := ⟨_, rfl⟩
  have e1 : W1.heap.size = w.heap.size + 1 := by rw [← hW1]; simp
  have e2 : W2.heap.size = w.heap.size + 2 := by rw [← hW2]; simp [e1]
  have hb1 : Below w.heap.size w W1 := by rw [← hW1]; exact (Below.refl _ _).alloc (Nat.le_refl _) _
  have hb2 : Below W1.heap.size W1 W2 := by rw [← hW2]; exact (Below.refl _ _).alloc (Nat.le_refl _) _
  have hr : W2.heap[w.heap.size + 1]? = some (dkRow w.heap.size dk0) := by
    rw [← hW2, ← e1]
    exact heap_new W1 _
  rw [hW1] at ho
  have hL : Lay W2 w.heap.size (fun k => k = w.heap.size ∨ k = w.heap.size + 1) (w.heap.size + 1) dk0 w.heap.size (.map []) (fun _ => 0) (fun _ => .pointer none) :=
    ⟨ok0, rigs0, hr, ownsMap_grS (S := fun _ => False) ho (.of_below hb2) (fun h => h), Ties.none _, fun f hf => by simp [dk0] at hf, .inr rfl, .inl rfl, fun f hf => by simp [dk0] at hf, fun f hf => by simp [dk0] at hf, fun k hk => by omega, fun k hk => by omega, fun f hf => by simp [dk0] at hf, fun f hf => by simp [dk0] at hf⟩
  rw [← e1] at hL
  have hD : Hid (∃ S, DiskAt W2 w.heap.size S W1.heap.size dk0) := ⟨_, _, _, _, _, hL⟩
  have hB : Hid (Below w.heap.size w W2) := ⟨below_step hb1 hb2⟩
  have h40' : ¬ (40 : Int) < (L.length : Int) := by omega
  clear hL hr hb1 hb2 ho e1 e2
  go_enter Tryz.func26, Tryz.ntmps26
  go_wp2
  go_loopw [15] (fun v wr => ∃ i : Nat, i ≤ L.length ∧ v = .int .i64 (i : Int) ∧ (∃ S, DiskAt wr w.heap.size S W1.heap.size ⟨insAll (L.take i), false, none, 0, 0⟩) ∧ Below w.heap.size w wr) (fun v _ => L.length - (intOf v).toNat)
  case atStart => exact ⟨0, Nat.zero_le _, rfl, hD.out, hB.out⟩
  case round =>
    clear hD hB hmm hW1 hW2
    obtain ⟨i, hi, rfl, ⟨S, hD⟩, hb⟩ := hrel
    by_cases hlt : i < L.length
    · have hlt' : (i : Int) < (L.length : Int) := by omega
      have hi0 : (0 : Int) ≤ (i : Int) := by omega
      have hS : L.take (i + 1) = L.take i ++ [L[i]] := List.take_succ_eq_append_getElem hlt
      have hfit := hf L[i] (List.getElem_mem hlt)
      have hnew : get (insAll (L.take i)) L[i].nm = none := get_none.2 fun f hfm e => by
        rw [insAll_mem] at hfm
        obtain ⟨j, hj, rfl⟩ := List.getElem_of_mem hfm
        rw [List.length_take] at hj
        rw [List.getElem_take] at e
        exact hd j i (by omega) hlt (by omega) e
      have hlen : (insAll (L.take i)).length < 40 := by rw [insAll_len, List.length_take]; omega
      obtain ⟨b, off, rfl, hbl, hc⟩ := (hA.later hb).resolve_left (fun e => by rw [e] at hlt; simp at hlt)
      obtain ⟨q0, ⟨p, c, q1, hpc, hlc, hby⟩, q2⟩ := hc i hlt
      have hins : insAll (L.take (i + 1)) = ins (insAll (L.take i)) L[i] := by rw [hS, insAll_snoc]
      have hnext : Hid (∀ X, (∃ S1, DiskAt X w.heap.size S1 W1.heap.size ⟨ins (insAll (L.take i)) L[i], false, none, 0, 0⟩) → ∃ S1, DiskAt X w.heap.size S1 W1.heap.size ⟨insAll (L.take (i + 1)), false, none, 0, 0⟩) := ⟨fun X hX => by rw [hins]; exact hX⟩
      clear hc hS hins hd
      generalize L[i] = f at *
      generalize insAll (L.take i) = fs at *
      have hh := fun X (hX : Below wr.heap.size wr X) => has_any (nm := f.nm) (Nat.le_trans hfit.nm.2.2 (by decide)) (named_lt hfit.nm) X (hD.later hX)
      simp only [hnew, Option.isSome_none] at hh
      have hmb := fun X => mayBe_any hfit p c X
      obtain ⟨w1, hw1⟩ : ∃ w1, wr.alloc (.cells #[.string (strB f.nm), .slice p f.dat.length c, .int .i64 (f.sure : Int)] 45) = w1 := ⟨_, rfl⟩
      have B1 : Below wr.heap.size wr w1 := by rw [← hw1]; exact (Below.refl _ _).alloc (Nat.le_refl _) _
      have r1 : w1.heap[wr.heap.size]? = some (.cells #[.string (strB f.nm), .slice p f.dat.length c, .int .i64 (f.sure : Int)] 45 (0, 0)) := by rw [← hw1]; exact heap_new wr _
      have x0 := cell_of_row _ _ 0 _ _ _ r1
      have x1 := cell_of_row _ _ 1 _ _ _ r1
      have x2 := cell_of_row _ _ 2 _ _ _ r1
      simp only [List.getElem?_toArray, List.getElem?_cons_zero, List.getElem?_cons_succ] at x0 x1 x2
      replace hD := Hid.mk hD
      replace hb := Hid.mk hb
      replace hby := Hid.mk hby
      replace hfit := Hid.mk hfit
      replace hh := Hid.mk hh
      replace hmb := Hid.mk hmb
      replace hA := Hid.mk hA
      replace hnew := Hid.mk hnew
      clear hf
      obtain ⟨mb, D, fb, vv, hL⟩ := hD.out
      have hlo : w.heap.size ≤ wr.heap.size := hb.out.size
      obtain ⟨c0, -⟩ := hL.cells
      have hdl := hL.hi _ hL.Sdb
      have hne1 : W1.heap.size ≠ mb := fun e => map_ne_row hL.map hL.row e
      have hne2 : wr.heap.size ≠ mb := by have := hL.hi _ hL.Smb; omega
      have hcl := Hid.mk (fun w4 w5 p5 c5 B4 ho hb5 => add_clone (w4 := w4) (w5 := w5) (p5 := p5) (n := f.dat.length) (c5 := c5) hL hlo B4 rfl ho hb5 hnew.out hfit.out hlen)
      have hK := Hid.mk (fun X (hX : Below w1.heap.size w1 X) => (show _ ∧ _ ∧ _ ∧ _ from ⟨((below_step B1 hX).cell (p := ⟨W1.heap.size, 0, none⟩) hdl).trans c0, (hX.cell (p := ⟨wr.heap.size, 0, none⟩) (World.block_lt_of_cell? _ _ x0)).trans x0, (hX.cell (p := ⟨wr.heap.size, 1, none⟩) (World.block_lt_of_cell? _ _ x1)).trans x1, (hX.cell (p := ⟨wr.heap.size, 2, none⟩) (World.block_lt_of_cell? _ _ x2)).trans x2⟩))
      have hsc := fun X => sclone (strB f.nm) (by rw [strB_size]; exact Nat.le_trans hfit.out.nm.2.2 (by decide)) X
      have hbc := Hid.mk (fun X (hX : Below wr.heap.size wr X) => bclone_any p c hpc f.dat (Nat.le_trans hfit.out.siz (by decide)) X (hby.out.later hX))
      clear hL c0 hlo hdl
      go_upto_region 9 with (first | (go_at_call 51; refine (hh.out w1 B1).mono ?_; rintro e w2 ⟨rfl, hw2⟩; subst w2) | (go_at_call 52; refine (hmb.out _).mono ?_; rintro e w3 ⟨rfl, hb3⟩))
      have hb3' := below_step hb3 ((Below.refl _ _).drew)
      have S3 := hK.out _ hb3
      have S3' := hK.out _ hb3'
      clear hw1 r1 x0 x1 x2 hh hmb
      go_region_held3 (fun X => X.cell? ⟨W1.heap.size, 0, none⟩ = some (.map (some mb)) ∧ X.cell? ⟨wr.heap.size, 0, none⟩ = some (.string (strB f.nm)) ∧ X.cell? ⟨wr.heap.size, 1, none⟩ = some (.slice p f.dat.length c) ∧ X.cell? ⟨wr.heap.size, 2, none⟩ = some (.int .i64 (f.sure : Int))) (with_reducible assumption) (first | (go_at_call 53; refine (hsc _).mono ?_; rintro e w4 ⟨rfl, hb4⟩; have b4 := below_step hb3' hb4; have S4 := hK.out _ b4; have B4 := below_step B1 b4) | (go_at_call 35; refine (hbc.out _ B4).mono ?_; rintro e w5 ⟨p5, c5, rfl, ho5, hb5⟩; have b5 := below_step b4 hb5; have S5 := hK.out _ b5; have S6 := hK.out _ (below_step b5 ((Below.refl _ _).alloc (Nat.le_refl _) (.cells #[.slice p5 f.dat.length c5, .int .i64 (f.sure : Int)] 89))); obtain ⟨w9, hrun, hD9, hB9, G9⟩ := hcl.out w4 w5 p5 c5 B4 ho5 hb5; have S9 := And.intro (G9 _ _ _ S6.1 hne1) (And.intro (G9 _ _ _ S6.2.1 hne2) (And.intro (G9 _ _ _ S6.2.2.1 hne2) (G9 _ _ _ S6.2.2.2 hne2)))))
      replace hD9 := Hid.mk (hnext.out _ hD9)
      replace hB9 := Hid.mk (hb.out.trans hB9)
      clear S3 S3' S4 S5 S6 S9 G9 hrun ho5 hcl hK hnext
      go_wp2
      go_roundw
      case rel => exact ⟨i + 1, by omega, by first | rfl | go_num, hD9.out, hB9.out⟩
      case measure => simp [intOf]; omega
    · have hlt' : ¬ (i : Int) < (L.length : Int) := by omega
      obtain rfl : i = L.length := by omega
      rw [List.take_length] at hD
      replace hD := Hid.mk hD
      replace hb := Hid.mk hb
      go_wp2
      go_ret2
      exact ⟨S, _, rfl, hD.out, hb.out⟩
end Go.Proofs.YtakcdgeanbpllaaGreatDoor.DJ


/- world.stands. -/
namespace Go.Proofs.YtakcdgeanbpllaaGreatDoor.DJ
open Go.RowKit
set_option linter.constructorNameAsVariable false

theorem size_rec (X : World) : (sizeOf (Tryz.prog.elem 29)).run Tryz.prog X = .ok 2 X := by kernel_rfl
theorem under_rec : Tryz.prog.underlying 29 = some (.slice (Tryz.prog.elem 29)) := by kernel_rfl
theorem slice_rec (a : Option Addr) (n cap k : Nat) (ha : ∀ p, a = some p → ∃ b off, p = ⟨b, off, none⟩) (hk : k ≤ cap) : ∀ X, (Instr.slice 29 (.slice a n cap) none (some (.int .i64 (k : Int))) none).run Tryz.prog X = .ok (.slice a k cap) X := fun X => by
  rw [run_slice_h _ _ _ _ _ under_rec .i64 (k : Int) (by omega) (by omega), size_rec, Result.andThen_ok, sliced, Int.toNat_natCast]
  congr 2
  split
  · rfl
  · cases a with
    | none => rfl
    | some p =>
      obtain ⟨b, off, rfl⟩ := ha p rfl
      simp [Go.WideShapes.add_plain]
theorem rcAt_take {w : World} {a : Option Addr} {R : List Rec} (h : RcAt w a R) (n : Nat) : RcAt w a (R.take n) := by
  obtain ⟨h0, h⟩ := h
  refine ⟨fun r hr => h0 r (List.mem_of_mem_take hr), ?_⟩
  rcases h with rfl | ⟨b, off, ha, hlt, hc⟩
  · exact .inl (by simp)
  · refine .inr ⟨b, off, ha, hlt, fun i hi => ?_⟩
    rw [List.length_take] at hi
    have := hc i (by omega)
    simp only [List.getElem_take]
    exact this

/-- One file. -/
def one (dat : List Nat) : Dk := ⟨[⟨Nm 1, dat, dat.length⟩], false, none, 0, 0⟩
theorem calm_one (dat : List Nat) : Calm (one dat) := ⟨rfl, rfl, rfl⟩

set_option maxRecDepth 8000 in
set_option maxHeartbeats 1000000 in
theorem stands_any {lo ub db sum : Nat} {wp : Option Addr} {sv lv fv : Value} {soft : Bool} {ra : Option Addr} {rc : Nat} {R : List Rec} (hsum : sum < 4294967296) {dat : List Nat} (hfit : Fit ⟨Nm 1, dat, dat.length⟩) {n : Nat} {nn : Bool} {Q : List Rec} (hQ : Q = R.take (if nn then 0 else n)) (hn : n ≤ R.length) (hR12 : R.length ≤ 12) (hrc : R.length ≤ rc) (hra : ∀ p, ra = some p → ∃ b off, p = ⟨b, off, none⟩) (hG : Gives (one dat) sum [] Q) (p : Option Addr) (c : Nat) (hpc : p = none → c = 0) (hlc : dat.length ≤ c) (w : World) (hlo : lo ≤ w.heap.size) (ht : TabL lo w) (hrow : w.heap[ub]? = some (wdRow db wp sum sv (.slice ra R.length rc) lv fv soft)) (hR : RcAt w ra R) (hB : Byts w p dat) :
    Calls Tryz.prog 15 #[.pointer (some ⟨ub, 0, none⟩), .string (strB (Nm 1)), .slice p dat.length c, .int .i64 (n : Int), .bool nn] w fun e w' => e = .returned (.bool true) ∧ Below w.heap.size w w' := by
  obtain ⟨W1, hW1⟩ : ∃ W1, w.alloc (.cells #[.string (strB (Nm 1)), .slice p dat.length c, .int .i64 (dat.length : Int)] 45) = W1 := ⟨_, rfl⟩
  have b1 : Below w.heap.size w W1 := by rw [← hW1]; exact (Below.refl _ _).alloc (Nat.le_refl _) _
  have r1 : W1.heap[w.heap.size]? = some (.cells #[.string (strB (Nm 1)), .slice p dat.length c, .int .i64 (dat.length : Int)] 45 (0, 0)) := by rw [← hW1]; exact heap_new w _
  have hA : FfAt W1 (some ⟨w.heap.size, 0, none⟩) [⟨Nm 1, dat, dat.length⟩] := .inr ⟨w.heap.size, 0, rfl, (Array.getElem?_eq_some_iff.1 r1).1, fun i hi => by
    obtain rfl : i = 0 := by simpa using hi
    exact ⟨cell_of_row _ _ 0 _ _ _ r1, ⟨p, c, cell_of_row _ _ 1 _ _ _ r1, hpc, hlc, hB.later b1⟩, cell_of_row _ _ 2 _ _ _ r1⟩⟩
  have hN := newDisk_ok [⟨Nm 1, dat, dat.length⟩] (fun f hf => by rw [List.mem_singleton.1 hf]; exact hfit) (fun i j hi hj hij => by simp at hi hj; omega) (by simp) (some ⟨w.heap.size, 0, none⟩) 1 W1 hA
  rw [show insAll [⟨Nm 1, dat, dat.length⟩] = [⟨Nm 1, dat, dat.length⟩] from rfl] at hN
  change Calls _ _ _ _ (fun e w' => ∃ S db, e = _ ∧ DiskAt w' W1.heap.size S db (one dat) ∧ Below W1.heap.size W1 w') at hN
  have ht1 : TabL W1.heap.size W1 := (ht.next (b1.mono hlo)).mono (Nat.le_trans hlo b1.size)
  obtain ⟨mt, hmt⟩ : ∃ m, (if nn then 0 else n) = m := ⟨_, rfl⟩
  rw [hmt] at hQ
  have hml : mt ≤ R.length := by rw [← hmt]; split <;> omega
  have hQl : Q.length = mt := by rw [hQ, List.length_take]; omega
  have hOp : Hid (∀ (w2 : World) (S : Nat → Prop) (db2 : Nat), DiskAt w2 W1.heap.size S db2 (one dat) → Below W1.heap.size W1 w2 → Calls Tryz.prog 24 #[.pointer (some ⟨db2, 0, none⟩), .int .u32 (sum : Int)] w2 fun e X => ∃ wb sa sc ra' rc', e = .returned (.tuple #[.pointer (some ⟨wb, 0, none⟩), .slice sa 0 sc, .slice ra' mt rc', .int .i64 0]) ∧ DwAt X wb db2 sum 1 mt false ∧ RcAt X ra' Q ∧ Below W1.heap.size W1 X) := ⟨fun w2 S db2 hD hb2 => by
    refine (open_any sum hsum (fun f hf => ⟨1, by decide, by rw [List.mem_singleton.1 hf]⟩) w2 hb2.size (ht1.next hb2) hD).mono ?_
    rintro e X ⟨S', h1, h2, h3⟩
    obtain ⟨e1, e2, -, -⟩ := hG
    rw [e2] at h3
    obtain ⟨wb, sa, sc, ra', rc', rfl, -, h4, h5, h6, h7, h8⟩ := h3
    rw [hQl] at h8 h5 ⊢
    exact ⟨wb, sa, sc, ra', rc', rfl, h5, h8.at_, hb2.trans (h2.below' hb2.size hD.low)⟩⟩
  have hS := Hid.mk (fun (X : World) (ra' : Option Addr) (rc' : Nat) (hX : RcAt X ra' Q) (hb : Below W1.heap.size W1 X) => sameRecords_any Q Q (by omega) ra' ra rc' rc X hX (by rw [hQ]; exact rcAt_take ((hR.later b1).later hb) mt))
  rw [hQl] at hS
  simp only [decide_true] at hS
  have hsl := slice_rec ra R.length rc mt hra (by omega)
  have hK := Hid.mk (fun X (hX : Below W1.heap.size W1 X) => (((below_step b1 hX).block _ (wd_lt hrow)).trans hrow : X.heap[ub]? = _))
  have hn1 : ∀ (b : Nat) (W : World), (binOp BinOp.eql 27 (.pointer (some ⟨b, 0, none⟩)) (.pointer none)).run Tryz.prog W = .ok (.bool false) W := fun _ _ => rfl
  have hn2 : ∀ (b : Nat) (W : World), (binOp BinOp.neq 28 (.pointer (some ⟨b, 0, none⟩)) (.pointer none)).run Tryz.prog W = .ok (.bool true) W := fun _ _ => rfl
  replace hN := Hid.mk hN
  replace b1 := Hid.mk b1
  simp only [List.length_singleton] at hN
  clear hA r1 hG hR hB hfit hQ ht ht1 hrow
  generalize strB (Nm 1) = nm at *
  cases nn with
  | true =>
    simp only [if_true] at hmt
    subst hmt
    go_enter Tryz.func15, Tryz.ntmps15
    go_upto_region 4 with (go_at_call 26; refine hN.out.mono ?_; rintro e w2 ⟨S2, db2, rfl, hD2, hb2⟩)
    have c2 := wd_cells (hK.out _ hb2)
    obtain ⟨-, -, c22, -⟩ := c2
    have hO2 := hOp.out w2 S2 db2 hD2 hb2
    clear hD2 hOp
    go_upto_region 7 with (go_at_call 24; refine hO2.mono ?_; rintro e w3 ⟨wb, sa, sc, ra3, rc3, rfl, hw3, hR3, hb3⟩)
    have c3 := wd_cells (hK.out _ hb3)
    obtain ⟨-, -, -, -, c34, -⟩ := c3
    have hS3 := hS.out w3 ra3 rc3 hR3 hb3
    have hL3 := Hid.mk (fun m => len_any (w3.drewN m) (hw3.later (below_drewN (Below.refl _ _) m)))
    clear hw3 hR3 hO2 c22 hS
    go_wp2_with (first | (go_at_call 36; refine hS3.mono ?_; rintro e w4 ⟨rfl, m4, rfl⟩) | (go_at_call 28; refine (hL3.out m4).mono ?_; rintro e w5 ⟨rfl, rfl⟩))
    go_ret
    exact ⟨rfl, below_drewN (below_step b1.out hb3) m4⟩
  | false =>
    simp only [Bool.false_eq_true, if_false] at hmt
    subst hmt
    go_enter Tryz.func15, Tryz.ntmps15
    go_upto_region 4 with (go_at_call 26; refine hN.out.mono ?_; rintro e w2 ⟨S2, db2, rfl, hD2, hb2⟩)
    have c2 := wd_cells (hK.out _ hb2)
    obtain ⟨-, -, c22, -⟩ := c2
    have hO2 := hOp.out w2 S2 db2 hD2 hb2
    clear hD2 hOp
    go_upto_region 7 with (go_at_call 24; refine hO2.mono ?_; rintro e w3 ⟨wb, sa, sc, ra3, rc3, rfl, hw3, hR3, hb3⟩)
    have c3 := wd_cells (hK.out _ hb3)
    obtain ⟨-, -, -, -, c34, -⟩ := c3
    have hS3 := hS.out w3 ra3 rc3 hR3 hb3
    have hL3 := Hid.mk (fun m => len_any (w3.drewN m) (hw3.later (below_drewN (Below.refl _ _) m)))
    clear hw3 hR3 hO2 c22 hS
    go_wp2_with (first | (go_at_call 36; refine hS3.mono ?_; rintro e w4 ⟨rfl, m4, rfl⟩) | (go_at_call 28; refine (hL3.out m4).mono ?_; rintro e w5 ⟨rfl, rfl⟩))
    go_ret
    exact ⟨rfl, below_drewN (below_step b1.out hb3) m4⟩
end Go.Proofs.YtakcdgeanbpllaaGreatDoor.DJ

import Derived.Test.YtnmcniibcjjflaaDoorTurnRefBracket
import Derived.Deep.QuietTactic
import Derived.BigQuiet
namespace Go.Proofs.YtnmcniibcjjflaaDoor
open Go.RowKit

theorem drewN_boxes {w wr : World} {a b : Nat} {x y z u : Value} (hX : Box wr a x y) (hR : Box wr b z u) (hB : Below w.heap.size w wr) (n : Nat) : Box (wr.drewN n) a x y ∧ Box (wr.drewN n) b z u ∧ Below w.heap.size w (wr.drewN n) :=
  ⟨hX.later (below_drewN (Below.refl _ _) n), hR.later (below_drewN (Below.refl _ _) n), below_drewN hB n⟩

/-- How the reference's Bracket stands. -/
def BSt (w : World) (n0 : Int) (a : Option Addr) (S : List Nat) (X : World) : Prop := Box X w.heap.size (.int .i64 1) (.int .i64 n0) ∧ Box X (w.heap.size + 1) (.int .i64 0) (.int .i64 0) ∧ Below w.heap.size w X ∧ Dig X a S
theorem BSt.later {w : World} {n0 : Int} {a : Option Addr} {S : List Nat} {X X' : World} (h : BSt w n0 a S X) (hb : Below X.heap.size X X') : BSt w n0 a S X' := ⟨h.1.later hb, h.2.1.later hb, below_step h.2.2.1 hb, h.2.2.2.later hb⟩

theorem heldQ {P : World → Prop} (hst : ∀ X w1, P X → Below X.heap.size X w1 → P w1) {X : World} {f : Nat} {args : Array Value} {Q : Ending → World → Prop} (h : P X) (hc : Calls Tryd.prog f args X Q) (hQ : ∀ e w', Q e w' → Below X.heap.size X w') :
    Calls Tryd.prog f args X fun e w1 => Q e w1 ∧ P w1 := hc.mono fun e w1 hq => ⟨hq, hst X w1 h (hQ e w1 hq)⟩

theorem digits_int (z : Int) (N : Nat) (hz : Hid (z = N)) (hN : N < 10000000000000000) (w : World) :
    Calls Tryd.prog 67 #[.int .i64 z] w fun e w' => ∃ a cap, e = .returned (.slice a (M.digs N).length cap) ∧ Dig w' a (M.digs N) ∧ Below w.heap.size w w' := by
  rw [hz.out]
  exact digits_any N hN w

theorem kept_band {w : World} {gb o1 o2 : Nat} {u v : Value} {n0 : Int} {a : Option Addr} {S : List Nat} (X X' : World) (h : X.cell? ⟨gb, o1, none⟩ = some u ∧ X.cell? ⟨gb, o2, none⟩ = some v ∧ BSt w n0 a S X) (hb : Below X.heap.size X X') :
    X'.cell? ⟨gb, o1, none⟩ = some u ∧ X'.cell? ⟨gb, o2, none⟩ = some v ∧ BSt w n0 a S X' := by
  have l := World.block_lt_of_cell? _ _ h.1
  exact ⟨(hb.cell (p := ⟨gb, o1, none⟩) l).trans h.1, (hb.cell (p := ⟨gb, o2, none⟩) l).trans h.2.1, h.2.2.later hb⟩

set_option maxHeartbeats 2000000 in
theorem rbr_loops (a : Option Addr) (cap : Nat) (bs : List (Int × Int)) (n0 : Int) (w : World) (hV : Vals w a bs) (h1 : M.mish [(1, n0)] = none) (c1 : 1 ≤ bs.length) (c2 : bs.length ≤ 8) (c3 : (bs.getD 0 (0, 0)).1 = 0) (hx : -9999999999999 ≤ n0 ∧ n0 ≤ 9999999999999) (m : Int × Bool) (hm : Hid (m = M.wh false 4 (M.took n0 bs) 1000000)) (r : Int × Int) (hr : Hid (r = if M.areB 0 0 bs = true then M.fit m.2 1 m.1 else (6, 5))) :
    Calls Tryd.prog 48 #[.slice a bs.length cap, .agg #[.int .i64 1, .int .i64 n0]] w fun e w' => e = .returned (.agg #[.int .i64 r.1, .int .i64 r.2]) ∧ Below w.heap.size w w' := by
  have hlook := looked_any (some ⟨w.heap.size + 1 + 1, 0, none⟩) 1 [(1, n0)] (((w.alloc (cellsV 1 n0)).alloc (cellsV 0 0)).alloc (cellsV 1 n0)) ((row_one _ 1 n0).of (by simp)).vals
  rw [h1] at hlook
  dsimp only [M.vk, M.vn, Option.isSome, List.length] at hlook
  clear h1
  obtain ⟨hx1, hx2⟩ := hx
  have g1 : decide ((bs.length : Int) < 1) = false := by simp; omega
  have g2 : decide ((8 : Int) < bs.length) = false := by simp; omega
  have g3 : (0 : Int) < bs.length := by omega
  obtain ⟨gb, off, rfl, hbw, hcs⟩ := hV.at (i := 0) (by omega)
  have hc0 := (hcs 0 (by omega)).1
  have g4 : ((bs.getD 0 (0, 0)).1 != 0) = false := by simpa using c3
  rw [c3] at hc0
  have HC : Hid (∀ i, i < bs.length → w.cell? ⟨gb, off + i * 2, none⟩ = some (.int .i64 (bs.getD i (0, 0)).1) ∧ w.cell? ⟨gb, off + i * 2 + 1, none⟩ = some (.int .i64 (bs.getD i (0, 0)).2)) := hcs
  have H3 : Hid ((bs.getD 0 (0, 0)).1 = 0) := c3
  clear hcs hV c3 g4
  go_enter Tryd.func48, Tryd.ntmps48
  go_wp2_with (go_at_call 64; refine hlook.mono ?_; clear hlook; rintro e w1 ⟨rfl, hb1⟩; obtain ⟨hX, hR1, hB1⟩ := start1 w 1 n0 (over_alloc _ hb1); obtain ⟨x0, x1, -, -⟩ := hX.alloc (cellsV 0 0); have hc1 := ((hB1.alloc hB1.size (cellsV 0 0)).cell (p := ⟨gb, off + 0 * 2, none⟩) hbw).trans hc0; simp only [Nat.zero_mul, Nat.add_zero] at hc1; clear hb1)
  have hX1 := hX.alloc (cellsV 0 0)
  have hR1' := hR1.alloc (cellsV 0 0)
  have hB1' := hB1.alloc hB1.size (cellsV 0 0)
  generalize w1.alloc (cellsV 0 0) = w2 at *
  clear hX hR1 hB1 x0 x1 hc1 hc0
  go_loopw [7] (fun x wr => ∃ (j : Nat) (lo hi : Int), j ≤ bs.length ∧ x = .int .i64 j ∧ Hid (M.areB 0 0 bs = M.areB lo hi (bs.drop j)) ∧ Hid ((j = 0 ∧ lo = 0 ∧ hi = 0) ∨ (0 < j ∧ lo = (bs.getD (j - 1) (0, 0)).1 + 1 ∧ hi = 9999999999999 ∧ 0 ≤ (bs.getD (j - 1) (0, 0)).1 ∧ (bs.getD (j - 1) (0, 0)).1 ≤ 9999999999999)) ∧ Box wr w.heap.size (.int .i64 1) (.int .i64 n0) ∧ Box wr (w.heap.size + 1) (.int .i64 0) (.int .i64 0) ∧ Below w.heap.size w wr) (fun x _ => bs.length - (intOf x).toNat)
  case atStart => exact ⟨0, 0, 0, Nat.zero_le _, rfl, rfl, .inl ⟨rfl, rfl, rfl⟩, hX1, hR1', hB1'⟩
  case round =>
    obtain ⟨j, lo, hi, hj, rfl, hA, hL, hX, hR, hB⟩ := hrel
    clear hX1 hR1' hB1'
    by_cases hlt : j < bs.length
    · have hlt' : (j : Int) < bs.length := by omega
      obtain ⟨e0, e1⟩ := HC.out j hlt
      have hc0 := (hB.cell (p := ⟨gb, off + j * 2, none⟩) hbw).trans e0
      have hc1 := (hB.cell (p := ⟨gb, off + j * 2 + 1, none⟩) hbw).trans e1
      have hdr := M.drop_at hlt
      clear e0 e1
      have H4 : Hid (j = 0 → (bs.getD j (0, 0)).1 = 0) := by intro e; rw [e]; exact H3.out
      obtain ⟨f, hf⟩ : ∃ f, (bs.getD j (0, 0)).1 = f := ⟨_, rfl⟩
      have HF : Hid ((bs.getD j (0, 0)).1 = f) := hf
      rw [hf] at hc0 H4 hdr
      clear hf
      generalize (bs.getD j (0, 0)).2 = q at *
      have HM : Hid (M.areB 0 0 bs = M.areB lo hi ((f, q) :: bs.drop (j + 1))) := by unfold Hid; rw [hA.out, hdr]
      clear hA hdr
      by_cases c4 : 0 ≤ q ∧ q ≤ 1000000
      · have hde : decide (0 ≤ q ∧ q ≤ 1000000) = true := decide_eq_true c4
        by_cases c5 : 9999999999999 < f
        · have HN : Hid (r = (6, 5)) := by
            unfold Hid
            rw [hr.out, HM.out, M.areB_cons_no (fun h => ?_)]
            · rfl
            · rcases hL.out with ⟨-, -, e⟩ | ⟨-, -, e, -, -⟩ <;> omega
          clear HM hL H4 hr
          go_wp2
          go_quiet ((go_at_call 50; exact Calls.quiet_of_same (rwithin_v q 0 1000000 _ true hde)))
          obtain ⟨hXd, hRd, hBd⟩ := drewN_boxes hX hR hB nq
          generalize wr.drewN nq = wq at *
          clear hX hR hB hc0 hc1
          go_wp2_with (go_at_call 14; refine (bad_any _ _).mono ?_; rintro e w3 ⟨rfl, hb3⟩; obtain ⟨s0, s1, t0, t1⟩ := hRd.later hb3; have hB3 := below_step hBd hb3; clear hb3)
          exact bodyPost_ret (v := .agg #[.int .i64 6, .int .i64 5]) (by simp [results, Tryd.results48, go_sem, s0, s1]) rfl ⟨by rw [HN.out], (hB3.setCell (by simp) _).setCell (by simp) _⟩
        · have c5' : decide (9999999999999 < f) = false := by simpa using c5
          cases j with
          | zero =>
            have e : f = 0 := H4.out rfl
            subst e
            simp only [Nat.zero_mul, Nat.add_zero] at hc0 hc1
            have HN : Hid (M.areB 0 0 bs = M.areB (0 + 1) 9999999999999 (bs.drop (0 + 1))) := by
              unfold Hid
              rw [HM.out, M.areB_cons_ok (by rcases hL.out with ⟨-, e1, e2⟩ | ⟨h, -⟩ <;> omega) c4]
            have HQ : Hid ((bs.getD 0 (0, 0)).1 = 0) := H3
            clear HM hL H4
            go_wp2
            go_quiet ((go_at_call 50; exact Calls.quiet_of_same (rwithin_v q 0 1000000 _ true hde)))
            obtain ⟨hXd, hRd, hBd⟩ := drewN_boxes hX hR hB nq
            generalize wr.drewN nq = wq at *
            clear hX hR hB hc0 hc1
            go_wp2_with (go_at_call 14; refine (bad_any _ _).mono ?_; rintro e w3 ⟨rfl, hb3⟩; obtain ⟨s0, s1, t0, t1⟩ := hRd.later hb3; have hB3 := below_step hBd hb3; clear hb3)
            go_roundw
            case rel => exact ⟨1, 1, 9999999999999, by omega, rfl, HN, .inr ⟨by omega, by simp only [Nat.sub_self]; rw [H3.out]; rfl, rfl, by simp only [Nat.sub_self]; rw [H3.out]; omega, by simp only [Nat.sub_self]; rw [H3.out]; omega⟩, hXd, hRd, hBd⟩
            case measure => simp [intOf]; omega
          | succ j =>
            obtain ⟨hL0, hL1, hL2, hL3, hL4⟩ : 0 < j + 1 ∧ lo = (bs.getD (j + 1 - 1) (0, 0)).1 + 1 ∧ hi = 9999999999999 ∧ 0 ≤ (bs.getD (j + 1 - 1) (0, 0)).1 ∧ (bs.getD (j + 1 - 1) (0, 0)).1 ≤ 9999999999999 := by
              rcases hL.out with ⟨h, -⟩ | h
              · omega
              · exact h
            have ej : j + 1 - 1 = j := by omega
            rw [ej] at hL1 hL3 hL4
            have e0 := (HC.out j (by omega)).1
            have hp0 := (hB.cell (p := ⟨gb, off + j * 2, none⟩) hbw).trans e0
            clear e0
            generalize (bs.getD j (0, 0)).1 = p at *
            have hj1 : (0 : Int) < (j : Int) + 1 := by omega
            have hj2 : (j : Int) < bs.length := by omega
            have hj3 : (j : Int) + 1 < bs.length := by omega
            by_cases c6 : f ≤ p
            · have HN : Hid (r = (6, 5)) := by
                unfold Hid
                rw [hr.out, HM.out, M.areB_cons_no (by omega)]
                rfl
              clear HM hL H4 hr hL1
              go_wp2
              go_quiet ((go_at_call 50; exact Calls.quiet_of_same (rwithin_v q 0 1000000 _ true hde)))
              obtain ⟨hXd, hRd, hBd⟩ := drewN_boxes hX hR hB nq
              generalize wr.drewN nq = wq at *
              clear hX hR hB hc0 hc1
              go_wp2_with (go_at_call 14; refine (bad_any _ _).mono ?_; rintro e w3 ⟨rfl, hb3⟩; obtain ⟨s0, s1, t0, t1⟩ := hRd.later hb3; have hB3 := below_step hBd hb3; clear hb3)
              exact bodyPost_ret (v := .agg #[.int .i64 6, .int .i64 5]) (by simp [results, Tryd.results48, go_sem, s0, s1]) rfl ⟨by rw [HN.out], (hB3.setCell (by simp) _).setCell (by simp) _⟩
            · have c6' : decide (f ≤ p) = false := by simpa using c6
              have HN : Hid (M.areB 0 0 bs = M.areB (f + 1) 9999999999999 (bs.drop (j + 1 + 1))) := by
                unfold Hid
                rw [HM.out, M.areB_cons_ok (by omega) c4]
              clear HM hL hL1
              go_wp2
              go_quiet ((go_at_call 50; exact Calls.quiet_of_same (rwithin_v q 0 1000000 _ true hde)))
              obtain ⟨hXd, hRd, hBd⟩ := drewN_boxes hX hR hB nq
              generalize wr.drewN nq = wq at *
              clear hX hR hB hc0 hc1
              go_wp2_with (go_at_call 14; refine (bad_any _ _).mono ?_; rintro e w3 ⟨rfl, hb3⟩; obtain ⟨s0, s1, t0, t1⟩ := hRd.later hb3; have hB3 := below_step hBd hb3; clear hb3)
              go_roundw
              case rel => exact ⟨j + 2, f + 1, 9999999999999, by omega, by go_num, HN, .inr ⟨by omega, by rw [show j + 2 - 1 = j + 1 from rfl, HF.out], rfl, by rw [show j + 2 - 1 = j + 1 from rfl, HF.out]; omega, by rw [show j + 2 - 1 = j + 1 from rfl, HF.out]; omega⟩, hXd, hRd, hBd⟩
              case measure => simp [intOf]; omega
      · have hde : decide (0 ≤ q ∧ q ≤ 1000000) = false := decide_eq_false c4
        have HN : Hid (r = (6, 5)) := by unfold Hid; rw [hr.out, HM.out, M.areB_cons_rate c4]; rfl
        clear HM hL H4 hr
        go_wp2
        go_quiet ((go_at_call 50; exact Calls.quiet_of_same (rwithin_v q 0 1000000 _ false hde)))
        obtain ⟨hXd, hRd, hBd⟩ := drewN_boxes hX hR hB nq
        generalize wr.drewN nq = wq at *
        clear hX hR hB hc0 hc1
        go_wp2_with (go_at_call 14; refine (bad_any _ _).mono ?_; rintro e w3 ⟨rfl, hb3⟩; obtain ⟨s0, s1, t0, t1⟩ := hRd.later hb3; have hB3 := below_step hBd hb3; clear hb3)
        exact bodyPost_ret (v := .agg #[.int .i64 6, .int .i64 5]) (by simp [results, Tryd.results48, go_sem, s0, s1]) rfl ⟨by rw [HN.out], (hB3.setCell (by simp) _).setCell (by simp) _⟩
    · have HT : Hid (M.areB 0 0 bs = true) := by
        unfold Hid
        rw [hA.out, List.drop_eq_nil_of_le (by omega)]
        rfl
      have HR : Hid (r = M.fit m.2 1 m.1) := by unfold Hid; rw [hr.out, if_pos HT.out]
      have hris := M.rising_of_areB (by omega) bs HT.out
      have hall := took_lt hris hx2
      have hra := M.rising_at bs 0 hris
      have HRA : Hid (∀ j, j < bs.length → 0 ≤ (bs.getD j (0, 0)).1 ∧ (bs.getD j (0, 0)).1 ≤ 9999999999999 ∧ 0 ≤ (bs.getD j (0, 0)).2 ∧ (bs.getD j (0, 0)).2 ≤ 1000000) := hra
      clear hA hL hr HT hra hris
      have hS0 : BSt w n0 none [] wr := ⟨hX, hR, hB, .inl rfl⟩
      clear hX hR hB
      obtain ⟨wo, rfl⟩ : ∃ wo : World, wo = wr := ⟨_, rfl⟩
      go_wp2
      go_loopw [8, 9] (fun s x wr => ∃ (j : Nat) (S : List Nat) (sa : Option Addr) (sc : Nat), j ≤ bs.length ∧ x = .int .i64 j ∧ s = .slice sa S.length sc ∧ S.length ≤ 33 + j ∧ Hid ((∀ i, S.getD i 0 ≤ 9) ∧ M.val S + M.took n0 (bs.drop j) = M.took n0 bs) ∧ BSt w n0 sa S wr) (fun _ x _ => bs.length - (intOf x).toNat)
      case atStart => exact ⟨0, [], none, 0, Nat.zero_le _, rfl, rfl, by simp, ⟨fun i => by simp, by simp [M.val]⟩, hS0⟩
      case round =>
        obtain ⟨j, S, sa, sc, hj, rfl, rfl, hSl, hS, hst⟩ := hrel
        clear hS0
        by_cases hlt : j < bs.length
        · have hlt' : (j : Int) < bs.length := by omega
          obtain ⟨e0, e1⟩ := HC.out j hlt
          have hc0 := (hst.2.2.1.cell (p := ⟨gb, off + j * 2, none⟩) hbw).trans e0
          have hc1 := (hst.2.2.1.cell (p := ⟨gb, off + j * 2 + 1, none⟩) hbw).trans e1
          obtain ⟨-, hx0, -, -⟩ := hst.1
          have hdr := M.drop_at hlt
          obtain ⟨f1, f2, r1, r2⟩ := HRA.out j hlt
          clear e0 e1
          generalize (bs.getD j (0, 0)).1 = f at *
          generalize (bs.getD j (0, 0)).2 = q at *
          have hnx : Hid (M.took n0 (bs.drop j) = (M.top n0 (bs.drop (j + 1)) - f).toNat * q.toNat + M.took n0 (bs.drop (j + 1))) := by unfold Hid; rw [hdr]; rfl
          clear hdr
          by_cases hl2 : j + 1 < bs.length
          · have hg0 := (hst.2.2.1.cell (p := ⟨gb, off + (j + 1) * 2, none⟩) hbw).trans (HC.out (j + 1) hl2).1
            have hd2 := M.drop_at hl2
            obtain ⟨g1, g2, -, -⟩ := HRA.out (j + 1) hl2
            have HTP : Hid (min n0 (bs.getD (j + 1) (0, 0)).1 = M.top n0 (bs.drop (j + 1))) := by
              unfold Hid
              rw [hd2]
              simp only [M.top]
              split <;> omega
            have htp2 := M.top_le n0 (bs.drop (j + 1))
            have htp3 : -9999999999999 ≤ M.top n0 (bs.drop (j + 1)) := by rw [← HTP.out]; omega
            clear hd2
            generalize (bs.getD (j + 1) (0, 0)).1 = g at *
            obtain ⟨tp, htp⟩ : ∃ tp, M.top n0 (bs.drop (j + 1)) = tp := ⟨_, rfl⟩
            rw [htp] at hnx HTP htp2 htp3
            clear htp
            have hl3 : (j : Int) + 1 < bs.length := by omega
            have hmin := HTP.out
            by_cases c : f < tp
            · obtain ⟨A, hA⟩ : ∃ A : Nat, tp - f = A := ⟨(tp - f).toNat, by omega⟩
              have hA1 : Hid (tp - f = A) := hA
              have hA2 : Hid (IntKind.i64.wrap (tp - f) = A) := by unfold Hid; rw [wrapI (by omega) (by omega), hA]
              have hA3 : A < 10000000000000000 := by omega
              obtain ⟨R, rfl⟩ : ∃ R : Nat, q = R := ⟨q.toNat, by omega⟩
              have hR3 : R < 10000000000000000 := by omega
              have HN : Hid (∀ ds : List Nat, M.val ds = A * R → ∀ es : List Nat, M.val es = M.val S + M.val ds → M.val es + M.took n0 (bs.drop (j + 1)) = M.took n0 bs) := by
                intro ds hds es hes
                rw [hes, hds, ← hS.out.2, hnx.out, show (tp - f).toNat = A by omega]
                simp only [Int.toNat_natCast]
                omega
              have HS9 : Hid (∀ i, S.getD i 0 ≤ 9) := hS.out.1
              clear hS hnx hA
              go_wp2
              have hP : wr.cell? ⟨gb, off + j * 2, none⟩ = some (.int .i64 f) ∧ wr.cell? ⟨gb, off + j * 2 + 1, none⟩ = some (.int .i64 (R : Int)) ∧ BSt w n0 sa S wr := ⟨hc0, hc1, hst⟩
              have hP0 := kept_band _ _ hP (Below.refl _ _).drew
              clear hP hx0
              have tok : True := trivial
              go_region_held3 (fun X => X.cell? ⟨gb, off + j * 2, none⟩ = some (.int .i64 f) ∧ X.cell? ⟨gb, off + j * 2 + 1, none⟩ = some (.int .i64 (R : Int)) ∧ BSt w n0 sa S X) (with_reducible assumption)
                (first | (go_at_call 67; have _u := tok; clear tok; refine (heldQ (P := (fun X => X.cell? ⟨gb, off + j * 2, none⟩ = some (.int .i64 f) ∧ X.cell? ⟨gb, off + j * 2 + 1, none⟩ = some (.int .i64 (R : Int)) ∧ BSt w n0 sa S X)) (kept_band (w := w) (gb := gb)) ?_ (digits_int _ A (by first | exact hA1 | exact hA2) hA3 _) (fun _ _ ⟨_, _, _, _, h⟩ => h)).mono ?_; with_reducible assumption; rintro e w2 ⟨⟨p0, k0, rfl, hD0, hb2⟩, hP2⟩) | (go_at_call 67; refine (heldQ (P := (fun X => X.cell? ⟨gb, off + j * 2, none⟩ = some (.int .i64 f) ∧ X.cell? ⟨gb, off + j * 2 + 1, none⟩ = some (.int .i64 (R : Int)) ∧ BSt w n0 sa S X)) (kept_band (w := w) (gb := gb)) ?_ (digits_any R hR3 _) (fun _ _ ⟨_, _, _, _, h⟩ => h)).mono ?_; with_reducible assumption; rintro e w3 ⟨⟨p1, k1, rfl, hD1, hb3⟩, hP3⟩; have hE0 := hD0.later hb3) | (go_at_call 66; refine (heldQ (P := (fun X => X.cell? ⟨gb, off + j * 2, none⟩ = some (.int .i64 f) ∧ X.cell? ⟨gb, off + j * 2 + 1, none⟩ = some (.int .i64 (R : Int)) ∧ BSt w n0 sa S X)) (kept_band (w := w) (gb := gb)) ?_ (product_9 p0 p1 k0 k1 (M.digs A) (M.digs R) (M.digs_len 16 A hA3) (M.digs_len 16 R hR3) (digs_nine A) (digs_nine R) _ hE0 hD1) (fun _ _ ⟨_, _, _, _, _, h⟩ => h)).mono ?_; with_reducible assumption; rintro e w4 ⟨⟨ds, k2, rfl, hds, hD4, hb4⟩, hP4⟩) | (go_at_call 71; refine (heldQ (P := (fun X => X.cell? ⟨gb, off + j * 2, none⟩ = some (.int .i64 f) ∧ X.cell? ⟨gb, off + j * 2 + 1, none⟩ = some (.int .i64 (R : Int)) ∧ BSt w n0 sa S X)) (kept_band (w := w) (gb := gb)) ?_ (plus_v sa k2 sc ds.length S ds (by omega) (by have := hds.out.2.1; omega) HS9.out hds.out.2.2 _ hP4.2.2.2.2.2 hD4) (fun _ _ ⟨_, _, _, _, _, h⟩ => h)).mono ?_; with_reducible assumption; rintro e w5 ⟨⟨es, k3, rfl, hes, hD5, hb5⟩, hP5⟩))
              clear hP0 hP2 hP3 hP4 hD0 hD1 hE0 hD4 hb2 hb3 hb4
              have HN2 : Hid ((∀ i, es.getD i 0 ≤ 9) ∧ M.val es + M.took n0 (bs.drop (j + 1)) = M.took n0 bs) := ⟨hes.out.2.2, HN.out ds (by rw [hds.out.1, M.val_digs, M.val_digs]) es hes.out.1⟩
              have hle : es.length ≤ 33 + (j + 1) := by have h1 := hes.out.2.1; have h2 := hds.out.2.1; omega
              have hst5 : BSt w n0 k3 es w5 := ⟨hP5.2.2.1, hP5.2.2.2.1, hP5.2.2.2.2.1, hD5⟩
              clear HN hes hds hP5 hD5 hb5
              go_wp2
              go_roundw
              case rel => exact ⟨j + 1, es, k3, es.length, by omega, by go_num, rfl, hle, HN2, hst5⟩
              case measure => simp [intOf]; omega
            · have HN : Hid ((∀ i, S.getD i 0 ≤ 9) ∧ M.val S + M.took n0 (bs.drop (j + 1)) = M.took n0 bs) := by
                refine ⟨hS.out.1, ?_⟩
                rw [← hS.out.2, hnx.out, show (tp - f).toNat = 0 by omega]
                omega
              clear hS hnx HTP
              go_wp2
              go_roundw
              case rel => exact ⟨j + 1, S, sa, sc, by omega, by go_num, rfl, by omega, HN, hst⟩
              case measure => simp [intOf]; omega
          · have HTP : Hid (M.top n0 (bs.drop (j + 1)) = n0) := by unfold Hid; rw [List.drop_eq_nil_of_le (by omega)]; rfl
            rw [HTP.out] at hnx
            clear HTP
            have hl3 : ¬ (j : Int) + 1 < bs.length := by omega
            by_cases c : f < n0
            · obtain ⟨A, hA⟩ : ∃ A : Nat, n0 - f = A := ⟨(n0 - f).toNat, by omega⟩
              have hA1 : Hid (n0 - f = A) := hA
              have hA2 : Hid (IntKind.i64.wrap (n0 - f) = A) := by unfold Hid; rw [wrapI (by omega) (by omega), hA]
              have hA3 : A < 10000000000000000 := by omega
              obtain ⟨R, rfl⟩ : ∃ R : Nat, q = R := ⟨q.toNat, by omega⟩
              have hR3 : R < 10000000000000000 := by omega
              have HN : Hid (∀ ds : List Nat, M.val ds = A * R → ∀ es : List Nat, M.val es = M.val S + M.val ds → M.val es + M.took n0 (bs.drop (j + 1)) = M.took n0 bs) := by
                intro ds hds es hes
                rw [hes, hds, ← hS.out.2, hnx.out, show (n0 - f).toNat = A by omega]
                simp only [Int.toNat_natCast]
                omega
              have HS9 : Hid (∀ i, S.getD i 0 ≤ 9) := hS.out.1
              clear hS hnx hA
              go_wp2
              have hP : wr.cell? ⟨gb, off + j * 2, none⟩ = some (.int .i64 f) ∧ wr.cell? ⟨gb, off + j * 2 + 1, none⟩ = some (.int .i64 (R : Int)) ∧ BSt w n0 sa S wr := ⟨hc0, hc1, hst⟩
              have hP0 := kept_band _ _ hP (Below.refl _ _).drew
              clear hP hx0
              have tok : True := trivial
              go_region_held3 (fun X => X.cell? ⟨gb, off + j * 2, none⟩ = some (.int .i64 f) ∧ X.cell? ⟨gb, off + j * 2 + 1, none⟩ = some (.int .i64 (R : Int)) ∧ BSt w n0 sa S X) (with_reducible assumption)
                (first | (go_at_call 67; have _u := tok; clear tok; refine (heldQ (P := (fun X => X.cell? ⟨gb, off + j * 2, none⟩ = some (.int .i64 f) ∧ X.cell? ⟨gb, off + j * 2 + 1, none⟩ = some (.int .i64 (R : Int)) ∧ BSt w n0 sa S X)) (kept_band (w := w) (gb := gb)) ?_ (digits_int _ A (by first | exact hA1 | exact hA2) hA3 _) (fun _ _ ⟨_, _, _, _, h⟩ => h)).mono ?_; with_reducible assumption; rintro e w2 ⟨⟨p0, k0, rfl, hD0, hb2⟩, hP2⟩) | (go_at_call 67; refine (heldQ (P := (fun X => X.cell? ⟨gb, off + j * 2, none⟩ = some (.int .i64 f) ∧ X.cell? ⟨gb, off + j * 2 + 1, none⟩ = some (.int .i64 (R : Int)) ∧ BSt w n0 sa S X)) (kept_band (w := w) (gb := gb)) ?_ (digits_any R hR3 _) (fun _ _ ⟨_, _, _, _, h⟩ => h)).mono ?_; with_reducible assumption; rintro e w3 ⟨⟨p1, k1, rfl, hD1, hb3⟩, hP3⟩; have hE0 := hD0.later hb3) | (go_at_call 66; refine (heldQ (P := (fun X => X.cell? ⟨gb, off + j * 2, none⟩ = some (.int .i64 f) ∧ X.cell? ⟨gb, off + j * 2 + 1, none⟩ = some (.int .i64 (R : Int)) ∧ BSt w n0 sa S X)) (kept_band (w := w) (gb := gb)) ?_ (product_9 p0 p1 k0 k1 (M.digs A) (M.digs R) (M.digs_len 16 A hA3) (M.digs_len 16 R hR3) (digs_nine A) (digs_nine R) _ hE0 hD1) (fun _ _ ⟨_, _, _, _, _, h⟩ => h)).mono ?_; with_reducible assumption; rintro e w4 ⟨⟨ds, k2, rfl, hds, hD4, hb4⟩, hP4⟩) | (go_at_call 71; refine (heldQ (P := (fun X => X.cell? ⟨gb, off + j * 2, none⟩ = some (.int .i64 f) ∧ X.cell? ⟨gb, off + j * 2 + 1, none⟩ = some (.int .i64 (R : Int)) ∧ BSt w n0 sa S X)) (kept_band (w := w) (gb := gb)) ?_ (plus_v sa k2 sc ds.length S ds (by omega) (by have := hds.out.2.1; omega) HS9.out hds.out.2.2 _ hP4.2.2.2.2.2 hD4) (fun _ _ ⟨_, _, _, _, _, h⟩ => h)).mono ?_; with_reducible assumption; rintro e w5 ⟨⟨es, k3, rfl, hes, hD5, hb5⟩, hP5⟩))
              clear hP0 hP2 hP3 hP4 hD0 hD1 hE0 hD4 hb2 hb3 hb4
              have HN2 : Hid ((∀ i, es.getD i 0 ≤ 9) ∧ M.val es + M.took n0 (bs.drop (j + 1)) = M.took n0 bs) := ⟨hes.out.2.2, HN.out ds (by rw [hds.out.1, M.val_digs, M.val_digs]) es hes.out.1⟩
              have hle : es.length ≤ 33 + (j + 1) := by have h1 := hes.out.2.1; have h2 := hds.out.2.1; omega
              have hst5 : BSt w n0 k3 es w5 := ⟨hP5.2.2.1, hP5.2.2.2.1, hP5.2.2.2.2.1, hD5⟩
              clear HN hes hds hP5 hD5 hb5
              go_wp2
              go_roundw
              case rel => exact ⟨j + 1, es, k3, es.length, by omega, by go_num, rfl, hle, HN2, hst5⟩
              case measure => simp [intOf]; omega
            · have HN : Hid ((∀ i, S.getD i 0 ≤ 9) ∧ M.val S + M.took n0 (bs.drop (j + 1)) = M.took n0 bs) := by
                refine ⟨hS.out.1, ?_⟩
                rw [← hS.out.2, hnx.out, show (n0 - f).toNat = 0 by omega]
                omega
              clear hS hnx
              go_wp2
              go_roundw
              case rel => exact ⟨j + 1, S, sa, sc, by omega, by go_num, rfl, by omega, HN, hst⟩
              case measure => simp [intOf]; omega
        · have e : j = bs.length := by omega
          have hv := hS.out.2
          rw [e, List.drop_length] at hv
          have hv2 : M.val S = M.took n0 bs := by rw [← hv]; rfl
          obtain ⟨v, hvv⟩ : ∃ v, Hid (v = M.sgn false (M.rq false 4 (M.cap14 (M.val S / 1000000)) (M.val S % 1000000) 1000000)) := ⟨_, rfl⟩
          have HV : Hid (r = M.fit true 1 v) := by unfold Hid; rw [HR.out, hm.out, hvv.out, hv2, M.fit_same]
          have hrd := rounded_any sa sc S 1000000 false 4 (by omega) (by omega) (by omega) (fun i => by have := hS.out.1 i; omega) wr hst.2.2.2 v hvv
          obtain ⟨-, hR4, hB4, -⟩ := hst
          clear hS hv hv2 hvv HR hm
          go_wp2_with (first | (go_at_call 69; refine hrd.mono ?_; clear hrd; rintro e w' ⟨rfl, rfl⟩) | (go_at_call 16; refine (bounded_any _ _ _).mono ?_; rintro e w5 ⟨rfl, hb5⟩; obtain ⟨r0, r1, q0, q1⟩ := hR4.later hb5; have hB5 := below_step hB4 hb5; clear hb5))
          exact bodyPost_ret (v := .agg #[.int .i64 r.1, .int .i64 r.2]) (by rw [HV.out]; simp [results, Tryd.results48, go_sem, r0, r1]) rfl ⟨rfl, (hB5.setCell (by simp) _).setCell (by simp) _⟩

theorem rbracket_any (a : Option Addr) (cap : Nat) (bs : List (Int × Int)) (k0 n0 : Int) (w : World) (hV : Vals w a bs) (m : Int × Bool) (hm : Hid (m = M.wh false 4 (M.took n0 bs) 1000000)) (r : Int × Int) (hr : Hid (r = M.ans (M.refuse (takesB k0 8) k0 n0 []) (brk bs m))) :
    Calls Tryd.prog 48 #[.slice a bs.length cap, .agg #[.int .i64 k0, .int .i64 n0]] w fun e w' => e = .returned (.agg #[.int .i64 r.1, .int .i64 r.2]) ∧ Below w.heap.size w w' := by
  cases h1 : M.mish [(k0, n0)] with
  | some v =>
    have e2 : r = (v.1, v.2) := by rw [hr.out, refuse_one_some (x := v.1) (y := v.2) h1]; rfl
    rw [e2]
    exact rbr_some a cap bs k0 n0 w v.1 v.2 h1
  | none =>
    by_cases hk : k0 = 1
    · subst hk
      have e3 : r = brk bs m := by rw [hr.out, refuse_one h1]; rfl
      have v0 := M.valid_1 (M.mish_none h1 (1, n0) (by simp)).1
      by_cases hl : 1 ≤ bs.length ∧ bs.length ≤ 8
      · by_cases hf : (bs.getD 0 (0, 0)).1 = 0
        · refine rbr_loops a cap bs n0 w hV h1 hl.1 hl.2 hf v0 m hm r ?_
          unfold Hid
          rw [e3]
          unfold brk M.areBands
          rw [decide_eq_true hl]
          simp
        · have e4 : M.areBands bs = false := by
            unfold M.areBands
            cases bs with
            | nil => simp at hl
            | cons y l =>
              obtain ⟨f, q⟩ := y
              simp at hf
              rw [M.areB_cons_no (by omega)]
              simp
          rw [e3, brk, e4, if_neg (by simp)]
          exact rbr_from a cap bs n0 w hV h1 hl.1 hl.2 hf
      · have e4 : M.areBands bs = false := by unfold M.areBands; rw [decide_eq_false hl]; rfl
        rw [e3, brk, e4, if_neg (by simp)]
        exact rbr_len a cap bs n0 w h1 hl
    · have e2 : r = (6, 5) := by
        rw [hr.out, refuse_one h1, takes_8, if_neg (by simpa using hk)]
        rfl
      rw [e2]
      exact rbr_k0 a cap bs k0 n0 w h1 (by simpa using hk)

end Go.Proofs.YtnmcniibcjjflaaDoor

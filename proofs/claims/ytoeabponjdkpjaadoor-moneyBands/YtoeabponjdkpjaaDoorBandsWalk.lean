import Derived.Test.YtoeabponjdkpjaaDoorRow2
import Derived.Test.YtoeabponjdkpjaaDoorKnown
import Derived.Test.YtoeabponjdkpjaaDoorHeld
import Derived.Deep.RegionHeld3
namespace Go.Proofs.YtoeabponjdkpjaaDoor
open Go.RowKit

/-- What the table takes of n, rounded. -/
def rnd (n : Int) (L : List (Int × Int)) : Int := (((M.took n L + 500000) / 1000000 : Nat) : Int)

theorem rnd_le {n : Int} {L : List (Int × Int)} (h : M.Rising 0 L) (h0 : 0 ≤ n) : 0 ≤ rnd n L ∧ rnd n L ≤ n := by
  have := M.took_le n 0 L h
  unfold rnd
  omega
theorem rnd_step {n m : Int} {L : List (Int × Int)} (h : M.Rising 0 L) (h0 : 0 ≤ n) (hm : 0 ≤ m) : rnd n L ≤ rnd (n + m) L ∧ rnd (n + m) L ≤ rnd n L + m := by
  have h1 := M.took_mono (x := n) (y := n + m) (by omega) L
  have h2 := M.took_lip (x := n) (y := n + m) (by omega) L 0 h
  rw [if_neg (by omega)] at h2
  have h3 : (n + m - n).toNat = m.toNat := by omega
  rw [h3] at h2
  unfold rnd
  omega

theorem bracket_val (g cap : Nat) (L : List (Int × Int)) (n : Int) (w : World) (hK : Kinds w) (hV : Vals w (some ⟨g, 0, none⟩) L) (hA : M.areBands L = true) (hR : M.Rising 0 L) (h0 : 0 ≤ n) (h1 : n ≤ 9999999999999) :
    Calls Tryd.prog 14 #[.slice (some ⟨g, 0, none⟩) L.length cap, .agg #[.int .i64 1, .int .i64 n]] w fun e w' => e = .returned (.agg #[.int .i64 1, .int .i64 (rnd n L)]) ∧ Below w.heap.size w w' := by
  have hb := rnd_le hR h0
  have hq : M.took n L / 1000000 ≤ 9999999999999 := by have := M.took_le n 0 L hR; omega
  have hm : M.wh false 4 (M.took n L) 1000000 = (rnd n L, true) := by
    unfold M.wh
    rw [if_pos hq, M.rnd_half]
    rfl
  have hv : M.valid 1 n = true := by simp [M.valid]; omega
  have hv2 : M.valid 1 (rnd n L) = true := by simp [M.valid]; omega
  have hr : ((1, rnd n L) : Int × Int) = M.ans (M.refuse (takesB 1 8) 1 n []) (brk L (rnd n L, true)) := by
    have e1 : M.refuse (takesB 1 8) 1 n [] = none := by
      rw [takes_8]
      simp [M.refuse, M.mish, hv]
    rw [e1, M.ans_none]
    unfold brk
    rw [if_pos hA]
    exact (M.fit_ok hv2).symm
  have := bracket_any (some ⟨g, 0, none⟩) cap L 1 n w hK hV (rnd n L, true) hm.symm (1, rnd n L) hr
  exact this

theorem heldS {S : World → Prop} (hst : ∀ X w1, S X → Below X.heap.size X w1 → S w1) {X : World} {f : Nat} {args : Array Value} {R : Ending} (h : S X)
    (hc : S X → Calls Tryd.prog f args X fun e w' => e = R ∧ Below X.heap.size X w') : Calls Tryd.prog f args X fun e w' => e = R ∧ S w' :=
  (hc h).mono fun _ _ ⟨he, hb⟩ => ⟨he, hst X _ h hb⟩
theorem grown_of_below {W W' : World} (h : Below W.heap.size W W') : W.grownBy W' none := ⟨h.os, h.tape, h.output, h.size, fun k hk _ => h.block k hk⟩
theorem own_later {w w' : World} {base n size : Nat} {e : TypeId} {v : Value} {xs : List Value} (h : w.ownsRow base e size v n xs) (hb : Below w.heap.size w w') : w'.ownsRow base e size v n xs := h.kept (grown_of_below hb) (by cases v.ownBlock <;> simp)

set_option maxRecDepth 100000 in
set_option maxHeartbeats 600000 in
theorem bands_walk (a : Option Addr) (cap : Nat) (bs : List (Int × Int)) (x0 m0 c0 : Int) (W : World) (hK : Kinds W) (hV : Vals W a bs) :
    Calls Tryd.prog 4 #[.slice a bs.length cap, .int .i64 x0, .int .i64 m0, .int .i64 c0] W fun e W' => e = .returned (.bool true) ∧ Below W.heap.size W W' := by
  obtain ⟨t1, ht1⟩ : ∃ t, x0.tmod 9000000000 = t := ⟨_, rfl⟩
  have b1 : -9000000000 < t1 ∧ t1 < 9000000000 := ht1 ▸ tmod_bd x0 (by omega)
  obtain ⟨x, hx⟩ : ∃ u, (t1 + 9000000000).tmod 9000000000 = u := ⟨_, rfl⟩
  have b2 : 0 ≤ x ∧ x < 9000000000 := by rw [← hx, Int.tmod_eq_emod_of_nonneg (by omega)]; omega
  obtain ⟨t2, ht2⟩ : ∃ t, m0.tmod 9000000000 = t := ⟨_, rfl⟩
  have b3 : -9000000000 < t2 ∧ t2 < 9000000000 := ht2 ▸ tmod_bd m0 (by omega)
  obtain ⟨m, hm⟩ : ∃ u, (t2 + 9000000000).tmod 9000000000 = u := ⟨_, rfl⟩
  have b4 : 0 ≤ m ∧ m < 9000000000 := by rw [← hm, Int.tmod_eq_emod_of_nonneg (by omega)]; omega
  obtain ⟨t3, ht3⟩ : ∃ t, c0.tmod 9000000000 = t := ⟨_, rfl⟩
  have b5 : -9000000000 < t3 ∧ t3 < 9000000000 := ht3 ▸ tmod_bd c0 (by omega)
  obtain ⟨c, hc⟩ : ∃ u, (t3 + 9000000000).tmod 9000000000 = u := ⟨_, rfl⟩
  have b6 : 0 ≤ c ∧ c < 9000000000 := by rw [← hc, Int.tmod_eq_emod_of_nonneg (by omega)]; omega
  go_enter Tryd.func4, Tryd.ntmps4
  go_wp2_with (first | (go_at_call 12; refine (known_true _ hK).mono ?_; rintro _ W1 ⟨rfl, hB1⟩; have hK1 := hK.later hB1; have hV1 := hV.later hB1) | (go_at_call 13; refine (right_any a cap bs _ hV1).mono ?_; rintro _ W2 ⟨g, capL, L, rfl, hG, hL8, ho, hB2⟩; have hK2 := hK1.later hB2; have hBW := below_step hB1 hB2) | (go_at_call 15; fail))
  obtain ⟨tl, hLe, hR⟩ := hG
  have hA : M.areBands L = true := by rw [hLe]; rw [hLe] at hR hL8; exact M.areBands_of hR (by simpa using hL8)
  have hmx : L.length ≤ maxLen := by unfold maxLen; omega
  have ra := rnd_le hR b2.1
  have rb := rnd_step hR b2.1 b4.1
  obtain ⟨A, hAd⟩ : ∃ A, rnd x L = A := ⟨_, rfl⟩
  obtain ⟨B, hBd⟩ : ∃ B, rnd (x + m) L = B := ⟨_, rfl⟩
  rw [hAd, hBd] at rb
  rw [hAd] at ra
  have tok : True := trivial
  have tok2 : True := trivial
  have hbr := fun X hKX hVX => bracket_val g capL L x X hKX hVX hA hR b2.1 (by omega)
  have hbr2 := fun X hKX hVX => bracket_val g capL L (x + m) X hKX hVX hA hR (by omega) (by omega)
  rw [hAd] at hbr
  rw [hBd] at hbr2
  have hAd2 : Hid (rnd x L = A) := hAd
  have hLe2 : Hid (L = (0, 150000) :: tl) := hLe
  clear hLe hAd hBd
  have e1 : wrap64 (A + m) = A + m := by unfold wrap64; omega
  have e2 : wrap64 (A + m + 1) = A + m + 1 := by unfold wrap64; omega
  have k0 : ¬ A < 0 := by omega
  have k1 : ¬ x < A := by omega
  have k2 : ¬ B < A := by omega
  have k3 : ¬ A + m + 1 < B := by omega
  go_wp2_with (first | (go_at_call 15; have _u := tok; clear tok; refine (c_any _ _).mono ?_; rintro _ W3 ⟨rfl, hb3⟩; have hK3 := hK2.later hb3; have ho3 := own_later ho hb3; have hB3 := below_step hBW hb3; clear hb3) | (go_at_call 14; have _u := tok2; clear tok2; refine (hbr _ hK3 (vals_of_own ho3 hmx)).mono ?_; rintro _ W4 ⟨rfl, hb4⟩; have hK4 := hK3.later hb4; have ho4 := own_later ho3 hb4; have hB4 := below_step hB3 hb4; clear hb4 hK3 ho3 hB3; have hBa := (Below.refl W4.heap.size W4).alloc (Nat.le_refl _) (.cells #[.int .i64 1, .int .i64 A] 24); have hKa := hK4.later hBa; have hoa := own_later ho4 hBa; have hB4a := below_step hB4 hBa; have hXa := Box.new W4 (.int .i64 1) (.int .i64 A) 24) | (go_at_call 15; refine (c_any _ _).mono ?_; rintro _ W5 ⟨rfl, hb5⟩; have hK5 := hKa.later hb5; have ho5 := own_later hoa hb5; have hB5 := below_step hB4a hb5; have hX5 := hXa.later hb5; clear hb5) | (go_at_call 14; refine (hbr2 _ hK5 (vals_of_own ho5 hmx)).mono ?_; rintro _ W6 ⟨rfl, hb6⟩; have hK6 := hK5.later hb6; have ho6 := own_later ho5 hb6; have hB6 := below_step hB5 hb6; have hX6 := hX5.later hb6; clear hb6 hK5 ho5 hB5 hX5; have hBb := (Below.refl W6.heap.size W6).alloc (Nat.le_refl _) (.cells #[.int .i64 1, .int .i64 B] 24); have hX7 := hX6.later hBb; obtain ⟨a0, a1, -, -⟩ := id hX7; obtain ⟨p0, p1, -, -⟩ := Box.new W6 (.int .i64 1) (.int .i64 B) 24))
  · go_ret
    exact ⟨rfl, below_step hB6 hBb⟩
  · have hL7 : L.length ≤ 7 := by omega
    obtain ⟨i0, hi, hz0, hz1, hz2⟩ := info_parts infoB
    have ho7 := own_later ho6 hBb
    have hK7 := hK6.later hBb
    have hB7 := below_step hB6 hBb
    have hglt := (ho7.lt g rfl).2
    clear hbr2 hK6 ho6 hB6 hX6 a0 a1 p0 p1 hKa hoa hB4a hXa hBa hK4 ho4 hB4 hK2 ho hBW hBb
    generalize W6.alloc (.cells #[.int .i64 1, .int .i64 B] 24) = W7 at *
    have hLc : Hid (∀ X, Below W7.heap.size W7 X → ∀ i, i < L.length → X.cell? ⟨g, i * 2, none⟩ = some (.int .i64 (L.getD i (0, 0)).1) ∧ X.cell? ⟨g, i * 2 + 1, none⟩ = some (.int .i64 (L.getD i (0, 0)).2)) := fun X hb i hi => ⟨(hb.cell (p := ⟨g, i * 2, none⟩) hglt).trans (own_at ho7 hi).1, (hb.cell (p := ⟨g, i * 2 + 1, none⟩) hglt).trans (own_at ho7 hi).2⟩
    go_loopw [13, 14] (fun v vi wr => ∃ (i : Nat) (M1 : List (Int × Int)), vi = .int .i64 i ∧ i ≤ L.length ∧ M1.length ≤ 2 * i ∧ wr.ownsRow W7.heap.size 39 2 v M1.length (flat2 M1) ∧ Hid (M1 ++ M.cutL (1 + c) (L.drop i) = M.cutL (1 + c) L) ∧ Below W7.heap.size W7 wr) (fun _ vi _ => L.length - (intOf vi).toNat)
    case atStart => exact ⟨0, [], rfl, by omega, by simp, World.ownsRow_nil _ _ _ _, rfl, Below.refl _ _⟩
    case round =>
      obtain ⟨i, M1, rfl, hil, hM1, ho8, hcut, hB8⟩ := hrel
      have hsz := hB8.size
      by_cases hin : i < L.length
      · obtain ⟨⟨f, r⟩, hfe⟩ : ∃ x, L.getD i (0, 0) = x := ⟨_, rfl⟩
        obtain ⟨q0, q1⟩ := hLc.out wr hB8 i hin
        rw [hfe] at q0 q1
        dsimp only at q0 q1
        have hdr : Hid (L.drop i = (f, r) :: L.drop (i + 1)) := by
          have := M.drop_at hin
          rw [hfe] at this
          exact this
        replace hfe : Hid (L.getD i (0, 0) = (f, r)) := hfe
        have tok3 : True := trivial
        by_cases h1 : f < 1 + c
        · by_cases h2 : i + 1 = L.length
          · have hcc : (decide (f < 1 + c) && M.under (1 + c) (L.drop (i + 1))) = true := by
              rw [decide_eq_true h1, List.drop_of_length_le (by omega)]
              rfl
            have hcc2 : Hid (M.cutL (1 + c) (L.drop i) = (f, r) :: (1 + c, r) :: M.cutL (1 + c) (L.drop (i + 1))) := by
              unfold Hid
              rw [hdr.out, M.cutL, if_pos hcc]
            have h2' : (i : Int) + 1 = L.length := by omega
            clear hcc
            go_wp2_with (first | (at_builtin; have _u := tok3; clear tok3; refine wpList_append_own _ rfl _ _ 33 rfl W7.heap.size 39 i0 _ 2 16 Tryd.underlying33 hi hz0 hz1 hz2 rfl (by decide) _ _ _ rfl (ho8.alloc _) ⟨wr.heap.size, 0, none⟩ 1 1 [.int .i64 f, .int .i64 r] rfl rfl (cells2_at _ _ rfl _ _ _) (by simp [Value.oneCell']) (by unfold maxLen; omega) (by omega) (by simp; omega) ?_; intro v1 w1 ho9 hgr1 _; have hbg1 := (hB8.alloc hsz (.cells #[.int .i64 f, .int .i64 r] 39)).grown hgr1 (by simp; omega) (fun j hj => (ho8.lt j hj).1); have sz1 := hbg1.size; obtain ⟨q2, q3⟩ := hLc.out w1 hbg1 i hin; rw [hfe.out] at q2 q3) | (at_builtin; refine wpList_append_own _ rfl _ _ 33 rfl W7.heap.size 39 i0 _ 2 16 Tryd.underlying33 hi hz0 hz1 hz2 rfl (by decide) _ _ _ rfl (ho9.alloc _) ⟨w1.heap.size, 0, none⟩ 1 1 [.int .i64 (1 + c), .int .i64 r] rfl rfl (cells2_at _ _ rfl _ _ _) (by simp [Value.oneCell']) (by unfold maxLen; omega) (by omega) (by simp; omega) ?_; intro v2 w2 ho10 hgr2 _; have hbg2 := (hbg1.alloc sz1 (.cells #[.int .i64 (1 + c), .int .i64 r] 39)).grown hgr2 (by simp; omega) (fun j hj => (ho9.lt j hj).1)))
            go_roundw
            case rel =>
              refine ⟨i + 1, M1 ++ [(f, r)] ++ [(1 + c, r)], congrArg (Value.int .i64) (by omega), by omega, by simp; omega, ?_, ?_, hbg2⟩
              · rw [flat2_snoc, flat2_snoc, List.length_append, List.length_append]
                exact ho10
              · unfold Hid
                rw [← hcut.out, hcc2.out]
                simp
            case measure => simp [intOf]; omega
          · have hi1 : i + 1 < L.length := by omega
            obtain ⟨⟨f2, r2⟩, hne⟩ : ∃ x, L.getD (i + 1) (0, 0) = x := ⟨_, rfl⟩
            have hdr1 := M.drop_at hi1
            rw [hne] at hdr1
            have hund : M.under (1 + c) (L.drop (i + 1)) = decide (1 + c < f2) := by rw [hdr1]; rfl
            replace hne : Hid (L.getD (i + 1) (0, 0) = (f2, r2)) := hne
            have h2' : ¬ (i : Int) + 1 = L.length := by omega
            clear hdr1
            by_cases h3 : 1 + c < f2
            · have hcc2 : Hid (M.cutL (1 + c) (L.drop i) = (f, r) :: (1 + c, r) :: M.cutL (1 + c) (L.drop (i + 1))) := by
                unfold Hid
                rw [hdr.out, M.cutL, if_pos (by rw [hund]; simp [h1, h3])]
              clear hund
              go_wp2_with (first | (at_builtin; have _u := tok3; clear tok3; refine wpList_append_own _ rfl _ _ 33 rfl W7.heap.size 39 i0 _ 2 16 Tryd.underlying33 hi hz0 hz1 hz2 rfl (by decide) _ _ _ rfl (ho8.alloc _) ⟨wr.heap.size, 0, none⟩ 1 1 [.int .i64 f, .int .i64 r] rfl rfl (cells2_at _ _ rfl _ _ _) (by simp [Value.oneCell']) (by unfold maxLen; omega) (by omega) (by simp; omega) ?_; intro v1 w1 ho9 hgr1 _; have hbg1 := (hB8.alloc hsz (.cells #[.int .i64 f, .int .i64 r] 39)).grown hgr1 (by simp; omega) (fun j hj => (ho8.lt j hj).1); have sz1 := hbg1.size; obtain ⟨q2, q3⟩ := hLc.out w1 hbg1 i hin; rw [hfe.out] at q2 q3; obtain ⟨q4, -⟩ := hLc.out w1 hbg1 (i + 1) hi1; rw [hne.out] at q4) | (at_builtin; refine wpList_append_own _ rfl _ _ 33 rfl W7.heap.size 39 i0 _ 2 16 Tryd.underlying33 hi hz0 hz1 hz2 rfl (by decide) _ _ _ rfl (ho9.alloc _) ⟨w1.heap.size, 0, none⟩ 1 1 [.int .i64 (1 + c), .int .i64 r] rfl rfl (cells2_at _ _ rfl _ _ _) (by simp [Value.oneCell']) (by unfold maxLen; omega) (by omega) (by simp; omega) ?_; intro v2 w2 ho10 hgr2 _; have hbg2 := (hbg1.alloc sz1 (.cells #[.int .i64 (1 + c), .int .i64 r] 39)).grown hgr2 (by simp; omega) (fun j hj => (ho9.lt j hj).1)))
              go_roundw
              case rel =>
                refine ⟨i + 1, M1 ++ [(f, r)] ++ [(1 + c, r)], by go_num, by omega, by simp; omega, ?_, ?_, hbg2⟩
                · rw [flat2_snoc, flat2_snoc, List.length_append, List.length_append]
                  exact ho10
                · unfold Hid
                  rw [← hcut.out, hcc2.out]
                  simp
              case measure => simp [intOf]; omega
            · have hcc2 : Hid (M.cutL (1 + c) (L.drop i) = (f, r) :: M.cutL (1 + c) (L.drop (i + 1))) := by
                unfold Hid
                rw [hdr.out, M.cutL, if_neg (by rw [hund]; simp [h1, h3])]
              clear hund
              go_wp2_with (first | (at_builtin; have _u := tok3; clear tok3; refine wpList_append_own _ rfl _ _ 33 rfl W7.heap.size 39 i0 _ 2 16 Tryd.underlying33 hi hz0 hz1 hz2 rfl (by decide) _ _ _ rfl (ho8.alloc _) ⟨wr.heap.size, 0, none⟩ 1 1 [.int .i64 f, .int .i64 r] rfl rfl (cells2_at _ _ rfl _ _ _) (by simp [Value.oneCell']) (by unfold maxLen; omega) (by omega) (by simp; omega) ?_; intro v1 w1 ho9 hgr1 _; have hbg1 := (hB8.alloc hsz (.cells #[.int .i64 f, .int .i64 r] 39)).grown hgr1 (by simp; omega) (fun j hj => (ho8.lt j hj).1); have sz1 := hbg1.size; obtain ⟨q2, q3⟩ := hLc.out w1 hbg1 i hin; rw [hfe.out] at q2 q3; obtain ⟨q4, -⟩ := hLc.out w1 hbg1 (i + 1) hi1; rw [hne.out] at q4) | (at_builtin; refine wpList_append_own _ rfl _ _ 33 rfl W7.heap.size 39 i0 _ 2 16 Tryd.underlying33 hi hz0 hz1 hz2 rfl (by decide) _ _ _ rfl (ho9.alloc _) ⟨w1.heap.size, 0, none⟩ 1 1 [.int .i64 (1 + c), .int .i64 r] rfl rfl (cells2_at _ _ rfl _ _ _) (by simp [Value.oneCell']) (by unfold maxLen; omega) (by omega) (by simp; omega) ?_; intro v2 w2 ho10 hgr2 _; have hbg2 := (hbg1.alloc sz1 (.cells #[.int .i64 (1 + c), .int .i64 r] 39)).grown hgr2 (by simp; omega) (fun j hj => (ho9.lt j hj).1)))
              go_roundw
              case rel =>
                refine ⟨i + 1, M1 ++ [(f, r)], by go_num, by omega, by simp; omega, ?_, ?_, hbg1⟩
                · rw [flat2_snoc, List.length_append]
                  exact ho9
                · unfold Hid
                  rw [← hcut.out, hcc2.out]
                  simp
              case measure => simp [intOf]; omega
        · have hcc2 : Hid (M.cutL (1 + c) (L.drop i) = (f, r) :: M.cutL (1 + c) (L.drop (i + 1))) := by
            unfold Hid
            rw [hdr.out, M.cutL, if_neg (by simp [h1])]
          go_wp2_with (first | (at_builtin; have _u := tok3; clear tok3; refine wpList_append_own _ rfl _ _ 33 rfl W7.heap.size 39 i0 _ 2 16 Tryd.underlying33 hi hz0 hz1 hz2 rfl (by decide) _ _ _ rfl (ho8.alloc _) ⟨wr.heap.size, 0, none⟩ 1 1 [.int .i64 f, .int .i64 r] rfl rfl (cells2_at _ _ rfl _ _ _) (by simp [Value.oneCell']) (by unfold maxLen; omega) (by omega) (by simp; omega) ?_; intro v1 w1 ho9 hgr1 _; have hbg1 := (hB8.alloc hsz (.cells #[.int .i64 f, .int .i64 r] 39)).grown hgr1 (by simp; omega) (fun j hj => (ho8.lt j hj).1); have sz1 := hbg1.size; obtain ⟨q2, q3⟩ := hLc.out w1 hbg1 i hin; rw [hfe.out] at q2 q3) | (at_builtin; refine wpList_append_own _ rfl _ _ 33 rfl W7.heap.size 39 i0 _ 2 16 Tryd.underlying33 hi hz0 hz1 hz2 rfl (by decide) _ _ _ rfl (ho9.alloc _) ⟨w1.heap.size, 0, none⟩ 1 1 [.int .i64 (1 + c), .int .i64 r] rfl rfl (cells2_at _ _ rfl _ _ _) (by simp [Value.oneCell']) (by unfold maxLen; omega) (by omega) (by simp; omega) ?_; intro v2 w2 ho10 hgr2 _; have hbg2 := (hbg1.alloc sz1 (.cells #[.int .i64 (1 + c), .int .i64 r] 39)).grown hgr2 (by simp; omega) (fun j hj => (ho9.lt j hj).1)))
          go_roundw
          case rel =>
            refine ⟨i + 1, M1 ++ [(f, r)], by go_num, by omega, by simp; omega, ?_, ?_, hbg1⟩
            · rw [flat2_snoc, List.length_append]
              exact ho9
            · unfold Hid
              rw [← hcut.out, hcc2.out]
              simp
          case measure => simp [intOf]; omega
      · obtain rfl : i = L.length := by omega
        have hM : M1 = M.cutL (1 + c) L := by
          have := hcut.out
          rw [List.drop_of_length_le (by omega)] at this
          simpa [M.cutL] using this
        obtain ⟨cm1, cm2, cm3⟩ := M.cut_main (at' := 1 + c) (by omega) x hR
        rw [← hM] at cm1 cm2 cm3
        have hMA : M.areBands M1 = true := by
          obtain ⟨t', ht'⟩ : ∃ t', M1 = (0, 150000) :: t' := by
            rw [hM, hLe2.out]
            unfold M.cutL
            split <;> exact ⟨_, rfl⟩
          rw [ht'] at cm2 cm3 ⊢
          exact M.areBands_of cm2 (by simp at cm3; omega)
        have hMr : rnd x M1 = A := by rw [← hAd2.out]; unfold rnd; rw [cm1]
        have hMp : 0 < M1.length := by
          rw [hM, hLe2.out]
          unfold M.cutL
          split <;> simp
        clear hM hcut cm1
        obtain ⟨gm, capm, rfl⟩ := own_some ho8 hMp
        have hX8 := hX7.later hB8
        have hK8 := hK7.later hB8
        have hB9 := below_step hB7 hB8
        have hbr3 := fun X hKX hVX => bracket_val gm capm M1 x X hKX hVX hMA cm2 b2.1 (by omega)
        rw [hMr] at hbr3
        clear hMr hMA cm2 cm3 hbr
        have hmx2 : M1.length ≤ maxLen := by unfold maxLen; omega
        have hst : ∀ X w1, (fun X => X.cell? ⟨W4.heap.size, 0, none⟩ = some (.int .i64 1) ∧ X.cell? ⟨W4.heap.size, 1, none⟩ = some (.int .i64 A) ∧ Kinds X ∧ Below W.heap.size W X ∧ X.ownsRow W7.heap.size 39 2 (.slice (some ⟨gm, 0, none⟩) M1.length capm) M1.length (flat2 M1)) X → Below X.heap.size X w1 → (fun X => X.cell? ⟨W4.heap.size, 0, none⟩ = some (.int .i64 1) ∧ X.cell? ⟨W4.heap.size, 1, none⟩ = some (.int .i64 A) ∧ Kinds X ∧ Below W.heap.size W X ∧ X.ownsRow W7.heap.size 39 2 (.slice (some ⟨gm, 0, none⟩) M1.length capm) M1.length (flat2 M1)) w1 := fun X w1 ⟨h0, h1, h2, h3, h4⟩ hb => ⟨(hb.cell (p := ⟨W4.heap.size, 0, none⟩) (World.block_lt_of_cell? _ _ h0)).trans h0, (hb.cell (p := ⟨W4.heap.size, 1, none⟩) (World.block_lt_of_cell? _ _ h1)).trans h1, h2.later hb, below_step h3 hb, own_later h4 hb⟩
        have hS0 := hst wr wr.drew ⟨hX8.1, hX8.2.1, hK8, hB9, ho8⟩ (Below.refl _ _).drew
        dsimp only at hS0
        go_wp2
        go_region_held3 (fun X => X.cell? ⟨W4.heap.size, 0, none⟩ = some (.int .i64 1) ∧ X.cell? ⟨W4.heap.size, 1, none⟩ = some (.int .i64 A) ∧ Kinds X ∧ Below W.heap.size W X ∧ X.ownsRow W7.heap.size 39 2 (.slice (some ⟨gm, 0, none⟩) M1.length capm) M1.length (flat2 M1)) (with_reducible assumption)
          (first | (go_at_call 15; refine (heldS hst ?_ (fun _ => c_any x _)).mono ?_; with_reducible assumption; rintro e w1 ⟨rfl, hS1⟩) | (go_at_call 14; refine (heldS hst ?_ (fun h => hbr3 _ h.2.2.1 (vals_of_own h.2.2.2.2 hmx2))).mono ?_; with_reducible assumption; rintro e w2 ⟨rfl, hS2⟩))
        go_wp2
        go_ret
        exact ⟨rfl, hS2.2.2.2.1⟩

end Go.Proofs.YtoeabponjdkpjaaDoor

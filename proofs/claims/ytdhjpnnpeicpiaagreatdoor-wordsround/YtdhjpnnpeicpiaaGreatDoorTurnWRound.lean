import Derived.Test.YtdhjpnnpeicpiaaGreatDoorTurnWPrt
import Derived.Test.YtdhjpnnpeicpiaaGreatDoorJoin29
import Derived.Test.YtdhjpnnpeicpiaaGreatDoorTurnWKnown
import Derived.Test.YtdhjpnnpeicpiaaGreatDoorTurnWLaid7
namespace Go.Proofs.YtdhjpnnpeicpiaaGreatDoor.Q
open Go.RowKit Go.Shelf

/-- Scan, as this statement takes it. -/
theorem scan_row (s : ByteArray) (L : List Itm) (hL : foundL s.data.toList = L) (w : World) (hC : Cls w) (hE : ErrR w) (hM : Mon w) (hS : Sgn w) : Calls Tryz.prog 5 #[.string s] w fun e w' => Below w.heap.size w w' ∧ ((∃ (q n : Nat), n ≠ 0 ∧ (∃ x ∈ L, x.2.2 ≠ 0) ∧ e = .returned (.tuple #[.slice none 0 0, .int .i64 (q : Int), .int .i64 (n : Int)])) ∨ ((∀ x ∈ L, x.2.2 = 0) ∧ ∃ p c, e = .returned (.tuple #[.slice p L.length c, .int .i64 0, .int .i64 0]) ∧ TokRow w' (.slice p L.length c) L)) := by
  subst hL
  refine (scan_any s w hC hE hM hS).mono ?_
  rintro e w' ⟨hb, ⟨pre, x, hL, hx, rfl⟩ | ⟨hall, v, rfl, ho⟩⟩
  · exact ⟨hb, .inl ⟨_, _, hx, ⟨x, by rw [hL]; simp, hx⟩, rfl⟩⟩
  · have hrow := tokrow_of_own ho
    obtain ⟨p, c, rfl⟩ : ∃ p c, v = .slice p (foundL s.data.toList).length c := by
      obtain ⟨_, ⟨rfl, h0⟩ | ⟨g, cap, cur, rfl, _⟩⟩ := ho
      · rw [h0]; exact ⟨_, _, rfl⟩
      · exact ⟨_, _, rfl⟩
    exact ⟨hb, .inr ⟨hall, p, c, rfl, hrow⟩⟩

/-- What is scanned can be written, and how long that is. -/
theorem round_vl {l : List UInt8} (h : ∀ x ∈ foundL l, x.2.2 = 0) : l.length ≤ 8000 ∧ Vl (spl dtx) false ((foundL l).map (·.1)) ∧ (prt (spl dtx) true ((foundL l).map (·.1))).length ≤ 2 * l.length := by
  by_cases hl : 8000 < l.length
  · unfold foundL at h
    rw [if_pos hl] at h
    exact absurd (h ((0, [], 0, 0), 0, 40) (by simp)) (by decide)
  · unfold foundL at h ⊢
    rw [if_neg hl] at h ⊢
    have hn := nx_le (l := l) (a := 0) (Nat.zero_le _)
    obtain ⟨i1, i2⟩ := scan_vl (spl dtx) l (fun p w e hp _ hw => word_spl dtx dtx_back hp hw) (l.length + 1) (nx l 0) false (by omega) hn h
    refine ⟨by omega, i1, ?_⟩
    have i2' : (prt (spl dtx) true ((foundP l (l.length + 1) (nx l 0) false).map (·.1))).length ≤ 2 * (l.length - nx l 0) + 0 := i2
    omega
theorem round_back {ws : List Wd} {T : List UInt8} (hV : Vl (spl dtx) false ws) (hT : prt (spl dtx) true ws = T) (hl : T.length ≤ 8000) : (foundL T).map (·.1) = ws ∧ ∀ x ∈ foundL T, x.2.2 = 0 := by
  unfold foundL
  rw [if_neg (by omega)]
  have hn := nx_le (l := T) (a := 0) (Nat.zero_le _)
  exact prt_found (spl dtx) T ws (T.length + 1) 0 false hV (by omega) (Nat.zero_le _) (by rw [List.drop_zero]; exact hT.symm)
theorem bar_eq : ∀ (L M : List Itm), L.map (·.1) = M.map (·.1) → (∀ x ∈ L, x.2.2 = 0) → (∀ x ∈ M, x.2.2 = 0) → L.map bar = M.map bar
  | [], [], _, _, _ => rfl
  | [], _ :: _, h, _, _ => by cases h
  | _ :: _, [], h, _, _ => by cases h
  | x :: L, y :: M, h, hx, hy => by
    injection h with h1 h2
    rw [List.map_cons, List.map_cons, bar_eq L M h2 (fun z hz => hx z (List.mem_cons_of_mem _ hz)) (fun z hz => hy z (List.mem_cons_of_mem _ hz))]
    have e1 : bar x = bar y := by
      unfold bar
      rw [hx x (by simp), hy y (by simp)]
      simp only at h1
      rw [h1]
    rw [e1]

set_option maxRecDepth 8000 in
set_option maxHeartbeats 4000000 in
theorem round_walkQ (s : ByteArray) (w : World) (hT : Tabs w) : Calls Tryz.prog 3 #[.string s] w fun e w' => e = .returned (.bool true) ∧ Below w.heap.size w w' := by
  obtain ⟨hC, hE, hM, hS, hX⟩ := hT
  have hk := known_any w hC hE hM hS
  by_cases hlong : (65536 : Int) < (s.size : Int)
  · go_enter Tryz.func3, Tryz.ntmps3
    go_wp2_with (first | (go_at_call 4; refine hk.mono ?_; rintro e w1 ⟨rfl, hb1⟩))
    go_ret
    exact ⟨rfl, hb1⟩
  · obtain ⟨L, hL⟩ : ∃ L, foundL s.data.toList = L := ⟨_, rfl⟩
    have hLn := foundL_len s.data.toList
    rw [hL] at hLn
    have hrv : (∀ x ∈ L, x.2.2 = 0) → s.size ≤ 8000 ∧ Vl (spl dtx) false (L.map (·.1)) ∧ (prt (spl dtx) true (L.map (·.1))).length ≤ 2 * s.size := fun h => by
      have := round_vl (l := s.data.toList) (by rw [hL]; exact h)
      rw [hL, size_list] at this
      exact this
    have hsc := fun (b : ByteArray) (M : List Itm) (h : foundL b.data.toList = M) W (hb : Below w.heap.size w W) => scan_row b M h W (hC.later hb) (hE.later hb) (hM.later hb) (hS.later hb)
    have hpr := fun (v : Value) (M : List Itm) (h1 : M.length ≤ 1000000) (h2 : Vl (spl dtx) false (M.map (·.1))) W (hb : Below w.heap.size w W) (hv : TokRow W v M) => print_any v M h1 h2 W hv (hC.later hb) (hE.later hb) (hM.later hb) (hS.later hb) (hX.later hb)
    clear hC hE hM hS hX
    have hs1 := hsc s L hL
    clear hL
    by_cases hall : ∀ x ∈ L, x.2.2 = 0
    · obtain ⟨h8, hV, hTl⟩ := hrv hall
      have hp1 := fun v => hpr v L (by omega) hV
      obtain ⟨T, hT⟩ : ∃ T, prt (spl dtx) true (L.map (·.1)) = T := ⟨_, rfl⟩
      rw [hT] at hp1 hTl
      have hno : ¬ ∃ x ∈ L, x.2.2 ≠ 0 := fun ⟨x, hx, hx2⟩ => hx2 (hall x hx)
      by_cases hTs : T.length ≤ 8000
      · obtain ⟨M, hM⟩ : ∃ M, foundL (ByteArray.mk T.toArray).data.toList = M := ⟨_, rfl⟩
        have hM' : foundL T = M := hM
        obtain ⟨hmap, hall2⟩ := round_back hV hT hTs
        have hMn := foundL_len T
        rw [hM'] at hmap hall2 hMn
        have hs2 := hsc _ M hM
        have hp2 := fun v => hpr v M (by omega) (by rw [hmap]; exact hV)
        rw [hmap, hT] at hp2
        have hbar := bar_eq L M hmap.symm hall hall2
        have hno2 : ¬ ∃ x ∈ M, x.2.2 ≠ 0 := fun ⟨x, hx, hx2⟩ => hx2 (hall2 x hx)
        have hpv : prV T = .tuple #[.string ⟨T.toArray⟩, .int .i64 0] := by unfold prV; rw [if_pos hTs]
        rw [hpv] at hp1 hp2
        have hbl : (L.map bar).length ≤ 1000000000 := by rw [List.length_map]; omega
        have hb1' := fun v W h => bare_any v L (by omega) W h
        have hb2' := fun v W h => bare_any v M (by omega) W h
        rw [← hbar] at hb2'
        obtain ⟨BL, hBL⟩ : ∃ BL, L.map bar = BL := ⟨_, rfl⟩
        rw [hBL] at hb1' hb2' hbl
        clear hpv hbar hBL hmap hM hM' hall hall2 hpr hsc hrv hV hT hTl hTs
        have tok1 : True := trivial
        have tok2 : True := trivial
        have tok3 : True := trivial
        go_enter Tryz.func3, Tryz.ntmps3
        go_wp2_with (first
          | (go_at_call 4; refine hk.mono ?_; rintro e w1 ⟨rfl, hb1⟩; have h1 := hs1 w1 hb1)
          | (go_at_call 5; have _u := tok1; clear tok1; refine h1.mono ?_; rintro e w2 ⟨hb2, ⟨q1, n1, -, hbad, rfl⟩ | ⟨-, p2, c2, rfl, hr2⟩⟩; (exact absurd hbad hno); have hB2 := below_step hb1 hb2; have h2 := hp1 _ w2 hB2 hr2)
          | (go_at_call 6; refine (num_any _ _).mono ?_; rintro e w9 ⟨rfl, hw9⟩; subst w9)
          | (go_at_call 7; have _u := tok2; clear tok2; refine h2.mono ?_; rintro e w3 ⟨rfl, hb3⟩; have hB3 := below_step hB2 hb3; have hr3 := hr2.later hb3; have h3 := hs2 w3 hB3)
          | (go_at_call 5; refine h3.mono ?_; rintro e w4 ⟨hb4, ⟨q1, n1, -, hbad, rfl⟩ | ⟨-, p4, c4, rfl, hm4⟩⟩; (exact absurd hbad hno2); have hB4 := below_step hB3 hb4; have hr4 := hr3.later hb4; have h4 := hp2 _ w4 hB4 hm4)
          | (go_at_call 7; refine h4.mono ?_; rintro e w5 ⟨rfl, hb5⟩; have hB5 := below_step hB4 hb5; have hr5 := hr4.later hb5; have hm5 := hm4.later hb5; have h5 := hb1' _ w5 hr5)
          | (go_at_call 9; have _u := tok3; clear tok3; refine h5.mono ?_; rintro e w6 ⟨hb6, v6, rfl, hv6⟩; have hB6 := below_step hB5 hb6; have hm6 := hm5.later hb6; have h6 := hb2' _ w6 hm6)
          | (go_at_call 9; refine h6.mono ?_; rintro e w7 ⟨hb7, v7, rfl, hv7⟩; have hB7 := below_step hB6 hb7; have hv6' := hv6.later hb7; have h7 := same_toks v6 v7 BL hbl w7 hv6' hv7)
          | (go_at_call 8; refine h7.mono ?_; rintro e w8 ⟨rfl, hb8⟩; have hB8 := below_step hB7 hb8))
        go_ret
        exact ⟨rfl, hB8⟩
      · have hpv : prV T = .tuple #[.string ⟨#[]⟩, .int .i64 45] := by unfold prV; rw [if_neg hTs]
        rw [hpv] at hp1
        have h2000 : (2000 : Int) < (s.size : Int) := by omega
        clear hpv hpr hsc hrv hV hT hTl hTs hall
        go_enter Tryz.func3, Tryz.ntmps3
        go_wp2_with (first
          | (go_at_call 4; refine hk.mono ?_; rintro e w1 ⟨rfl, hb1⟩; have h1 := hs1 w1 hb1)
          | (go_at_call 5; refine h1.mono ?_; rintro e w2 ⟨hb2, ⟨q1, n1, -, hbad, rfl⟩ | ⟨-, p2, c2, rfl, hr2⟩⟩; (exact absurd hbad hno); have hB2 := below_step hb1 hb2; have h2 := hp1 _ w2 hB2 hr2)
          | (go_at_call 6; refine (num_any _ _).mono ?_; rintro e w9 ⟨rfl, hw9⟩; subst w9)
          | (go_at_call 7; refine h2.mono ?_; rintro e w3 ⟨rfl, hb3⟩; have hB3 := below_step hB2 hb3))
        go_ret
        exact ⟨rfl, hB3⟩
    · clear hrv hpr hsc
      go_enter Tryz.func3, Tryz.ntmps3
      go_wp2_with (first
        | (go_at_call 4; refine hk.mono ?_; rintro e w1 ⟨rfl, hb1⟩; have h1 := hs1 w1 hb1)
        | (go_at_call 5; refine h1.mono ?_; rintro e w2 ⟨hb2, ⟨q1, n1, hn1, -, rfl⟩ | ⟨hok, -⟩⟩; rotate_left; (exact absurd hok hall); have hB2 := below_step hb1 hb2; have hne1 : ((n1 : Int) != 0) = true := (by simp; omega))
        | (go_at_call 6; refine (num_any _ _).mono ?_; rintro e w9 ⟨rfl, hw9⟩; subst w9))
      go_ret
      exact ⟨rfl, hB2⟩

end Go.Proofs.YtdhjpnnpeicpiaaGreatDoor.Q
namespace Go.Proofs.YtdhjpnnpeicpiaaGreatDoor
open Go.RowKit
theorem wround_walk (s : ByteArray) (w : World) (hT : Tabs w) : Calls Tryz.prog 3 #[.string s] w fun e w' => e = .returned (.bool true) ∧ Below w.heap.size w w' := Q.round_walkQ s w hT
end Go.Proofs.YtdhjpnnpeicpiaaGreatDoor

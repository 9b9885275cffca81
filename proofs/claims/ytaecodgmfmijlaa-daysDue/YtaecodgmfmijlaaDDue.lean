import Derived.Test.YtaecodgmfmijlaaDWeek
import Derived.Maps.OwnSet
import Derived.Maps.AppendAt
import Derived.WalkKit
namespace Go.Proofs.Ytaecodgmfmijlaa
open Go.RowKit Go.Maps

/-- A list of numbers in memory. -/
def Nums (w : World) (a : Option Addr) (zs : List Int) : Prop := (zs.length * 8 ≤ 140737488351232 ∧ ∀ n ∈ zs, (Lit.int .i64 n).wf = true) ∧ (zs = [] ∨ ∃ b off, a = some ⟨b, off, none⟩ ∧ b < w.heap.size ∧ ∀ i, i < zs.length → w.cell? ⟨b, off + i, none⟩ = some (.int .i64 (zs.getD i 0)))

theorem Nums.later {w w' : World} {a : Option Addr} {zs : List Int} (h : Nums w a zs) (hb : Below w.heap.size w w') : Nums w' a zs := by
  obtain ⟨h0, h | ⟨b, off, rfl, hlt, hc⟩⟩ := h
  · exact ⟨h0, .inl h⟩
  · exact ⟨h0, .inr ⟨b, off, rfl, Nat.lt_of_lt_of_le hlt hb.size, fun i hi => (hb.cell (p := ⟨b, off + i, none⟩) hlt).trans (hc i hi)⟩⟩

theorem intKeyed : Keyed Try.prog 3 := int_keyed Try.underlying3
theorem zeroUnit (w : World) : (zeroValue 58).run Try.prog w = .ok (.agg #[]) w := by kernel_rfl

/-- What the set holds: the numbers of the list from n on within the calendar. -/
def SetIs (n : Int) (l : List Int) (D : DataW Unit) : Prop := IsMap D ∧ ∀ d : Int, Maps.has D (.int .i64 d) = decide (n ≤ d ∧ d ≤ 109572 ∧ d ∈ l)

theorem SetIs.nil (n : Int) : SetIs n [] (.map []) := ⟨isMap_empty, fun d => by simp [Maps.has]⟩
theorem SetIs.skip {n x : Int} {l : List Int} {D : DataW Unit} (h : SetIs n l D) (hx : ¬ (n ≤ x ∧ x ≤ 109572)) : SetIs n (l ++ [x]) D := by
  refine ⟨h.1, fun d => ?_⟩
  rw [h.2 d]
  apply decide_eq_decide.2
  simp only [List.mem_append, List.mem_singleton]
  constructor
  · rintro ⟨a, b, c⟩
    exact ⟨a, b, .inl c⟩
  · rintro ⟨a, b, c | rfl⟩
    · exact ⟨a, b, c⟩
    · exact absurd ⟨a, b⟩ hx
theorem SetIs.add {n x : Int} {l : List Int} {D : DataW Unit} (h : SetIs n l D) (hx : n ≤ x ∧ x ≤ 109572) (u : DataW Unit) : SetIs n (l ++ [x]) (D.put (.int .i64 x) u) := by
  refine ⟨h.1.put _ _, fun d => ?_⟩
  by_cases e : d = x
  · subst e
    rw [has_put_same h.1 (by trivial)]
    simp [hx.1, hx.2]
  · rw [has_put_other (by intro he; injection he; contradiction), h.2 d]
    simp [e]

set_option maxHeartbeats 1000000 in
set_option maxRecDepth 100000 in
theorem daysFrom_none (n : Int) (a : Option Addr) (cap : Nat) (w : World) : Calls Try.prog 9 #[.int .i64 n, .slice a 0 cap] w fun e w' => ∃ b k D, e = .returned (.map (some b)) ∧ w.heap.size ≤ b ∧ SetIs n [] D ∧ w'.ownsMap Try.prog 3 unitElem b k D ∧ Below w.heap.size w w' := by
  have hmm := @run_makeMap Try.prog
  go_enter Try.func9, Try.ntmps9
  go_wp2
  refine wp_loop_rounds 1 ?_
  rw [rounds_succ]
  go_wp2
  go_ret
  exact ⟨_, 0, .map [], rfl, Nat.le_refl _, SetIs.nil n, World.ownsMap_made _ _ _ _, (Below.refl _ _).alloc (Nat.le_refl _) _⟩

set_option maxHeartbeats 2000000 in
set_option maxRecDepth 100000 in
theorem daysFrom_some (n : Int) (b off cap : Nat) (zs : List Int) (w : World) (hreach : zs.length * 8 ≤ 140737488351232) (hb : b < w.heap.size)
    (hc : ∀ i, i < zs.length → w.cell? ⟨b, off + i, none⟩ = some (.int .i64 (zs.getD i 0))) (hwf : ∀ n ∈ zs, (Lit.int .i64 n).wf = true) :
    Calls Try.prog 9 #[.int .i64 n, .slice (some ⟨b, off, none⟩) zs.length cap] w fun e w' => ∃ b k D, e = .returned (.map (some b)) ∧ w.heap.size ≤ b ∧ SetIs n zs D ∧ w'.ownsMap Try.prog 3 unitElem b k D ∧ Below w.heap.size w w' := by
  have hmm := @run_makeMap Try.prog
  go_enter Try.func9, Try.ntmps9
  go_wp2
  go_loopw [11] (fun i wr => ∃ k : Nat, ∃ D, k ≤ zs.length ∧ i = .int .i64 k ∧ SetIs n (zs.take k) D ∧ wr.ownsMap Try.prog 3 unitElem w.heap.size k D ∧ Below w.heap.size w wr ∧ w.heap.size + 1 ≤ wr.heap.size)
    (fun i _ => zs.length - (intOf i).toNat)
  case atStart => exact ⟨0, _, Nat.zero_le _, rfl, SetIs.nil n, World.ownsMap_made _ _ _ _, (Below.refl _ _).alloc (Nat.le_refl _) _, by simp⟩
  case round =>
    obtain ⟨k, D, hk, rfl, hD, hown, hnx, hws⟩ := hrel
    by_cases hlt : k < zs.length
    · obtain ⟨x, hx⟩ : ∃ x, zs.getD k 0 = x := ⟨_, rfl⟩
      have hxm : x ∈ zs := by rw [← hx]; simp [List.getD, hlt]
      have hcx : wr.cell? ⟨b, off + k, none⟩ = some (.int .i64 x) := (hnx.cell (by exact hb)).trans ((hc k hlt).trans (by rw [hx]))
      have hkey : keyOf Try.prog 3 (.int .i64 x) = some (.int .i64 x) := keyOf_int_mk Try.underlying3 (hwf x hxm)
      have htk : zs.take (k + 1) = zs.take k ++ [x] := by rw [List.take_add_one, ← hx]; simp [List.getD, hlt]
      by_cases hin : n ≤ x ∧ x ≤ 109572
      · obtain ⟨c1, c2⟩ := hin
        go_wp2_with (at_mapUpdate; refine wpList_mapUpdate_own _ rfl _ _ _ 56 rfl 3 58 intKeyed Try.underlying56 (unitElem (H := Unit)) w.heap.size k _ rfl hown (by unfold maxLen; omega) _ _ _ rfl rfl hkey _ [] unitElem_mk ?_; intro w1 hown1 hgrow1)
        go_roundw
        case rel => exact ⟨k + 1, _, hlt, by go_num, by rw [htk]; exact hD.add ⟨c1, c2⟩ _, hown1, hnx.grown hgrow1 (by omega) (fun j hj => by cases hj; exact Nat.le_refl _), Nat.le_trans hws hgrow1.size⟩
        case measure => simp [intOf]; omega
      · have hsk := hD.skip hin
        rw [← htk] at hsk
        go_wp2
        all_goals first
          | (exfalso; omega)
          | (go_roundw
             case rel => exact ⟨k + 1, D, hlt, by go_num, hsk, hown.mono (Nat.le_succ _), hnx, hws⟩
             case measure => simp [intOf]; omega)
    · obtain rfl : k = zs.length := by omega
      rw [List.take_length] at hD
      go_wp2
      go_ret
      exact ⟨_, _, D, rfl, Nat.le_refl _, hD, hown, hnx⟩

theorem wf_small (d : Int) (h0 : 0 ≤ d) (h1 : d ≤ 109573) : (Lit.int .i64 d).wf = true := by simp [Lit.wf, IntKind.min, IntKind.max, IntKind.signed, IntKind.bits]; omega

theorem daysFrom_any (n : Int) (a : Option Addr) (cap : Nat) (zs : List Int) (w : World) (hN : Nums w a zs) :
    Calls Try.prog 9 #[.int .i64 n, .slice a zs.length cap] w fun e w' => ∃ b k D, e = .returned (.map (some b)) ∧ w.heap.size ≤ b ∧ SetIs n zs D ∧ w'.ownsMap Try.prog 3 unitElem b k D ∧ Below w.heap.size w w' := by
  obtain ⟨⟨h0, hwf⟩, rfl | ⟨b, off, rfl, hlt, hc⟩⟩ := hN
  · exact daysFrom_none n a cap w
  · exact daysFrom_some n b off cap zs w h0 hlt hc hwf

/-- No working day. -/
abbrev Busy (zs : List Int) (k : Int) : Prop := k ∈ zs ∨ 5 ≤ k % 7
/-- P2.8 -/
inductive DueIs (n : Int) (zs : List Int) : Int → Int → Prop
  | no (h : ¬ (0 ≤ n ∧ n ≤ 109572)) : DueIs n zs 0 21
  | yes (h : 0 ≤ n ∧ n ≤ 109572) (d : Int) (h1 : n ≤ d) (h2 : d ≤ 109572) (h3 : ¬ Busy zs d) (h4 : ∀ k, n ≤ k → k < d → Busy zs k) : DueIs n zs d 0
  | none (h : 0 ≤ n ∧ n ≤ 109572) (h4 : ∀ k, n ≤ k → k ≤ 109572 → Busy zs k) : DueIs n zs 0 21

theorem DueIs.yes_eq {n d r e : Int} {zs : List Int} (h : DueIs n zs r e) (h0 : 0 ≤ n ∧ n ≤ 109572) (h1 : n ≤ d) (h2 : d ≤ 109572) (h3 : ¬ Busy zs d) (h4 : ∀ k, n ≤ k → k < d → Busy zs k) : r = d ∧ e = 0 := by
  cases h with
  | no h => exact absurd h0 h
  | yes _ d' g1 g2 g3 g4 =>
    rcases Int.lt_trichotomy r d with h | h | h
    · exact absurd (h4 r g1 h) g3
    · exact ⟨h, rfl⟩
    · exact absurd (g4 d h1 h) h3
  | none _ g4 => exact absurd (g4 d h1 h2) h3
theorem DueIs.none_eq {n r e : Int} {zs : List Int} (h : DueIs n zs r e) (_h0 : 0 ≤ n ∧ n ≤ 109572) (h4 : ∀ k, n ≤ k → k ≤ 109572 → Busy zs k) : r = 0 ∧ e = 21 := by
  cases h with
  | no h => exact ⟨rfl, rfl⟩
  | yes _ d' g1 g2 g3 g4 => exact absurd (h4 r g1 g2) g3
  | none _ g4 => exact ⟨rfl, rfl⟩

theorem due_from (zs : List Int) (n : Int) (h : 0 ≤ n ∧ n ≤ 109572) : ∀ (m : Nat) (d : Int), d + m = 109573 → n ≤ d → (∀ k, n ≤ k → k < d → Busy zs k) → ∃ r e, DueIs n zs r e
  | 0, d, hd, h1, h4 => ⟨0, 21, .none h fun k g1 g2 => h4 k g1 (by omega)⟩
  | m + 1, d, hd, h1, h4 => by
    by_cases c : Busy zs d
    · refine due_from zs n h m (d + 1) (by omega) (by omega) fun k g1 g2 => ?_
      by_cases e : k = d
      · exact e ▸ c
      · exact h4 k g1 (by omega)
    · exact ⟨d, 0, .yes h d h1 (by omega) c h4⟩
theorem due_ex (n : Int) (zs : List Int) : ∃ r e, DueIs n zs r e := by
  by_cases h : 0 ≤ n ∧ n ≤ 109572
  · exact due_from zs n h (109573 - n).toNat n (by omega) (by omega) (fun k g1 g2 => absurd g1 (by omega))
  · exact ⟨0, 21, .no h⟩

theorem has_no {n d : Int} {zs : List Int} {D : DataW Unit} (h : SetIs n zs D) (h1 : n ≤ d) (h2 : d ≤ 109572) : Maps.has D (.int .i64 d) = decide (d ∈ zs) := by
  rw [h.2 d]
  simp [h1, h2]

set_option maxHeartbeats 2000000 in
set_option maxRecDepth 100000 in
theorem due_any (n : Int) (a : Option Addr) (cap : Nat) (zs : List Int) (r e : Int) (h : Hid (DueIs n zs r e)) (w : World) (hN : Nums w a zs) :
    Calls Try.prog 5 #[.int .i64 n, .slice a zs.length cap] w fun en w' => en = .returned (.tuple #[.int .i64 r, .int .i64 e]) ∧ Below w.heap.size w w' := by
  by_cases hd : 0 ≤ n ∧ n ≤ 109572
  · have hI := isDay_yes n hd.1 hd.2 w
    obtain ⟨n0, n1⟩ := hd
    go_enter Try.func5, Try.ntmps5
    go_wp2_with (first | (go_at_call 8; refine hI.mono ?_; clear hI; rintro _ w ⟨rfl, rfl⟩) | (go_at_call 9; refine (daysFrom_any n a cap zs _ hN).mono ?_; rintro _ w1 ⟨b, m, D, rfl, hbw, hD, hown, hb1⟩))
    go_loopw [7] (fun v wr => ∃ d : Int, v = .int .i64 d ∧ n ≤ d ∧ d ≤ 109573 ∧ (∀ k, n ≤ k → k < d → Busy zs k) ∧ wr.ownsMap Try.prog 3 unitElem b m D ∧ Below w.heap.size w wr)
      (fun v _ => (109573 - intOf v).toNat)
    case atStart => exact ⟨n, rfl, by omega, by omega, fun k g1 g2 => absurd g1 (by omega), hown, hb1⟩
    case round =>
      clear hown hb1
      obtain ⟨d, rfl, d0, d1, hbusy, hown, hb⟩ := hrel
      by_cases c : d ≤ 109572
      · have hkey : keyOf Try.prog 3 (.int .i64 d) = some (.int .i64 d) := keyOf_int_mk Try.underlying3 (wf_small d (by omega) (by omega))
        have hwd := fun W => weekdayOf_any d (by omega) W
        have hhas := has_no hD d0 c
        have hnext : Busy zs d → ∀ k, n ≤ k → k < d + 1 → Busy zs k := fun hB k g1 g2 => by
          by_cases e : k = d
          · exact e ▸ hB
          · exact hbusy k g1 (by omega)
        by_cases hm : d ∈ zs
        · rw [decide_eq_true hm] at hhas
          go_wp2_with (first | (at_lookup; refine wpList_lookup_own_unit _ rfl _ _ 56 rfl 3 58 intKeyed Try.underlying56 (zeroUnit _) b m D rfl hown _ _ rfl hkey ?_; rw [hhas]))
          go_roundw
          case rel => exact ⟨d + 1, by go_num, by omega, by omega, hnext (.inl hm), hown.alloc _, hb.alloc hb.size _⟩
          case measure => simp [intOf]; omega
        · rw [decide_eq_false hm] at hhas
          by_cases hw : d % 7 < 5
          · obtain ⟨rfl, rfl⟩ := h.out.yes_eq ⟨n0, n1⟩ d0 c (fun hB => hB.elim hm (by omega)) hbusy
            have hw2 : r % 7 + 1 < 6 := by omega
            clear hnext hbusy hm h
            go_wp2_with (first | (at_lookup; refine wpList_lookup_own_unit _ rfl _ _ 56 rfl 3 58 intKeyed Try.underlying56 (zeroUnit _) b m D rfl hown _ _ rfl hkey ?_; rw [hhas]) | (go_at_call 10; refine (hwd _).mono ?_; rintro _ w2 ⟨rfl, rfl⟩))
            exact bodyPost_ret (v := .tuple #[.int .i64 r, .int .i64 0]) (by simp [results, Try.results5, go_sem]) rfl ⟨rfl, hb.alloc hb.size _⟩
          · have hw2 : ¬ d % 7 + 1 < 6 := by omega
            have hnx := hnext (.inr (by omega))
            clear hnext hbusy hm
            go_wp2_with (first | (at_lookup; refine wpList_lookup_own_unit _ rfl _ _ 56 rfl 3 58 intKeyed Try.underlying56 (zeroUnit _) b m D rfl hown _ _ rfl hkey ?_; rw [hhas]) | (go_at_call 10; refine (hwd _).mono ?_; rintro _ w2 ⟨rfl, rfl⟩))
            go_roundw
            case rel => exact ⟨d + 1, by go_num, by omega, by omega, hnx, hown.alloc _, hb.alloc hb.size _⟩
            case measure => simp [intOf]; omega
      · obtain ⟨rfl, rfl⟩ := h.out.none_eq ⟨n0, n1⟩ (fun k g1 g2 => hbusy k g1 (by omega))
        clear h hbusy
        go_wp2
        exact bodyPost_ret (v := .tuple #[.int .i64 0, .int .i64 21]) (by simp [results, Try.results5, go_sem]) rfl ⟨rfl, hb⟩
  · have hI := isDay_no n hd w
    obtain ⟨rfl, rfl⟩ : r = 0 ∧ e = 21 := by
      cases h.out with
      | no _ => exact ⟨rfl, rfl⟩
      | yes hx => exact absurd hx hd
      | none => exact ⟨rfl, rfl⟩
    clear h hd hN
    go_enter Try.func5, Try.ntmps5
    go_wp2_with (go_at_call 8; refine hI.mono ?_; clear hI; rintro _ w ⟨rfl, rfl⟩)
    exact bodyPost_ret (v := .tuple #[.int .i64 0, .int .i64 21]) (by simp [results, Try.results5, go_sem]) rfl ⟨rfl, Below.refl _ _⟩

end Go.Proofs.Ytaecodgmfmijlaa

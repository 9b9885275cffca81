import Derived.Test.YtnmcniibcjjflaaDoorJoin11
import Derived.Test.YtnmcniibcjjflaaDoorTurnRoundF
import Derived.Test.YtnmcniibcjjflaaDoorJoin24
namespace Go.Proofs.YtnmcniibcjjflaaDoor
open Go.RowKit

set_option maxHeartbeats 2000000 in
theorem areBands_loop (a : Option Addr) (cap : Nat) (bs : List (Int × Int)) (w : World) (hV : Vals w a bs) (h1 : 1 ≤ bs.length) (h8 : bs.length ≤ 8) (b : Bool) (hb0 : Hid (b = M.areB 0 0 bs)) :
    Calls Tryd.prog 59 #[.slice a bs.length cap] w fun e w' => e = .returned (.bool b) ∧ Below w.heap.size w w' := by
  have g1 : ¬ (bs.length : Int) < 1 := by omega
  have g2 : ¬ (8 : Int) < bs.length := by omega
  have g1' : decide ((bs.length : Int) < 1) = false := by simpa using g1
  go_enter Tryd.func59, Tryd.ntmps59
  go_wp2
  go_loopw [3, 4, 17] (fun l m i wr => ∃ (j : Nat) (lo hi : Int), j ≤ bs.length ∧ 0 ≤ lo ∧ hi ≤ 9999999999999 ∧ i = .int .i64 j ∧ l = .int .i64 lo ∧ m = .int .i64 hi ∧ Hid (M.areB 0 0 bs = M.areB lo hi (bs.drop j)) ∧ Below w.heap.size w wr) (fun _ _ i _ => bs.length - (intOf i).toNat)
  case atStart => exact ⟨0, 0, 0, Nat.zero_le _, by omega, by omega, rfl, rfl, rfl, rfl, Below.refl _ _⟩
  case round =>
    obtain ⟨j, lo, hi, hj, hlo, hhi, rfl, rfl, rfl, hm, hb⟩ := hrel
    have hVr := hV.later hb
    by_cases hlt : j < bs.length
    · obtain ⟨-, h | ⟨g, off, rfl, hbw, hcs⟩⟩ := hVr
      · subst h; simp at hlt
      obtain ⟨hc0, hc1⟩ := hcs j hlt
      have hdr := M.drop_at hlt
      generalize (bs.getD j (0, 0)).1 = f at *
      generalize (bs.getD j (0, 0)).2 = r at *
      have HM : Hid (M.areB 0 0 bs = M.areB lo hi ((f, r) :: bs.drop (j + 1))) := by unfold Hid; rw [hm.out, hdr]
      have hlt' : (j : Int) < bs.length := by omega
      clear hcs hm hdr
      have tok1 : True := trivial
      by_cases c1 : lo ≤ f ∧ f ≤ hi
      · have hnu : decide (lo ≤ f ∧ f ≤ hi) = true := decide_eq_true c1
        by_cases c2 : 0 ≤ r ∧ r ≤ 1000000
        · have hde : decide (0 ≤ r ∧ r ≤ 1000000) = true := decide_eq_true c2
          have HN : Hid (M.areB 0 0 bs = M.areB (f + 1) 9999999999999 (bs.drop (j + 1))) := by unfold Hid; rw [HM.out, M.areB_cons_ok c1 c2]
          have c3 : 0 ≤ f := by omega
          have c4 : f ≤ 9999999999999 := by omega
          clear c1 c2
          go_wp2_with (first | (go_at_call 35; have _u := tok1; clear tok1; refine (within_v f lo hi _ true hnu).mono ?_; rintro e w' ⟨rfl, rfl⟩) | (go_at_call 35; refine (within_v r 0 1000000 _ true hde).mono ?_; rintro e w' ⟨rfl, rfl⟩))
          go_roundw
          case rel => exact ⟨j + 1, f + 1, 9999999999999, by omega, by omega, by omega, by go_num, rfl, rfl, HN, hb.alloc hb.size _⟩
          case measure => simp [intOf]; omega
        · have hde : decide (0 ≤ r ∧ r ≤ 1000000) = false := decide_eq_false c2
          have HN : Hid (b = false) := by unfold Hid; rw [hb0.out, HM.out, M.areB_cons_rate c2]
          clear c1 c2
          go_wp2_with (first | (go_at_call 35; have _u := tok1; clear tok1; refine (within_v f lo hi _ true hnu).mono ?_; rintro e w' ⟨rfl, rfl⟩) | (go_at_call 35; refine (within_v r 0 1000000 _ false hde).mono ?_; rintro e w' ⟨rfl, rfl⟩))
          go_ret
          exact ⟨ret_bool HN.out.symm, hb.alloc hb.size _⟩
      · have hnu : decide (lo ≤ f ∧ f ≤ hi) = false := decide_eq_false c1
        have HN : Hid (b = false) := by unfold Hid; rw [hb0.out, HM.out, M.areB_cons_no c1]
        clear c1
        go_wp2_with (go_at_call 35; refine (within_v f lo hi _ false hnu).mono ?_; rintro e w' ⟨rfl, rfl⟩)
        go_ret
        exact ⟨ret_bool HN.out.symm, hb.alloc hb.size _⟩
    · have HN : Hid (b = true) := by
        have e : j = bs.length := by omega
        unfold Hid
        rw [hb0.out, hm.out, e, List.drop_length]
        rfl
      clear hm hVr
      go_wp2
      go_ret
      exact ⟨ret_bool HN.out.symm, hb⟩

theorem areBands_any (a : Option Addr) (cap : Nat) (bs : List (Int × Int)) (w : World) (hV : Vals w a bs) (b : Bool) (hb : Hid (b = M.areBands bs)) :
    Calls Tryd.prog 59 #[.slice a bs.length cap] w fun e w' => e = .returned (.bool b) ∧ Below w.heap.size w w' := by
  by_cases h1 : 1 ≤ bs.length
  · by_cases h8 : bs.length ≤ 8
    · exact areBands_loop a cap bs w hV h1 h8 b (by unfold Hid; rw [hb.out]; unfold M.areBands; rw [decide_eq_true ⟨h1, h8⟩]; rfl)
    · have e : b = false := by rw [hb.out]; unfold M.areBands; rw [decide_eq_false (by omega)]; rfl
      rw [e]
      have g1 : decide ((bs.length : Int) < 1) = false := by simp; omega
      have g2 : (8 : Int) < bs.length := by omega
      go_enter Tryd.func59, Tryd.ntmps59
      go_wp2
      go_ret
      exact ⟨rfl, Below.refl _ _⟩
  · have e : b = false := by rw [hb.out]; unfold M.areBands; rw [decide_eq_false (by omega)]; rfl
    rw [e]
    have g1 : (bs.length : Int) < 1 := by omega
    go_enter Tryd.func59, Tryd.ntmps59
    go_wp2
    go_ret
    exact ⟨rfl, Below.refl _ _⟩

end Go.Proofs.YtnmcniibcjjflaaDoor

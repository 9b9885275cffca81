import Derived.Test.YtnmcniibcjjflaaDoorJoin7
import Derived.Test.YtnmcniibcjjflaaDoorJoin6
import Derived.Deep.QuietTactic
import Derived.BigQuiet
namespace Go.Proofs.YtnmcniibcjjflaaDoor
open Go.RowKit

namespace M
/-- P1.12: the sum of a list and how much of it is taken, from s and j on. -/
def tk (kind : Int) (s : Int) (j : Nat) : List (Int × Int) → (Int × Int) × Nat
  | [] => (fit true kind s, j)
  | (k, n) :: l => if k = 0 ∧ n = 0 then tk kind s (j + 1) l else if valid k n = false then ((6, 5), j + 1) else if k = 6 then ((k, n), j + 1) else if k ≠ kind then ((6, 5), j + 1) else tk kind (s + n) (j + 1) l
theorem tk_blank (kind s : Int) (j : Nat) (l : List (Int × Int)) : tk kind s j ((0, 0) :: l) = tk kind s (j + 1) l := by simp [tk]
theorem tk_bad {kind s : Int} {j : Nat} {k n : Int} {l : List (Int × Int)} (h : valid k n = false) : tk kind s j ((k, n) :: l) = ((6, 5), j + 1) := by
  have : ¬ (k = 0 ∧ n = 0) := by rintro ⟨rfl, rfl⟩; simp [valid] at h
  simp [tk, this, h]
theorem tk_fault {kind s : Int} {j : Nat} {n : Int} {l : List (Int × Int)} (h : valid 6 n = true) : tk kind s j ((6, n) :: l) = ((6, n), j + 1) := by simp [tk, h]
theorem tk_other {kind s : Int} {j : Nat} {k n : Int} {l : List (Int × Int)} (h0 : k ≠ 0) (h : valid k n = true) (h6 : k ≠ 6) (hk : k ≠ kind) : tk kind s j ((k, n) :: l) = ((6, 5), j + 1) := by simp [tk, h0, h, h6, hk]
theorem tk_add {kind s : Int} {j : Nat} {n : Int} {l : List (Int × Int)} (h0 : kind ≠ 0) (h : valid kind n = true) (h6 : kind ≠ 6) : tk kind s j ((kind, n) :: l) = tk kind (s + n) (j + 1) l := by simp [tk, h0, h, h6]
end M

theorem rvalid_v (k n : Int) (w : World) (b : Bool) (h : M.valid k n = b) :
    Calls Tryd.prog 15 #[.agg #[.int .i64 k, .int .i64 n]] w fun e w' => e = .returned (.bool b) ∧ Below w.heap.size w w' := by
  rw [← h]
  exact rvalid_any k n w

set_option maxHeartbeats 600000 in
theorem taken_kind (kind : Int) (a : Option Addr) (len cap : Nat) (w : World) (c1 : (kind != 1) = true) (c2 : (kind != 2) = true) :
    Calls Tryd.prog 6 #[.int .i64 kind, .slice a len cap] w fun e w' => e = .returned (.tuple #[.agg #[.int .i64 6, .int .i64 5], .int .i64 0]) ∧ Below w.heap.size w w' := by
  have hR := Box.new w (.int .i64 0) (.int .i64 0) 24
  have hB := (Below.refl w.heap.size w).alloc (Nat.le_refl _) (.cells #[.int .i64 0, .int .i64 0] 24)
  go_enter Tryd.func6, Tryd.ntmps6
  go_wp2_with (go_at_call 14; refine (bad_any _ _).mono ?_; rintro e w2 ⟨rfl, hb2⟩; obtain ⟨r0, r1, q0, q1⟩ := hR.later hb2; have hB2 := below_step hB hb2; clear hb2)
  exact bodyPost_ret (v := .tuple #[.agg #[.int .i64 6, .int .i64 5], .int .i64 0]) (by simp [results, Tryd.results6, go_sem, r0, r1]) rfl ⟨rfl, (hB2.setCell (by simp) _).setCell (by simp) _⟩

set_option maxHeartbeats 1000000 in
theorem taken_loop (kind : Int) (a : Option Addr) (cap : Nat) (vs : List (Int × Int)) (w : World) (hV : Vals w a vs) (hk : kind = 1 ∨ kind = 2) (hl : vs.length ≤ 100000) (r : (Int × Int) × Nat) (hr : Hid (r = M.tk kind 0 0 vs)) :
    Calls Tryd.prog 6 #[.int .i64 kind, .slice a vs.length cap] w fun e w' => e = .returned (.tuple #[.agg #[.int .i64 r.1.1, .int .i64 r.1.2], .int .i64 (r.2 : Int)]) ∧ Below w.heap.size w w' := by
  have hR := Box.new w (.int .i64 0) (.int .i64 0) 24
  have hB := (Below.refl w.heap.size w).alloc (Nat.le_refl _) (.cells #[.int .i64 0, .int .i64 0] 24)
  have c0 : ((kind != 1) && (kind != 2)) = false := by rcases hk with rfl | rfl <;> rfl
  have hk0 : kind ≠ 0 := by omega
  have hk6 : kind ≠ 6 := by omega
  go_enter Tryd.func6, Tryd.ntmps6
  rcases hk with rfl | rfl
  · go_wp2
    go_loopw [6, 7] (fun v x wr => ∃ (j : Nat) (S : Int), j ≤ vs.length ∧ x = .int .i64 j ∧ v = .int .i64 S ∧ -(10000000000000 * (j : Int)) ≤ S ∧ S ≤ 10000000000000 * (j : Int) ∧ Hid (r = M.tk 1 S j (vs.drop j)) ∧ Box wr w.heap.size (.int .i64 0) (.int .i64 0) ∧ Below w.heap.size w wr) (fun _ x _ => vs.length - (intOf x).toNat)
    case atStart => exact ⟨0, 0, by omega, rfl, rfl, by omega, by omega, hr, hR, hB⟩
    case round =>
      obtain ⟨j, S, hj, rfl, rfl, hS0, hS1, hT, hRj, hBj⟩ := hrel
      clear hR hB hr
      by_cases hlt : j < vs.length
      · have hlt' : (j : Int) < vs.length := by omega
        obtain ⟨-, h | ⟨b, off, rfl, hbw, hcs⟩⟩ := hV.later hBj
        · subst h; simp at hlt
        obtain ⟨c0, c1⟩ := hcs j hlt
        have hdr := M.drop_at hlt
        generalize (vs.getD j (0, 0)).1 = k at *
        generalize (vs.getD j (0, 0)).2 = n at *
        rw [hdr] at hT
        clear hcs hdr hV
        by_cases hk0 : k = 0
        · subst hk0
          by_cases hn0 : n = 0
          · subst hn0
            rw [M.tk_blank] at hT
            go_wp2
            go_roundw
            case rel => exact ⟨j + 1, S, by omega, by go_num, rfl, by omega, by omega, hT, hRj, hBj⟩
            case measure => simp [intOf]; omega
          · have hv : M.valid 0 n = false := by simp [M.valid, hn0]
            have HN : Hid (r = ((6, 5), j + 1)) := by unfold Hid; rw [hT.out, M.tk_bad hv]
            have hn1 : (n == 0) = false := by simpa using hn0
            clear hT
            go_wp2_with (first | (go_at_call 15; refine (rvalid_v _ _ _ _ hv).mono ?_; rintro e w1 ⟨rfl, hb1⟩; replace hRj := hRj.later hb1; replace hBj := below_step hBj hb1; have d0 := (hb1.cell (p := ⟨b, off + j * 2, none⟩) hbw).trans c0; have d1 := (hb1.cell (p := ⟨b, off + j * 2 + 1, none⟩) hbw).trans c1; clear hb1 c0 c1) | (go_at_call 14; refine (bad_any _ _).mono ?_; rintro e w3 ⟨rfl, hb3⟩; obtain ⟨s0, s1, t0, t1⟩ := hRj.later hb3; have hB3 := below_step hBj hb3; clear hb3))
            exact bodyPost_ret (v := .tuple #[.agg #[.int .i64 r.1.1, .int .i64 r.1.2], .int .i64 (r.2 : Int)]) (by rw [HN.out]; simp [results, Tryd.results6, go_sem, s0, s1]) rfl ⟨rfl, (hB3.setCell (by simp) _).setCell (by simp) _⟩
        · have hk1 : (k == 0) = false := by simpa using hk0
          cases hv : M.valid k n with
          | false =>
            have HN : Hid (r = ((6, 5), j + 1)) := by unfold Hid; rw [hT.out, M.tk_bad hv]
            clear hT
            go_wp2_with (first | (go_at_call 15; refine (rvalid_v _ _ _ _ hv).mono ?_; rintro e w1 ⟨rfl, hb1⟩; replace hRj := hRj.later hb1; replace hBj := below_step hBj hb1; have d0 := (hb1.cell (p := ⟨b, off + j * 2, none⟩) hbw).trans c0; have d1 := (hb1.cell (p := ⟨b, off + j * 2 + 1, none⟩) hbw).trans c1; clear hb1 c0 c1) | (go_at_call 14; refine (bad_any _ _).mono ?_; rintro e w3 ⟨rfl, hb3⟩; obtain ⟨s0, s1, t0, t1⟩ := hRj.later hb3; have hB3 := below_step hBj hb3; clear hb3))
            exact bodyPost_ret (v := .tuple #[.agg #[.int .i64 r.1.1, .int .i64 r.1.2], .int .i64 (r.2 : Int)]) (by rw [HN.out]; simp [results, Tryd.results6, go_sem, s0, s1]) rfl ⟨rfl, (hB3.setCell (by simp) _).setCell (by simp) _⟩
          | true =>
            by_cases hk6 : k = 6
            · subst hk6
              have HN : Hid (r = ((6, n), j + 1)) := by unfold Hid; rw [hT.out, M.tk_fault hv]
              clear hT
              go_wp2_with (first | (go_at_call 15; refine (rvalid_v _ _ _ _ hv).mono ?_; rintro e w1 ⟨rfl, hb1⟩; replace hRj := hRj.later hb1; replace hBj := below_step hBj hb1; have d0 := (hb1.cell (p := ⟨b, off + j * 2, none⟩) hbw).trans c0; have d1 := (hb1.cell (p := ⟨b, off + j * 2 + 1, none⟩) hbw).trans c1; clear hb1 c0 c1; obtain ⟨s0, s1, t0, t1⟩ := id hRj) | (go_at_call 14; refine (bad_any _ _).mono ?_; rintro e w3 ⟨rfl, hb3⟩; obtain ⟨s0, s1, t0, t1⟩ := hRj.later hb3; have hB3 := below_step hBj hb3; clear hb3))
              have hB3 := hBj
              exact bodyPost_ret (v := .tuple #[.agg #[.int .i64 r.1.1, .int .i64 r.1.2], .int .i64 (r.2 : Int)]) (by rw [HN.out]; simp [results, Tryd.results6, go_sem, s0, s1]) rfl ⟨rfl, (hB3.setCell (by simp) _).setCell (by simp) _⟩
            · have hk7 : (k == 6) = false := by simpa using hk6
              by_cases hkk : k = 1
              · subst hkk
                have hnb : -10000000000000 ≤ n ∧ n ≤ 10000000000000 := by simp [M.valid] at hv; omega
                have HN : Hid (r = M.tk 1 (S + n) (j + 1) (vs.drop (j + 1))) := by unfold Hid; rw [hT.out, M.tk_add (by omega) hv (by omega)]
                have hSw : wrap64 (S + n) = S + n := by unfold wrap64; omega
                clear hT
                go_wp2_with (first | (go_at_call 15; refine (rvalid_v _ _ _ _ hv).mono ?_; rintro e w1 ⟨rfl, hb1⟩; replace hRj := hRj.later hb1; replace hBj := below_step hBj hb1; have d0 := (hb1.cell (p := ⟨b, off + j * 2, none⟩) hbw).trans c0; have d1 := (hb1.cell (p := ⟨b, off + j * 2 + 1, none⟩) hbw).trans c1; clear hb1 c0 c1) | (go_at_call 14; refine (bad_any _ _).mono ?_; rintro e w3 ⟨rfl, hb3⟩; obtain ⟨s0, s1, t0, t1⟩ := hRj.later hb3; have hB3 := below_step hBj hb3; clear hb3))
                go_roundw
                case rel => exact ⟨j + 1, S + n, by omega, by go_num, rfl, by omega, by omega, HN, hRj, hBj⟩
                case measure => simp [intOf]; omega
              · have hk8 : (k != 1) = true := by simpa using hkk
                have HN : Hid (r = ((6, 5), j + 1)) := by unfold Hid; rw [hT.out, M.tk_other hk0 hv hk6 hkk]
                clear hT
                go_wp2_with (first | (go_at_call 15; refine (rvalid_v _ _ _ _ hv).mono ?_; rintro e w1 ⟨rfl, hb1⟩; replace hRj := hRj.later hb1; replace hBj := below_step hBj hb1; have d0 := (hb1.cell (p := ⟨b, off + j * 2, none⟩) hbw).trans c0; have d1 := (hb1.cell (p := ⟨b, off + j * 2 + 1, none⟩) hbw).trans c1; clear hb1 c0 c1) | (go_at_call 14; refine (bad_any _ _).mono ?_; rintro e w3 ⟨rfl, hb3⟩; obtain ⟨s0, s1, t0, t1⟩ := hRj.later hb3; have hB3 := below_step hBj hb3; clear hb3))
                exact bodyPost_ret (v := .tuple #[.agg #[.int .i64 r.1.1, .int .i64 r.1.2], .int .i64 (r.2 : Int)]) (by rw [HN.out]; simp [results, Tryd.results6, go_sem, s0, s1]) rfl ⟨rfl, (hB3.setCell (by simp) _).setCell (by simp) _⟩
      · have HN : Hid (r = (M.fit true 1 S, vs.length)) := by
          unfold Hid
          rw [hT.out, List.drop_eq_nil_of_le (by omega), show j = vs.length by omega]
          rfl
        clear hT hV
        go_wp2_with (go_at_call 16; refine (bounded_any _ _ _).mono ?_; rintro e w3 ⟨rfl, hb3⟩; obtain ⟨s0, s1, t0, t1⟩ := hRj.later hb3; have hB3 := below_step hBj hb3; clear hb3)
        exact bodyPost_ret (v := .tuple #[.agg #[.int .i64 r.1.1, .int .i64 r.1.2], .int .i64 (r.2 : Int)]) (by rw [HN.out]; simp [results, Tryd.results6, go_sem, s0, s1]) rfl ⟨rfl, (hB3.setCell (by simp) _).setCell (by simp) _⟩
  · go_wp2
    go_loopw [6, 7] (fun v x wr => ∃ (j : Nat) (S : Int), j ≤ vs.length ∧ x = .int .i64 j ∧ v = .int .i64 S ∧ -(10000000000000 * (j : Int)) ≤ S ∧ S ≤ 10000000000000 * (j : Int) ∧ Hid (r = M.tk 2 S j (vs.drop j)) ∧ Box wr w.heap.size (.int .i64 0) (.int .i64 0) ∧ Below w.heap.size w wr) (fun _ x _ => vs.length - (intOf x).toNat)
    case atStart => exact ⟨0, 0, by omega, rfl, rfl, by omega, by omega, hr, hR, hB⟩
    case round =>
      obtain ⟨j, S, hj, rfl, rfl, hS0, hS1, hT, hRj, hBj⟩ := hrel
      clear hR hB hr
      by_cases hlt : j < vs.length
      · have hlt' : (j : Int) < vs.length := by omega
        obtain ⟨-, h | ⟨b, off, rfl, hbw, hcs⟩⟩ := hV.later hBj
        · subst h; simp at hlt
        obtain ⟨c0, c1⟩ := hcs j hlt
        have hdr := M.drop_at hlt
        generalize (vs.getD j (0, 0)).1 = k at *
        generalize (vs.getD j (0, 0)).2 = n at *
        rw [hdr] at hT
        clear hcs hdr hV
        by_cases hk0 : k = 0
        · subst hk0
          by_cases hn0 : n = 0
          · subst hn0
            rw [M.tk_blank] at hT
            go_wp2
            go_roundw
            case rel => exact ⟨j + 1, S, by omega, by go_num, rfl, by omega, by omega, hT, hRj, hBj⟩
            case measure => simp [intOf]; omega
          · have hv : M.valid 0 n = false := by simp [M.valid, hn0]
            have HN : Hid (r = ((6, 5), j + 1)) := by unfold Hid; rw [hT.out, M.tk_bad hv]
            have hn1 : (n == 0) = false := by simpa using hn0
            clear hT
            go_wp2_with (first | (go_at_call 15; refine (rvalid_v _ _ _ _ hv).mono ?_; rintro e w1 ⟨rfl, hb1⟩; replace hRj := hRj.later hb1; replace hBj := below_step hBj hb1; have d0 := (hb1.cell (p := ⟨b, off + j * 2, none⟩) hbw).trans c0; have d1 := (hb1.cell (p := ⟨b, off + j * 2 + 1, none⟩) hbw).trans c1; clear hb1 c0 c1) | (go_at_call 14; refine (bad_any _ _).mono ?_; rintro e w3 ⟨rfl, hb3⟩; obtain ⟨s0, s1, t0, t1⟩ := hRj.later hb3; have hB3 := below_step hBj hb3; clear hb3))
            exact bodyPost_ret (v := .tuple #[.agg #[.int .i64 r.1.1, .int .i64 r.1.2], .int .i64 (r.2 : Int)]) (by rw [HN.out]; simp [results, Tryd.results6, go_sem, s0, s1]) rfl ⟨rfl, (hB3.setCell (by simp) _).setCell (by simp) _⟩
        · have hk1 : (k == 0) = false := by simpa using hk0
          cases hv : M.valid k n with
          | false =>
            have HN : Hid (r = ((6, 5), j + 1)) := by unfold Hid; rw [hT.out, M.tk_bad hv]
            clear hT
            go_wp2_with (first | (go_at_call 15; refine (rvalid_v _ _ _ _ hv).mono ?_; rintro e w1 ⟨rfl, hb1⟩; replace hRj := hRj.later hb1; replace hBj := below_step hBj hb1; have d0 := (hb1.cell (p := ⟨b, off + j * 2, none⟩) hbw).trans c0; have d1 := (hb1.cell (p := ⟨b, off + j * 2 + 1, none⟩) hbw).trans c1; clear hb1 c0 c1) | (go_at_call 14; refine (bad_any _ _).mono ?_; rintro e w3 ⟨rfl, hb3⟩; obtain ⟨s0, s1, t0, t1⟩ := hRj.later hb3; have hB3 := below_step hBj hb3; clear hb3))
            exact bodyPost_ret (v := .tuple #[.agg #[.int .i64 r.1.1, .int .i64 r.1.2], .int .i64 (r.2 : Int)]) (by rw [HN.out]; simp [results, Tryd.results6, go_sem, s0, s1]) rfl ⟨rfl, (hB3.setCell (by simp) _).setCell (by simp) _⟩
          | true =>
            by_cases hk6 : k = 6
            · subst hk6
              have HN : Hid (r = ((6, n), j + 1)) := by unfold Hid; rw [hT.out, M.tk_fault hv]
              clear hT
              go_wp2_with (first | (go_at_call 15; refine (rvalid_v _ _ _ _ hv).mono ?_; rintro e w1 ⟨rfl, hb1⟩; replace hRj := hRj.later hb1; replace hBj := below_step hBj hb1; have d0 := (hb1.cell (p := ⟨b, off + j * 2, none⟩) hbw).trans c0; have d1 := (hb1.cell (p := ⟨b, off + j * 2 + 1, none⟩) hbw).trans c1; clear hb1 c0 c1; obtain ⟨s0, s1, t0, t1⟩ := id hRj) | (go_at_call 14; refine (bad_any _ _).mono ?_; rintro e w3 ⟨rfl, hb3⟩; obtain ⟨s0, s1, t0, t1⟩ := hRj.later hb3; have hB3 := below_step hBj hb3; clear hb3))
              have hB3 := hBj
              exact bodyPost_ret (v := .tuple #[.agg #[.int .i64 r.1.1, .int .i64 r.1.2], .int .i64 (r.2 : Int)]) (by rw [HN.out]; simp [results, Tryd.results6, go_sem, s0, s1]) rfl ⟨rfl, (hB3.setCell (by simp) _).setCell (by simp) _⟩
            · have hk7 : (k == 6) = false := by simpa using hk6
              by_cases hkk : k = 2
              · subst hkk
                have hnb : -10000000000000 ≤ n ∧ n ≤ 10000000000000 := by simp [M.valid] at hv; omega
                have HN : Hid (r = M.tk 2 (S + n) (j + 1) (vs.drop (j + 1))) := by unfold Hid; rw [hT.out, M.tk_add (by omega) hv (by omega)]
                have hSw : wrap64 (S + n) = S + n := by unfold wrap64; omega
                clear hT
                go_wp2_with (first | (go_at_call 15; refine (rvalid_v _ _ _ _ hv).mono ?_; rintro e w1 ⟨rfl, hb1⟩; replace hRj := hRj.later hb1; replace hBj := below_step hBj hb1; have d0 := (hb1.cell (p := ⟨b, off + j * 2, none⟩) hbw).trans c0; have d1 := (hb1.cell (p := ⟨b, off + j * 2 + 1, none⟩) hbw).trans c1; clear hb1 c0 c1) | (go_at_call 14; refine (bad_any _ _).mono ?_; rintro e w3 ⟨rfl, hb3⟩; obtain ⟨s0, s1, t0, t1⟩ := hRj.later hb3; have hB3 := below_step hBj hb3; clear hb3))
                go_roundw
                case rel => exact ⟨j + 1, S + n, by omega, by go_num, rfl, by omega, by omega, HN, hRj, hBj⟩
                case measure => simp [intOf]; omega
              · have hk8 : (k != 2) = true := by simpa using hkk
                have HN : Hid (r = ((6, 5), j + 1)) := by unfold Hid; rw [hT.out, M.tk_other hk0 hv hk6 hkk]
                clear hT
                go_wp2_with (first | (go_at_call 15; refine (rvalid_v _ _ _ _ hv).mono ?_; rintro e w1 ⟨rfl, hb1⟩; replace hRj := hRj.later hb1; replace hBj := below_step hBj hb1; have d0 := (hb1.cell (p := ⟨b, off + j * 2, none⟩) hbw).trans c0; have d1 := (hb1.cell (p := ⟨b, off + j * 2 + 1, none⟩) hbw).trans c1; clear hb1 c0 c1) | (go_at_call 14; refine (bad_any _ _).mono ?_; rintro e w3 ⟨rfl, hb3⟩; obtain ⟨s0, s1, t0, t1⟩ := hRj.later hb3; have hB3 := below_step hBj hb3; clear hb3))
                exact bodyPost_ret (v := .tuple #[.agg #[.int .i64 r.1.1, .int .i64 r.1.2], .int .i64 (r.2 : Int)]) (by rw [HN.out]; simp [results, Tryd.results6, go_sem, s0, s1]) rfl ⟨rfl, (hB3.setCell (by simp) _).setCell (by simp) _⟩
      · have HN : Hid (r = (M.fit true 2 S, vs.length)) := by
          unfold Hid
          rw [hT.out, List.drop_eq_nil_of_le (by omega), show j = vs.length by omega]
          rfl
        clear hT hV
        go_wp2_with (go_at_call 16; refine (bounded_any _ _ _).mono ?_; rintro e w3 ⟨rfl, hb3⟩; obtain ⟨s0, s1, t0, t1⟩ := hRj.later hb3; have hB3 := below_step hBj hb3; clear hb3)
        exact bodyPost_ret (v := .tuple #[.agg #[.int .i64 r.1.1, .int .i64 r.1.2], .int .i64 (r.2 : Int)]) (by rw [HN.out]; simp [results, Tryd.results6, go_sem, s0, s1]) rfl ⟨rfl, (hB3.setCell (by simp) _).setCell (by simp) _⟩

theorem taken_any_ref (kind : Int) (a : Option Addr) (cap : Nat) (vs : List (Int × Int)) (w : World) (hV : Vals w a vs) (hl : vs.length ≤ 100000) (r : (Int × Int) × Nat) (hr : Hid (r = if kind = 1 ∨ kind = 2 then M.tk kind 0 0 vs else ((6, 5), 0))) :
    Calls Tryd.prog 6 #[.int .i64 kind, .slice a vs.length cap] w fun e w' => e = .returned (.tuple #[.agg #[.int .i64 r.1.1, .int .i64 r.1.2], .int .i64 (r.2 : Int)]) ∧ Below w.heap.size w w' := by
  by_cases hk : kind = 1 ∨ kind = 2
  · exact taken_loop kind a cap vs w hV hk hl r (by unfold Hid; rw [hr.out, if_pos hk])
  · have e : r = ((6, 5), 0) := by rw [hr.out, if_neg hk]
    rw [e]
    exact taken_kind kind a vs.length cap w (by simp; omega) (by simp; omega)

end Go.Proofs.YtnmcniibcjjflaaDoor

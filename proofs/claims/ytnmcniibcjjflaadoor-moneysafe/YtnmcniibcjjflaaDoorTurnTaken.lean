import Derived.Test.YtnmcniibcjjflaaDoorJoin14
import Derived.Test.YtnmcniibcjjflaaDoorJoin12
namespace Go.Proofs.YtnmcniibcjjflaaDoor
open Go.RowKit

set_option maxHeartbeats 2000000 in
theorem taken_any (a : Option Addr) (cap : Nat) (bs : List (Int × Int)) (x : Int) (w : World) (hV : Vals w a bs) (hx : -9999999999999 ≤ x ∧ x ≤ 9999999999999) (hbs : M.Rising 0 bs) (p : Nat) (hp : Hid (p = M.took x bs)) :
    Calls Tryd.prog 60 #[.slice a bs.length cap, .int .i64 x] w fun e w' => e = .returned (.int .u64 (p : Int)) ∧ Below w.heap.size w w' := by
  have hlen := hV.1
  unfold maxLen at hlen
  obtain ⟨hx1, hx2⟩ := hx
  have hall : M.took x bs ≤ 9999999999999000000 := by
    have h1 := M.took_le x 0 bs hbs
    have h2 : (x - 0).toNat ≤ 9999999999999 := by omega
    exact Nat.le_trans h1 (Nat.mul_le_mul_right 1000000 h2)
  have hris := M.rising_at bs 0 hbs
  go_enter Tryd.func60, Tryd.ntmps60
  go_wp2
  go_loopw [5, 11] (fun s i wr => ∃ (j S : Nat), j ≤ bs.length ∧ i = .int .i64 j ∧ s = .int .u64 (S : Int) ∧ Hid (S + M.took x (bs.drop j) = M.took x bs) ∧ Below w.heap.size w wr) (fun _ i _ => bs.length - (intOf i).toNat)
  case atStart => exact ⟨0, 0, Nat.zero_le _, rfl, rfl, by simp [Hid], Below.refl _ _⟩
  case round =>
    obtain ⟨j, S, hj, rfl, rfl, hsum, hb⟩ := hrel
    have hVr := hV.later hb
    by_cases hlt : j < bs.length
    · obtain ⟨-, h | ⟨gb, off, rfl, hbw, hcs⟩⟩ := hVr
      · subst h; simp at hlt
      obtain ⟨hc0, hc1⟩ := hcs j hlt
      have hdr := M.drop_at hlt
      have hfr := hris j hlt
      have hle : Hid (S + M.took x (bs.drop j) ≤ 9999999999999000000) := by unfold Hid; rw [hsum.out]; exact hall
      have hnx : Hid (M.took x (bs.drop j) = (M.top x (bs.drop (j + 1)) - (bs.getD j (0, 0)).1).toNat * (bs.getD j (0, 0)).2.toNat + M.took x (bs.drop (j + 1))) := by unfold Hid; rw [hdr]; rfl
      generalize (bs.getD j (0, 0)).1 = f at *
      generalize (bs.getD j (0, 0)).2 = r at *
      obtain ⟨f1, f2, r1, r2⟩ := hfr
      obtain ⟨R, rfl⟩ : ∃ R : Nat, r = R := ⟨r.toNat, by omega⟩
      have hlt' : (j : Int) < bs.length := by omega
      clear hdr
      by_cases hl2 : j + 1 < bs.length
      · obtain ⟨hg0, -⟩ := hcs (j + 1) hl2
        have hd2 := M.drop_at hl2
        obtain ⟨g1, g2, -, -⟩ := hris (j + 1) hl2
        generalize (bs.getD (j + 1) (0, 0)).1 = g at *
        clear hcs
        have hl3 : (j : Int) + 1 < bs.length := by omega
        by_cases hc : g < x
        · have htop : Hid (M.top x (bs.drop (j + 1)) = g) := by unfold Hid; rw [hd2]; simp only [M.top]; rw [if_pos hc]
          by_cases c : f < g
          · obtain ⟨A, hA⟩ : ∃ A : Nat, g - f = A := ⟨(g - f).toNat, by omega⟩
            have eA : (g - f).toNat = A := by omega
            have hAR : S + A * R < 18446744073709551616 := by
              have h1 := hle.out
              rw [hnx.out, htop.out, eA] at h1
              simp only [Int.toNat_natCast] at h1
              generalize A * R = u at *
              omega
            have hR0 : A * R < 18446744073709551616 := Nat.lt_of_le_of_lt (Nat.le_add_left _ _) hAR
            have HV : Hid (IntKind.u64.wrap ((S : Int) + IntKind.u64.wrap ((g - f) * (R : Int))) = ((S + A * R : Nat) : Int)) := by
              unfold Hid
              rw [hA, mulN, wrapN _ hR0, addN, wrapN _ hAR]
            have HN : Hid (S + A * R + M.took x (bs.drop (j + 1)) = M.took x bs) := by
              unfold Hid
              rw [← hsum.out, hnx.out, htop.out, eA]
              simp only [Int.toNat_natCast]
              generalize A * R = u at *
              omega
            clear hle hsum hnx htop hA hAR hR0 eA hall hris
            go_wp2
            go_roundw
            case rel => exact ⟨j + 1, S + A * R, by omega, by go_num, by rw [HV.out], HN, hb.alloc hb.size _⟩
            case measure => simp [intOf]; omega
          · have HN : Hid (S + M.took x (bs.drop (j + 1)) = M.took x bs) := by
              unfold Hid
              rw [← hsum.out, hnx.out, htop.out]
              have e : (g - f).toNat = 0 := by omega
              rw [e]
              omega
            clear hle hsum hnx htop hall hris
            go_wp2
            go_roundw
            case rel => exact ⟨j + 1, S, by omega, by go_num, rfl, HN, hb.alloc hb.size _⟩
            case measure => simp [intOf]; omega
        · have htop : Hid (M.top x (bs.drop (j + 1)) = x) := by unfold Hid; rw [hd2]; simp only [M.top]; rw [if_neg hc]
          by_cases c : f < x
          · obtain ⟨A, hA⟩ : ∃ A : Nat, x - f = A := ⟨(x - f).toNat, by omega⟩
            have eA : (x - f).toNat = A := by omega
            have hAR : S + A * R < 18446744073709551616 := by
              have h1 := hle.out
              rw [hnx.out, htop.out, eA] at h1
              simp only [Int.toNat_natCast] at h1
              generalize A * R = u at *
              omega
            have hR0 : A * R < 18446744073709551616 := Nat.lt_of_le_of_lt (Nat.le_add_left _ _) hAR
            have HV : Hid (IntKind.u64.wrap ((S : Int) + IntKind.u64.wrap ((x - f) * (R : Int))) = ((S + A * R : Nat) : Int)) := by
              unfold Hid
              rw [hA, mulN, wrapN _ hR0, addN, wrapN _ hAR]
            have HN : Hid (S + A * R + M.took x (bs.drop (j + 1)) = M.took x bs) := by
              unfold Hid
              rw [← hsum.out, hnx.out, htop.out, eA]
              simp only [Int.toNat_natCast]
              generalize A * R = u at *
              omega
            clear hle hsum hnx htop hA hAR hR0 eA hall hris
            go_wp2
            go_roundw
            case rel => exact ⟨j + 1, S + A * R, by omega, by go_num, by rw [HV.out], HN, hb.alloc hb.size _⟩
            case measure => simp [intOf]; omega
          · have HN : Hid (S + M.took x (bs.drop (j + 1)) = M.took x bs) := by
              unfold Hid
              rw [← hsum.out, hnx.out, htop.out]
              have e : (x - f).toNat = 0 := by omega
              rw [e]
              omega
            clear hle hsum hnx htop hall hris
            go_wp2
            go_roundw
            case rel => exact ⟨j + 1, S, by omega, by go_num, rfl, HN, hb.alloc hb.size _⟩
            case measure => simp [intOf]; omega
      · have htop : Hid (M.top x (bs.drop (j + 1)) = x) := by unfold Hid; rw [List.drop_eq_nil_of_le (by omega)]; rfl
        have hl3 : ¬ (j : Int) + 1 < bs.length := by omega
        clear hcs
        by_cases c : f < x
        · obtain ⟨A, hA⟩ : ∃ A : Nat, x - f = A := ⟨(x - f).toNat, by omega⟩
          have eA : (x - f).toNat = A := by omega
          have hAR : S + A * R < 18446744073709551616 := by
            have h1 := hle.out
            rw [hnx.out, htop.out, eA] at h1
            simp only [Int.toNat_natCast] at h1
            generalize A * R = u at *
            omega
          have hR0 : A * R < 18446744073709551616 := Nat.lt_of_le_of_lt (Nat.le_add_left _ _) hAR
          have HV : Hid (IntKind.u64.wrap ((S : Int) + IntKind.u64.wrap ((x - f) * (R : Int))) = ((S + A * R : Nat) : Int)) := by
            unfold Hid
            rw [hA, mulN, wrapN _ hR0, addN, wrapN _ hAR]
          have HN : Hid (S + A * R + M.took x (bs.drop (j + 1)) = M.took x bs) := by
            unfold Hid
            rw [← hsum.out, hnx.out, htop.out, eA]
            simp only [Int.toNat_natCast]
            generalize A * R = u at *
            omega
          clear hle hsum hnx htop hA hAR hR0 eA hall hris
          go_wp2
          go_roundw
          case rel => exact ⟨j + 1, S + A * R, by omega, by go_num, by rw [HV.out], HN, hb.alloc hb.size _⟩
          case measure => simp [intOf]; omega
        · have HN : Hid (S + M.took x (bs.drop (j + 1)) = M.took x bs) := by
            unfold Hid
            rw [← hsum.out, hnx.out, htop.out]
            have e : (x - f).toNat = 0 := by omega
            rw [e]
            omega
          clear hle hsum hnx htop hall hris
          go_wp2
          go_roundw
          case rel => exact ⟨j + 1, S, by omega, by go_num, rfl, HN, hb.alloc hb.size _⟩
          case measure => simp [intOf]; omega
    · have HE : Hid (S = p) := by
        have e : j = bs.length := by omega
        have := hsum.out
        rw [e, List.drop_length] at this
        unfold Hid
        rw [hp.out, ← this]
        rfl
      obtain rfl : S = p := HE.out
      clear hsum hVr hall hris HE
      go_wp2
      go_ret
      exact ⟨rfl, hb⟩

end Go.Proofs.YtnmcniibcjjflaaDoor

import Derived.Test.YtnmcniibcjjflaaDoorTurnDigits
namespace Go.Proofs.YtnmcniibcjjflaaDoor
open Go.RowKit

theorem wrap64_id {x : Int} (h1 : -9000000000000000000 ≤ x) (h2 : x ≤ 9000000000000000000) : wrap64 x = x := by unfold wrap64; omega

set_option maxHeartbeats 1600000 in
theorem divided_any (a : Option Addr) (cap : Nat) (ds : List Nat) (n : Nat) (hn : 0 < n) (hn2 : n ≤ 10000000000000) (hlen : ds.length ≤ 100) (hds : ∀ i, ds.getD i 0 ≤ 1000000) (w : World) (hD : Dig w a ds) (Q R : Nat) (hQ : Hid (Q = M.cap14 (M.val ds / n))) (hR : Hid (R = M.val ds % n)) :
    Calls Tryd.prog 79 #[.slice a ds.length cap, .int .i64 n] w fun e w' => e = .returned (.tuple #[.int .i64 (Q : Int), .int .i64 (R : Int)]) ∧ w' = w := by
  go_enter Tryd.func79, Tryd.ntmps79
  go_wp2
  go_loop [6, 7, 8] (fun q r i => ∃ (j c s : Nat), j ≤ ds.length ∧ i = .int .i64 ((j : Int) - 1) ∧ q = .int .i64 c ∧ r = .int .i64 s ∧ Hid (c = M.cap14 (M.val (ds.drop j) / n)) ∧ Hid (s = M.val (ds.drop j) % n)) (fun _ _ i => (intOf i + 1).toNat)
  case atStart => exact ⟨ds.length, 0, 0, Nat.le_refl _, by go_num, rfl, rfl, by simp [Hid, M.val, M.cap14], by simp [Hid, M.val]⟩
  case round =>
    obtain ⟨j, c, s, hj, rfl, rfl, rfl, hc, hs⟩ := hrel
    have hc2 : (c : Int) ≤ 100000000000000 := by have := M.cap14_le (M.val (ds.drop j) / n); rw [← hc.out] at this; omega
    have hs2 : (s : Int) < n := by have := Nat.mod_lt (M.val (ds.drop j)) hn; rw [← hs.out] at this; omega
    have hn3 : (n : Int) ≤ 10000000000000 := by omega
    have hn4 : (0 : Int) < n := by omega
    by_cases h0 : j = 0
    · subst h0
      obtain rfl : c = Q := by rw [hQ.out]; exact hc.out
      obtain rfl : s = R := by rw [hR.out]; exact hs.out
      go_wp2
      go_ret2
      exact ⟨rfl, rfl⟩
    · obtain ⟨k, rfl⟩ : ∃ k, j = k + 1 := ⟨j - 1, by omega⟩
      rcases hD with h | ⟨g, rfl, hg, hcell⟩
      · subst h; simp at hj
      have hx := hcell k (by omega)
      have hd := hds k
      have hv := M.val_drop ds k (by omega)
      generalize ds.getD k 0 = d at *
      obtain ⟨st1, st2⟩ := M.div_step (M.val (ds.drop (k + 1))) d n hn
      have hcs := M.cap14_step (M.val (ds.drop (k + 1)) / n) ((10 * (M.val (ds.drop (k + 1)) % n) + d) / n)
      rw [← st1, ← hv, ← hc.out, ← hs.out] at hcs
      rw [← hv, ← hs.out] at st2
      have HC : Hid (M.cap14 (M.val (ds.drop k) / n) = if 100000000000000 < 10 * c + (10 * s + d) / n then 100000000000000 else 10 * c + (10 * s + d) / n) := hcs
      have HS : Hid (M.val (ds.drop k) % n = (10 * s + d) % n) := st2
      have hd2 : (d : Int) ≤ 1000000 := by omega
      have hk0 : (0 : Int) ≤ (k : Int) := by omega
      have hk1 : (k : Int) < ds.length := by omega
      have e1 : ((k + 1 : Nat) : Int) - 1 = k := by omega
      clear hc hs hv st1 st2 hcs hds hcell
      rw [e1]
      clear e1
      have hb1 : ((10 * s + d) / n : Nat) ≤ 10 * s + d := Nat.div_le_self _ _
      have HQ : Hid ((if (100000000000000 : Int) < wrap64 (10 * (c : Int) + (10 * (s : Int) + d) / n) then 100000000000000 else wrap64 (10 * (c : Int) + (10 * (s : Int) + d) / n)) = (M.cap14 (M.val (ds.drop k) / n) : Nat)) := by
        unfold Hid
        have e2 : (10 * (s : Int) + d) / n = (((10 * s + d) / n : Nat) : Int) := by rw [Int.natCast_ediv]; simp
        have e3 := HC.out
        rw [e2]
        generalize (10 * s + d) / n = t at e3 hb1 ⊢
        rw [wrap64_id (by omega) (by omega), e3]
        split
        · rw [if_pos (by omega)]; rfl
        · rw [if_neg (by omega)]; simp
      go_wp2
      go_round
      case rel => exact ⟨k, M.cap14 (M.val (ds.drop k) / n), M.val (ds.drop k) % n, by omega, rfl, by rw [HQ.out], by rw [HS.out]; simp, rfl, rfl⟩
      case measure => simp [intOf]

end Go.Proofs.YtnmcniibcjjflaaDoor

import Derived.Test.YtaecodgmfmijlaaDDue
import Derived.Test.YtaecodgmfmijlaaDIs
namespace Go.Proofs.Ytaecodgmfmijlaa
open Go.RowKit Go.Maps

set_option maxRecDepth 100000 in
theorem rin_none (n : Int) (a : Option Addr) (cap : Nat) (w : World) : Calls Try.prog 12 #[.slice a 0 cap, .int .i64 n] w fun e w' => e = .returned (.bool (decide (n ∈ ([] : List Int)))) ∧ w' = w := by
  go_enter Try.func12, Try.ntmps12
  go_wp2
  refine wp_loop_rounds 1 ?_
  rw [rounds_succ]
  go_wp2
  go_ret
  exact ⟨rfl, rfl⟩

set_option maxRecDepth 100000 in
set_option maxHeartbeats 1000000 in
theorem rin_some (n : Int) (b off cap : Nat) (zs : List Int) (w : World) (h8 : zs.length * 8 ≤ 140737488351232)
    (hc : ∀ i, i < zs.length → w.cell? ⟨b, off + i, none⟩ = some (.int .i64 (zs.getD i 0))) (r : Bool) (hr : Hid (r = decide (n ∈ zs))) : Calls Try.prog 12 #[.slice (some ⟨b, off, none⟩) zs.length cap, .int .i64 n] w fun e w' => e = .returned (.bool r) ∧ w' = w := by
  go_enter Try.func12, Try.ntmps12
  go_wp2
  go_loopw [5] (fun v wr => ∃ k : Nat, k ≤ zs.length ∧ v = .int .i64 k ∧ n ∉ zs.take k ∧ wr = w) (fun v _ => zs.length - (intOf v).toNat)
  case atStart => exact ⟨0, by omega, rfl, by simp, rfl⟩
  case round =>
    obtain ⟨k, hk, rfl, hni, rfl⟩ := hrel
    by_cases hlt : k < zs.length
    · obtain ⟨x, hx⟩ : ∃ x, zs.getD k 0 = x := ⟨_, rfl⟩
      have hcx := hc k hlt
      rw [hx] at hcx
      have htk : zs.take (k + 1) = zs.take k ++ [x] := by rw [List.take_add_one, ← hx]; simp [List.getD, hlt]
      have hxm : x ∈ zs := by rw [← hx]; simp [List.getD, hlt]
      clear hx hc
      by_cases hxn : x = n
      · subst hxn
        obtain rfl : r = true := by rw [hr.out, decide_eq_true hxm]
        go_wp2
        go_ret
        exact ⟨rfl, rfl⟩
      · have hxb : (x == n) = false := by simpa using hxn
        have hnx : Hid (n ∉ zs.take (k + 1)) := by
          unfold Hid
          rw [htk]
          simp only [List.mem_append, List.mem_singleton]
          rintro (h | h)
          · exact hni h
          · exact hxn h.symm
        clear hni htk
        go_wp2
        go_roundw
        case rel => exact ⟨k + 1, by omega, by go_num, hnx.out, by trivial⟩
        case measure => simp [intOf]; omega
    · obtain rfl : k = zs.length := by omega
      rw [List.take_length] at hni
      obtain rfl : r = false := by rw [hr.out, decide_eq_false hni]
      go_wp2
      go_ret
      exact ⟨rfl, rfl⟩

theorem rin_any (n : Int) (a : Option Addr) (cap : Nat) (zs : List Int) (w : World) (hN : Nums w a zs) : Calls Try.prog 12 #[.slice a zs.length cap, .int .i64 n] w fun e w' => e = .returned (.bool (decide (n ∈ zs))) ∧ w' = w := by
  obtain ⟨⟨h0, hwf⟩, rfl | ⟨b, off, rfl, hlt, hc⟩⟩ := hN
  · exact rin_none n a cap w
  · exact rin_some n b off cap zs w h0 hc _ rfl

set_option maxRecDepth 100000 in
set_option maxHeartbeats 2000000 in
theorem rdue_any (n : Int) (a : Option Addr) (cap : Nat) (zs : List Int) (r e : Int) (h : Hid (DueIs n zs r e)) (w : World) (hN : Nums w a zs) :
    Calls Try.prog 6 #[.int .i64 n, .slice a zs.length cap] w fun en w' => en = .returned (.tuple #[.int .i64 r, .int .i64 e]) ∧ w' = w := by
  by_cases hd : 0 ≤ n ∧ n ≤ 109572
  · have hI := is_yes n hd.1 hd.2 w
    have hIn := fun d => rin_any d a cap zs w hN
    obtain ⟨n0, n1⟩ := hd
    go_enter Try.func6, Try.ntmps6
    go_wp2_with (go_at_call 11; refine hI.mono ?_; clear hI; rintro _ w ⟨rfl, rfl⟩)
    go_loopw [7] (fun v wr => ∃ d : Int, v = .int .i64 d ∧ n ≤ d ∧ d ≤ 109573 ∧ (∀ k, n ≤ k → k < d → Busy zs k) ∧ wr = w)
      (fun v _ => (109573 - intOf v).toNat)
    case atStart => exact ⟨n, rfl, by omega, by omega, fun k g1 g2 => absurd g1 (by omega), rfl⟩
    case round =>
      obtain ⟨d, rfl, d0, d1, hbusy, rfl⟩ := hrel
      by_cases c : d ≤ 109572
      · replace hIn := hIn d
        have hnext : Busy zs d → ∀ k, n ≤ k → k < d + 1 → Busy zs k := fun hB k g1 g2 => by
          by_cases e : k = d
          · exact e ▸ hB
          · exact hbusy k g1 (by omega)
        have em : d.tmod 7 = d % 7 := Int.tmod_eq_emod_of_nonneg (by omega)
        by_cases hm : d ∈ zs
        · rw [decide_eq_true hm] at hIn
          have hnx : Hid _ := hnext (.inl hm)
          clear hnext hbusy hm
          by_cases hw : d % 7 < 5
          · go_wp2_with (go_at_call 12; refine hIn.mono ?_; clear hIn; rintro _ w ⟨rfl, rfl⟩)
            go_roundw
            case rel => exact ⟨d + 1, by go_num, by omega, by omega, hnx.out, by trivial⟩
            case measure => simp [intOf]; omega
          · go_wp2_with (go_at_call 12; refine hIn.mono ?_; clear hIn; rintro _ w ⟨rfl, rfl⟩)
            go_roundw
            case rel => exact ⟨d + 1, by go_num, by omega, by omega, hnx.out, by trivial⟩
            case measure => simp [intOf]; omega
        · rw [decide_eq_false hm] at hIn
          by_cases hw : d % 7 < 5
          · obtain ⟨rfl, rfl⟩ := h.out.yes_eq ⟨n0, n1⟩ d0 c (fun hB => hB.elim hm (by omega)) hbusy
            clear hnext hbusy hm h
            go_wp2_with (go_at_call 12; refine hIn.mono ?_; clear hIn; rintro _ w ⟨rfl, rfl⟩)
            exact bodyPost_ret (v := .tuple #[.int .i64 r, .int .i64 0]) (by simp [results, Try.results6, go_sem]) rfl ⟨rfl, rfl⟩
          · have hnx : Hid _ := hnext (.inr (by omega))
            clear hnext hbusy hm
            go_wp2_with (go_at_call 12; refine hIn.mono ?_; clear hIn; rintro _ w ⟨rfl, rfl⟩)
            go_roundw
            case rel => exact ⟨d + 1, by go_num, by omega, by omega, hnx.out, by trivial⟩
            case measure => simp [intOf]; omega
      · obtain ⟨rfl, rfl⟩ := h.out.none_eq ⟨n0, n1⟩ (fun k g1 g2 => hbusy k g1 (by omega))
        clear h hbusy
        go_wp2
        exact bodyPost_ret (v := .tuple #[.int .i64 0, .int .i64 21]) (by simp [results, Try.results6, go_sem]) rfl ⟨rfl, rfl⟩
  · have hI := is_no n hd w
    obtain ⟨rfl, rfl⟩ : r = 0 ∧ e = 21 := by
      cases h.out with
      | no _ => exact ⟨rfl, rfl⟩
      | yes hx => exact absurd hx hd
      | none => exact ⟨rfl, rfl⟩
    clear h hd hN
    go_enter Try.func6, Try.ntmps6
    go_wp2_with (go_at_call 11; refine hI.mono ?_; clear hI; rintro _ w ⟨rfl, rfl⟩)
    exact bodyPost_ret (v := .tuple #[.int .i64 0, .int .i64 21]) (by simp [results, Try.results6, go_sem]) rfl ⟨rfl, rfl⟩

end Go.Proofs.Ytaecodgmfmijlaa

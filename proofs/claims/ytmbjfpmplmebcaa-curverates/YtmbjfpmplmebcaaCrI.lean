import Derived.Test.YtmbjfpmplmebcaaCrH
namespace Go.Proofs.Ytmbjfpmplmebcaa.CF
open Go.RowKit
attribute [local go_sem] run_store_float

theorem rate_ok {D : Dots} (hD : Ok D) : ∀ k, Ok (rateN D k)
  | 0 => fun d hd => by cases hd
  | k + 1 => fun d hd => by
    unfold rateN at hd
    rcases List.mem_append.1 hd with h | h
    · exact rate_ok hD k d h
    · split at h
      · rename_i hc
        rw [List.mem_singleton.1 h]
        obtain ⟨q1, q2, q3⟩ := whole_some hc.1 (hD.getD k).1.1 (hD.getD k).1.2
        exact ⟨(hD.getD k).1, divN_lt (hD.getD k).2 q1 q2 q3⟩
      · cases h
theorem slopeN_ok {D : Dots} (hD : Ok D) (hO : inO D = true) : ∀ k, k < D.length → Ok (slopeN D k)
  | 0, _ => fun d hd => by cases hd
  | k + 1, hk => fun d hd => by
    unfold slopeN at hd
    rcases List.mem_append.1 hd with h | h
    · exact slopeN_ok hD hO k (by omega) d h
    · rw [List.mem_singleton.1 h]
      obtain ⟨n1, n2, n3, n4, n5⟩ := nbr hO hk
      exact ⟨(hD.getD k).1, riseN_lt (hD.getD k).2 n4 n5 n1 n2 n3⟩
theorem slope_ok {D : Dots} (hD : Ok D) : Ok (slopeD D) := by
  unfold slopeD
  split
  · rename_i hO
    cases hn : D.length with
    | zero => exact fun d hd => by cases hd
    | succ n => exact slopeN_ok hD hO n (by omega)
  · exact fun d hd => by cases hd
theorem smoothN_ok {D : Dots} (hD : Ok D) (hO : inO D = true) (hl : D.length ≤ 8796093021952) (r : Nat) : ∀ k, k ≤ D.length → Ok (smoothN D r k)
  | 0, _ => fun d hd => by cases hd
  | k + 1, hk => fun d hd => by
    unfold smoothN at hd
    rcases List.mem_append.1 hd with h | h
    · exact smoothN_ok hD hO hl r k (by omega) d h
    · rw [List.mem_singleton.1 h]
      have h1 : loN k r ≤ k := Nat.sub_le _ _
      have h2 : k < hiN k r D.length := by unfold hiN; omega
      have h3 : hiN k r D.length ≤ D.length := Nat.min_le_right _ _
      generalize loN k r = lo at *
      generalize hiN k r D.length = hi at *
      have sl := sumS_le hD hO (lo := lo) (hi - lo - 1) (by omega)
      obtain ⟨q1, q2, q3⟩ := whole_some (z := (hi : Int) - (lo : Int)) (by omega) (by omega) (by omega)
      exact ⟨(hD.getD k).1, divN_lt sl.2 q1 q2 q3⟩
theorem smooth_ok {D : Dots} (hD : Ok D) (hl : D.length ≤ 8796093021952) (n : Int) : Ok (smoothD D n) := by
  unfold smoothD
  split
  · rename_i hO
    exact smoothN_ok hD hO.2 hl _ _ (Nat.le_refl _)
  · exact fun d hd => by cases hd
theorem slopeD_len (D : Dots) : (slopeD D).length ≤ D.length := by
  unfold slopeD
  split
  · rw [slopeN_len]; omega
  · exact Nat.zero_le _
theorem smoothD_len (D : Dots) (n : Int) : (smoothD D n).length ≤ D.length := by
  unfold smoothD
  split
  · rw [smoothN_len]; exact Nat.le_refl _
  · exact Nat.zero_le _
set_option maxRecDepth 8000 in
set_option maxHeartbeats 4000000 in
theorem rates_any (D : Dots) (hD : Ok D) (hl : D.length ≤ 8796093021952) (n : Int) (z : Nat) (hz : z < 4294967296) (a al : Option Addr) (c cl : Nat) (hcl : D.length ≤ c) (w : World) (h : PtAt w a D) (h2 : RtAt w al D) : Calls Try.prog 29 #[.slice a D.length c, .slice al D.length cl, .int .i64 n, .int .u32 (z : Int)] w fun e w' => e = .returned (.bool true) ∧ Below w.heap.size w w' := by
  have hbi := bits_law D hl al cl w h2
  have hfr := f32from (z : Int)
  rw [Int.toNat_natCast] at hfr
  go_enter Try.func29, Try.ntmps29
  go_wp2_with (go_at_call 45; fail)
  refine hbi.mono ?_
  clear hbi
  rintro _ w1 ⟨ab, cb, rfl, hb1, hB1⟩
  have hp1 := h.later hB1
  clear h h2
  have hrp := rateP_any D hD hl a c w1 hp1
  go_wp2_with (go_at_call 18; fail)
  refine hrp.mono ?_
  clear hrp
  rintro _ w2 ⟨a2, c2, rfl, hq2, hB2⟩
  have hrr := rateR_any D hD hl ab cb w2 (hb1.later hB2)
  go_wp2_with (go_at_call 49; fail)
  refine hrr.mono ?_
  clear hrr
  rintro _ w3 ⟨a3, c3, rfl, hq3, hB3⟩
  have hsd := sameDots_self (rateN D D.length) (rate_ok hD _) (by have := rateN_len D D.length; omega) a2 a3 c2 c3 w3 (hq2.later hB3) hq3
  go_wp2_with (go_at_call 13; fail)
  refine hsd.mono ?_
  clear hsd
  rintro _ w4 ⟨rfl, hB4⟩
  have hB14 : Below w1.heap.size w1 w4 := hB2.trans ((hB3.trans (hB4.mono hB3.size)).mono hB2.size)
  have hp4 := hp1.later hB14
  have hb4 := hb1.later hB14
  have hBw4 : Below w.heap.size w w4 := hB1.trans (hB14.mono hB1.size)
  clear hq2 hq3 hB2 hB3 hB4 hB14 hp1 hb1 hB1
  have hsp := slopeP_any D hD hl a c w4 hp4
  go_wp2_with (go_at_call 17; fail)
  refine hsp.mono ?_
  clear hsp
  rintro _ w5 ⟨a5, c5, rfl, hq5, hB5⟩
  have hsr := slopeR_any D hD hl ab cb w5 (hb4.later hB5)
  go_wp2_with (go_at_call 50; fail)
  refine hsr.mono ?_
  clear hsr
  rintro _ w6 ⟨a6, c6, rfl, hq6, hB6⟩
  have hsd := sameDots_self (slopeD D) (slope_ok hD) (by have := slopeD_len D; omega) a5 a6 c5 c6 w6 (hq5.later hB6) hq6
  have hne1 : (slopeE D != slopeE D) = false := by simp
  go_wp2_with (go_at_call 13; fail)
  refine hsd.mono ?_
  clear hsd hne1
  rintro _ w7 ⟨rfl, hB7⟩
  have hB47 : Below w4.heap.size w4 w7 := hB5.trans ((hB6.trans (hB7.mono hB6.size)).mono hB5.size)
  have hp7 := hp4.later hB47
  have hb7 := hb4.later hB47
  have hBw7 : Below w.heap.size w w7 := hBw4.trans (hB47.mono hBw4.size)
  clear hq5 hq6 hB5 hB6 hB7 hB47 hp4 hb4 hBw4
  have hsp := smoothP_any D hD hl n a c hcl w7 hp7
  go_wp2_with (go_at_call 22; fail)
  refine hsp.mono ?_
  clear hsp
  rintro _ w8 ⟨a8, c8, rfl, hq8, hB8⟩
  have hsr := smoothR_any D hD hl n ab cb w8 (hb7.later hB8)
  go_wp2_with (go_at_call 51; fail)
  refine hsr.mono ?_
  clear hsr
  rintro _ w9 ⟨a9, c9, rfl, hq9, hB9⟩
  have hsd := sameDots_self (smoothD D n) (smooth_ok hD hl n) (by have := smoothD_len D n; omega) a8 a9 c8 c9 w9 (hq8.later hB9) hq9
  have hne1 : (smoothE D n != smoothE D n) = false := by simp
  go_wp2_with (go_at_call 13; fail)
  refine hsd.mono ?_
  clear hsd hne1
  rintro _ wa ⟨rfl, hBa⟩
  have hB7a : Below w7.heap.size w7 wa := hB8.trans ((hB9.trans (hBa.mono hB9.size)).mono hB8.size)
  have hpa := hp7.later hB7a
  have hba := hb7.later hB7a
  have hBwa : Below w.heap.size w wa := hBw7.trans (hB7a.mono hBw7.size)
  clear hq8 hq9 hB8 hB9 hBa hB7a hp7 hb7 hBw7
  have hjp := jumpsP_any D hD hl z hz a c wa hpa
  go_wp2_with (go_at_call 20; fail)
  refine hjp.mono ?_
  clear hjp
  rintro _ wb ⟨ac, cc, rfl, hqb, hBb⟩
  have hjr := jumpsR_any D hD hl z hz ab cb wb (hba.later hBb)
  go_wp2_with (go_at_call 52; fail)
  refine hjr.mono ?_
  clear hjr
  rintro _ wd ⟨ad, cd, rfl, hqd, hBd⟩
  have hqb2 := hqb.later hBd (Nat.le_refl _)
  have hBwd : Below w.heap.size w wd := hBwa.trans ((hBb.trans (hBd.mono hBb.size)).mono hBwa.size)
  have hjl := jumpsN_len D z (D.length - 1)
  clear hqb hBb hBd hpa hba hBwa hD hz hfr
  generalize jumpsN D z (D.length - 1) = L at *
  have hnl : ((L.length : Int) != (L.length : Int)) = false := by simp
  go_wp2
  go_loopw [16] (fun x wr => ∃ k : Nat, k ≤ L.length ∧ x = .int .i64 (k : Int) ∧ Below wd.heap.size wd wr) (fun x _ => L.length - (intOf x).toNat)
  case atStart => exact ⟨0, by omega, rfl, Below.refl _ _⟩
  case round =>
    obtain ⟨k, hk, rfl, hB⟩ := hrel
    by_cases hlt : k < L.length
    · have hlt' : (k : Int) < (L.length : Int) := by omega
      have hk0 : (0 : Int) ≤ (k : Int) := by omega
      obtain ⟨b1, o1, rfl, hl1, hc1⟩ := (hqb2.later hB (Nat.le_refl _)).resolve_left (fun e => by rw [e] at hlt; simp at hlt)
      obtain ⟨b2, o2, rfl, hl2, hc2⟩ := (hqd.later hB (Nat.le_refl _)).resolve_left (fun e => by rw [e] at hlt; simp at hlt)
      have k1 := hc1 k hlt
      have k2 := hc2 k hlt
      generalize L[k] = x at *
      have hxx : (x != x) = false := by simp
      clear hc1 hc2
      go_wp2_with fail
      go_quiet (fail)
      go_wp2
      go_roundw
      case rel => exact ⟨k + 1, by omega, by go_num, below_drewN hB _⟩
      case measure => simp [intOf]; omega
    · have hlt' : ¬ (k : Int) < (L.length : Int) := by omega
      have hBe : Below w.heap.size w wr := hBwd.trans (hB.mono hBwd.size)
      go_wp2
      go_ret
      exact ⟨rfl, hBe⟩
end Go.Proofs.Ytmbjfpmplmebcaa.CF

import Derived.Test.YtdhjpnnpeicpiaaGreatDoorTurnWDtx
import Derived.Test.YtdhjpnnpeicpiaaGreatDoorTurnDPrint
import Derived.Test.YtdhjpnnpeicpiaaGreatDoorXQuo
import Derived.BigQuiet
namespace Go.Proofs.YtdhjpnnpeicpiaaGreatDoor.Q
open Go.RowKit
open Go.Lib (decDigits)

/-- What every word that was taken from a text keeps to. -/
def Ft (w : Wd) : Prop := (w.1 = 1 ∧ w.2.1.length ≤ 12) ∨ (w.1 = 7 ∧ w.2.1.length ≤ 2) ∨ (w.1 = 2 ∧ w.2.2.1 ≤ 9999999999999) ∨ (w.1 = 3 ∧ w.2.2.1 ≤ 1000000000) ∨ (w.1 = 4 ∧ w.2.2.1 ≤ 1000000000 ∧ 0 < w.2.2.2 ∧ w.2.2.2 ≤ 1000000000) ∨ (w.1 = 5 ∧ ∃ k d, D.At (w.2.2.1 : Int) k d) ∨ (w.1 = 6 ∧ w.2.1.length ≤ 40 ∧ ∀ c ∈ w.2.1, 32 ≤ c.toNat ∧ c.toNat ≤ 126)
theorem num_ft {wh part : List UInt8} {pc : Bool} {w : Wd} (h : numTok wh part pc = some w) : Ft w := by
  unfold numTok at h
  split at h
  · cases h
  · split at h
    · unfold pctTok at h
      split at h
      · cases h
      · split at h
        · rename_i hb
          cases h
          refine .inr (.inr (.inr (.inr (.inl ⟨rfl, hb.1, ?_, hb.2⟩))))
          have h100 : 0 < 100 * 10 ^ part.length := Nat.mul_pos (by decide) (Nat.pow_pos (by decide))
          exact Nat.div_pos (Nat.le_of_dvd h100 (Nat.gcd_dvd_right _ _)) (Nat.gcd_pos_of_pos_right _ h100)
        · cases h
    · split at h
      · split at h
        · rename_i hb
          cases h
          exact .inr (.inr (.inr (.inl ⟨rfl, hb⟩)))
        · cases h
      · split at h
        · rename_i hb
          cases h
          exact .inr (.inr (.inl ⟨rfl, hb.2⟩))
        · cases h
theorem word_ft {x : List UInt8} {w : Wd} {e : Nat} (h : wordS x 0 = .ok (w, e)) : Ft w := by
  unfold wordS at h
  split at h
  · unfold nameS at h
    split at h
    · cases h
    · rename_i hl
      cases h
      refine .inl ⟨rfl, ?_⟩
      show (slc x 0 (0 + rn 56 (x.drop 0))).length ≤ 12
      unfold slc
      rw [List.length_drop, List.length_take]
      omega
  · split at h
    · unfold dateS at h
      split at h
      · split at h
        · rename_i hd
          cases h
          obtain ⟨v, ev⟩ : ∃ v, dNum (dX x 0) = (v, 0) := ⟨(dNum (dX x 0)).1, by rw [← hd.1]⟩
          rw [ev]
          unfold dNum at ev
          obtain ⟨k, d', hA, -, -, -⟩ := num_at ev
          refine .inr (.inr (.inr (.inr (.inr (.inl ⟨rfl, k, d', ?_⟩)))))
          show D.At ((v.toNat : Nat) : Int) k d'
          rw [Int.toNat_of_nonneg hA.nn.1]
          exact hA
        · cases h
      · exact num_ft (num_parts h).1
    · split at h
      · unfold quotedS at h
        obtain ⟨acc1, i1, i2, i3, i4⟩ := qgo_back _ _ _ _ _ _ h
        subst i1
        refine .inr (.inr (.inr (.inr (.inr (.inr ⟨rfl, i2, ?_⟩)))))
        show ∀ c ∈ [] ++ acc1, _
        rw [List.nil_append]
        exact i4
      · unfold signS at h
        cases hf : signsL.find? (fun s => s.isPrefixOf (x.drop 0)) with
        | none => rw [hf] at h; cases h
        | some s =>
          rw [hf] at h
          cases h
          refine .inr (.inl ⟨rfl, ?_⟩)
          have hm := List.mem_of_find?_eq_some hf
          have : ∀ t ∈ signsL, t.length ≤ 2 := by decide
          exact this s hm

theorem day_txt (Y M K : Nat) : bytesOf (txt Y M K) = dtT Y M K := by
  have hd : ∀ N k, UInt8.ofNat (dg N k).toNat = d2 N k := fun N k => by
    unfold dg d2
    congr 1
  unfold bytesOf dtT
  simp only [List.range, List.range.loop, List.map_cons, List.map_nil]
  refine List.cons_eq_cons.2 ⟨hd Y 3, List.cons_eq_cons.2 ⟨hd Y 2, List.cons_eq_cons.2 ⟨hd Y 1, List.cons_eq_cons.2 ⟨hd Y 0, List.cons_eq_cons.2 ⟨rfl, List.cons_eq_cons.2 ⟨hd M 1, List.cons_eq_cons.2 ⟨hd M 0, List.cons_eq_cons.2 ⟨rfl, List.cons_eq_cons.2 ⟨hd K 1, List.cons_eq_cons.2 ⟨hd K 0, rfl⟩⟩⟩⟩⟩⟩⟩⟩⟩⟩
theorem daysPrint_any (n : Nat) (h : ∃ k d, D.At (n : Int) k d) (w : World) (hM : Mon w) : Calls Tryz.prog 25 #[.int .i64 (n : Int)] w fun e w' => e = .returned (.tuple #[.string ⟨(dtx n).toArray⟩, .int .i64 0]) ∧ Below w.heap.size w w' := by
  obtain ⟨k, d, hA⟩ := h
  have k1 := hA.k0
  have d1 := hA.d0
  obtain ⟨Y, hY⟩ : ∃ Y : Nat, (Y : Int) = 1900 + k / 12 := ⟨(1900 + k / 12).toNat, by omega⟩
  obtain ⟨M, hMM⟩ : ∃ M : Nat, (M : Int) = k % 12 + 1 := ⟨(k % 12 + 1).toNat, by omega⟩
  obtain ⟨K, hK⟩ : ∃ K : Nat, (K : Int) = d + 1 := ⟨(d + 1).toNat, by omega⟩
  have h := print_yes _ k d hA Y M K hY hMM hK w hM
  rw [day_txt, ← dtx_at hA hY hMM hK] at h
  exact h
theorem formatI_any (n : Nat) (hn : n ≤ 9223372036854775807) (w : World) (hX : X.Tab w) : Calls Tryz.prog 23 #[.int .i64 (n : Int), .int .i64 10] w fun e w' => e = .returned (.string ⟨(decDigits n).toArray⟩) ∧ Below w.heap.size w w' := by
  refine (Tryz.strconv_FormatInt_10 (n : Int) (by omega) (by omega) w hX).mono ?_
  rintro e w' ⟨rfl, k, os, rfl⟩
  refine ⟨?_, Go.Lib.below_grow _ _ (Nat.le_refl _) _ _⟩
  congr 3

end Go.Proofs.YtdhjpnnpeicpiaaGreatDoor.Q


namespace Go.Proofs.YtdhjpnnpeicpiaaGreatDoor.Q
open Go.RowKit
open Go.Lib (decDigits)

theorem esq_esc : esq = X.esc := rfl
set_option maxRecDepth 4000 in
set_option maxHeartbeats 2000000 in
theorem spelled_any (w : Wd) (hw : Ft w) (W : World) (hM : Mon W) (hX : X.Tab W) : Calls Tryz.prog 16 #[.agg (tokC w.1 0 w.2.1 w.2.2.1 w.2.2.2)] W fun e W' => e = .returned (.string ⟨(spl dtx w).toArray⟩) ∧ Below W.heap.size W W' := by
  obtain ⟨K, T, N, D0⟩ := w
  have hb := fun (v : Array Value) => (Below.refl W.heap.size W).alloc (Nat.le_refl _) (.cells v 34)
  obtain ⟨S, hS⟩ : ∃ S, spl dtx (K, T, N, D0) = S := ⟨_, rfl⟩
  rw [hS]
  unfold tokC
  rcases hw with ⟨h, hl⟩ | ⟨h, hl⟩ | ⟨h, hn⟩ | ⟨h, hn⟩ | ⟨h, hn, hd0, hd⟩ | ⟨h, hd⟩ | ⟨h, hl, hf⟩
  all_goals (simp only at h; subst h)
  · obtain rfl : T = S := hS
    clear hl
    go_enter Tryz.func16, Tryz.ntmps16
    go_wp2
    go_ret
    exact ⟨rfl, hb _⟩
  · obtain rfl : T = S := hS
    clear hl
    go_enter Tryz.func16, Tryz.ntmps16
    go_wp2
    go_ret
    exact ⟨rfl, hb _⟩
  · have hc := fun V h => X.amount_any (N : Int) (by omega) (by simp only at hn; omega) V h
    have e : X.amtL (N : Int) = S := by
      rw [← hS]
      unfold X.amtL
      rw [if_neg (by omega)]
      show _ = decDigits (N / 100) ++ 46 :: X.pad (N % 100) 2
      simp
    rw [e] at hc
    clear e hS hn
    go_enter Tryz.func16, Tryz.ntmps16
    go_wp2_with (go_at_call 22; refine (hc _ (hX.later (hb _))).mono ?_; rintro e w1 ⟨rfl, hb1⟩)
    go_ret
    exact ⟨rfl, below_step (hb _) hb1⟩
  · have hc := fun V h => formatI_any N (by simp only at hn; omega) V h
    obtain rfl : decDigits N = S := hS
    clear hn
    obtain ⟨S, hS⟩ : ∃ S, decDigits N = S := ⟨_, rfl⟩
    rw [hS] at hc ⊢
    clear hS
    go_enter Tryz.func16, Tryz.ntmps16
    go_wp2_with (go_at_call 23; refine (hc _ (hX.later (hb _))).mono ?_; rintro e w1 ⟨rfl, hb1⟩)
    go_ret
    exact ⟨rfl, below_step (hb _) hb1⟩
  · simp only at hn hd0 hd
    have hc := fun V h => X.percent_any (N : Int) (D0 : Int) (by omega) (by omega) V h
    have e : X.pct (N : Int) (D0 : Int) = X.pctL (100 * N) D0 := by
      unfold X.pct
      rw [if_neg (by omega)]
      simp
    rw [e] at hc
    have hS' : (X.pctL (100 * N) D0).getD [] = S := hS
    unfold X.pctV at hc
    rw [hS'] at hc
    obtain ⟨ok, hok⟩ : ∃ ok, (X.pctL (100 * N) D0).isSome = ok := ⟨_, rfl⟩
    rw [hok] at hc
    clear e hS hS' hok hn hd0 hd
    go_enter Tryz.func16, Tryz.ntmps16
    go_wp2_with (go_at_call 24; refine (hc _ (hX.later (hb _))).mono ?_; rintro e w1 ⟨rfl, hb1⟩)
    go_ret
    exact ⟨rfl, below_step (hb _) hb1⟩
  · have hc := fun V h => daysPrint_any N hd V h
    obtain rfl : dtx N = S := hS
    clear hd
    obtain ⟨S, hS⟩ : ∃ S, dtx N = S := ⟨_, rfl⟩
    rw [hS] at hc ⊢
    clear hS
    go_enter Tryz.func16, Tryz.ntmps16
    go_wp2_with (go_at_call 25; refine (hc _ (hM.later (hb _))).mono ?_; rintro e w1 ⟨rfl, hb1⟩)
    go_ret
    exact ⟨rfl, below_step (hb _) hb1⟩
  · simp only at hl hf
    have hc := fun V => X.quote_any ⟨T.toArray⟩ V
    have e : X.qt (ByteArray.mk T.toArray).data.toList = some S := by
      show X.qt T = _
      rw [X.qt_good hl (fun c h => hf c h), ← hS]
      show _ = some (34 :: (T.flatMap X.esc ++ [34]))
      simp
    rw [e] at hc
    unfold X.pctV at hc
    simp only [Option.getD_some, Option.isSome_some] at hc
    clear e hS hl hf
    go_enter Tryz.func16, Tryz.ntmps16
    go_wp2_with (go_at_call 26; refine (hc _).mono ?_; rintro e w1 ⟨rfl, hb1⟩)
    go_ret
    exact ⟨rfl, below_step (hb _) hb1⟩

end Go.Proofs.YtdhjpnnpeicpiaaGreatDoor.Q

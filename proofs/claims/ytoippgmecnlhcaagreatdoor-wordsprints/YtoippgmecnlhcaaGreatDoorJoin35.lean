import Derived.Test.YtoippgmecnlhcaaGreatDoorJoin34
import Derived.Test.YtoippgmecnlhcaaGreatDoorJoin33
import Derived.Test.YtoippgmecnlhcaaGreatDoorTurnXQuo
import Derived.BigQuiet
import Derived.Test.YtoippgmecnlhcaaGreatDoorTurnWRnd
import Derived.Test.YtoippgmecnlhcaaGreatDoorJoin26
import Derived.Deep.QuietTactic
/- THE TEXT OF A DAY. No program. -/
namespace Go.Proofs.YtoippgmecnlhcaaGreatDoor.Q

def d2 (n k : Nat) : UInt8 := UInt8.ofNat (48 + n / 10 ^ k % 10)
def dtT (Y M K : Nat) : List UInt8 := [d2 Y 3, d2 Y 2, d2 Y 1, d2 Y 0, 45, d2 M 1, d2 M 0, 45, d2 K 1, d2 K 0]
open Classical in
noncomputable def dtx (n : Nat) : List UInt8 := if h : ∃ p : Int × Int, D.At (n : Int) p.1 p.2 then dtT (1900 + h.choose.1 / 12).toNat (h.choose.1 % 12 + 1).toNat (h.choose.2 + 1).toNat else []
theorem dtx_at {n : Nat} {k d : Int} (h : D.At (n : Int) k d) {Y M K : Nat} (hY : (Y : Int) = 1900 + k / 12) (hM : (M : Int) = k % 12 + 1) (hK : (K : Int) = d + 1) : dtx n = dtT Y M K := by
  have hex : ∃ p : Int × Int, D.At (n : Int) p.1 p.2 := ⟨(k, d), h⟩
  unfold dtx
  rw [dif_pos hex]
  obtain ⟨h1, h2⟩ := D.At.uniq hex.choose_spec h
  rw [h1, h2, ← hY, ← hM, ← hK]
  rfl
theorem num_at {y m d v : Int} (h : D.num y m d = (v, 0)) : ∃ k d', D.At v k d' ∧ y = 1900 + k / 12 ∧ m = k % 12 + 1 ∧ d = d' + 1 := by
  unfold D.num at h
  split at h
  · cases h
  · rename_i h1
    split at h
    · cases h
    · rename_i h2
      injection h with h _
      have hm : 1 ≤ m ∧ m ≤ 12 := by
        apply Classical.byContradiction
        intro hn
        have := D.last_no y m (by omega)
        omega
      obtain ⟨y1, y2⟩ := D.ym (y := y) hm.1 hm.2
      refine ⟨12 * (y - 1900) + m - 1, d - 1, ⟨by omega, by omega, by omega, ?_, ?_⟩, y1.symm, y2.symm, by omega⟩
      · rw [D.ln_ym hm.1 hm.2]; omega
      · rw [D.bg_ym hm.1 hm.2]; omega
theorem d2_is {b : UInt8} {n k : Nat} (hb : 48 ≤ b.toNat ∧ b.toNat ≤ 57) (h : n / 10 ^ k % 10 = b.toNat - 48) : d2 n k = b := by
  unfold d2
  rw [h, of_nat8 b hb]
theorem take_dX (x : List UInt8) (hs : (dX x 0).size = 10) : (dX x 0).data.toList = x.take 10 ∧ 10 ≤ x.length := by
  have hl : 10 ≤ x.length := by
    have : (dX x 0).size = min (0 + 10) x.length := by
      unfold dX slc
      show (List.toArray _).size = _
      rw [List.size_toArray, List.length_drop, List.length_take]
      omega
    omega
  refine ⟨?_, hl⟩
  unfold dX slc
  rw [show min (0 + 10) x.length = 10 from by omega]
  simp
theorem dtx_back (x : List UInt8) (hf : dForm (dX x 0)) (h0 : (dNum (dX x 0)).2 = 0) : dtx (dNum (dX x 0)).1.toNat = x.take 10 := by
  obtain ⟨hs, hck⟩ := hf
  obtain ⟨ht, hl⟩ := take_dX x hs
  rw [← ht]
  generalize dX x 0 = X at *
  have hat : ∀ i, i < 10 → ∃ b : UInt8, X.data.toList[i]? = some b ∧ ck i b.toNat = true ∧ cc X i = (b.toNat : Int) - 48 := fun i hi => by
    have hi' : i < X.size := by omega
    refine ⟨X[i], ?_, hck i hi', ?_⟩
    · have : i < X.data.toList.length := by rw [size_list]; exact hi'
      rw [List.getElem?_eq_getElem this, at_list X i hi']
    · unfold cc
      rw [dif_pos hi']
  have hlen : X.data.toList.length = 10 := by rw [size_list]; exact hs
  obtain ⟨b0, l0, k0, c0⟩ := hat 0 (by decide)
  obtain ⟨b1, l1, k1, c1⟩ := hat 1 (by decide)
  obtain ⟨b2, l2, k2, c2⟩ := hat 2 (by decide)
  obtain ⟨b3, l3, k3, c3⟩ := hat 3 (by decide)
  obtain ⟨b4, l4, k4, c4⟩ := hat 4 (by decide)
  obtain ⟨b5, l5, k5, c5⟩ := hat 5 (by decide)
  obtain ⟨b6, l6, k6, c6⟩ := hat 6 (by decide)
  obtain ⟨b7, l7, k7, c7⟩ := hat 7 (by decide)
  obtain ⟨b8, l8, k8, c8⟩ := hat 8 (by decide)
  obtain ⟨b9, l9, k9, c9⟩ := hat 9 (by decide)
  have hlist : X.data.toList = [b0, b1, b2, b3, b4, b5, b6, b7, b8, b9] := by
    apply List.ext_getElem?
    intro i
    by_cases hi : i < 10
    · have : i = 0 ∨ i = 1 ∨ i = 2 ∨ i = 3 ∨ i = 4 ∨ i = 5 ∨ i = 6 ∨ i = 7 ∨ i = 8 ∨ i = 9 := by omega
      rcases this with rfl | rfl | rfl | rfl | rfl | rfl | rfl | rfl | rfl | rfl <;> assumption
    · rw [List.getElem?_eq_none (by omega), List.getElem?_eq_none (by simp; omega)]
  have dig : ∀ i (b : UInt8), ¬ (i = 4 ∨ i = 7) → ck i b.toNat = true → 48 ≤ b.toNat ∧ b.toNat ≤ 57 := fun i b hi h => by
    unfold ck at h
    rw [if_neg hi] at h
    have := of_decide_eq_true h
    omega
  have sig : ∀ i (b : UInt8), (i = 4 ∨ i = 7) → ck i b.toNat = true → b = 45 := fun i b hi h => by
    unfold ck at h
    rw [if_pos hi] at h
    have := of_decide_eq_true h
    exact UInt8.toNat_inj.1 (by show b.toNat = 45; omega)
  have d0 := dig 0 b0 (by decide) k0
  have d1 := dig 1 b1 (by decide) k1
  have d2' := dig 2 b2 (by decide) k2
  have d3 := dig 3 b3 (by decide) k3
  have e4 := sig 4 b4 (by decide) k4
  have d5 := dig 5 b5 (by decide) k5
  have d6 := dig 6 b6 (by decide) k6
  have e7 := sig 7 b7 (by decide) k7
  have d8 := dig 8 b8 (by decide) k8
  have d9 := dig 9 b9 (by decide) k9
  obtain ⟨v, e⟩ : ∃ v, dNum X = (v, 0) := ⟨(dNum X).1, by rw [← h0]⟩
  rw [e, hlist]
  unfold dNum at e
  obtain ⟨k, d', hA, hy, hm, hd⟩ := num_at e
  have hv := hA.nn
  simp only [dval, show 4 - 0 = 4 from rfl, Nat.zero_add, c0, c1, c2, c3] at hy
  simp only [dval, show 7 - 5 = 2 from rfl, Nat.add_zero, c5, show 5 + 1 = 6 from rfl, c6] at hm
  simp only [dval, show 10 - 8 = 2 from rfl, Nat.add_zero, c8, show 8 + 1 = 9 from rfl, c9] at hd
  have hA' : D.At ((v.toNat : Nat) : Int) k d' := by rw [Int.toNat_of_nonneg hv.1]; exact hA
  rw [dtx_at (Y := 1000 * (b0.toNat - 48) + 100 * (b1.toNat - 48) + 10 * (b2.toNat - 48) + (b3.toNat - 48)) (M := 10 * (b5.toNat - 48) + (b6.toNat - 48)) (K := 10 * (b8.toNat - 48) + (b9.toNat - 48)) hA' (by omega) (by omega) (by omega)]
  unfold dtT
  rw [d2_is d0 (by omega), d2_is d1 (by omega), d2_is d2' (by omega), d2_is d3 (by omega), d2_is d5 (by omega), d2_is d6 (by omega), d2_is d8 (by omega), d2_is d9 (by omega), e4, e7]

end Go.Proofs.YtoippgmecnlhcaaGreatDoor.Q


namespace Go.Proofs.YtoippgmecnlhcaaGreatDoor.Q
open Go.RowKit
open Go.Lib (decDigits)

/-- What every word that was taken from a text keeps to. -/
def Ft (w : Wd) : Prop := (w.1 = 1 ∧ w.2.1.length ≤ 12) ∨ (w.1 = 7 ∧ w.2.1.length ≤ 2) ∨ (w.1 = 2 ∧ w.2.2.1 ≤ 9999999999999) ∨ (w.1 = 3 ∧ w.2.2.1 ≤ 1000000000) ∨ (w.1 = 4 ∧ w.2.2.1 ≤ 1000000000 ∧ 0 < w.2.2.2 ∧ w.2.2.2 ≤ 1000000000) ∨ (w.1 = 5 ∧ ∃ k d, D.At (w.2.2.1 : Int) k d) ∨ (w.1 = 6 ∧ w.2.1.length ≤ 40 ∧ ∀ c ∈ w.2.1, 32 ≤ c.toNat ∧ c.toNat ≤ 126)
theorem num_ft {wh part : List UInt8} {pc : Bool} {w : Wd} (h : numTok wh part pc = some w) : Ft w := by
  unfold numTok at h
  split at h
  · cases h
  · split at h
    · unfold pctTok at h
      split at h
      · cases h
      · split at h
        · rename_i hb
          cases h
          refine .inr (.inr (.inr (.inr (.inl ⟨rfl, hb.1, ?_, hb.2⟩))))
          have h100 : 0 < 100 * 10 ^ part.length := Nat.mul_pos (by decide) (Nat.pow_pos (by decide))
          exact Nat.div_pos (Nat.le_of_dvd h100 (Nat.gcd_dvd_right _ _)) (Nat.gcd_pos_of_pos_right _ h100)
        · cases h
    · split at h
      · split at h
        · rename_i hb
          cases h
          exact .inr (.inr (.inr (.inl ⟨rfl, hb⟩)))
        · cases h
      · split at h
        · rename_i hb
          cases h
          exact .inr (.inr (.inl ⟨rfl, hb.2⟩))
        · cases h
theorem word_ft {x : List UInt8} {w : Wd} {e : Nat} (h : wordS x 0 = .ok (w, e)) : Ft w := by
  unfold wordS at h
  split at h
  · unfold nameS at h
    split at h
    · cases h
    · rename_i hl
      cases h
      refine .inl ⟨rfl, ?_⟩
      show (slc x 0 (0 + rn 56 (x.drop 0))).length ≤ 12
      unfold slc
      rw [List.length_drop, List.length_take]
      omega
  · split at h
    · unfold dateS at h
      split at h
      · split at h
        · rename_i hd
          cases h
          obtain ⟨v, ev⟩ : ∃ v, dNum (dX x 0) = (v, 0) := ⟨(dNum (dX x 0)).1, by rw [← hd.1]⟩
          rw [ev]
          unfold dNum at ev
          obtain ⟨k, d', hA, -, -, -⟩ := num_at ev
          refine .inr (.inr (.inr (.inr (.inr (.inl ⟨rfl, k, d', ?_⟩)))))
          show D.At ((v.toNat : Nat) : Int) k d'
          rw [Int.toNat_of_nonneg hA.nn.1]
          exact hA
        · cases h
      · exact num_ft (num_parts h).1
    · split at h
      · unfold quotedS at h
        obtain ⟨acc1, i1, i2, i3, i4⟩ := qgo_back _ _ _ _ _ _ h
        subst i1
        refine .inr (.inr (.inr (.inr (.inr (.inr ⟨rfl, i2, ?_⟩)))))
        show ∀ c ∈ [] ++ acc1, _
        rw [List.nil_append]
        exact i4
      · unfold signS at h
        cases hf : signsL.find? (fun s => s.isPrefixOf (x.drop 0)) with
        | none => rw [hf] at h; cases h
        | some s =>
          rw [hf] at h
          cases h
          refine .inr (.inl ⟨rfl, ?_⟩)
          have hm := List.mem_of_find?_eq_some hf
          have : ∀ t ∈ signsL, t.length ≤ 2 := by decide
          exact this s hm

theorem day_txt (Y M K : Nat) : bytesOf (txt Y M K) = dtT Y M K := by
  have hd : ∀ N k, UInt8.ofNat (dg N k).toNat = d2 N k := fun N k => by
    unfold dg d2
    congr 1
  unfold bytesOf dtT
  simp only [List.range, List.range.loop, List.map_cons, List.map_nil]
  refine List.cons_eq_cons.2 ⟨hd Y 3, List.cons_eq_cons.2 ⟨hd Y 2, List.cons_eq_cons.2 ⟨hd Y 1, List.cons_eq_cons.2 ⟨hd Y 0, List.cons_eq_cons.2 ⟨rfl, List.cons_eq_cons.2 ⟨hd M 1, List.cons_eq_cons.2 ⟨hd M 0, List.cons_eq_cons.2 ⟨rfl, List.cons_eq_cons.2 ⟨hd K 1, List.cons_eq_cons.2 ⟨hd K 0, rfl⟩⟩⟩⟩⟩⟩⟩⟩⟩⟩
theorem daysPrint_any (n : Nat) (h : ∃ k d, D.At (n : Int) k d) (w : World) (hM : Mon w) : Calls Tryz.prog 52 #[.int .i64 (n : Int)] w fun e w' => e = .returned (.tuple #[.string ⟨(dtx n).toArray⟩, .int .i64 0]) ∧ Below w.heap.size w w' := by
  obtain ⟨k, d, hA⟩ := h
  have k1 := hA.k0
  have d1 := hA.d0
  obtain ⟨Y, hY⟩ : ∃ Y : Nat, (Y : Int) = 1900 + k / 12 := ⟨(1900 + k / 12).toNat, by omega⟩
  obtain ⟨M, hMM⟩ : ∃ M : Nat, (M : Int) = k % 12 + 1 := ⟨(k % 12 + 1).toNat, by omega⟩
  obtain ⟨K, hK⟩ : ∃ K : Nat, (K : Int) = d + 1 := ⟨(d + 1).toNat, by omega⟩
  have h := print_yes _ k d hA Y M K hY hMM hK w hM
  rw [day_txt, ← dtx_at hA hY hMM hK] at h
  exact h
theorem formatI_any (n : Nat) (hn : n ≤ 9223372036854775807) (w : World) (hX : X.Tab w) : Calls Tryz.prog 50 #[.int .i64 (n : Int), .int .i64 10] w fun e w' => e = .returned (.string ⟨(decDigits n).toArray⟩) ∧ Below w.heap.size w w' := by
  refine (Tryz.strconv_FormatInt_10 (n : Int) (by omega) (by omega) w hX).mono ?_
  rintro e w' ⟨rfl, k, os, rfl⟩
  refine ⟨?_, Go.Lib.below_grow _ _ (Nat.le_refl _) _ _⟩
  congr 3

end Go.Proofs.YtoippgmecnlhcaaGreatDoor.Q


namespace Go.Proofs.YtoippgmecnlhcaaGreatDoor.Q
open Go.RowKit
open Go.Lib (decDigits)

theorem esq_esc : esq = X.esc := rfl
set_option maxRecDepth 4000 in
set_option maxHeartbeats 2000000 in
theorem spelled_any (w : Wd) (hw : Ft w) (W : World) (hM : Mon W) (hX : X.Tab W) : Calls Tryz.prog 38 #[.agg (tokC w.1 0 w.2.1 w.2.2.1 w.2.2.2)] W fun e W' => e = .returned (.string ⟨(spl dtx w).toArray⟩) ∧ Below W.heap.size W W' := by
  obtain ⟨K, T, N, D0⟩ := w
  have hb := fun (v : Array Value) => (Below.refl W.heap.size W).alloc (Nat.le_refl _) (.cells v 60)
  obtain ⟨S, hS⟩ : ∃ S, spl dtx (K, T, N, D0) = S := ⟨_, rfl⟩
  rw [hS]
  unfold tokC
  rcases hw with ⟨h, hl⟩ | ⟨h, hl⟩ | ⟨h, hn⟩ | ⟨h, hn⟩ | ⟨h, hn, hd0, hd⟩ | ⟨h, hd⟩ | ⟨h, hl, hf⟩
  all_goals (simp only at h; subst h)
  · obtain rfl : T = S := hS
    clear hl
    go_enter Tryz.func38, Tryz.ntmps38
    go_wp2
    go_ret
    exact ⟨rfl, hb _⟩
  · obtain rfl : T = S := hS
    clear hl
    go_enter Tryz.func38, Tryz.ntmps38
    go_wp2
    go_ret
    exact ⟨rfl, hb _⟩
  · have hc := fun V h => X.amount_any (N : Int) (by omega) (by simp only at hn; omega) V h
    have e : X.amtL (N : Int) = S := by
      rw [← hS]
      unfold X.amtL
      rw [if_neg (by omega)]
      show _ = decDigits (N / 100) ++ 46 :: X.pad (N % 100) 2
      simp
    rw [e] at hc
    clear e hS hn
    go_enter Tryz.func38, Tryz.ntmps38
    go_wp2_with (go_at_call 49; refine (hc _ (hX.later (hb _))).mono ?_; rintro e w1 ⟨rfl, hb1⟩)
    go_ret
    exact ⟨rfl, below_step (hb _) hb1⟩
  · have hc := fun V h => formatI_any N (by simp only at hn; omega) V h
    obtain rfl : decDigits N = S := hS
    clear hn
    obtain ⟨S, hS⟩ : ∃ S, decDigits N = S := ⟨_, rfl⟩
    rw [hS] at hc ⊢
    clear hS
    go_enter Tryz.func38, Tryz.ntmps38
    go_wp2_with (go_at_call 50; refine (hc _ (hX.later (hb _))).mono ?_; rintro e w1 ⟨rfl, hb1⟩)
    go_ret
    exact ⟨rfl, below_step (hb _) hb1⟩
  · simp only at hn hd0 hd
    have hc := fun V h => X.percent_any (N : Int) (D0 : Int) (by omega) (by omega) V h
    have e : X.pct (N : Int) (D0 : Int) = X.pctL (100 * N) D0 := by
      unfold X.pct
      rw [if_neg (by omega)]
      simp
    rw [e] at hc
    have hS' : (X.pctL (100 * N) D0).getD [] = S := hS
    unfold X.pctV at hc
    rw [hS'] at hc
    obtain ⟨ok, hok⟩ : ∃ ok, (X.pctL (100 * N) D0).isSome = ok := ⟨_, rfl⟩
    rw [hok] at hc
    clear e hS hS' hok hn hd0 hd
    go_enter Tryz.func38, Tryz.ntmps38
    go_wp2_with (go_at_call 51; refine (hc _ (hX.later (hb _))).mono ?_; rintro e w1 ⟨rfl, hb1⟩)
    go_ret
    exact ⟨rfl, below_step (hb _) hb1⟩
  · have hc := fun V h => daysPrint_any N hd V h
    obtain rfl : dtx N = S := hS
    clear hd
    obtain ⟨S, hS⟩ : ∃ S, dtx N = S := ⟨_, rfl⟩
    rw [hS] at hc ⊢
    clear hS
    go_enter Tryz.func38, Tryz.ntmps38
    go_wp2_with (go_at_call 52; refine (hc _ (hM.later (hb _))).mono ?_; rintro e w1 ⟨rfl, hb1⟩)
    go_ret
    exact ⟨rfl, below_step (hb _) hb1⟩
  · simp only at hl hf
    have hc := fun V => X.quote_any ⟨T.toArray⟩ V
    have e : X.qt (ByteArray.mk T.toArray).data.toList = some S := by
      show X.qt T = _
      rw [X.qt_good hl (fun c h => hf c h), ← hS]
      show _ = some (34 :: (T.flatMap X.esc ++ [34]))
      simp
    rw [e] at hc
    unfold X.pctV at hc
    simp only [Option.getD_some, Option.isSome_some] at hc
    clear e hS hl hf
    go_enter Tryz.func38, Tryz.ntmps38
    go_wp2_with (go_at_call 53; refine (hc _).mono ?_; rintro e w1 ⟨rfl, hb1⟩)
    go_ret
    exact ⟨rfl, below_step (hb _) hb1⟩

end Go.Proofs.YtoippgmecnlhcaaGreatDoor.Q


namespace Go.Proofs.YtoippgmecnlhcaaGreatDoor.Q
open Go.RowKit
open Go.Lib (decDigits)

theorem tl_short (D : Nat) : ∀ (f r : Nat) (l : List UInt8), X.tl D f r = some l → l.length ≤ f
  | 0, r, l, h => by
    unfold X.tl at h
    split at h
    · cases h; exact Nat.le_refl _
    · cases h
  | f + 1, r, l, h => by
    unfold X.tl at h
    split at h
    · cases h; exact Nat.zero_le _
    · obtain ⟨l', hl, rfl⟩ := Option.map_eq_some_iff.1 h
      have := tl_short D f _ l' hl
      rw [List.length_cons]
      omega
theorem dd_short {u : Nat} (h : u < 18446744073709551616) : (decDigits u).length ≤ 20 := by
  rw [Go.Lib.decDigits_length]
  exact Go.Lib.nDigits_le20 u h
theorem spl_len {w : Wd} (hw : Ft w) : (spl dtx w).length ≤ 100 := by
  obtain ⟨K, T, N, D0⟩ := w
  rcases hw with ⟨h, hl⟩ | ⟨h, hl⟩ | ⟨h, hn⟩ | ⟨h, hn⟩ | ⟨h, hn, hd0, hd⟩ | ⟨h, hd⟩ | ⟨h, hl, hf⟩
  all_goals (simp only at h; subst h)
  · show T.length ≤ 100
    simp only at hl
    omega
  · show T.length ≤ 100
    simp only at hl
    omega
  · show (decDigits (N / 100) ++ 46 :: X.pad (N % 100) 2).length ≤ 100
    simp only at hn
    have h1 := dd_short (u := N / 100) (by omega)
    have h2 := X.pad_length (N % 100) 2
    have h3 := X.nDigits_le2 (u := N % 100) (Nat.mod_lt _ (by decide))
    rw [List.length_append, List.length_cons]
    omega
  · show (decDigits N).length ≤ 100
    simp only at hn
    have h1 := dd_short (u := N) (by omega)
    omega
  · show ((X.pctL (100 * N) D0).getD []).length ≤ 100
    simp only at hn hd0 hd
    cases hp : X.pctL (100 * N) D0 with
    | none => simp
    | some s =>
      unfold X.pctL at hp
      obtain ⟨l, hl, rfl⟩ := Option.map_eq_some_iff.1 hp
      have h1 := tl_short _ _ _ _ hl
      have h2 := dd_short (u := 100 * N / D0) (Nat.lt_of_le_of_lt (Nat.div_le_self _ _) (by omega))
      have h3 : (if l = [] then [] else (46 : UInt8) :: l).length ≤ 7 := by split <;> simp; omega
      rw [Option.getD_some, List.length_append, List.length_append, List.length_singleton]
      omega
  · obtain ⟨k, d, hA⟩ := hd
    have k1 := hA.k0
    have d1 := hA.d0
    show (dtx N).length ≤ 100
    rw [dtx_at hA (Y := (1900 + k / 12).toNat) (M := (k % 12 + 1).toNat) (K := (d + 1).toNat) (by omega) (by omega) (by omega)]
    simp [dtT]
  · show (34 :: (T.flatMap esq ++ [34])).length ≤ 100
    simp only at hl
    have := X.flat_len T
    rw [esq_esc, List.length_cons, List.length_append, List.length_singleton]
    omega
theorem gw_word {w : Wd} (h : Gw (spl dtx) w) : wordS (spl dtx w) 0 = .ok (w, (spl dtx w).length) := by
  obtain ⟨-, hsl, v, hw⟩ := h
  have := word_cut (fol_stop (v := v) (v' := []) (.inl rfl)) hsl hw
  rwa [List.append_nil] at this
theorem gw_ft {w : Wd} (h : Gw (spl dtx) w) : Ft w := word_ft (gw_word h)

theorem eqlTok (a b n d : Int) (t : ByteArray) (w : World) : (binOp .eql 60 (.agg #[.int .i64 a, .int .i64 b, .string t, .int .i64 n, .int .i64 d]) (.agg #[.int .i64 a, .int .i64 b, .string t, .int .i64 n, .int .i64 d])).run Tryz.prog w = .ok (.bool true) w := by
  rw [run_eql_struct, eqTok]
  rfl

set_option maxRecDepth 4000 in
set_option maxHeartbeats 2000000 in
theorem written_end (at_ : Nat) (W : World) : Calls Tryz.prog 14 #[.agg (tokC 8 at_ [] 0 0)] W fun e W' => e = .returned (.tuple #[.string ⟨#[10]⟩, .bool true]) ∧ Below W.heap.size W W' := by
  have hb := (Below.refl W.heap.size W).alloc (Nat.le_refl _) (.cells #[.int .i64 8, .int .i64 0, .string ⟨#[]⟩, .int .i64 0, .int .i64 0] 60)
  have he := eqlTok 8 0 0 0 ⟨#[]⟩
  unfold tokC
  go_enter Tryz.func14, Tryz.ntmps14
  go_wp2
  go_quiet (fail)
  have hbq := below_drewN hb nq
  go_wp2
  exact bodyPost_ret (v := .tuple #[.string ⟨#[10]⟩, .bool true]) (by simp [results, Tryz.results14, go_sem]) rfl ⟨rfl, hbq⟩

set_option maxRecDepth 8000 in
set_option maxHeartbeats 4000000 in
theorem written_any (x : Wd) (hg : Gw (spl dtx) x) (at_ : Nat) (W : World) (hC : Cls W) (hE : ErrR W) (hM : Mon W) (hS : Sgn W) (hX : X.Tab W) : Calls Tryz.prog 14 #[.agg (tokC x.1 at_ x.2.1 x.2.2.1 x.2.2.2)] W fun e W' => e = .returned (.tuple #[.string ⟨(spl dtx x).toArray⟩, .bool true]) ∧ Below W.heap.size W W' := by
  have hft := gw_ft hg
  have hsp := fun V (hb : Below W.heap.size W V) => spelled_any x hft V (hM.later hb) (hX.later hb)
  have hln := spl_len hft
  have hw := gw_word hg
  obtain ⟨S, hS0⟩ : ∃ S, spl dtx x = S := ⟨_, rfl⟩
  rw [hS0] at hsp hln hw ⊢
  have hwd := fun V (hb : Below W.heap.size W V) => word_any ⟨S.toArray⟩ 0 (Nat.zero_le _) (by show S.toArray.size ≤ 140737488351232; rw [List.size_toArray]; omega) V (hC.later hb) (hE.later hb) (hM.later hb) (hS.later hb)
  have hres : resV 0 (wordS (ByteArray.mk S.toArray).data.toList 0) = .tuple #[.agg (tokC x.1 0 x.2.1 x.2.2.1 x.2.2.2), .int .i64 (S.length : Int), .int .i64 0] := by
    show resV 0 (wordS S 0) = _
    rw [hw]
    rfl
  have h8 : x.1 ≠ 8 := hg.1
  obtain ⟨K, T, N, D0⟩ := x
  simp only at h8 hres hsp ⊢
  have h8' : ((K : Int) == 8) = false := by simp; omega
  rw [hres] at hwd
  have hsz : (ByteArray.mk S.toArray).size = S.length := by show S.toArray.size = _; simp
  clear hres hw hft hg hC hE hM hS hX hS0 h8
  unfold tokC at hwd hsp ⊢
  have he := eqlTok (K : Int) 0 (N : Int) (D0 : Int) ⟨T.toArray⟩
  have hb := (Below.refl W.heap.size W).alloc (Nat.le_refl _) (.cells #[.int .i64 (K : Int), .int .i64 0, .string ⟨T.toArray⟩, .int .i64 (N : Int), .int .i64 (D0 : Int)] 60)
  have hc : ∀ W', Below (W.heap.size + 1) (W.alloc (.cells #[.int .i64 (K : Int), .int .i64 0, .string ⟨T.toArray⟩, .int .i64 (N : Int), .int .i64 (D0 : Int)] 60)) W' → W'.cell? ⟨W.heap.size, 0, none⟩ = some (.int .i64 (K : Int)) ∧ W'.cell? ⟨W.heap.size, 1, none⟩ = some (.int .i64 0) ∧ W'.cell? ⟨W.heap.size, 2, none⟩ = some (.string ⟨T.toArray⟩) ∧ W'.cell? ⟨W.heap.size, 3, none⟩ = some (.int .i64 (N : Int)) ∧ W'.cell? ⟨W.heap.size, 4, none⟩ = some (.int .i64 (D0 : Int)) := fun W' hb' =>
    ⟨(hb'.cell (p := ⟨W.heap.size, 0, none⟩) (Nat.lt_succ_self _)).trans (by simp), (hb'.cell (p := ⟨W.heap.size, 1, none⟩) (Nat.lt_succ_self _)).trans (by simp), (hb'.cell (p := ⟨W.heap.size, 2, none⟩) (Nat.lt_succ_self _)).trans (by simp), (hb'.cell (p := ⟨W.heap.size, 3, none⟩) (Nat.lt_succ_self _)).trans (by simp), (hb'.cell (p := ⟨W.heap.size, 4, none⟩) (Nat.lt_succ_self _)).trans (by simp)⟩
  have h1 := hsp _ hb
  have hsz1 : (W.alloc (.cells #[.int .i64 (K : Int), .int .i64 0, .string ⟨T.toArray⟩, .int .i64 (N : Int), .int .i64 (D0 : Int)] 60)).heap.size = W.heap.size + 1 := by simp
  rw [hsz1] at h1
  go_enter Tryz.func14, Tryz.ntmps14
  go_wp2_with (first | (go_at_call 38; refine h1.mono ?_; rintro e w1 ⟨rfl, hb1⟩; have hB1 : Below W.heap.size W w1 := hb.trans (hb1.mono (by omega)); have h2 := hwd w1 hB1) | (go_at_call 39; refine h2.mono ?_; rintro e w2 ⟨rfl, hb2⟩; have hB2 := below_step hB1 hb2; have hsw : W.heap.size + 1 ≤ w1.heap.size := (by have := hb1.size; rw [hsz1] at this; exact this); obtain ⟨c0, c1, c2, c3, c4⟩ := hc w2 (hb1.trans (hb2.mono hsw)); have hsw2 := hB2.size))
  have hbx := (hb1.trans (hb2.mono hsw)).alloc (by have := hb2.size; omega) (.cells #[.int .i64 (K : Int), .int .i64 0, .string ⟨T.toArray⟩, .int .i64 (N : Int), .int .i64 (D0 : Int)] 60)
  obtain ⟨d0, d1, d2', d3, d4⟩ := hc _ hbx
  have hB3 := hB2.alloc hB2.size (.cells #[.int .i64 (K : Int), .int .i64 0, .string ⟨T.toArray⟩, .int .i64 (N : Int), .int .i64 (D0 : Int)] 60)
  clear hbx hc h1 h2 hb hsz1 hb1 hb2 c0 c1 c2 c3 c4 hwd hsp
  go_quiet (fail)
  have hbq := below_drewN hB3 nq
  go_wp2
  exact bodyPost_ret (v := .tuple #[.string ⟨S.toArray⟩, .bool true]) (by simp [results, Tryz.results14, go_sem]) rfl ⟨rfl, hbq⟩

end Go.Proofs.YtoippgmecnlhcaaGreatDoor.Q

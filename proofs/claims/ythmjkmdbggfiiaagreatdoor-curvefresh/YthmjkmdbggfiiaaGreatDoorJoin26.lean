import Derived.Test.YthmjkmdbggfiiaaGreatDoorJoin25
import Derived.Test.YthmjkmdbggfiiaaGreatDoorJoin24
import Derived.Test.YthmjkmdbggfiiaaGreatDoorJoin21
namespace Go.Proofs.YthmjkmdbggfiiaaGreatDoor.CF
open Go.RowKit
attribute [local go_sem] run_store_float

theorem conv_i32 (z : Int) (w : World) : (convert 3 62 (.int .i64 z)).run Tryz.prog w = .ok (.float .f32 (wholeN z)) w := by
  rw [run_convert_int_float w 3 62 .i64 .f32 z (by rw [Tryz.underlying3]; rfl) Tryz.underlying62]
  rw [wholeN_eq]
  rfl
theorem add_some2 {a b : Nat} (ha : a < 4294967296) (hb : b < 4294967296) (h1 : a % 2147483648 ≤ 2139095040) (h2 : b % 2147483648 < 2139095040) : Ieee.single.add a b = some (addN a b) := by
  by_cases f : a % 2147483648 < 2139095040
  · exact add_some ha hb f (by omega)
  · have h := addN_eq ha hb
    unfold Ieee.Format.add at h ⊢
    rw [read_inf ha (by omega), read_fin hb h2] at h ⊢
    rw [h]
    rfl
theorem addN_le2 {a b : Nat} (ha : a < 4294967296) (hb : b < 4294967296) (h1 : a % 2147483648 ≤ 2139095040) (h2 : b % 2147483648 < 2139095040) : addN a b % 2147483648 ≤ 2139095040 ∧ addN a b < 4294967296 := by
  by_cases f : a % 2147483648 < 2139095040
  · exact addN_le hb f (by omega)
  · unfold addN
    rw [if_neg (by omega), if_pos (by omega)]
    exact ⟨h1, ha⟩
/-- The sum of n + 1 heights from lo on. -/
def sumS (D : Dots) (lo : Nat) : Nat → Nat
  | 0 => (D.getD lo (0, 0)).2
  | n + 1 => addN (sumS D lo n) (D.getD (lo + (n + 1)) (0, 0)).2
theorem sumS_le {D : Dots} (hD : Ok D) (hO : inO D = true) {lo : Nat} : ∀ n, lo + n < D.length → sumS D lo n % 2147483648 ≤ 2139095040 ∧ sumS D lo n < 4294967296
  | 0, h => ⟨Nat.le_of_lt (gB_parts (inO_true.1 hO lo h)).1.2, (hD.getD lo).2⟩
  | n + 1, h => by
    have ih := sumS_le hD hO (lo := lo) n (by omega)
    exact addN_le2 ih.2 (hD.getD (lo + (n + 1))).2 ih.1 (gB_parts (inO_true.1 hO (lo + (n + 1)) h)).1.2
def loN (i r : Nat) : Nat := i - r
def hiN (i r n : Nat) : Nat := min (i + r + 1) n
def meanN (D : Dots) (lo hi : Nat) : Nat := divN (sumS D lo (hi - lo - 1)) (wholeN ((hi : Int) - (lo : Int)))
def smoothN (D : Dots) (r : Nat) : Nat → Dots
  | 0 => []
  | k + 1 => smoothN D r k ++ [((D.getD k (0, 0)).1, meanN D (loN k r) (hiN k r D.length))]
theorem smoothN_len (D : Dots) (r : Nat) : ∀ k, (smoothN D r k).length = k
  | 0 => rfl
  | k + 1 => by
    unfold smoothN
    rw [List.length_append, smoothN_len D r k]
    rfl
set_option maxRecDepth 8000 in
set_option maxHeartbeats 2000000 in
/-- The mean of a piece of the list. -/
theorem mean_any (D : Dots) (hD : Ok D) (hO : inO D = true) (hl : D.length ≤ 8796093021952) (b off : Nat) (lo m cap : Nat) (hm : lo + m < D.length) (hcap : m + 1 ≤ cap) (w : World) (hc : ∀ i, i < D.length → w.cell? ⟨b, off + i * 2, none⟩ = some (.int .i64 (D.getD i (0, 0)).1) ∧ w.cell? ⟨b, off + i * 2 + 1, none⟩ = some (.float .f32 (D.getD i (0, 0)).2)) : Calls Tryz.prog 56 #[.slice (some ⟨b, off + lo * 2, none⟩) (m + 1) cap] w fun e w' => e = .returned (.float .f32 (divN (sumS D lo m) (wholeN ((m : Int) + 1)))) ∧ Below w.heap.size w w' := by
  obtain ⟨q1, q2, q3⟩ := whole_some (z := (m : Int) + 1) (by omega) (by omega) (by omega)
  have sl := sumS_le hD hO m hm
  have o1 := conv_i32 ((m : Int) + 1)
  have o2 := quo_f32 (div_le sl.2 q1 sl.1 q2 q3)
  obtain ⟨-, s0⟩ := hc lo (by omega)
  obtain ⟨d0, hd0⟩ : ∃ d0, d0 = (D.getD lo (0, 0)).2 := ⟨_, rfl⟩
  rw [← hd0] at s0
  replace hd0 := Hid.mk hd0
  obtain ⟨U, hU⟩ : ∃ U, U = wholeN ((m : Int) + 1) := ⟨_, rfl⟩
  obtain ⟨R, hR⟩ : ∃ R, R = divN (sumS D lo m) U := ⟨_, rfl⟩
  rw [← hU, ← hR] at o2
  rw [← hU] at o1 ⊢
  rw [← hR]
  have hm1 : (0 : Int) < ((m + 1 : Nat) : Int) := by omega
  clear q1 q2 q3 hU hR
  by_cases hc1 : cap = 1
  · subst hc1
    obtain rfl : m = 0 := by omega
    have e0 : sumS D lo 0 = d0 := hd0.out.symm
    rw [e0] at o2
    rw [show ((0 : Nat) : Int) + 1 = 1 from rfl] at o1
    clear hc hD hO sl e0 hd0 hm hcap
    go_enter Tryz.func56, Tryz.ntmps56
    go_wp2
    go_loopw [3, 13] (fun v x wr => x = .int .i64 0 ∧ v = .float .f32 d0 ∧ wr = w) (fun _ x _ => 0)
    case atStart => exact ⟨rfl, rfl, rfl⟩
    case round =>
      obtain ⟨rfl, rfl, rfl⟩ := hrel
      go_wp2
      go_ret
      exact ⟨rfl, Below.refl _ _⟩
  · have hc2 : ¬ 1 = cap := fun e => hc1 e.symm
    have hc3 : 1 < cap := by omega
    go_enter Tryz.func56, Tryz.ntmps56
    go_wp2
    go_loopw [3, 13] (fun v x wr => ∃ k : Nat, k ≤ m ∧ x = .int .i64 (k : Int) ∧ v = .float .f32 (sumS D lo k) ∧ Below w.heap.size w wr) (fun _ x _ => m - (intOf x).toNat)
    case atStart => exact ⟨0, by omega, rfl, by rw [hd0.out]; rfl, Below.refl _ _⟩
    case round =>
      obtain ⟨k, hk, rfl, rfl, hB⟩ := hrel
      by_cases hlt : k < m
      · have hlt' : (k : Int) < (m : Int) := by omega
        have hk0 : (0 : Int) ≤ (k : Int) := by omega
        obtain ⟨p0, p1⟩ := hc (lo + (k + 1)) (by omega)
        have hbl : b < w.heap.size := World.block_lt_of_cell? _ _ p0
        have r0 := (hB.cell (p := ⟨b, off + (lo + (k + 1)) * 2, none⟩) hbl).trans p0
        have r1 := (hB.cell (p := ⟨b, off + (lo + (k + 1)) * 2 + 1, none⟩) hbl).trans p1
        have eo : off + (lo + (k + 1)) * 2 = off + lo * 2 + 2 + k * 2 := by omega
        rw [eo] at r0 r1
        have sk := sumS_le hD hO (lo := lo) k (by omega)
        have oa := add_f32 (add_some2 sk.2 (hD.getD (lo + (k + 1))).2 sk.1 (gB_parts (inO_true.1 hO (lo + (k + 1)) (by omega))).1.2)
        have hsn : Hid (addN (sumS D lo k) (D.getD (lo + (k + 1)) (0, 0)).2 = sumS D lo (k + 1)) := ⟨rfl⟩
        generalize (D.getD (lo + (k + 1)) (0, 0)).1 = x at *
        generalize (D.getD (lo + (k + 1)) (0, 0)).2 = y at *
        generalize sumS D lo k = S at *
        generalize addN S y = T at *
        obtain ⟨X, hX⟩ : ∃ X, wr.alloc (.cells #[.int .i64 x, .float .f32 y] 64) = X := ⟨_, rfl⟩
        have t1 : X.cell? ⟨wr.heap.size, 1, none⟩ = some (.float .f32 y) := by rw [← hX]; simp
        have hBX : Below w.heap.size w X := by rw [← hX]; exact hB.alloc hB.size _
        replace hX := Hid.mk hX
        clear hc hD hO sl sk p0 p1 hd0 eo o1 o2 s0 hB
        go_upto_region 5 with fail
        rw [hX.out]
        go_wp2
        go_roundw
        case rel => exact ⟨k + 1, by omega, by go_num, by rw [hsn.out], hBX⟩
        case measure => simp [intOf]; omega
      · obtain rfl : k = m := by omega
        clear hc hD hO sl hd0 s0
        go_wp2
        go_ret
        exact ⟨rfl, hB⟩
end Go.Proofs.YthmjkmdbggfiiaaGreatDoor.CF


namespace Go.Proofs.YthmjkmdbggfiiaaGreatDoor.CF

theorem rne_mono {n m g : Nat} (h : n ≤ m) : rne n g ≤ rne m g := by
  unfold rne
  have h1 : n / g ≤ m / g := Nat.div_le_div_right h
  have e1 := Nat.div_add_mod n g
  have e2 := Nat.div_add_mod m g
  by_cases hq : n / g = m / g
  · rw [hq] at e1 ⊢
    generalize m / g = q at *
    generalize n % g = r1 at *
    generalize m % g = r2 at *
    have h2 : r1 ≤ r2 := by omega
    split
    · rename_i hc
      rw [if_pos]
      · exact Nat.le_refl _
      · rcases hc with hc | ⟨hc, ho⟩
        · exact .inl (by omega)
        · by_cases h3 : r1 = r2
          · subst h3; exact .inr ⟨hc, ho⟩
          · exact .inl (by omega)
    · omega
  · split <;> split <;> omega
theorem rne_up {n g B : Nat} (hg : 0 < g) (h : n ≤ B * g) : rne n g ≤ B := by
  unfold rne
  have h1 : n / g ≤ B := Nat.div_le_of_le_mul (by rw [Nat.mul_comm]; exact h)
  by_cases hq : n / g = B
  · have e1 := Nat.div_add_mod n g
    rw [hq, Nat.mul_comm] at e1
    have h2 : n % g = 0 := by omega
    rw [h2, if_neg (by omega)]
    omega
  · split <;> omega
theorem rne_lo {n g B : Nat} (hg : 0 < g) (h : B * g ≤ n) : B ≤ rne n g := by
  unfold rne
  have h1 : B ≤ n / g := (Nat.le_div_iff_mul_le hg).2 h
  split <;> omega
/-- The greatest and the least that the rounded number can be. -/
theorem kept_up {N : Nat} {p : Int} : rne (N * 2 ^ (p - lastP p N.log2).toNat) (1 * 2 ^ (lastP p N.log2 - p).toNat) ≤ 16777216 := by
  refine rne_up (by rw [Nat.one_mul]; exact Nat.two_pow_pos _) ?_
  have h1 : N < 2 ^ (N.log2 + 1) := Nat.lt_log2_self
  have hL : p + N.log2 - 23 ≤ lastP p N.log2 := Int.le_max_left _ _
  generalize N.log2 = lg at *
  generalize lastP p lg = L at *
  have h2 : N * 2 ^ (p - L).toNat ≤ 2 ^ (lg + 1 + (p - L).toNat) := by rw [Nat.pow_add]; exact Nat.mul_le_mul_right _ (by omega)
  refine Nat.le_trans h2 ?_
  rw [Nat.one_mul, show 16777216 = 2 ^ 24 from rfl, ← Nat.pow_add]
  exact Nat.pow_le_pow_right (by decide) (by omega)
theorem kept_lo {N : Nat} {p : Int} (h0 : N ≠ 0) (hL : lastP p N.log2 = p + N.log2 - 23) : 8388608 ≤ rne (N * 2 ^ (p - lastP p N.log2).toNat) (1 * 2 ^ (lastP p N.log2 - p).toNat) := by
  refine rne_lo (by rw [Nat.one_mul]; exact Nat.two_pow_pos _) ?_
  have h1 : 2 ^ N.log2 ≤ N := Nat.log2_self_le h0
  generalize N.log2 = lg at *
  generalize lastP p lg = L at *
  have h2 : 2 ^ (lg + (p - L).toNat) ≤ N * 2 ^ (p - L).toNat := by rw [Nat.pow_add]; exact Nat.mul_le_mul_right _ h1
  refine Nat.le_trans ?_ h2
  rw [Nat.one_mul, show 8388608 = 2 ^ 23 from rfl, ← Nat.pow_add]
  exact Nat.pow_le_pow_right (by decide) (by omega)
/-- Rounding keeps the order. -/
theorem rung_mono {N M : Nat} {p : Int} (h0 : N ≠ 0) (h : N ≤ M) : rungQ N 1 p N.log2 ≤ rungQ M 1 p M.log2 := by
  have hl : N.log2 ≤ M.log2 := (Nat.le_log2 (by omega)).2 (Nat.le_trans (Nat.log2_self_le h0) h)
  have h149 : ∀ lg, -149 ≤ lastP p lg := fun lg => Int.le_max_right _ _
  unfold rungQ
  by_cases hL : lastP p N.log2 = lastP p M.log2
  · rw [hL]
    have := rne_mono (n := N * 2 ^ (p - lastP p M.log2).toNat) (m := M * 2 ^ (p - lastP p M.log2).toNat) (g := 1 * 2 ^ (lastP p M.log2 - p).toNat) (Nat.mul_le_mul_right _ h)
    omega
  · have hlt : lastP p N.log2 < lastP p M.log2 := by unfold lastP at hL ⊢; omega
    have h2 := kept_up (N := N) (p := p)
    have h3 := kept_lo (N := M) (p := p) (by omega) (by have := h149 N.log2; unfold lastP at hlt ⊢; omega)
    have := h149 N.log2
    have := h149 M.log2
    generalize rne (N * 2 ^ (p - lastP p N.log2).toNat) (1 * 2 ^ (lastP p N.log2 - p).toNat) = A at *
    generalize rne (M * 2 ^ (p - lastP p M.log2).toNat) (1 * 2 ^ (lastP p M.log2 - p).toNat) = B at *
    generalize lastP p N.log2 = L1 at *
    generalize lastP p M.log2 = L2 at *
    omega
end Go.Proofs.YthmjkmdbggfiiaaGreatDoor.CF


namespace Go.Proofs.YthmjkmdbggfiiaaGreatDoor.CF

/-- In units of the smallest height. -/
theorem near149 (s : Bool) (m : Nat) {e : Int} (h : -149 ≤ e) : Ieee.single.nearest s m e = Ieee.single.nearest s (m * 2 ^ (e + 149).toNat) (-149) := by
  have h1 := nearest_scale s m e (e + 149).toNat
  rw [show e - ((e + 149).toNat : Int) = -149 by omega] at h1
  exact h1.symm
/-- A height is told as it is. -/
theorem near_vR (s : Bool) {r : Nat} (h0 : r ≠ 0) (h : r < 2139095040) : Ieee.single.nearest s (vR r) (-149) = wd s r := by
  unfold vR
  by_cases hs : r / 8388608 = 0
  · rw [if_pos hs]
    have e : r % 8388608 = r := by omega
    rw [e, nearest_eq _ _ _ h0]
    have hl : r.log2 ≤ 22 := by have := (Nat.log2_lt h0 (k := 23)).2 (by omega); omega
    have hL : lastP (-149) r.log2 = -149 := by unfold lastP; omega
    unfold rungQ
    rw [hL]
    simp only [Int.sub_self, Int.toNat_zero, Nat.pow_zero, Nat.mul_one, rne_one]
    rw [show ((-149 : Int) + 149).toNat = 0 from rfl, Nat.zero_mul, Nat.zero_add, Nat.min_eq_left (by omega)]
  · rw [if_neg hs]
    obtain ⟨q, hq⟩ : ∃ q, r / 8388608 = q + 1 := ⟨r / 8388608 - 1, by omega⟩
    obtain ⟨f, hf⟩ : ∃ f, r % 8388608 = f := ⟨_, rfl⟩
    have hf2 : f < 8388608 := by rw [← hf]; exact Nat.mod_lt _ (by decide)
    have hr : r = 8388608 * (q + 1) + f := by rw [← hq, ← hf]; exact (Nat.div_add_mod r 8388608).symm
    rw [hq, hf, Nat.add_sub_cancel]
    have hm0 : (f + 8388608) * 2 ^ q ≠ 0 := Nat.mul_ne_zero (by omega) (Nat.pos_iff_ne_zero.1 (Nat.two_pow_pos q))
    have hlg : ((f + 8388608) * 2 ^ q).log2 = 23 + q := by
      rw [Nat.log2_eq_iff hm0]
      constructor
      · rw [Nat.pow_add]; exact Nat.mul_le_mul_right _ (by omega)
      · rw [show 23 + q + 1 = 24 + q by omega, Nat.pow_add]; exact Nat.mul_lt_mul_of_pos_right (by omega) (Nat.two_pow_pos q)
    rw [nearest_eq _ _ _ hm0, hlg]
    have hL : lastP (-149) (23 + q) = -149 + (q : Int) := by unfold lastP; omega
    unfold rungQ
    rw [hL]
    rw [show (-149 - (-149 + (q : Int))).toNat = 0 by omega, show (-149 + (q : Int) - -149).toNat = q by omega, show (-149 + (q : Int) + 149).toNat = q by omega, Nat.pow_zero, Nat.mul_one]
    have e2 : rne ((f + 8388608) * 2 ^ q) (1 * 2 ^ q) = f + 8388608 := by rw [rne_scale _ _ _ (Nat.two_pow_pos q), rne_one]
    rw [e2, Nat.min_eq_left (by omega)]
    congr 1
    omega
/-- Rounding keeps the order, in units of the smallest height. -/
theorem near_mono {N M : Nat} (h : N ≤ M) : Ieee.single.nearest false N (-149) ≤ Ieee.single.nearest false M (-149) := by
  by_cases h0 : N = 0
  · subst h0
    rw [nearest_zero, wd_false]
    exact Nat.zero_le _
  · rw [nearest_eq _ _ _ h0, nearest_eq _ _ _ (by omega), wd_false, wd_false]
    exact rung_mono h0 h
/-- What lies below a height is rounded to no more. -/
theorem near_below {N r : Nat} (hr : r < 2139095040) (h : N ≤ vR r) : Ieee.single.nearest false N (-149) ≤ r := by
  by_cases h0 : r = 0
  · subst h0
    rw [vR_zero] at h
    obtain rfl : N = 0 := by omega
    rw [nearest_zero, wd_false]
    exact Nat.le_refl _
  · have := near_mono h
    rw [near_vR false h0 hr, wd_false] at this
    exact this
theorem near_above {N r : Nat} (hr : r < 2139095040) (h : vR r ≤ N) : r ≤ Ieee.single.nearest false N (-149) := by
  by_cases h0 : r = 0
  · omega
  · have := near_mono h
    rw [near_vR false h0 hr, wd_false] at this
    exact this
end Go.Proofs.YthmjkmdbggfiiaaGreatDoor.CF


namespace Go.Proofs.YthmjkmdbggfiiaaGreatDoor.CF

theorem sumN_scale (s : Bool) (A : Nat) (t : Bool) (B : Nat) (e : Int) (k : Nat) : sumN s (A * 2 ^ k) t (B * 2 ^ k) (e - k) = sumN s A t B e := by
  have hp := Nat.two_pow_pos k
  unfold sumN
  by_cases h1 : s = t
  · rw [if_pos h1, if_pos h1, ← Nat.add_mul]
    exact nearest_scale _ _ _ _
  · rw [if_neg h1, if_neg h1]
    by_cases h2 : A = B
    · rw [if_pos h2, if_pos (by rw [h2])]
    · rw [if_neg h2, if_neg (fun e => h2 (Nat.eq_of_mul_eq_mul_right hp e))]
      by_cases h3 : B ≤ A
      · rw [if_pos h3, if_pos (Nat.mul_le_mul_right _ h3), ← Nat.sub_mul]
        exact nearest_scale _ _ _ _
      · rw [if_neg h3, if_neg (fun e => h3 (Nat.le_of_mul_le_mul_right e hp)), ← Nat.sub_mul]
        exact nearest_scale _ _ _ _
theorem sumN_comm (s : Bool) (A : Nat) (t : Bool) (B : Nat) (e : Int) : sumN s A t B e = sumN t B s A e := by
  unfold sumN
  by_cases h1 : s = t
  · rw [if_pos h1, if_pos h1.symm, h1, Nat.add_comm]
  · have h1' : ¬ t = s := fun e => h1 e.symm
    rw [if_neg h1, if_neg h1']
    by_cases h2 : A = B
    · rw [if_pos h2, if_pos h2.symm]
    · have h2' : ¬ B = A := fun e => h2 e.symm
      rw [if_neg h2, if_neg h2']
      by_cases h3 : B ≤ A
      · rw [if_pos h3, if_neg (by omega)]
      · rw [if_neg h3, if_pos (by omega)]
theorem val_eq {a b : Nat} (h : pE b ≤ pE a) : pM a * 2 ^ (pE a - pE b).toNat * 2 ^ (pE b + 149).toNat = vR (a % 2147483648) := by
  have := pE_le b
  rw [← vR_eq a, Nat.mul_assoc, ← Nat.pow_add]
  congr 2
  omega
/-- A sum, in units of the smallest height. -/
theorem addN_val {a b : Nat} (fa : a % 2147483648 < 2139095040) (fb : b % 2147483648 < 2139095040) : addN a b = sumN (pS a) (vR (a % 2147483648)) (pS b) (vR (b % 2147483648)) (-149) := by
  have hpa := pE_le a
  have hpb := pE_le b
  unfold addN
  rw [if_neg (by omega), if_neg (by omega), if_neg (by omega)]
  unfold swapF
  split
  · rw [addF_eq _ _ _ _ _ _ (by omega) (pM_lt b) (pM_lt a) (fun h => pM_norm (by omega)), sumN_comm, ← sumN_scale _ _ _ _ _ (pE a + 149).toNat, val_eq (by omega), vR_eq, show pE a - ((pE a + 149).toNat : Int) = -149 by omega]
  · rw [addF_eq _ _ _ _ _ _ (by omega) (pM_lt a) (pM_lt b) (fun h => pM_norm (by omega)), ← sumN_scale _ _ _ _ _ (pE b + 149).toNat, val_eq (by omega), vR_eq, show pE b - ((pE b + 149).toNat : Int) = -149 by omega]
/-- The value of a height, in units of the smallest. -/
def sv (a : Nat) : Int := if 2147483648 ≤ a then -(vR (a % 2147483648) : Int) else (vR (a % 2147483648) : Int)
theorem sv_lt {a b : Nat} (ha : a < 4294967296) (hb : b < 4294967296) : sv a < sv b ↔ ordN a < ordN b := by
  have i1 := vR_iff (a % 2147483648) (b % 2147483648)
  have i2 := vR_iff (b % 2147483648) (a % 2147483648)
  have i3 := vR_iff 0 (a % 2147483648)
  have i4 := vR_iff 0 (b % 2147483648)
  rw [vR_zero] at i3 i4
  have e1 : 2147483648 ≤ a → a - 2147483648 = a % 2147483648 := fun h => by omega
  have e2 : ¬ 2147483648 ≤ a → a = a % 2147483648 := fun h => by omega
  have e3 : 2147483648 ≤ b → b - 2147483648 = b % 2147483648 := fun h => by omega
  have e4 : ¬ 2147483648 ≤ b → b = b % 2147483648 := fun h => by omega
  unfold sv ordN
  split <;> split <;> omega
end Go.Proofs.YthmjkmdbggfiiaaGreatDoor.CF


namespace Go.Proofs.YthmjkmdbggfiiaaGreatDoor.CF

theorem near_f (N : Nat) (p : Int) : Ieee.single.nearest false N p ≤ 2139095040 := by
  by_cases h : N = 0
  · subst h
    rw [nearest_zero, wd_false]
    omega
  · rw [nearest_eq _ _ _ h, wd_false]
    unfold rungQ
    exact Nat.min_le_right _ _
/-- A difference that is not below 0. -/
theorem subN_val {y l : Nat} (hy : y < 4294967296) (hl : l < 4294967296) (fy : y % 2147483648 < 2139095040) (fl : l % 2147483648 < 2139095040) (h : ordN l ≤ ordN y) : (subN y l = Ieee.single.nearest false (sv y - sv l).toNat (-149)) ∨ (subN y l = 2147483648 ∧ sv y - sv l = 0) := by
  have hs : ¬ sv y < sv l := fun e => by have := (sv_lt hy hl).1 e; omega
  have hm := negN_mod l hl
  unfold subN
  rw [addN_val fy (by rw [hm]; exact fl), hm]
  unfold sv at hs ⊢
  generalize vR (y % 2147483648) = A at *
  generalize vR (l % 2147483648) = B at *
  have ey : pS y = decide (2147483648 ≤ y) := rfl
  have el : pS (negN l) = decide (¬ 2147483648 ≤ l) := by
    unfold pS negN
    by_cases h1 : 2147483648 ≤ l
    · rw [if_pos h1, decide_eq_false (by omega), decide_eq_false (by omega)]
    · rw [if_neg h1, decide_eq_true (by omega), decide_eq_true h1]
  rw [ey, el]
  clear ey el hm h
  by_cases h1 : 2147483648 ≤ y
  · rw [if_pos h1] at hs ⊢
    rw [decide_eq_true h1]
    by_cases h2 : 2147483648 ≤ l
    · rw [if_pos h2] at hs ⊢
      rw [decide_eq_false (by omega)]
      left
      unfold sumN
      rw [if_neg (by decide)]
      by_cases h3 : A = B
      · rw [if_pos h3, show (-(A : Int) - -(B : Int)).toNat = 0 by omega, nearest_zero, wd_false]
      · rw [if_neg h3, if_neg (by omega), show (-(A : Int) - -(B : Int)).toNat = B - A by omega]
    · rw [if_neg h2] at hs ⊢
      rw [decide_eq_true h2]
      right
      have h3 : A = 0 ∧ B = 0 := by omega
      rw [h3.1, h3.2]
      unfold sumN
      rw [if_pos rfl, nearest_zero]
      exact ⟨rfl, rfl⟩
  · rw [if_neg h1] at hs ⊢
    rw [decide_eq_false h1]
    left
    by_cases h2 : 2147483648 ≤ l
    · rw [if_pos h2] at hs ⊢
      rw [decide_eq_false (by omega)]
      unfold sumN
      rw [if_pos rfl, show ((A : Int) - -(B : Int)).toNat = A + B by omega]
    · rw [if_neg h2] at hs ⊢
      rw [decide_eq_true h2]
      unfold sumN
      rw [if_neg (by decide)]
      by_cases h3 : A = B
      · rw [if_pos h3, show ((A : Int) - (B : Int)).toNat = 0 by omega, nearest_zero, wd_false]
      · rw [if_neg h3, if_pos (by omega), show ((A : Int) - (B : Int)).toNat = A - B by omega]
/-- Differences keep the order. -/
theorem subN_mono {x y l : Nat} (hx : x < 4294967296) (hy : y < 4294967296) (hl : l < 4294967296) (fx : x % 2147483648 < 2139095040) (fy : y % 2147483648 < 2139095040) (fl : l % 2147483648 < 2139095040) (h1 : ordN l ≤ ordN x) (h2 : ordN x ≤ ordN y) : subN x l % 2147483648 ≤ subN y l % 2147483648 := by
  have hs : ¬ sv y < sv x := fun e => by have := (sv_lt hy hx).1 e; omega
  have k1 := near_f (sv x - sv l).toNat (-149)
  have k2 := near_f (sv y - sv l).toNat (-149)
  rcases subN_val hx hl fx fl h1 with e1 | ⟨e1, -⟩
  · rcases subN_val hy hl fy fl (by omega) with e2 | ⟨e2, e3⟩
    · rw [e1, e2]
      have := near_mono (N := (sv x - sv l).toNat) (M := (sv y - sv l).toNat) (by omega)
      omega
    · rw [e1, e2, show (sv x - sv l).toNat = 0 by omega, nearest_zero, wd_false]
      omega
  · rw [e1]
    omega
end Go.Proofs.YthmjkmdbggfiiaaGreatDoor.CF


namespace Go.Proofs.YthmjkmdbggfiiaaGreatDoor.CF

theorem norm_pad {m : Nat} (h0 : m ≠ 0) (h : m < 16777216) : 8388608 ≤ m * 2 ^ padN m ∧ m * 2 ^ padN m < 16777216 ∧ padN m ≤ 23 := by
  have hl : m.log2 ≤ 23 := by have := (Nat.log2_lt h0 (k := 24)).2 (by omega); omega
  have h1 := Nat.log2_self_le h0
  have h2 : m < 2 ^ (m.log2 + 1) := Nat.lt_log2_self
  have e : m.log2 + padN m = 23 := by unfold padN; omega
  refine ⟨?_, ?_, by omega⟩
  · have := Nat.mul_le_mul_right (2 ^ padN m) h1
    rw [← Nat.pow_add, e] at this
    exact this
  · have := Nat.mul_lt_mul_of_pos_right h2 (Nat.two_pow_pos (padN m))
    rw [← Nat.pow_add, show m.log2 + 1 + padN m = 24 by omega] at this
    exact this
/-- A quotient of a height by one that is not below it is 1 at most. -/
theorem div_one {a b : Nat} (fa : a % 2147483648 < 2139095040) (hb : pM b ≠ 0) (h : a % 2147483648 ≤ b % 2147483648) : divN a b % 2147483648 ≤ 1065353216 := by
  unfold divN
  rw [if_neg (by omega)]
  by_cases ha : pM a = 0
  · rw [if_pos ha]
    unfold wd
    split <;> omega
  · rw [if_neg ha]
    obtain ⟨a1, a2, a3⟩ := norm_pad ha (pM_lt a)
    obtain ⟨b1, b2, b3⟩ := norm_pad hb (pM_lt b)
    have ea := pE_le a
    have eb := pE_le b
    have hv : vR (a % 2147483648) ≤ vR (b % 2147483648) := by
      rcases Nat.lt_or_eq_of_le h with h1 | h1
      · exact Nat.le_of_lt (vR_lt h1)
      · rw [h1]; exact Nat.le_refl _
    rw [← vR_eq a, ← vR_eq b] at hv
    generalize (pS a != pS b) = s
    generalize hA : pM a * 2 ^ padN (pM a) = A at *
    generalize hB : pM b * 2 ^ padN (pM b) = B at *
    obtain ⟨i, hi⟩ : ∃ i : Nat, (i : Int) = pE a - padN (pM a) + 172 := ⟨(pE a - padN (pM a) + 172).toNat, by omega⟩
    obtain ⟨j, hj⟩ : ∃ j : Nat, (j : Int) = pE b - padN (pM b) + 172 := ⟨(pE b - padN (pM b) + 172).toNat, by omega⟩
    have hAB : A * 2 ^ i ≤ B * 2 ^ j := by
      have := Nat.mul_le_mul_right (2 ^ 23) hv
      rw [Nat.mul_assoc, Nat.mul_assoc, ← Nat.pow_add, ← Nat.pow_add] at this
      rw [← hA, ← hB, Nat.mul_assoc, Nat.mul_assoc, ← Nat.pow_add, ← Nat.pow_add, show padN (pM a) + i = (pE a + 149).toNat + 23 by omega, show padN (pM b) + j = (pE b + 149).toNat + 23 by omega]
      exact this
    have hij : i ≤ j := by
      apply Classical.byContradiction
      intro hc
      have h1 : 2 ^ (j + 1) ≤ 2 ^ i := Nat.pow_le_pow_right (by decide) (by omega)
      have h2 : A * 2 ^ (j + 1) ≤ A * 2 ^ i := Nat.mul_le_mul_left _ h1
      rw [Nat.pow_succ] at h2
      have h3 : 8388608 * (2 ^ j * 2) ≤ A * (2 ^ j * 2) := Nat.mul_le_mul_right _ a1
      have h4 : B * 2 ^ j < 16777216 * 2 ^ j := Nat.mul_lt_mul_of_pos_right b2 (Nat.two_pow_pos j)
      omega
    obtain ⟨d, rfl⟩ : ∃ d, j = i + d := ⟨j - i, by omega⟩
    have hd : A ≤ B * 2 ^ d := by
      rw [Nat.pow_add, Nat.mul_comm (2 ^ i), ← Nat.mul_assoc] at hAB
      exact Nat.le_of_mul_le_mul_right hAB (Nat.two_pow_pos i)
    have hB0 : 0 < B := by omega
    have hX : A * 2 ^ 38 ≤ 2 ^ (38 + d) * B := by
      have := Nat.mul_le_mul_right (2 ^ 38) hd
      rw [Nat.pow_add]
      generalize 2 ^ d = P at *
      generalize (2 : Nat) ^ 38 = K at *
      rw [Nat.mul_comm (K * P) B, Nat.mul_comm K P, ← Nat.mul_assoc]
      exact this
    have hq : A * 2 ^ 38 / B ≤ 2 ^ (38 + d) := Nat.div_le_of_le_mul (by rw [Nat.mul_comm B]; exact hX)
    have hq0 : 16777216 ≤ A * 2 ^ 38 / B := by rw [Nat.le_div_iff_mul_le hB0]; omega
    rw [rnd_eq _ _ _ _ (fun _ => hq0)]
    generalize A * 2 ^ 38 = X at *
    have hN : 2 * (X / B) + (decide (0 < X % B)).toNat ≤ 2 ^ (39 + d) := by
      rw [show 39 + d = 38 + d + 1 by omega, Nat.pow_succ]
      by_cases hs : 0 < X % B
      · rw [decide_eq_true hs]
        have e1 := Nat.div_add_mod (X) B
        have : X / B ≠ 2 ^ (38 + d) := fun e => by rw [e, Nat.mul_comm] at e1; omega
        show _ + 1 ≤ _
        omega
      · rw [decide_eq_false hs]
        show _ + 0 ≤ _
        omega
    generalize 2 * (X / B) + (decide (0 < X % B)).toNat = N at *
    have hp : pE a - (padN (pM a) : Int) - (pE b - (padN (pM b) : Int)) - 38 - 1 = 0 - ((39 + d : Nat) : Int) := by omega
    rw [hp]
    have hone : Ieee.single.nearest false (1 * 2 ^ (39 + d)) (0 - ((39 + d : Nat) : Int)) = 1065353216 := by
      rw [nearest_scale]
      decide
    rw [Nat.one_mul] at hone
    by_cases hN0 : N = 0
    · subst hN0
      rw [nearest_zero]
      unfold wd
      split <;> omega
    · have hM0 : 2 ^ (39 + d) ≠ 0 := Nat.pos_iff_ne_zero.1 (Nat.two_pow_pos _)
      rw [nearest_eq _ _ _ hM0, wd_false] at hone
      rw [nearest_eq _ _ _ hN0]
      have := rung_mono (p := 0 - ((39 + d : Nat) : Int)) hN0 hN
      rw [hone] at this
      unfold wd
      split <;> omega
end Go.Proofs.YthmjkmdbggfiiaaGreatDoor.CF

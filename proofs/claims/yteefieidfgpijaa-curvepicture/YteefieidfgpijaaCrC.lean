import Derived.Test.YteefieidfgpijaaCrB
namespace Go.Proofs.Yteefieidfgpijaa.CF
open Go.RowKit
attribute [local go_sem] run_store_float

theorem conv_i32 (z : Int) (w : World) : (convert 3 33 (.int .i64 z)).run Try.prog w = .ok (.float .f32 (wholeN z)) w := by
  rw [run_convert_int_float w 3 33 .i64 .f32 z (by rw [Try.underlying3]; rfl) Try.underlying33]
  rw [wholeN_eq]
  rfl
theorem add_some2 {a b : Nat} (ha : a < 4294967296) (hb : b < 4294967296) (h1 : a % 2147483648 ≤ 2139095040) (h2 : b % 2147483648 < 2139095040) : Ieee.single.add a b = some (addN a b) := by
  by_cases f : a % 2147483648 < 2139095040
  · exact add_some ha hb f (by omega)
  · have h := addN_eq ha hb
    unfold Ieee.Format.add at h ⊢
    rw [read_inf ha (by omega), read_fin hb h2] at h ⊢
    rw [h]
    rfl
theorem addN_le2 {a b : Nat} (ha : a < 4294967296) (hb : b < 4294967296) (h1 : a % 2147483648 ≤ 2139095040) (h2 : b % 2147483648 < 2139095040) : addN a b % 2147483648 ≤ 2139095040 ∧ addN a b < 4294967296 := by
  by_cases f : a % 2147483648 < 2139095040
  · exact addN_le hb f (by omega)
  · unfold addN
    rw [if_neg (by omega), if_pos (by omega)]
    exact ⟨h1, ha⟩
/-- The sum of n + 1 heights from lo on. -/
def sumS (D : Dots) (lo : Nat) : Nat → Nat
  | 0 => (D.getD lo (0, 0)).2
  | n + 1 => addN (sumS D lo n) (D.getD (lo + (n + 1)) (0, 0)).2
theorem sumS_le {D : Dots} (hD : Ok D) (hO : inO D = true) {lo : Nat} : ∀ n, lo + n < D.length → sumS D lo n % 2147483648 ≤ 2139095040 ∧ sumS D lo n < 4294967296
  | 0, h => ⟨Nat.le_of_lt (gB_parts (inO_true.1 hO lo h)).1.2, (hD.getD lo).2⟩
  | n + 1, h => by
    have ih := sumS_le hD hO (lo := lo) n (by omega)
    exact addN_le2 ih.2 (hD.getD (lo + (n + 1))).2 ih.1 (gB_parts (inO_true.1 hO (lo + (n + 1)) h)).1.2
def loN (i r : Nat) : Nat := i - r
def hiN (i r n : Nat) : Nat := min (i + r + 1) n
def meanN (D : Dots) (lo hi : Nat) : Nat := divN (sumS D lo (hi - lo - 1)) (wholeN ((hi : Int) - (lo : Int)))
def smoothN (D : Dots) (r : Nat) : Nat → Dots
  | 0 => []
  | k + 1 => smoothN D r k ++ [((D.getD k (0, 0)).1, meanN D (loN k r) (hiN k r D.length))]
theorem smoothN_len (D : Dots) (r : Nat) : ∀ k, (smoothN D r k).length = k
  | 0 => rfl
  | k + 1 => by
    unfold smoothN
    rw [List.length_append, smoothN_len D r k]
    rfl
set_option maxRecDepth 8000 in
set_option maxHeartbeats 2000000 in
/-- The mean of a piece of the list. -/
theorem mean_any (D : Dots) (hD : Ok D) (hO : inO D = true) (hl : D.length ≤ 8796093021952) (b off : Nat) (lo m cap : Nat) (hm : lo + m < D.length) (hcap : m + 1 ≤ cap) (w : World) (hc : ∀ i, i < D.length → w.cell? ⟨b, off + i * 2, none⟩ = some (.int .i64 (D.getD i (0, 0)).1) ∧ w.cell? ⟨b, off + i * 2 + 1, none⟩ = some (.float .f32 (D.getD i (0, 0)).2)) : Calls Try.prog 30 #[.slice (some ⟨b, off + lo * 2, none⟩) (m + 1) cap] w fun e w' => e = .returned (.float .f32 (divN (sumS D lo m) (wholeN ((m : Int) + 1)))) ∧ Below w.heap.size w w' := by
  obtain ⟨q1, q2, q3⟩ := whole_some (z := (m : Int) + 1) (by omega) (by omega) (by omega)
  have sl := sumS_le hD hO m hm
  have o1 := conv_i32 ((m : Int) + 1)
  have o2 := quo_f32 (div_le sl.2 q1 sl.1 q2 q3)
  obtain ⟨-, s0⟩ := hc lo (by omega)
  obtain ⟨d0, hd0⟩ : ∃ d0, d0 = (D.getD lo (0, 0)).2 := ⟨_, rfl⟩
  rw [← hd0] at s0
  replace hd0 := Hid.mk hd0
  obtain ⟨U, hU⟩ : ∃ U, U = wholeN ((m : Int) + 1) := ⟨_, rfl⟩
  obtain ⟨R, hR⟩ : ∃ R, R = divN (sumS D lo m) U := ⟨_, rfl⟩
  rw [← hU, ← hR] at o2
  rw [← hU] at o1 ⊢
  rw [← hR]
  have hm1 : (0 : Int) < ((m + 1 : Nat) : Int) := by omega
  clear q1 q2 q3 hU hR
  by_cases hc1 : cap = 1
  · subst hc1
    obtain rfl : m = 0 := by omega
    have e0 : sumS D lo 0 = d0 := hd0.out.symm
    rw [e0] at o2
    rw [show ((0 : Nat) : Int) + 1 = 1 from rfl] at o1
    clear hc hD hO sl e0 hd0 hm hcap
    go_enter Try.func30, Try.ntmps30
    go_wp2
    go_loopw [3, 13] (fun v x wr => x = .int .i64 0 ∧ v = .float .f32 d0 ∧ wr = w) (fun _ x _ => 0)
    case atStart => exact ⟨rfl, rfl, rfl⟩
    case round =>
      obtain ⟨rfl, rfl, rfl⟩ := hrel
      go_wp2
      go_ret
      exact ⟨rfl, Below.refl _ _⟩
  · have hc2 : ¬ 1 = cap := fun e => hc1 e.symm
    have hc3 : 1 < cap := by omega
    go_enter Try.func30, Try.ntmps30
    go_wp2
    go_loopw [3, 13] (fun v x wr => ∃ k : Nat, k ≤ m ∧ x = .int .i64 (k : Int) ∧ v = .float .f32 (sumS D lo k) ∧ Below w.heap.size w wr) (fun _ x _ => m - (intOf x).toNat)
    case atStart => exact ⟨0, by omega, rfl, by rw [hd0.out]; rfl, Below.refl _ _⟩
    case round =>
      obtain ⟨k, hk, rfl, rfl, hB⟩ := hrel
      by_cases hlt : k < m
      · have hlt' : (k : Int) < (m : Int) := by omega
        have hk0 : (0 : Int) ≤ (k : Int) := by omega
        obtain ⟨p0, p1⟩ := hc (lo + (k + 1)) (by omega)
        have hbl : b < w.heap.size := World.block_lt_of_cell? _ _ p0
        have r0 := (hB.cell (p := ⟨b, off + (lo + (k + 1)) * 2, none⟩) hbl).trans p0
        have r1 := (hB.cell (p := ⟨b, off + (lo + (k + 1)) * 2 + 1, none⟩) hbl).trans p1
        have eo : off + (lo + (k + 1)) * 2 = off + lo * 2 + 2 + k * 2 := by omega
        rw [eo] at r0 r1
        have sk := sumS_le hD hO (lo := lo) k (by omega)
        have oa := add_f32 (add_some2 sk.2 (hD.getD (lo + (k + 1))).2 sk.1 (gB_parts (inO_true.1 hO (lo + (k + 1)) (by omega))).1.2)
        have hsn : Hid (addN (sumS D lo k) (D.getD (lo + (k + 1)) (0, 0)).2 = sumS D lo (k + 1)) := ⟨rfl⟩
        generalize (D.getD (lo + (k + 1)) (0, 0)).1 = x at *
        generalize (D.getD (lo + (k + 1)) (0, 0)).2 = y at *
        generalize sumS D lo k = S at *
        generalize addN S y = T at *
        obtain ⟨X, hX⟩ : ∃ X, wr.alloc (.cells #[.int .i64 x, .float .f32 y] 35) = X := ⟨_, rfl⟩
        have t1 : X.cell? ⟨wr.heap.size, 1, none⟩ = some (.float .f32 y) := by rw [← hX]; simp
        have hBX : Below w.heap.size w X := by rw [← hX]; exact hB.alloc hB.size _
        replace hX := Hid.mk hX
        clear hc hD hO sl sk p0 p1 hd0 eo o1 o2 s0 hB
        go_upto_region 5 with fail
        rw [hX.out]
        go_wp2
        go_roundw
        case rel => exact ⟨k + 1, by omega, by go_num, by rw [hsn.out], hBX⟩
        case measure => simp [intOf]; omega
      · obtain rfl : k = m := by omega
        clear hc hD hO sl hd0 s0
        go_wp2
        go_ret
        exact ⟨rfl, hB⟩
end Go.Proofs.Yteefieidfgpijaa.CF

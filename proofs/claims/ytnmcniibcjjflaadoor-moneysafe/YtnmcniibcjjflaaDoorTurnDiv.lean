import Derived.Test.YtnmcniibcjjflaaDoorTurnScale
import Derived.Lib.BitFns
import Derived.Lib.Walk
import Derived.Lib.Strings
import Derived.Laws.Shifts
namespace Go.Proofs.YtnmcniibcjjflaaDoor
open Go.RowKit

theorem lt_bitLenAux : ∀ (f x : Nat), x < 2 ^ f → x < 2 ^ Lib.bitLenAux f x
  | 0, x, h => by simpa [Lib.bitLenAux] using h
  | f + 1, x, h => by
    unfold Lib.bitLenAux
    split
    · rename_i h0
      rw [h0]
      decide
    · have := lt_bitLenAux f (x / 2) (by rw [Nat.pow_succ] at h; omega)
      rw [Nat.add_comm, Nat.pow_succ]
      omega

theorem lt_bitLen (y : Nat) (h : y < 4294967296) : y < 2 ^ Lib.bitLen y := lt_bitLenAux 64 y (by omega)

theorem tab_size : (Lib.len8tab.size : Int) = 256 := by rw [Lib.len8tab_size]; rfl

/-- The table's byte at y, as a number: how many bits y has. -/
theorem tab_at (y : Int) (h0 : 0 ≤ y) (h1 : y < 256) (h : y.toNat < Lib.len8tab.size) : ((Lib.len8tab[y.toNat]'h).toNat : Int) = (Lib.bitLen y.toNat : Int) ∧ Lib.bitLen y.toNat ≤ 8 := by
  refine ⟨?_, Lib.bitLen_le8' y h0 (by omega)⟩
  rw [← Lib.len8_of y h0 (by omega)]
  unfold Lib.len8
  rw [getElem?_pos Lib.len8tab y.toNat h]
  rfl

theorem wrap_two (k a b : Nat) (hk : k ≤ 56) (ha : a ≤ 8) (hb : b = k + a) : wrap64 ((k : Int) + wrap64 (a : Int)) = (b : Int) := by
  unfold wrap64
  omega

set_option maxRecDepth 1000000 in
set_option maxHeartbeats 4000000 in
theorem len64_any (x : Int) (h0 : 0 ≤ x) (hx : x < 4294967296) (w : World) :
    Calls Tryd.prog 82 #[.int .u64 x] w fun e w' => e = .returned (.int .i64 (Lib.bitLen x.toNat : Int)) ∧ w' = w := by
  have hs := tab_size
  go_enter Tryd.func82, Tryd.ntmps82
  go_wp2
  · go_ret
    refine ⟨congrArg Ending.returned (congrArg (Value.int IntKind.i64) ?_), rfl⟩
    obtain ⟨e1, l1⟩ := tab_at (x / 65536 / 256) (by omega) (by omega) (by omega)
    rw [e1]
    refine wrap_two 24 _ _ (by omega) l1 ?_
    rw [Lib.bitLen_shift24 x.toNat (by omega) (by omega)]
    congr 2
    omega
  · go_ret
    refine ⟨congrArg Ending.returned (congrArg (Value.int IntKind.i64) ?_), rfl⟩
    obtain ⟨e1, l1⟩ := tab_at (x / 65536) (by omega) (by omega) (by omega)
    rw [e1]
    refine wrap_two 16 _ _ (by omega) l1 ?_
    rw [Lib.bitLen_shift16 x.toNat (by omega) (by omega)]
    congr 2
    omega
  · go_ret
    refine ⟨congrArg Ending.returned (congrArg (Value.int IntKind.i64) ?_), rfl⟩
    obtain ⟨e1, l1⟩ := tab_at (x / 256) (by omega) (by omega) (by omega)
    rw [e1]
    refine wrap_two 8 _ _ (by omega) l1 ?_
    rw [Lib.bitLen_shift8 x.toNat (by omega) (by omega)]
    congr 2
    omega
  · go_ret
    refine ⟨congrArg Ending.returned (congrArg (Value.int IntKind.i64) ?_), rfl⟩
    obtain ⟨e1, l1⟩ := tab_at x (by omega) (by omega) (by omega)
    rw [e1]
    unfold wrap64
    omega

theorem long_div (hi lo y A B T : Nat) (hT : 0 < T) (hB : 0 < B) (hA : A = T * 4294967296) (hTB : T * B = 4294967296) (hhi : hi < y) (hlo : lo < 18446744073709551616) :
    hi * A + lo / B < y * T * 4294967296 ∧ lo % B * T < 4294967296 ∧ (hi * A + lo / B) % (y * T) * 4294967296 + lo % B * T < y * T * 4294967296 ∧
    (hi * A + lo / B) / (y * T) * 4294967296 + ((hi * A + lo / B) % (y * T) * 4294967296 + lo % B * T) / (y * T) = (hi * 18446744073709551616 + lo) / y ∧
    ((hi * A + lo / B) % (y * T) * 4294967296 + lo % B * T) % (y * T) = T * ((hi * 18446744073709551616 + lo) % y) := by
  have hAB : A * B = 18446744073709551616 := by
    rw [hA, Nat.mul_right_comm, hTB]
  have hyT : 0 < y * T := Nat.mul_pos (by omega) hT
  have h1 : lo / B < A := by
    rw [Nat.div_lt_iff_lt_mul hB, hAB]; exact hlo
  have h2 : hi * A + lo / B < y * T * 4294967296 := by
    have : y * T * 4294967296 = y * A := by rw [hA, Nat.mul_assoc]
    rw [this]
    have : (hi + 1) * A ≤ y * A := Nat.mul_le_mul_right _ hhi
    rw [Nat.add_mul, Nat.one_mul] at this
    omega
  have h3 : lo % B * T < 4294967296 := by
    rw [← hTB, Nat.mul_comm T B]
    exact Nat.mul_lt_mul_of_pos_right (Nat.mod_lt _ hB) hT
  have h4 : (hi * A + lo / B) * 4294967296 + lo % B * T = T * (hi * 18446744073709551616 + lo) := by
    have e1 : lo / B * 4294967296 = T * (lo / B * B) := by rw [← hTB]; simp only [Nat.mul_comm, Nat.mul_left_comm]
    have e2 : T * (lo / B * B) + lo % B * T = T * lo := by
      rw [Nat.mul_comm (lo % B) T, ← Nat.mul_add, Nat.mul_comm (lo / B) B, Nat.div_add_mod]
    have e3 : hi * A * 4294967296 = T * (hi * 18446744073709551616) := by
      rw [hA, show (18446744073709551616 : Nat) = 4294967296 * 4294967296 from rfl]
      simp only [Nat.mul_comm, Nat.mul_left_comm]
    rw [Nat.add_mul, e1, e3, Nat.mul_add, Nat.add_assoc, e2]
  obtain ⟨p, hp⟩ : ∃ p, hi * 18446744073709551616 + lo = p := ⟨_, rfl⟩
  obtain ⟨u, hu⟩ : ∃ u, hi * A + lo / B = u := ⟨_, rfl⟩
  obtain ⟨u1, hu1⟩ : ∃ u1, lo % B * T = u1 := ⟨_, rfl⟩
  simp only [hp, hu, hu1] at *
  have hlt := Nat.mod_lt u hyT
  have h5 : u % (y * T) * 4294967296 + u1 < y * T * 4294967296 := by
    have : (u % (y * T) + 1) * 4294967296 ≤ y * T * 4294967296 := Nat.mul_le_mul_right _ hlt
    omega
  have h6 : u * 4294967296 + u1 = (u / (y * T) * 4294967296) * (y * T) + (u % (y * T) * 4294967296 + u1) := by
    have := Nat.div_add_mod u (y * T)
    have e : u * 4294967296 = (y * T * (u / (y * T)) + u % (y * T)) * 4294967296 := by rw [this]
    rw [e, Nat.add_mul, Nat.mul_comm (y * T) (u / (y * T)), Nat.mul_right_comm, Nat.add_assoc]
  refine ⟨h2, h3, h5, ?_, ?_⟩
  · have e : (u * 4294967296 + u1) / (y * T) = p / y := by
      rw [h4, Nat.mul_comm y T, Nat.mul_div_mul_left _ _ hT]
    rw [← e, h6, Nat.add_comm, Nat.add_comm (u / (y * T) * 4294967296 * (y * T)), Nat.add_mul_div_right _ _ hyT]
  · have e : (u * 4294967296 + u1) % (y * T) = T * (p % y) := by
      rw [h4, Nat.mul_comm y T, Nat.mul_mod_mul_left]
    rw [← e, h6, Nat.add_comm (u / (y * T) * 4294967296 * (y * T)), Nat.add_mul_mod_self_right]

theorem lz64_any (y : Nat) (hy : y < 4294967296) (w : World) :
    Calls Tryd.prog 81 #[.int .u64 y] w fun e w' => e = .returned (.int .i64 ((64 - Lib.bitLen y : Nat) : Int)) ∧ w' = w := by
  have hl := len64_any (y : Int) (by omega) (by omega) w
  have hb := Lib.bitLen_le y 32 (by omega) hy
  obtain ⟨b, hb2⟩ : ∃ b, Lib.bitLen y = b := ⟨_, rfl⟩
  simp only [Int.toNat_natCast, hb2] at hl hb ⊢
  have e : ((64 - b : Nat) : Int) = 64 - b := by omega
  rw [e]
  go_enter Tryd.func81, Tryd.ntmps81
  go_wp2_with (go_at_call 82; refine hl.mono ?_; rintro e w' ⟨rfl, rfl⟩)
  go_ret
  exact ⟨rfl, rfl⟩

set_option maxHeartbeats 4000000 in
set_option maxRecDepth 100000 in
theorem div64_steps (hi lo y s Y n1 u v v1 q1 r t q0 r0 Q z R : Int) (w : World) (h0 : 0 < hi) (h1 : hi < y) (s0 : 32 ≤ s) (s1 : s ≤ 63)
    (hz : ∀ w : World, Calls Tryd.prog 81 #[.int .u64 y] w fun e w' => e = .returned (.int .i64 s) ∧ w' = w)
    (E1 : IntKind.u64.wrap (y * 2 ^ s.toNat) = Y) (E2 : Y / 4294967296 = n1) (hn : ¬ n1 = 0) (E3 : bits .and .u64 Y 4294967295 = 0)
    (E4 : bits .or .u64 (IntKind.u64.wrap (hi * 2 ^ s.toNat)) (lo / 2 ^ (64 - s).toNat) = u) (E5 : IntKind.u64.wrap (lo * 2 ^ s.toNat) = v) (E6 : v / 4294967296 = v1) (E7 : bits .and .u64 v 4294967295 = 0)
    (E8 : IntKind.u64.wrap (u.tdiv n1) = q1) (E9 : IntKind.u64.wrap (u - IntKind.u64.wrap (q1 * n1)) = r) (hq1 : ¬ 4294967296 ≤ q1) (hr1 : ¬ IntKind.u64.wrap (IntKind.u64.wrap (4294967296 * r) + v1) < 0)
    (E10 : IntKind.u64.wrap (IntKind.u64.wrap (IntKind.u64.wrap (u * 4294967296) + v1) - IntKind.u64.wrap (q1 * Y)) = t)
    (E11 : IntKind.u64.wrap (t.tdiv n1) = q0) (E12 : IntKind.u64.wrap (t - IntKind.u64.wrap (q0 * n1)) = r0) (hq0 : ¬ 4294967296 ≤ q0) (hr0 : ¬ IntKind.u64.wrap (IntKind.u64.wrap (4294967296 * r0)) < 0)
    (E13 : IntKind.u64.wrap (IntKind.u64.wrap (q1 * 4294967296) + q0) = Q) (E14 : IntKind.u64.wrap (IntKind.u64.wrap (IntKind.u64.wrap (t * 4294967296)) - IntKind.u64.wrap (q0 * Y)) = z) (E15 : z / 2 ^ s.toNat = R) :
    Calls Tryd.prog 76 #[.int .u64 hi, .int .u64 lo, .int .u64 y] w fun e w' => e = .returned (.tuple #[.int .u64 Q, .int .u64 R]) ∧ Below w.heap.size w w' := by
  go_enter Tryd.func76, Tryd.ntmps76
  go_wp2_with (go_at_call 81; refine (hz _).mono ?_; rintro e w' ⟨rfl, rfl⟩)
  refine wp_loop_rounds 1 ?_
  rw [rounds_succ]
  go_wp2
  refine wp_loop_rounds 1 ?_
  rw [rounds_succ]
  go_wp2
  go_ret2
  exact ⟨rfl, Below.refl _ _⟩

theorem wrapW (x : Int) : IntKind.u64.wrap (IntKind.u64.wrap x) = IntKind.u64.wrap x := by simp only [IntKind.wrap_u64, Int.emod_emod_of_dvd, Int.dvd_refl]
theorem wrapE (x y : Int) (t : Nat) (h : x - y = t) (ht : t < 18446744073709551616) : IntKind.u64.wrap (IntKind.u64.wrap x - IntKind.u64.wrap y) = (t : Int) := by
  simp only [IntKind.wrap_u64, Int.emod_sub_emod, Int.sub_emod_emod]
  rw [h]
  omega
theorem wrapD (x y v : Int) (t : Nat) (h : x + v - y = t) (ht : t < 18446744073709551616) : IntKind.u64.wrap (IntKind.u64.wrap (IntKind.u64.wrap x + v) - IntKind.u64.wrap y) = (t : Int) := by
  simp only [IntKind.wrap_u64, Int.emod_sub_emod, Int.sub_emod_emod, Int.emod_add_emod]
  rw [h]
  omega
theorem tdivN (a b : Nat) : Int.tdiv (a : Int) (b : Int) = ((a / b : Nat) : Int) := rfl

set_option maxHeartbeats 1000000 in
set_option maxRecDepth 100000 in
theorem divides_big (hi lo y : Nat) (h0 : 0 < hi) (h1 : hi < y) (h2 : y < 4294967296) (h4 : lo < 18446744073709551616) : Divides hi lo y (hi * 18446744073709551616 + lo) := by
  intro w
  have hb := Lib.bitLen_le y 32 (by omega) h2
  have hyb := lt_bitLen y h2
  have hlz := fun w => lz64_any y h2 w
  obtain ⟨b, hbb⟩ : ∃ b, Lib.bitLen y = b := ⟨_, rfl⟩
  simp only [hbb] at hb hyb hlz
  have b1 : 1 ≤ b := by
    cases b with
    | zero => simp at hyb; omega
    | succ n => omega
  obtain ⟨A, hAd⟩ : ∃ A, 2 ^ (64 - b) = A := ⟨_, rfl⟩
  obtain ⟨B, hBd⟩ : ∃ B, 2 ^ b = B := ⟨_, rfl⟩
  obtain ⟨T, hTd⟩ : ∃ T, 2 ^ (32 - b) = T := ⟨_, rfl⟩
  have hT : 0 < T := hTd ▸ Nat.two_pow_pos _
  have hB : 0 < B := hBd ▸ Nat.two_pow_pos _
  have hA : A = T * 4294967296 := by
    rw [← hAd, ← hTd, show (4294967296 : Nat) = 2 ^ 32 from rfl, ← Nat.pow_add]
    congr 1
    omega
  have hTB : T * B = 4294967296 := by
    rw [← hTd, ← hBd, ← Nat.pow_add, show 32 - b + b = 32 by omega]
  have hAB : A * B = 18446744073709551616 := by
    rw [← hAd, ← hBd, ← Nat.pow_add, show 64 - b + b = 64 by omega]
  rw [hBd] at hyb
  have hyA : y * A < 18446744073709551616 := by
    rw [← hAB, Nat.mul_comm A B]
    exact Nat.mul_lt_mul_of_pos_right hyb (by omega)
  have hhA : hi * A < 18446744073709551616 := Nat.lt_of_le_of_lt (Nat.mul_le_mul_right _ (Nat.le_of_lt h1)) hyA
  obtain ⟨g2, g3, g5, gq, gm⟩ := long_div hi lo y A B T hT hB hA hTB h1 h4
  have hlB : lo / B < A := by rw [Nat.div_lt_iff_lt_mul hB, hAB]; exact h4
  have hvA : lo % B * A < 18446744073709551616 := by
    rw [← hAB, Nat.mul_comm A B]
    exact Nat.mul_lt_mul_of_pos_right (Nat.mod_lt _ hB) (by omega)
  have hlA : lo * A % 18446744073709551616 = lo % B * A := by
    have e : lo * A = lo / B * 18446744073709551616 + lo % B * A := by
      have := Nat.div_add_mod lo B
      have e2 : lo * A = (B * (lo / B) + lo % B) * A := by rw [this]
      rw [e2, Nat.add_mul, ← hAB]
      simp only [Nat.mul_comm, Nat.mul_left_comm]
    rw [e, Nat.mul_comm (lo / B), Nat.mul_add_mod, Nat.mod_eq_of_lt hvA]
  have hyT : 0 < y * T := Nat.mul_pos (by omega) hT
  have eyA : y * A = y * T * 4294967296 := by rw [hA, Nat.mul_assoc]
  have evA : lo % B * A = lo % B * T * 4294967296 := by rw [hA, Nat.mul_assoc]
  have hor : hi * A ||| lo / B = hi * A + lo / B := by
    have := Nat.two_pow_add_eq_or_of_lt (i := 64 - b) (b := lo / B) (by rw [hAd]; exact hlB) hi
    rw [hAd, Nat.mul_comm] at this
    exact this.symm
  have hU : hi * A + lo / B < 18446744073709551616 := by rw [← eyA] at g2; omega
  have sA : ((64 - b : Nat) : Int).toNat = 64 - b := by omega
  have sB : ((64 : Int) - ((64 - b : Nat) : Int)).toNat = b := by omega
  have pA : ((2 : Int) ^ (64 - b)) = ((A : Nat) : Int) := by rw [← hAd]; simp
  have pB : ((2 : Int) ^ b) = ((B : Nat) : Int) := by rw [← hBd]; simp
  have hq := Nat.div_add_mod (hi * A + lo / B) (y * T)
  have hql : (hi * A + lo / B) / (y * T) < 4294967296 := by
    rw [Nat.div_lt_iff_lt_mul hyT, Nat.mul_comm 4294967296]; exact g2
  have hql0 : ((hi * A + lo / B) % (y * T) * 4294967296 + lo % B * T) / (y * T) < 4294967296 := by
    rw [Nat.div_lt_iff_lt_mul hyT, Nat.mul_comm 4294967296]; exact g5
  have hrl := Nat.mod_lt (hi * A + lo / B) hyT
  have hq0 := Nat.div_add_mod ((hi * A + lo / B) % (y * T) * 4294967296 + lo % B * T) (y * T)
  have hz : T * ((hi * 18446744073709551616 + lo) % y) * 4294967296 / A = (hi * 18446744073709551616 + lo) % y := by
    rw [Nat.mul_right_comm, ← hA, Nat.mul_comm, Nat.mul_div_cancel _ (by omega)]
  obtain ⟨U, eU⟩ : ∃ U, hi * A + lo / B = U := ⟨_, rfl⟩
  obtain ⟨V, eV⟩ : ∃ V, lo % B * T = V := ⟨_, rfl⟩
  obtain ⟨N, eN⟩ : ∃ N, y * T = N := ⟨_, rfl⟩
  simp only [eU, eV, eN] at g2 g3 g5 gq gm hU hq hql hql0 hrl hq0 eyA evA hyT
  obtain ⟨q1, eq1⟩ : ∃ q, U / N = q := ⟨_, rfl⟩
  obtain ⟨r1, er1⟩ : ∃ q, U % N = q := ⟨_, rfl⟩
  simp only [eq1, er1] at g5 gq gm hq hql hql0 hrl hq0
  obtain ⟨t, et⟩ : ∃ t, r1 * 4294967296 + V = t := ⟨_, rfl⟩
  simp only [et] at g5 gq gm hql0 hq0
  obtain ⟨q0, eq0⟩ : ∃ q, t / N = q := ⟨_, rfl⟩
  obtain ⟨r0, er0⟩ : ∃ q, t % N = q := ⟨_, rfl⟩
  simp only [eq0, er0] at gq gm hql0 hq0
  have hr0 : r0 < N := er0 ▸ Nat.mod_lt _ hyT
  obtain ⟨c1, ec1⟩ : ∃ c, N * q1 = c := ⟨_, rfl⟩
  obtain ⟨c0, ec0⟩ : ∃ c, N * q0 = c := ⟨_, rfl⟩
  rw [ec1] at hq
  rw [ec0] at hq0
  have m1 : (q1 : Int) * (N : Int) = (c1 : Int) := by rw [mulN, Nat.mul_comm, ec1]
  have m0 : (q0 : Int) * (N : Int) = (c0 : Int) := by rw [mulN, Nat.mul_comm, ec0]
  have k1 : (q1 : Int) * ((y * A : Nat) : Int) = (c1 : Int) * 4294967296 := by
    rw [eyA, ← m1, Int.mul_assoc]
    congr 1
  have k0 : (q0 : Int) * ((y * A : Nat) : Int) = (c0 : Int) * 4294967296 := by
    rw [eyA, ← m0, Int.mul_assoc]
    congr 1
  have hN : N * 4294967296 < 18446744073709551616 := eyA ▸ hyA
  have hzz : T * ((hi * 18446744073709551616 + lo) % y) * 4294967296 = r0 * 4294967296 := by rw [← gm]
  rw [hzz] at hz
  have hrM : r0 * 4294967296 < 18446744073709551616 := Nat.lt_of_le_of_lt (Nat.mul_le_mul_right _ (Nat.le_of_lt hr0)) hN
  refine div64_steps hi lo y ((64 - b : Nat) : Int) ((y * A : Nat) : Int) (N : Int) (U : Int) ((lo % B * A : Nat) : Int) (V : Int) (q1 : Int) (r1 : Int)
    (t : Int) (q0 : Int) (r0 : Int) (((hi * 18446744073709551616 + lo) / y : Nat) : Int) ((r0 * 4294967296 : Nat) : Int) (((hi * 18446744073709551616 + lo) % y : Nat) : Int) w (by omega) (by omega) (by omega) (by omega) hlz ?_ ?_ ?_ ?_ ?_ ?_ ?_ ?_ ?_ ?_ ?_ ?_ ?_ ?_ ?_ ?_ ?_ ?_ ?_ ?_
  · rw [sA, pA, mulN, wrapN _ hyA]
  · rw [eyA]; omega
  · omega
  · rw [maskN _ hyA, eyA]; omega
  · rw [sA, pA, mulN, wrapN _ hhA, sB, pB, quoN, bits_or_u64_nat _ _ hhA (by omega), hor, eU]
  · rw [sA, pA, mulN, wrapM, hlA]
  · rw [evA]; omega
  · rw [maskN _ hvA, evA]; omega
  · rw [tdivN, eq1, wrapN _ (by omega)]
  · rw [m1, IntKind.wrap_u64, IntKind.wrap_u64]; omega
  · omega
  · rw [IntKind.wrap_u64]; omega
  · rw [k1]
    exact wrapD _ _ _ _ (by omega) (by omega)
  · rw [tdivN, eq0, wrapN _ (by omega)]
  · rw [m0, IntKind.wrap_u64, IntKind.wrap_u64]; omega
  · omega
  · rw [IntKind.wrap_u64]; omega
  · rw [← gq]; simp only [IntKind.wrap_u64]; omega
  · rw [k0, wrapW]
    exact wrapE _ _ (r0 * 4294967296) (by omega) hrM
  · rw [sA, pA, quoN, hz]

/-- The quotient of Scale, whatever the product. -/
theorem divides_pd (p d : Nat) (hd : 1 ≤ d) (hd2 : d ≤ 1000000000) (h : p / 18446744073709551616 < d) : Divides (p / 18446744073709551616) (p % 18446744073709551616) d p := by
  by_cases c : p < 18446744073709551616
  · exact divides_small p d c (by omega) (by omega)
  · have := divides_big (p / 18446744073709551616) (p % 18446744073709551616) d (by omega) h (by omega) (by omega)
    rw [Nat.div_add_mod'] at this
    exact this

theorem divides_all (n num den : Int) : (-9999999999999 ≤ n ∧ n ≤ 9999999999999) → (-1000000000 ≤ num ∧ num ≤ 1000000000) → (1 ≤ den ∧ den ≤ 1000000000) → n.natAbs * num.natAbs / 18446744073709551616 < den.natAbs → Divides (n.natAbs * num.natAbs / 18446744073709551616) (n.natAbs * num.natAbs % 18446744073709551616) den.natAbs (n.natAbs * num.natAbs) :=
  fun _ _ hd h => divides_pd _ _ (by omega) (by omega) h

theorem scale_all (k0 n0 num den mode : Int) (w : World) (hK : Kinds w) (m : Int × Bool) (hm : Hid (m = M.wh (decide (n0 < 0) != decide (num < 0)) mode (n0.natAbs * num.natAbs) den.natAbs)) (r : Int × Int) (hr : Hid (r = M.ans (M.refuse (takesB k0 8) k0 n0 []) (M.scl num den mode m))) :
    Calls Tryd.prog 22 #[.agg #[.int .i64 k0, .int .i64 n0], .int .i64 num, .int .i64 den, .int .i64 mode] w fun e w' => e = .returned (.agg #[.int .i64 r.1, .int .i64 r.2]) ∧ Below w.heap.size w w' :=
  scale_any k0 n0 num den mode w hK (divides_all n0 num den) m hm r hr

end Go.Proofs.YtnmcniibcjjflaaDoor

import Derived.Test.YthmjkmdbggfiiaaGreatDoorJoin27
import Derived.Test.YthmjkmdbggfiiaaGreatDoorTurnCw7
import Derived.Test.YthmjkmdbggfiiaaGreatDoorJoin26
namespace Go.Proofs.YthmjkmdbggfiiaaGreatDoor.CF
open Go.RowKit
attribute [local go_sem] run_store_float

theorem cut_zero (s : Bool) (n d : Nat) : Ieee.Toward.zero.cut s n d = n / 2 ^ d := by
  unfold Ieee.Toward.cut
  simp only [Bool.toNat_false, Nat.add_zero, Nat.shiftLeft_eq, Nat.one_mul]
  by_cases h : d ≤ n.log2 + 2
  · rw [Nat.min_eq_left h]
  · rw [Nat.min_eq_right (by omega)]
    have h1 : n < 2 ^ (n.log2 + 1) := Nat.lt_log2_self
    have h2 : 2 ^ (n.log2 + 1) ≤ 2 ^ (n.log2 + 2) := Nat.pow_le_pow_right (by decide) (by omega)
    have h3 : 2 ^ (n.log2 + 2) ≤ 2 ^ d := Nat.pow_le_pow_right (by decide) (by omega)
    rw [Nat.div_eq_of_lt (by omega), Nat.div_eq_of_lt (by omega)]
theorem part_eq {s : Nat} : pM s * 2 ^ (pE s).toNat / 2 ^ (-(pE s)).toNat = partN (s % 2147483648) := by
  unfold partN
  rw [← vR_eq s]
  have h1 := pE_le s
  by_cases h : 0 ≤ pE s
  · rw [show (-(pE s)).toNat = 0 by omega, Nat.pow_zero, Nat.div_one, show (pE s + 149).toNat = (pE s).toNat + 149 by omega, Nat.pow_add, ← Nat.mul_assoc, Nat.mul_div_cancel _ (Nat.two_pow_pos _)]
  · rw [show (pE s).toNat = 0 by omega, Nat.pow_zero, Nat.mul_one, show (149 : Nat) = (-(pE s)).toNat + (pE s + 149).toNat by omega, Nat.pow_add, Nat.mul_div_mul_right _ _ (Nat.two_pow_pos _)]
theorem toInt_part {s : Nat} (h : s < 2139095040) : (FloatKind.f32.decode s).toInt .zero = some ((partN s : Nat) : Int) := by
  show (Ieee.single.read s).toInt .zero = _
  rw [read_fin (by omega) (by omega)]
  unfold Ieee.Datum.toInt Ieee.Datum.integral
  simp only
  rw [cut_zero, Nat.shiftLeft_eq, part_eq, Nat.mod_eq_of_lt (by omega)]
  unfold Ieee.signed
  rw [show pS s = false from decide_eq_false (by omega), Nat.shiftLeft_zero, if_neg (by decide)]
theorem conv_part {s : Nat} (h : s < 2139095040) (hp : partN s ≤ 40) (w : World) : (convert 62 3 (.float .f32 s)).run Tryz.prog w = .ok (.int .i64 (partN s : Int)) w := by
  refine run_convert_float_int w 62 3 .f32 .i64 s _ (by rw [Tryz.underlying62]; rfl) (by rw [Tryz.underlying3]) ?_
  unfold floatToIntVal
  rw [toInt_part h]
  simp only
  rw [if_pos]
  refine ⟨?_, ?_⟩
  · show (-9223372036854775808 : Int) ≤ _
    omega
  · show _ ≤ (9223372036854775807 : Int)
    omega
theorem part_small {s : Nat} (h : s < 2139095040) (hp : partN s ≤ 40) : pE s < 0 ∧ (pE s < -40 → partN s = 0) ∧ pM s / 2 ^ (-(pE s)).toNat = partN s := by
  have e := part_eq (s := s)
  rw [Nat.mod_eq_of_lt (by omega)] at e
  have hm := pM_lt s
  have h0 : pE s < 0 := Int.not_le.1 (fun hc => by
    have hn := pM_norm (b := s) (by omega)
    rw [show (-(pE s)).toNat = 0 by omega, Nat.pow_zero, Nat.div_one] at e
    have := Nat.le_mul_of_pos_right (pM s) (Nat.two_pow_pos (pE s).toNat)
    omega)
  rw [show (pE s).toNat = 0 by omega, Nat.pow_zero, Nat.mul_one] at e
  refine ⟨h0, fun h4 => ?_, e⟩
  rw [← e]
  have h3 : 2 ^ 40 ≤ 2 ^ (-(pE s)).toNat := Nat.pow_le_pow_right (by decide) (by omega)
  exact Nat.div_eq_of_lt (by omega)
end Go.Proofs.YthmjkmdbggfiiaaGreatDoor.CF


namespace Go.Proofs.YthmjkmdbggfiiaaGreatDoor.CF
open Go.RowKit
attribute [local go_sem] run_store_float

theorem run_min_f32 {x y : Nat} (hx : x < 4294967296) (hy : y < 4294967296) (fx : x % 2147483648 ≤ 2139095040) (fy : y % 2147483648 ≤ 2139095040) (ts : Array TypeId) (t : TypeId) (w : World) : (Builtin.min_ ts t #[.float .f32 x, .float .f32 y]).run Tryz.prog w = .ok (.float .f32 (minN x y)) w := by
  have h : FloatKind.f32.format.order x y = some (cmpI (ordN x) (ordN y)) := order_eq hx hy fx fy
  have hd : (FloatKind.f32.decode x).neg = pS x := by
    show (Ieee.single.read x).neg = _
    by_cases f : x % 2147483648 < 2139095040
    · rw [read_fin hx f]; rfl
    · rw [read_inf hx (by omega)]; rfl
  unfold minN
  unfold cmpI at h
  by_cases h1 : ordN x < ordN y
  · rw [if_pos h1] at h ⊢
    simp [Builtin.min_, Builtin.min2, h]
  · rw [if_neg h1] at h ⊢
    by_cases h2 : ordN x = ordN y
    · rw [if_pos h2] at h
      rw [if_neg (by omega)]
      simp [Builtin.min_, Builtin.min2, h, hd]
    · rw [if_neg h2] at h
      rw [if_pos (by omega)]
      simp [Builtin.min_, Builtin.min2, h]
theorem run_max_f32 {x y : Nat} (hx : x < 4294967296) (hy : y < 4294967296) (fx : x % 2147483648 ≤ 2139095040) (fy : y % 2147483648 ≤ 2139095040) (ts : Array TypeId) (t : TypeId) (w : World) : (Builtin.max_ ts t #[.float .f32 x, .float .f32 y]).run Tryz.prog w = .ok (.float .f32 (maxN x y)) w := by
  have h : FloatKind.f32.format.order x y = some (cmpI (ordN x) (ordN y)) := order_eq hx hy fx fy
  have hd : (FloatKind.f32.decode x).neg = pS x := by
    show (Ieee.single.read x).neg = _
    by_cases f : x % 2147483648 < 2139095040
    · rw [read_fin hx f]; rfl
    · rw [read_inf hx (by omega)]; rfl
  unfold maxN
  unfold cmpI at h
  by_cases h1 : ordN x < ordN y
  · rw [if_pos h1] at h ⊢
    simp [Builtin.max_, Builtin.max2, h]
  · rw [if_neg h1] at h ⊢
    by_cases h2 : ordN x = ordN y
    · rw [if_pos h2] at h
      rw [if_neg (by omega)]
      simp [Builtin.max_, Builtin.max2, h, hd]
    · rw [if_neg h2] at h
      rw [if_pos (by omega)]
      simp [Builtin.max_, Builtin.max2, h]
/-- The frame's value. -/
abbrev frV (wide high : Int) (x0 x1 : Int) (l g : Nat) : Value := .agg #[.int .i64 wide, .int .i64 high, .int .i64 x0, .int .i64 x1, .float .f32 l, .float .f32 g]
/-- Heights between their ends. -/
structure Btw (y l g : Nat) : Prop where
  y1 : y < 4294967296
  l1 : l < 4294967296
  g1 : g < 4294967296
  yf : y % 2147483648 < 2139095040
  lf : l % 2147483648 < 2139095040
  gf : g % 2147483648 < 2139095040
  ly : ordN l ≤ ordN y
  yg : ordN y ≤ ordN g
  df : subN g l % 2147483648 < 2139095040
set_option maxHeartbeats 1000000 in
theorem prow_any (wide high x0 x1 : Int) (y l g : Nat) (n : Nat) (hh : high = (n : Int) + 1) (hn : n < 40) (h : Btw y l g) (w : World) : Calls Tryz.prog 86 #[frV wide high x0 x1 l g, .float .f32 y] w fun e w' => e = .returned (.int .i64 (rowN y l g n : Int)) ∧ Below w.heap.size w w' := by
  have ho : FloatKind.f32.format.order g l = some (cmpI (ordN g) (ordN l)) := order_eq h.g1 h.l1 (by have := h.gf; omega) (by have := h.lf; omega)
  have hB : Below w.heap.size w (w.alloc (.cells #[.int .i64 wide, .int .i64 high, .int .i64 x0, .int .i64 x1, .float .f32 l, .float .f32 g] 92)) := (Below.refl _ _).alloc (Nat.le_refl _) _
  unfold cmpI at ho
  by_cases h3 : ordN l = ordN g
  · have e : rowN y l g n = 0 := if_pos h3
    rw [e]
    rw [if_neg (by omega), if_pos h3.symm] at ho
    have ho2 : (FloatKind.f32.format.order g l == some .eq) = true := by rw [ho]; rfl
    clear ho h3 e h hh
    go_enter Tryz.func86, Tryz.ntmps86
    go_wp2
    go_ret
    exact ⟨rfl, hB⟩
  · have ho2 : (FloatKind.f32.format.order g l == some .eq) = false := by
      rw [ho]
      have h4 := h.ly
      have h5 := h.yg
      rw [if_neg (by omega), if_neg (by omega)]
      rfl
    obtain ⟨p1, p2, p3, p4, p5, p6⟩ := row_parts h.y1 h.l1 h.g1 h.yf h.lf h.gf h.ly h.yg h3 h.df hn
    have e : rowN y l g n = partN (addN (mulN (divN (subN y l) (subN g l)) (wholeN (n : Int))) 1056964608) := if_neg h3
    rw [e] at p6 ⊢
    have s1 := subN_le h.l1 h.yf h.lf
    have s2 := subN_le h.l1 h.gf h.lf
    have t2 := (half_tab n hn).2.1
    have d1 := div_some s1.2 s2.2 p1 h.df p2
    have dl := divN_lt s1.2 s2.2 h.df p2
    have m1 := mulN_eq dl (b := wholeN (n : Int)) (by omega) p3 (by omega)
    have ml := mulN_le (divN (subN y l) (subN g l)) (wholeN (n : Int))
    have a1 := add_some ml.2 (b := 1056964608) (by decide) p4 (by decide)
    have o1 := sub_f32 (sub_some h.y1 h.l1 h.yf h.lf)
    have o2 := sub_f32 (sub_some h.g1 h.l1 h.gf h.lf)
    have o3 := quo_f32 d1
    have o4 := mul_f32 m1
    have o5 := add_f32 a1
    have o6 := conv_part p5 (by omega)
    have c1 := conv_i32 (n : Int)
    have hh2 : high - 1 = (n : Int) := by omega
    have hh3 : -100 ≤ high ∧ high ≤ 100 := by omega
    clear p1 p2 p3 p4 p5 p6 s1 s2 t2 d1 dl m1 ml a1 ho h3 e h hh hn
    generalize subN y l = a at *
    generalize subN g l = b at *
    generalize wholeN (n : Int) = U at *
    generalize divN a b = c at *
    generalize mulN c U = d at *
    generalize addN d 1056964608 = f at *
    generalize ((partN f : Nat) : Int) = r at *
    go_enter Tryz.func86, Tryz.ntmps86
    go_wp2
    go_ret
    exact ⟨rfl, hB⟩
/-- P17.9: the column of a place. -/
def colN (x0 x1 wide x : Int) : Int := if x0 = x1 then 0 else (x - x0) * (wide - 1) / (x1 - x0)
theorem colN_b {x0 x1 wide x : Int} (h0 : x0 ≤ x) (h1 : x ≤ x1) (hw : 1 ≤ wide) : 0 ≤ colN x0 x1 wide x ∧ colN x0 x1 wide x < wide := by
  unfold colN
  split
  · omega
  · have hd : 0 < x1 - x0 := by omega
    refine ⟨Int.ediv_nonneg (Int.mul_nonneg (by omega) (by omega)) (by omega), ?_⟩
    have h2 : (x - x0) * (wide - 1) ≤ (x1 - x0) * (wide - 1) := Int.mul_le_mul_of_nonneg_right (by omega) (by omega)
    have h3 : (x - x0) * (wide - 1) / (x1 - x0) ≤ (x1 - x0) * (wide - 1) / (x1 - x0) := Int.ediv_le_ediv hd h2
    rw [Int.mul_ediv_cancel_left _ (by omega)] at h3
    omega
theorem col_prod {a b : Int} (ha : 0 ≤ a ∧ a ≤ 20000000000000) (hb : 0 ≤ b ∧ b ≤ 100) : 0 ≤ a * b ∧ a * b ≤ 2000000000000000 := by
  refine ⟨Int.mul_nonneg ha.1 hb.1, ?_⟩
  have := Int.mul_le_mul ha.2 hb.2 hb.1 (by decide)
  omega
set_option maxHeartbeats 1000000 in
theorem pcol_any (wide high x0 x1 x : Int) (l g : Nat) (h0 : x0 ≤ x) (h1 : x ≤ x1) (hb0 : -9999999999999 ≤ x0) (hb1 : x1 ≤ 9999999999999) (hw : 2 ≤ wide ∧ wide ≤ 72) (w : World) : Calls Tryz.prog 87 #[frV wide high x0 x1 l g, .int .i64 x] w fun e w' => e = .returned (.int .i64 (colN x0 x1 wide x)) ∧ Below w.heap.size w w' := by
  have hB : Below w.heap.size w (w.alloc (.cells #[.int .i64 wide, .int .i64 high, .int .i64 x0, .int .i64 x1, .float .f32 l, .float .f32 g] 92)) := (Below.refl _ _).alloc (Nat.le_refl _) _
  by_cases he : x0 = x1
  · have e : colN x0 x1 wide x = 0 := if_pos he
    rw [e]
    have he2 : (x0 == x1) = true := beq_iff_eq.2 he
    clear e he
    go_enter Tryz.func87, Tryz.ntmps87
    go_wp2
    go_ret
    exact ⟨rfl, hB⟩
  · have e : colN x0 x1 wide x = (x - x0) * (wide - 1) / (x1 - x0) := if_neg he
    have he2 : (x0 == x1) = false := beq_eq_false_iff_ne.2 he
    have hd1 : 0 ≤ x - x0 ∧ x - x0 ≤ 20000000000000 := by omega
    have hd2 : 0 ≤ wide - 1 ∧ wide - 1 ≤ 100 := by omega
    have hd3 : 0 < x1 - x0 ∧ x1 - x0 ≤ 20000000000000 := by omega
    have hp := col_prod hd1 hd2
    have hcb := colN_b (x0 := x0) (x1 := x1) (wide := wide) (x := x) h0 h1 (by omega)
    have hq : ((x - x0) * (wide - 1)).tdiv (x1 - x0) = colN x0 x1 wide x := by rw [Int.tdiv_eq_ediv_of_nonneg hp.1, e]
    have hp0 := Hid.mk he
    clear e he
    generalize colN x0 x1 wide x = r at *
    have hne : x1 - x0 ≠ 0 := by omega
    go_enter Tryz.func87, Tryz.ntmps87
    go_wp2
    go_ret
    exact ⟨rfl, hB⟩
end Go.Proofs.YthmjkmdbggfiiaaGreatDoor.CF

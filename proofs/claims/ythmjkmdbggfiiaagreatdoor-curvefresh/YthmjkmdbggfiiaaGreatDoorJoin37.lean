import Derived.Test.YthmjkmdbggfiiaaGreatDoorJoin36
import Derived.Laws.StructEq
import Derived.Test.YthmjkmdbggfiiaaGreatDoorJoin33
import Derived.Test.YthmjkmdbggfiiaaGreatDoorKcD
namespace Go.Proofs.YthmjkmdbggfiiaaGreatDoor.CF
open Go.RowKit
attribute [local go_sem] run_store_float

theorem run_equalIn_f32 (w : World) (d : Nat) (a b : Nat) : (Op.equalIn (d + 1) 62 (.float .f32 a) (.float .f32 b)).run Tryz.prog w = .ok (Op.floatEq .f32 a b) w := by
  simp [Op.equalIn, Sem.run_bind, run_underlying Tryz.underlying62]
theorem flds : (Tryz.prog.fieldsOf 64).toList.map (fun f => (f.name, f.type, f.offset)) = [("X", 2, 0), ("Y", 62, 1)] := by kernel_rfl
theorem part_x (x : Int) (p : Nat) (w : World) : (part 2 #[.int .i64 x, .float .f32 p] 0).run Tryz.prog w = .ok (.int .i64 x) w := by kernel_rfl
theorem part_y (x : Int) (p : Nat) (w : World) : (part 62 #[.int .i64 x, .float .f32 p] 1).run Tryz.prog w = .ok (.float .f32 p) w := by kernel_rfl
theorem pt_eq (x : Int) (p q : Nat) (d : Nat) (w : World) : (Op.equalIn (d + 2) 64 (.agg #[.int .i64 x, .float .f32 p]) (.agg #[.int .i64 x, .float .f32 q])).run Tryz.prog w = .ok (Op.floatEq .f32 p q) w := by
  rw [run_equalIn_struct w (d + 1) 64 _ _ (by kernel_rfl) (by kernel_rfl)]
  have hf := flds
  cases h1 : (Tryz.prog.fieldsOf 64).toList with
  | nil => rw [h1] at hf; cases hf
  | cons f fs =>
    rw [h1] at hf
    cases fs with
    | nil => exact absurd (congrArg List.length hf) (by simp)
    | cons g gs =>
      cases gs with
      | nil =>
        simp only [List.map_cons, List.map_nil, List.cons.injEq, Prod.mk.injEq, and_true] at hf
        obtain ⟨⟨f1, f2, f3⟩, g1, g2, g3⟩ := hf
        simp only [Op.eqFields, f1, f2, f3, g1, g2, g3, Sem.run_bind, Sem.run_ite, part_x, part_y, Result.andThen_ok, run_equalIn_int w d 2 .i64 .i64 x x Tryz.underlying2, run_equalIn_f32, beq_self_eq_true, Sem.run_pure]
        cases Op.floatEq .f32 p q <;> simp
      | cons _ _ => exact absurd (congrArg List.length hf) (by simp)
theorem neq_pt (x : Int) {p q : Nat} (h : Op.floatEq .f32 p q = true) (w : World) : (binOp .neq 64 (.agg #[.int .i64 x, .float .f32 p]) (.agg #[.int .i64 x, .float .f32 q])).run Tryz.prog w = .ok (.bool false) w := by
  rw [run_neq_struct, pt_eq x p q 9998 w, h]
  rfl
theorem feq {p q : Nat} (hp : p < 4294967296) (hq : q < 4294967296) (fp : p % 2147483648 ≤ 2139095040) (fq : q % 2147483648 ≤ 2139095040) (h : ordN p = ordN q) : Op.floatEq .f32 p q = true := by
  unfold Op.floatEq
  have e : FloatKind.f32.format.order p q = some (cmpI (ordN p) (ordN q)) := order_eq hp hq fp fq
  rw [e, h]
  unfold cmpI
  rw [if_neg (by omega), if_pos rfl]
  rfl
theorem flt {p q : Nat} (hp : p < 4294967296) (hq : q < 4294967296) (fp : p % 2147483648 ≤ 2139095040) (fq : q % 2147483648 ≤ 2139095040) : (FloatKind.f32.format.order p q == some .lt) = decide (ordN p < ordN q) ∧ (FloatKind.f32.format.order p q == some .gt) = decide (ordN q < ordN p) := by
  have e : FloatKind.f32.format.order p q = some (cmpI (ordN p) (ordN q)) := order_eq hp hq fp fq
  rw [e]
  unfold cmpI
  by_cases h1 : ordN p < ordN q
  · rw [if_pos h1, decide_eq_true h1, decide_eq_false (by omega)]
    exact ⟨rfl, rfl⟩
  · rw [if_neg h1, decide_eq_false h1]
    by_cases h2 : ordN p = ordN q
    · rw [if_pos h2, decide_eq_false (by omega)]
      exact ⟨rfl, rfl⟩
    · rw [if_neg h2, decide_eq_true (by omega)]
      exact ⟨rfl, rfl⟩
/-- The sum of n + 1 whole numbers from lo on. -/
def sumI (Z : Nat → Int) (lo : Nat) : Nat → Int
  | 0 => Z lo
  | n + 1 => sumI Z lo n + Z (lo + (n + 1))
theorem sumI_b {Z : Nat → Int} {lo : Nat} {a b : Int} : ∀ n, (∀ j, lo ≤ j → j ≤ lo + n → a ≤ Z j ∧ Z j ≤ b) → a * ((n + 1 : Nat) : Int) ≤ sumI Z lo n ∧ sumI Z lo n ≤ b * ((n + 1 : Nat) : Int)
  | 0, h => by
    have := h lo (Nat.le_refl _) (by omega)
    show a * ((1 : Nat) : Int) ≤ Z lo ∧ Z lo ≤ b * ((1 : Nat) : Int)
    omega
  | n + 1, h => by
    have ih := sumI_b n (fun j h1 h2 => h j h1 (by omega))
    have h2 := h (lo + (n + 1)) (by omega) (by omega)
    have e : sumI Z lo (n + 1) = sumI Z lo n + Z (lo + (n + 1)) := rfl
    have e1 : a * ((n + 1 + 1 : Nat) : Int) = a * ((n + 1 : Nat) : Int) + a := by rw [Int.natCast_add (n + 1) 1, Int.mul_add]; simp
    have e2 : b * ((n + 1 + 1 : Nat) : Int) = b * ((n + 1 : Nat) : Int) + b := by rw [Int.natCast_add (n + 1) 1, Int.mul_add]; simp
    rw [e, e1, e2]
    omega
theorem sum_exact {X Z : Nat → Int} {m lo : Nat} (hz : ∀ k, k < m → (Z k).natAbs ≤ 10000) : ∀ n, n ≤ 20 → lo + n < m → sumS (WD X Z m) lo n = wholeN (sumI Z lo n)
  | 0, _, h => by
    unfold sumS sumI
    rw [WD_get X Z (by omega)]
  | n + 1, hn, h => by
    have ih := sum_exact (X := X) hz (lo := lo) n (by omega) (by omega)
    have hb := sumI_b (Z := Z) (lo := lo) (a := -10000) (b := 10000) n (fun j h1 h2 => by have := hz j (by omega); omega)
    have hz2 := hz (lo + (n + 1)) (by omega)
    unfold sumS
    rw [ih, WD_get X Z (by omega), add_whole (by omega)]
    rfl
/-- A mean of whole numbers lies between them; of like ones it is that one. -/
theorem mean_b {X Z : Nat → Int} {m lo hi : Nat} (hz : ∀ k, k < m → (Z k).natAbs ≤ 10000) (h1 : lo < hi) (h2 : hi ≤ m) (h3 : hi - lo ≤ 20) : meanN (WD X Z m) lo hi < 4294967296 ∧ meanN (WD X Z m) lo hi % 2147483648 < 2139095040 ∧ ∀ z : Int, z.natAbs ≤ 10000 → ((∀ j, lo ≤ j → j < hi → Z j ≤ z) → ordN (meanN (WD X Z m) lo hi) ≤ ordN (wholeN z)) ∧ ((∀ j, lo ≤ j → j < hi → z ≤ Z j) → ordN (wholeN z) ≤ ordN (meanN (WD X Z m) lo hi)) := by
  obtain ⟨n, hn⟩ : ∃ n, hi - lo = n + 1 := ⟨hi - lo - 1, by omega⟩
  unfold meanN
  rw [show hi - lo - 1 = n by omega, sum_exact hz n (by omega) (by omega), show (hi : Int) - (lo : Int) = ((n + 1 : Nat) : Int) by omega]
  have hb := sumI_b (Z := Z) (lo := lo) (a := -10000) (b := 10000) n (fun j h1 h2 => by have := hz j (by omega); omega)
  obtain ⟨q1, q2, q3⟩ := quo_whole (S := sumI Z lo n) (n := n + 1) (by omega) (by omega) (by omega)
  refine ⟨q1, q2, fun z hzb => ⟨fun h => (q3 z (by omega)).1 ?_, fun h => (q3 z (by omega)).2 ?_⟩⟩
  · exact (sumI_b (Z := Z) (lo := lo) (a := -10000) (b := z) n (fun j a1 a2 => ⟨by have := hz j (by omega); omega, h j a1 (by omega)⟩)).2
  · exact (sumI_b (Z := Z) (lo := lo) (a := z) (b := 10000) n (fun j a1 a2 => ⟨h j a1 (by omega), by have := hz j (by omega); omega⟩)).1
theorem smoothN_get (D : Dots) (r : Nat) : ∀ m k, k < m → (smoothN D r m).getD k (0, 0) = ((D.getD k (0, 0)).1, meanN D (loN k r) (hiN k r D.length))
  | m + 1, k, h => by
    have e : smoothN D r (m + 1) = smoothN D r m ++ [((D.getD m (0, 0)).1, meanN D (loN m r) (hiN m r D.length))] := rfl
    have hl := smoothN_len D r m
    rw [e, List.getD_eq_getElem?_getD]
    by_cases hk : k < m
    · rw [List.getElem?_append_left (by omega), ← List.getD_eq_getElem?_getD]
      exact smoothN_get D r m k hk
    · obtain rfl : k = m := by omega
      rw [List.getElem?_append_right (by omega), hl, Nat.sub_self]
      rfl
end Go.Proofs.YthmjkmdbggfiiaaGreatDoor.CF


namespace Go.Proofs.YthmjkmdbggfiiaaGreatDoor.CF
open Go.RowKit
attribute [local go_sem] run_store_float

def mnZ (Z : Nat → Int) : Nat → Int
  | 0 => 0
  | k + 1 => if k = 0 ∨ Z k < mnZ Z k then Z k else mnZ Z k
def mxZ (Z : Nat → Int) : Nat → Int
  | 0 => 0
  | k + 1 => if k = 0 ∨ mxZ Z k < Z k then Z k else mxZ Z k
theorem mnZ_le (Z : Nat → Int) : ∀ k j, j < k → mnZ Z k ≤ Z j
  | k + 1, j, h => by
    unfold mnZ
    by_cases hj : j = k
    · subst hj; split <;> omega
    · have := mnZ_le Z k j (by omega)
      split <;> omega
theorem mxZ_le (Z : Nat → Int) : ∀ k j, j < k → Z j ≤ mxZ Z k
  | k + 1, j, h => by
    unfold mxZ
    by_cases hj : j = k
    · subst hj; split <;> omega
    · have := mxZ_le Z k j (by omega)
      split <;> omega
theorem mnZ_b {Z : Nat → Int} {m : Nat} (hz : ∀ k, k < m → (Z k).natAbs ≤ 10000) : ∀ k, k ≤ m → (mnZ Z k).natAbs ≤ 10000 ∧ (mxZ Z k).natAbs ≤ 10000
  | 0, _ => ⟨by show (0 : Int).natAbs ≤ _; decide, by show (0 : Int).natAbs ≤ _; decide⟩
  | k + 1, h => by
    have ih := mnZ_b hz k (by omega)
    have h2 := hz k (by omega)
    unfold mnZ mxZ
    constructor
    · split <;> omega
    · split <;> omega
theorem own_capW {w : World} {base n size : Nat} {e : TypeId} {a : Option Addr} {c : Nat} {xs : List Value} (h : w.ownsRow base e size (.slice a n c) n xs) : n ≤ c := by
  obtain ⟨_, ⟨e, rfl⟩ | ⟨g, cap', cur, h1, _, _, h2, _⟩⟩ := h
  · omega
  · injection h1 with h1 h3 h4
    omega
theorem smooth_ok {X Z : Nat → Int} {m : Nat} (h : Snd X Z m) {r : Nat} (hr : r ≤ 6) : smoothD (WD X Z m) (2 * (r : Int) + 1) = smoothN (WD X Z m) r m ∧ smoothE (WD X Z m) (2 * (r : Int) + 1) = 0 := by
  have ho : okW (2 * (r : Int) + 1) = true := by
    unfold okW
    rw [decide_eq_false (by omega), decide_eq_false (by omega), Int.tmod_eq_emod_of_nonneg (by omega)]
    have : ((2 * (r : Int) + 1) % 2 == 0) = false := beq_eq_false_iff_ne.2 (by omega)
    rw [this]
    rfl
  unfold smoothD smoothE
  rw [if_pos ⟨ho, WD_io h⟩, if_neg (by rw [ho]; decide), if_pos (WD_io h), WD_len, show ((2 * (r : Int) + 1 - 1) / 2).toNat = r by omega]
  exact ⟨rfl, rfl⟩
/-- A smoothed point. -/
theorem smooth_pt {X Z : Nat → Int} {m r k : Nat} (hz : ∀ k, k < m → (Z k).natAbs ≤ 10000) (hr : r ≤ 6) (hk : k < m) : ∃ u, (smoothN (WD X Z m) r m).getD k (0, 0) = (X k, u) ∧ u < 4294967296 ∧ u % 2147483648 < 2139095040 ∧ ordN (wholeN (mnZ Z m)) ≤ ordN u ∧ ordN u ≤ ordN (wholeN (mxZ Z m)) ∧ (r = 0 → ordN u = ordN (wholeN (Z k))) ∧ (∀ z, z.natAbs ≤ 10000 → (∀ j, j < m → Z j = z) → ordN u = ordN (wholeN z)) := by
  have hb := mnZ_b hz m (Nat.le_refl _)
  have h1 : loN k r < hiN k r m := by unfold loN hiN; omega
  have h2 : hiN k r m ≤ m := by unfold hiN; omega
  have h3 : hiN k r m - loN k r ≤ 20 := by unfold loN hiN; omega
  obtain ⟨q1, q2, q3⟩ := mean_b (X := X) hz h1 h2 h3
  refine ⟨_, by rw [smoothN_get _ _ _ _ hk, WD_get X Z hk, WD_len], q1, q2, (q3 _ hb.1).2 (fun j _ hj => mnZ_le Z m j (by omega)), (q3 _ hb.2).1 (fun j _ hj => mxZ_le Z m j (by omega)), fun h0 => ?_, fun z hzb hall => ?_⟩
  · have hzk := hz k hk
    have e : ∀ j, loN k r ≤ j → j < hiN k r m → j = k := fun j a b => by unfold loN at a; unfold hiN at b; omega
    have a1 := (q3 (Z k) hzk).1 (fun j a b => by rw [e j a b]; exact Int.le_refl _)
    have a2 := (q3 (Z k) hzk).2 (fun j a b => by rw [e j a b]; exact Int.le_refl _)
    omega
  · have a1 := (q3 z hzb).1 (fun j a b => by rw [hall j (by omega)]; exact Int.le_refl _)
    have a2 := (q3 z hzb).2 (fun j a b => by rw [hall j (by omega)]; exact Int.le_refl _)
    omega
end Go.Proofs.YthmjkmdbggfiiaaGreatDoor.CF


/- CurveFresh: the curve's answers are rows of their own. -/
namespace Go.Proofs.YthmjkmdbggfiiaaGreatDoor.CF
open Go.RowKit
attribute [local go_sem] run_store_float
set_option maxRecDepth 8000 in
set_option maxHeartbeats 2000000 in
theorem jumpsO_any (D : Dots) (hD : Ok D) (hl : D.length ≤ 8796093021952) (z : Nat) (hz : z < 4294967296) (a : Option Addr) (c : Nat) (w : World) (h : PtAt w a D) : Calls Tryz.prog 19 #[.slice a D.length c, .float .f32 z] w fun e w' => ∃ v, e = .returned v ∧ w'.ownsRow w.heap.size 3 1 v (jumpsN D z (D.length - 1)).length ((jumpsN D z (D.length - 1)).map (Value.int .i64)) ∧ Below w.heap.size w w' := by
  obtain ⟨i0, hi, hz0, hz1, hz2⟩ := info_parts infoN
  go_enter Tryz.func19, Tryz.ntmps19
  go_wp2
  go_loopw [5, 6] (fun v x wr => ∃ k : Nat, k ≤ D.length - 1 ∧ x = .int .i64 ((k + 1 : Nat) : Int) ∧ wr.ownsRow w.heap.size 3 1 v (jumpsN D z k).length ((jumpsN D z k).map (Value.int .i64)) ∧ Below w.heap.size w wr) (fun _ x _ => D.length - (intOf x).toNat)
  case atStart => exact ⟨0, by omega, rfl, World.ownsRow_nil _ _ _ _, Below.refl _ _⟩
  case round =>
    obtain ⟨k, hk, rfl, ho, hB⟩ := hrel
    by_cases hlt : k + 1 < D.length
    · have hlt' : ((k + 1 : Nat) : Int) < (D.length : Int) := by omega
      obtain ⟨b, off, rfl, hc⟩ := (h.later hB).cells hlt
      obtain ⟨-, s1⟩ := hc k (by omega)
      obtain ⟨-, q1⟩ := hc (k + 1) hlt
      have hu := (hD.getD k).2
      have hv := (hD.getD (k + 1)).2
      have hjl := jumpsN_len D z k
      have hjd : Hid (jumpsN D z (k + 1) = jumpsN D z k ++ if jmp (subN (D.getD (k + 1) (0, 0)).2 (D.getD k (0, 0)).2) z = true then [((k + 1 : Nat) : Int)] else []) := ⟨rfl⟩
      generalize (D.getD (k + 1) (0, 0)).2 = v2 at *
      generalize (D.getD k (0, 0)).2 = u2 at *
      have hS1 : wr.drew.cell? ⟨b, off + k * 2 + 1, none⟩ = some (.float .f32 u2) ∧ wr.drew.cell? ⟨b, off + (k + 1) * 2 + 1, none⟩ = some (.float .f32 v2) := ⟨s1, q1⟩
      have hS2 : wr.drew.drew.cell? ⟨b, off + k * 2 + 1, none⟩ = some (.float .f32 u2) ∧ wr.drew.drew.cell? ⟨b, off + (k + 1) * 2 + 1, none⟩ = some (.float .f32 v2) := ⟨s1, q1⟩
      have e1 : IntKind.i64.wrap (((k + 1 : Nat) : Int) - 1) = (k : Int) := by rw [IntKind.wrap_i64]; omega
      have e1' : IntKind.i64.wrap ((k : Int) + 1 - 1) = (k : Int) := by rw [IntKind.wrap_i64]; omega
      have e2 : (0 : Int) ≤ (k : Int) := by omega
      have e3 : (k : Int) < (D.length : Int) := by omega
      have e4 : (0 : Int) ≤ ((k + 1 : Nat) : Int) := by omega
      have e5' : (k : Int) + 1 < (D.length : Int) := by omega
      have e6 : IntKind.i64.wrap (k : Int) = (k : Int) := by rw [IntKind.wrap_i64]; omega
      have e8 : ((k : Int) + 1).toNat = k + 1 := by omega
      have e9 : (0 : Int) ≤ (k : Int) + 1 := by omega
      have e11 : k < D.length := by omega
      clear hc hD h
      rcases sub_cases hv hu with ⟨hsn, hse⟩ | ⟨hss, hd1, hd2⟩
      · obtain ⟨nb, hn1, hn2, hrun⟩ := sub_nan hsn wr.drew
        have hje : Hid (jumpsN D z (k + 1) = jumpsN D z k) := ⟨by
          rw [hjd.out, hse, if_neg, List.append_nil]
          unfold jmp
          rw [decide_eq_false (fun h => absurd h.1 (by decide))]
          decide⟩
        have ham := fun W => amount_any nb hn2 W
        have hja := jmp_eq hn2 hz
        have hjn : jmp nb z = false := decide_eq_false (fun h => by have := h.1; omega)
        rw [hjn] at hja
        have kg : (FloatKind.f32.format.order (amtN nb) z == some .gt || FloatKind.f32.format.order (amtN nb) z == some .eq) = false := hja
        generalize amtN nb = A at *
        clear hsn hse hjd hja hjn hn1 hn2 hu hv
        go_upto_region 5 with fail
        go_region_held_law (fun X => X.cell? ⟨b, off + k * 2 + 1, none⟩ = some (.float .f32 u2) ∧ X.cell? ⟨b, off + (k + 1) * 2 + 1, none⟩ = some (.float .f32 v2)) (with_reducible assumption) ((go_at_call 57; refine (ham _).mono ?_; rintro _ w9 ⟨rfl, hw9⟩; subst w9))
        go_wp2
        go_roundw
        case rel => exact ⟨k + 1, by omega, by go_num, by rw [hje.out]; exact ho.drew.drew, hB.drew.drew⟩
        case measure => simp [intOf]; omega
      · have o1 := sub_f32 hss
        have ham := fun W => amount_any (subN v2 u2) hd2 W
        have hja := jmp_eq hd2 hz
        have kg : (FloatKind.f32.format.order (amtN (subN v2 u2)) z == some .gt || FloatKind.f32.format.order (amtN (subN v2 u2)) z == some .eq) = jmp (subN v2 u2) z := hja
        obtain ⟨J, hJ⟩ : ∃ J, jmp (subN v2 u2) z = J := ⟨_, rfl⟩
        rw [hJ] at kg hjd
        generalize amtN (subN v2 u2) = A at *
        generalize subN v2 u2 = S at *
        clear hss hd1 hd2 hja hJ hu hv
        cases J with
        | false =>
          have hje : Hid (jumpsN D z (k + 1) = jumpsN D z k) := ⟨by rw [hjd.out, if_neg (by decide), List.append_nil]⟩
          clear hjd
          go_upto_region 5 with fail
          go_region_held3 (fun X => X.cell? ⟨b, off + k * 2 + 1, none⟩ = some (.float .f32 u2) ∧ X.cell? ⟨b, off + (k + 1) * 2 + 1, none⟩ = some (.float .f32 v2)) (with_reducible assumption) ((go_at_call 57; refine (ham _).mono ?_; rintro _ w9 ⟨rfl, hw9⟩; subst w9))
          go_wp2
          go_roundw
          case rel => exact ⟨k + 1, by omega, by go_num, by rw [hje.out]; exact ho.drew, hB.drew⟩
          case measure => simp [intOf]; omega
        | true =>
          have hje : Hid (jumpsN D z (k + 1) = jumpsN D z k ++ [((k + 1 : Nat) : Int)]) := ⟨by rw [hjd.out, if_pos rfl]⟩
          have hoA := ho.drew.alloc (.cells #[.int .i64 ((k + 1 : Nat) : Int)] 3)
          have hBD : Below w.heap.size w wr.drew := hB.drew
          have hBA : Below w.heap.size w (wr.drew.alloc (.cells #[.int .i64 ((k + 1 : Nat) : Int)] 3)) := hBD.alloc hBD.size _
          have hlv := Hid.mk (fun (j : Nat) hj => (ho.lt j hj).1)
          clear hjd
          go_upto_region 5 with fail
          go_region_held3 (fun X => X.cell? ⟨b, off + k * 2 + 1, none⟩ = some (.float .f32 u2) ∧ X.cell? ⟨b, off + (k + 1) * 2 + 1, none⟩ = some (.float .f32 v2)) (with_reducible assumption) ((go_at_call 57; refine (ham _).mono ?_; rintro _ w9 ⟨rfl, hw9⟩; subst w9))
          go_wp2_with (at_builtin; refine wpList_append_own _ rfl _ _ 28 rfl w.heap.size 3 i0 _ 1 8 Tryz.underlying28 hi hz0 hz1 hz2 rfl (by decide) _ (jumpsN D z k).length ((jumpsN D z k).map (Value.int .i64)) rfl hoA ⟨wr.heap.size, 0, none⟩ 1 1 [.int .i64 ((k + 1 : Nat) : Int)] rfl rfl (lit_at wr.drew _ _) (by simp [Value.oneCell']) (by unfold maxLen; omega) (by omega) hBA.size ?_; intro v4 w4 hown4 hgrow4 _; have hB4 := hBA.grown hgrow4 hBA.size hlv.out)
          go_roundw
          case rel => exact ⟨k + 1, by omega, by go_num, by rw [hje.out, List.length_append, List.map_append]; exact hown4, hB4⟩
          case measure => simp [intOf]; omega
    · obtain rfl : k = D.length - 1 := by omega
      have hlt' : ¬ ((D.length - 1 + 1 : Nat) : Int) < (D.length : Int) := by omega
      obtain ⟨a', c', rfl⟩ := KB.own_sl ho
      go_wp2
      exact bodyPost_ret (v := .slice a' (jumpsN D z (D.length - 1)).length c') (by simp [results, Tryz.results19, go_sem]) rfl ⟨_, rfl, ho, hB⟩
end Go.Proofs.YthmjkmdbggfiiaaGreatDoor.CF

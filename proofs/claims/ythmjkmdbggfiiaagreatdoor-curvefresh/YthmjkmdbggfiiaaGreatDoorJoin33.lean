import Derived.Test.YthmjkmdbggfiiaaGreatDoorTurnCrD
namespace Go.Proofs.YthmjkmdbggfiiaaGreatDoor.CF
open Go.RowKit
attribute [local go_sem] run_store_float

def cntN (k r n t : Nat) : Nat := min (k + t - r) n - (k - r)
def sumC (D : Dots) (lo : Nat) : Nat → Nat
  | 0 => 0
  | c + 1 => sumS D lo c
end Go.Proofs.YthmjkmdbggfiiaaGreatDoor.CF


namespace Go.Proofs.YthmjkmdbggfiiaaGreatDoor.CF
open Go.RowKit
attribute [local go_sem] run_store_float

theorem add_cases {a b : Nat} (ha : a < 4294967296) (hb : b < 4294967296) (h1 : a % 2147483648 ≤ 2139095040) (h2 : b % 2147483648 ≤ 2139095040) : (Ieee.single.add a b = none ∧ addN a b = 2143289344) ∨ (Ieee.single.add a b = some (addN a b) ∧ addN a b % 2147483648 ≤ 2139095040 ∧ addN a b < 4294967296) := by
  by_cases f1 : a % 2147483648 < 2139095040
  · exact .inr ⟨add_some ha hb f1 h2, addN_le hb f1 h2⟩
  · by_cases f2 : b % 2147483648 < 2139095040
    · exact .inr ⟨add_some2 ha hb h1 f2, addN_le2 ha hb h1 f2⟩
    · have h := addN_eq ha hb
      unfold Ieee.Format.add at h ⊢
      rw [read_inf ha (by omega), read_inf hb (by omega)] at h ⊢
      unfold Ieee.Datum.sum at h ⊢
      simp only at h ⊢
      by_cases h5 : a = b
      · subst h5
        rw [if_pos rfl] at h ⊢
        refine .inr ⟨by rw [h]; rfl, ?_⟩
        unfold addN
        rw [if_neg (by omega), if_pos f1]
        exact ⟨h1, ha⟩
      · have hn : ¬ pS a = pS b := fun e => by
          unfold pS at e
          have := decide_eq_decide.1 e
          omega
        rw [if_neg hn] at h ⊢
        exact .inl ⟨rfl, h⟩
theorem sub_cases {a b : Nat} (ha : a < 4294967296) (hb : b < 4294967296) : (Ieee.single.sub a b = none ∧ subN a b = 2143289344) ∨ (Ieee.single.sub a b = some (subN a b) ∧ subN a b % 2147483648 ≤ 2139095040 ∧ subN a b < 4294967296) := by
  by_cases h1 : 2139095040 < a % 2147483648
  · have hs : Ieee.single.sub a b = none := by
      unfold Ieee.Format.sub
      obtain ⟨s, t, e⟩ := read_nan h1
      rw [e]
      unfold Ieee.Datum.sum
      rfl
    exact .inl ⟨hs, by rw [subN_eq ha hb, hs]; rfl⟩
  · by_cases h2 : 2139095040 < b % 2147483648
    · have hs : Ieee.single.sub a b = none := by
        unfold Ieee.Format.sub
        obtain ⟨s, t, e⟩ := read_nan h2
        rw [e, sum_comm]
        unfold Ieee.Datum.opposite Ieee.Datum.sum
        rfl
      exact .inl ⟨hs, by rw [subN_eq ha hb, hs]; rfl⟩
    · have e : Ieee.single.sub a b = Ieee.single.add a (negN b) := by
        unfold Ieee.Format.sub Ieee.Format.add
        rw [read_neg hb h2]
      rw [e]
      unfold subN
      exact add_cases ha (negN_lt hb) (by omega) (by rw [negN_mod b hb]; omega)
/-- A difference that is no number: the bits are the machine's. -/
theorem sub_nan {x y : Nat} (h : Ieee.single.sub x y = none) (w : World) : ∃ nb, 2139095040 < nb % 2147483648 ∧ nb < 4294967296 ∧ (binOp .sub 62 (.float .f32 x) (.float .f32 y)).run Tryz.prog w = .ok (.float .f32 nb) w.drew := by
  have h' : FloatKind.f32.format.sub x y = none := h
  refine ⟨(w.tape w.drawn (.nanBits .f32 x y) % 2) * 2 ^ 31 + 0x7f800000 + 1 + (w.tape w.drawn (.nanBits .f32 x y) / 2) % (2 ^ 23 - 1), ?_, ?_, ?_⟩
  · generalize w.tape w.drawn (.nanBits .f32 x y) = T
    have h1 : T / 2 % (2 ^ 23 - 1) < 8388607 := Nat.mod_lt _ (by decide)
    rcases Nat.mod_two_eq_zero_or_one T with h2 | h2 <;> rw [h2] <;> omega
  · omega
  · simp [binOp, Op.floatArith, h', go_sem]
    rfl
/-- Is the height at this point a jump? -/
def jmp (d z : Nat) : Bool := decide (d % 2147483648 ≤ 2139095040 ∧ z % 2147483648 ≤ 2139095040 ∧ ordN z ≤ ((d % 2147483648 : Nat) : Int))
/-- A difference without its sign. -/
def amtN (d : Nat) : Nat := if d % 2147483648 ≤ 2139095040 ∧ ordN d < 0 then negN d else d
theorem amt_lt {d : Nat} (h : d < 4294967296) : amtN d < 4294967296 := by
  unfold amtN
  split
  · exact negN_lt h
  · exact h
theorem amt_mod {d : Nat} (h : d < 4294967296) : amtN d % 2147483648 = d % 2147483648 := by
  unfold amtN
  split
  · exact negN_mod d h
  · rfl
theorem amt_ord {d : Nat} (h : d < 4294967296) (hn : d % 2147483648 ≤ 2139095040) : ordN (amtN d) = ((d % 2147483648 : Nat) : Int) := by
  unfold amtN
  split
  · rename_i hc
    have h1 := hc.2
    unfold ordN at h1
    split at h1
    · unfold negN
      rw [if_pos (by assumption)]
      unfold ordN
      rw [if_neg (by omega)]
      omega
    · omega
  · rename_i hc
    have h1 : ¬ ordN d < 0 := fun e => hc ⟨hn, e⟩
    unfold ordN at h1 ⊢
    split at h1 <;> split <;> omega
theorem jmp_eq {d z : Nat} (hd : d < 4294967296) (hz : z < 4294967296) : (Ieee.single.order (amtN d) z == some .gt || Ieee.single.order (amtN d) z == some .eq) = jmp d z := by
  unfold jmp
  by_cases h1 : d % 2147483648 ≤ 2139095040
  · by_cases h2 : z % 2147483648 ≤ 2139095040
    · rw [order_eq (amt_lt hd) hz (by rw [amt_mod hd]; exact h1) h2, amt_ord hd h1]
      generalize ((d % 2147483648 : Nat) : Int) = p
      unfold cmpI
      by_cases h3 : p < ordN z
      · rw [if_pos h3, decide_eq_false (by omega)]; rfl
      · rw [if_neg h3, decide_eq_true ⟨h1, h2, by omega⟩]
        by_cases h4 : p = ordN z
        · rw [if_pos h4]; rfl
        · rw [if_neg h4]; rfl
    · rw [order_nan (.inr (by omega)), decide_eq_false (fun h => h2 h.2.1)]; rfl
  · rw [order_nan (.inl (by rw [amt_mod hd]; omega)), decide_eq_false (fun h => h1 h.1)]; rfl
theorem lt0 {d : Nat} (hd : d < 4294967296) : (Ieee.single.order d 0 == some .lt) = decide (d % 2147483648 ≤ 2139095040 ∧ ordN d < 0) := by
  by_cases h1 : d % 2147483648 ≤ 2139095040
  · rw [order_eq hd (by decide) h1 (by decide)]
    have h0 : ordN 0 = 0 := rfl
    rw [h0]
    unfold cmpI
    by_cases h3 : ordN d < 0
    · rw [if_pos h3, decide_eq_true ⟨h1, h3⟩]; rfl
    · rw [if_neg h3, decide_eq_false (fun h => h3 h.2)]
      by_cases h4 : ordN d = 0
      · rw [if_pos h4]; rfl
      · rw [if_neg h4]; rfl
  · rw [order_nan (.inl (by omega)), decide_eq_false (fun h => h1 h.1)]; rfl
theorem xor_hi {r : Nat} (h : r < 2 ^ 31) : r ^^^ 2 ^ 31 = 2 ^ 31 + r := by
  apply Nat.eq_of_testBit_eq
  intro i
  rw [Nat.testBit_xor]
  rcases Nat.lt_trichotomy i 31 with hi | hi | hi
  · rw [Nat.testBit_two_pow_add_gt hi, Nat.testBit_two_pow_of_ne (by omega), Bool.xor_false]
  · subst hi
    rw [Nat.testBit_two_pow_add_eq, Nat.testBit_two_pow_self, Bool.xor_true]
  · have h2 : 2 ^ 32 ≤ 2 ^ i := Nat.pow_le_pow_right (by decide) hi
    rw [Nat.testBit_lt_two_pow (Nat.lt_of_lt_of_le (show 2 ^ 31 + r < 2 ^ 32 by omega) h2), Nat.testBit_lt_two_pow (Nat.lt_of_lt_of_le (show r < 2 ^ 32 by omega) h2), Nat.testBit_two_pow_of_ne (by omega)]
    rfl
theorem neg_f32 {d : Nat} (hd : d < 4294967296) (w : World) : (Op.unary .neg (.float .f32 d)).run Tryz.prog w = .ok (.float .f32 (negN d)) w := by
  have e : Op.negFloat .f32 d = negN d := by
    show d ^^^ 2 ^ 31 = negN d
    unfold negN
    split
    · obtain ⟨r, rfl⟩ : ∃ r, d = 2 ^ 31 + r := ⟨d - 2 ^ 31, by omega⟩
      rw [← xor_hi (by omega), Nat.xor_assoc, Nat.xor_self, Nat.xor_zero, xor_hi (by omega)]
      omega
    · rw [xor_hi (by omega)]
      omega
  rw [← e]
  rfl
theorem amount_any (d : Nat) (hd : d < 4294967296) (w : World) : Calls Tryz.prog 57 #[.float .f32 d] w fun e w' => e = .returned (.float .f32 (amtN d)) ∧ w' = w := by
  have hf := lt0 hd
  obtain ⟨o1, h1⟩ : ∃ o, o = (Ieee.single.order d 0 == some .lt) := ⟨_, rfl⟩
  have k1 : (FloatKind.f32.format.order d 0 == some .lt) = o1 := h1.symm
  rw [← h1] at hf
  cases o1 with
  | true =>
    have e : amtN d = negN d := if_pos (of_decide_eq_true hf.symm)
    rw [e]
    clear h1 hf e
    have hng := neg_f32 hd
    go_enter Tryz.func57, Tryz.ntmps57
    go_wp2
    go_ret
    exact ⟨rfl, rfl⟩
  | false =>
    have e : amtN d = d := if_neg (of_decide_eq_false hf.symm)
    rw [e]
    clear h1 hf e
    go_enter Tryz.func57, Tryz.ntmps57
    go_wp2
    go_ret
    exact ⟨rfl, rfl⟩
end Go.Proofs.YthmjkmdbggfiiaaGreatDoor.CF


namespace Go.Proofs.YthmjkmdbggfiiaaGreatDoor.CF
open Go.RowKit
attribute [local go_sem] run_store_float

theorem infoN : (Tryz.prog.info? 3).map (fun i => (i.zero, i.size, i.bytes)) = some (some (.int .i64 0), 1, 8) := by kernel_rfl
theorem xs_of_own {w : World} {base : Nat} {T : TypeId} {v : Value} {L : List Int} (h : w.ownsRow base T 1 v L.length (L.map (Value.int .i64))) : ∃ a c, v = .slice a L.length c ∧ XsAt w a L := by
  have h0 := h
  obtain ⟨_, ⟨rfl, hn⟩ | ⟨g, cap, cur, rfl, hb, hc, _⟩⟩ := h0
  · have : L = [] := List.eq_nil_of_length_eq_zero hn
    subst this
    exact ⟨none, 0, rfl, .inl rfl⟩
  · refine ⟨_, _, rfl, .inr ⟨g, 0, rfl, (h.lt g rfl).2, fun i hi => ?_⟩⟩
    rw [Nat.zero_add, h.cellAt i (by omega), List.getElem?_map, List.getElem?_eq_getElem hi]
    rfl
/-- P17.7: the jumps. -/
def jumpsN (D : Dots) (z : Nat) : Nat → List Int
  | 0 => []
  | k + 1 => jumpsN D z k ++ if jmp (subN (D.getD (k + 1) (0, 0)).2 (D.getD k (0, 0)).2) z = true then [((k + 1 : Nat) : Int)] else []
theorem jumpsN_len (D : Dots) (z : Nat) : ∀ k, (jumpsN D z k).length ≤ k
  | 0 => Nat.le_refl _
  | k + 1 => by
    have := jumpsN_len D z k
    unfold jumpsN
    rw [List.length_append]
    split <;> simp <;> omega
def OutJ (w : World) (L : List Int) (e : Ending) (w' : World) : Prop := ∃ a' c', e = .returned (.slice a' L.length c') ∧ XsAt w' a' L ∧ Below w.heap.size w w'
set_option maxRecDepth 8000 in
set_option maxHeartbeats 2000000 in
theorem jumpsP_any (D : Dots) (hD : Ok D) (hl : D.length ≤ 8796093021952) (z : Nat) (hz : z < 4294967296) (a : Option Addr) (c : Nat) (w : World) (h : PtAt w a D) : Calls Tryz.prog 19 #[.slice a D.length c, .float .f32 z] w (OutJ w (jumpsN D z (D.length - 1))) := by
  obtain ⟨i0, hi, hz0, hz1, hz2⟩ := info_parts infoN
  go_enter Tryz.func19, Tryz.ntmps19
  go_wp2
  go_loopw [5, 6] (fun v x wr => ∃ k : Nat, k ≤ D.length - 1 ∧ x = .int .i64 ((k + 1 : Nat) : Int) ∧ wr.ownsRow w.heap.size 3 1 v (jumpsN D z k).length ((jumpsN D z k).map (Value.int .i64)) ∧ Below w.heap.size w wr) (fun _ x _ => D.length - (intOf x).toNat)
  case atStart => exact ⟨0, by omega, rfl, World.ownsRow_nil _ _ _ _, Below.refl _ _⟩
  case round =>
    obtain ⟨k, hk, rfl, ho, hB⟩ := hrel
    by_cases hlt : k + 1 < D.length
    · have hlt' : ((k + 1 : Nat) : Int) < (D.length : Int) := by omega
      obtain ⟨b, off, rfl, hc⟩ := (h.later hB).cells hlt
      obtain ⟨-, s1⟩ := hc k (by omega)
      obtain ⟨-, q1⟩ := hc (k + 1) hlt
      have hu := (hD.getD k).2
      have hv := (hD.getD (k + 1)).2
      have hjl := jumpsN_len D z k
      have hjd : Hid (jumpsN D z (k + 1) = jumpsN D z k ++ if jmp (subN (D.getD (k + 1) (0, 0)).2 (D.getD k (0, 0)).2) z = true then [((k + 1 : Nat) : Int)] else []) := ⟨rfl⟩
      generalize (D.getD (k + 1) (0, 0)).2 = v2 at *
      generalize (D.getD k (0, 0)).2 = u2 at *
      have hS1 : wr.drew.cell? ⟨b, off + k * 2 + 1, none⟩ = some (.float .f32 u2) ∧ wr.drew.cell? ⟨b, off + (k + 1) * 2 + 1, none⟩ = some (.float .f32 v2) := ⟨s1, q1⟩
      have hS2 : wr.drew.drew.cell? ⟨b, off + k * 2 + 1, none⟩ = some (.float .f32 u2) ∧ wr.drew.drew.cell? ⟨b, off + (k + 1) * 2 + 1, none⟩ = some (.float .f32 v2) := ⟨s1, q1⟩
      have e1 : IntKind.i64.wrap (((k + 1 : Nat) : Int) - 1) = (k : Int) := by rw [IntKind.wrap_i64]; omega
      have e1' : IntKind.i64.wrap ((k : Int) + 1 - 1) = (k : Int) := by rw [IntKind.wrap_i64]; omega
      have e2 : (0 : Int) ≤ (k : Int) := by omega
      have e3 : (k : Int) < (D.length : Int) := by omega
      have e4 : (0 : Int) ≤ ((k + 1 : Nat) : Int) := by omega
      have e5' : (k : Int) + 1 < (D.length : Int) := by omega
      have e6 : IntKind.i64.wrap (k : Int) = (k : Int) := by rw [IntKind.wrap_i64]; omega
      have e8 : ((k : Int) + 1).toNat = k + 1 := by omega
      have e9 : (0 : Int) ≤ (k : Int) + 1 := by omega
      have e11 : k < D.length := by omega
      clear hc hD h
      rcases sub_cases hv hu with ⟨hsn, hse⟩ | ⟨hss, hd1, hd2⟩
      · obtain ⟨nb, hn1, hn2, hrun⟩ := sub_nan hsn wr.drew
        have hje : Hid (jumpsN D z (k + 1) = jumpsN D z k) := ⟨by
          rw [hjd.out, hse, if_neg, List.append_nil]
          unfold jmp
          rw [decide_eq_false (fun h => absurd h.1 (by decide))]
          decide⟩
        have ham := fun W => amount_any nb hn2 W
        have hja := jmp_eq hn2 hz
        have hjn : jmp nb z = false := decide_eq_false (fun h => by have := h.1; omega)
        rw [hjn] at hja
        have kg : (FloatKind.f32.format.order (amtN nb) z == some .gt || FloatKind.f32.format.order (amtN nb) z == some .eq) = false := hja
        generalize amtN nb = A at *
        clear hsn hse hjd hja hjn hn1 hn2 hu hv
        go_upto_region 5 with fail
        go_region_held_law (fun X => X.cell? ⟨b, off + k * 2 + 1, none⟩ = some (.float .f32 u2) ∧ X.cell? ⟨b, off + (k + 1) * 2 + 1, none⟩ = some (.float .f32 v2)) (with_reducible assumption) ((go_at_call 57; refine (ham _).mono ?_; rintro _ w9 ⟨rfl, hw9⟩; subst w9))
        go_wp2
        go_roundw
        case rel => exact ⟨k + 1, by omega, by go_num, by rw [hje.out]; exact ho.drew.drew, hB.drew.drew⟩
        case measure => simp [intOf]; omega
      · have o1 := sub_f32 hss
        have ham := fun W => amount_any (subN v2 u2) hd2 W
        have hja := jmp_eq hd2 hz
        have kg : (FloatKind.f32.format.order (amtN (subN v2 u2)) z == some .gt || FloatKind.f32.format.order (amtN (subN v2 u2)) z == some .eq) = jmp (subN v2 u2) z := hja
        obtain ⟨J, hJ⟩ : ∃ J, jmp (subN v2 u2) z = J := ⟨_, rfl⟩
        rw [hJ] at kg hjd
        generalize amtN (subN v2 u2) = A at *
        generalize subN v2 u2 = S at *
        clear hss hd1 hd2 hja hJ hu hv
        cases J with
        | false =>
          have hje : Hid (jumpsN D z (k + 1) = jumpsN D z k) := ⟨by rw [hjd.out, if_neg (by decide), List.append_nil]⟩
          clear hjd
          go_upto_region 5 with fail
          go_region_held3 (fun X => X.cell? ⟨b, off + k * 2 + 1, none⟩ = some (.float .f32 u2) ∧ X.cell? ⟨b, off + (k + 1) * 2 + 1, none⟩ = some (.float .f32 v2)) (with_reducible assumption) ((go_at_call 57; refine (ham _).mono ?_; rintro _ w9 ⟨rfl, hw9⟩; subst w9))
          go_wp2
          go_roundw
          case rel => exact ⟨k + 1, by omega, by go_num, by rw [hje.out]; exact ho.drew, hB.drew⟩
          case measure => simp [intOf]; omega
        | true =>
          have hje : Hid (jumpsN D z (k + 1) = jumpsN D z k ++ [((k + 1 : Nat) : Int)]) := ⟨by rw [hjd.out, if_pos rfl]⟩
          have hoA := ho.drew.alloc (.cells #[.int .i64 ((k + 1 : Nat) : Int)] 3)
          have hBD : Below w.heap.size w wr.drew := hB.drew
          have hBA : Below w.heap.size w (wr.drew.alloc (.cells #[.int .i64 ((k + 1 : Nat) : Int)] 3)) := hBD.alloc hBD.size _
          have hlv := Hid.mk (fun (j : Nat) hj => (ho.lt j hj).1)
          clear hjd
          go_upto_region 5 with fail
          go_region_held3 (fun X => X.cell? ⟨b, off + k * 2 + 1, none⟩ = some (.float .f32 u2) ∧ X.cell? ⟨b, off + (k + 1) * 2 + 1, none⟩ = some (.float .f32 v2)) (with_reducible assumption) ((go_at_call 57; refine (ham _).mono ?_; rintro _ w9 ⟨rfl, hw9⟩; subst w9))
          go_wp2_with (at_builtin; refine wpList_append_own _ rfl _ _ 28 rfl w.heap.size 3 i0 _ 1 8 Tryz.underlying28 hi hz0 hz1 hz2 rfl (by decide) _ (jumpsN D z k).length ((jumpsN D z k).map (Value.int .i64)) rfl hoA ⟨wr.heap.size, 0, none⟩ 1 1 [.int .i64 ((k + 1 : Nat) : Int)] rfl rfl (lit_at wr.drew _ _) (by simp [Value.oneCell']) (by unfold maxLen; omega) (by omega) hBA.size ?_; intro v4 w4 hown4 hgrow4 _; have hB4 := hBA.grown hgrow4 hBA.size hlv.out)
          go_roundw
          case rel => exact ⟨k + 1, by omega, by go_num, by rw [hje.out, List.length_append, List.map_append]; exact hown4, hB4⟩
          case measure => simp [intOf]; omega
    · obtain rfl : k = D.length - 1 := by omega
      have hlt' : ¬ ((D.length - 1 + 1 : Nat) : Int) < (D.length : Int) := by omega
      obtain ⟨a', c', rfl, hP⟩ := xs_of_own ho
      go_wp2
      exact bodyPost_ret (v := .slice a' (jumpsN D z (D.length - 1)).length c') (by simp [results, Tryz.results19, go_sem]) rfl ⟨a', c', rfl, hP, hB⟩
end Go.Proofs.YthmjkmdbggfiiaaGreatDoor.CF

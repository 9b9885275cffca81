import Derived.Test.YtoippgmecnlhcaaGreatDoorJoin7
import Derived.Laws.IdiomStrings
namespace Go.Proofs.YtoippgmecnlhcaaGreatDoor
open Go.RowKit

/-- Ten bytes in a block. -/
def Txt (w : World) (b : Nat) (f : Nat → Int) : Prop := ∀ j, j < 10 → w.cell? ⟨b, j, none⟩ = some (.int .u8 (f j)) ∧ w.frozen? ⟨b, j, none⟩ = false
theorem Txt.set {w : World} {b : Nat} {f : Nat → Int} (h : Txt w b f) (i : Nat) (hi : i < 10) (v : Int) : Txt (w.setCell ⟨b, i, none⟩ (.int .u8 v)) b (fun j => if j = i then v else f j) := by
  intro j hj
  refine ⟨?_, by rw [World.frozen?_setCell]; exact (h j hj).2⟩
  by_cases e : j = i
  · subst e
    rw [World.cell?_setCell_same' _ _ _ (by rw [(h j hj).1]; rfl)]
    simp
  · rw [World.cell?_setCell_other _ _ _ _ (by simp)]
    simp only [e, if_false]
    exact (h j hj).1
theorem Txt.congr {w : World} {b : Nat} {f g : Nat → Int} (h : Txt w b f) (e : ∀ j, j < 10 → f j = g j) : Txt w b g := fun j hj => by rw [← e j hj]; exact h j hj
theorem Txt.later {w w' : World} {b : Nat} {f : Nat → Int} (h : Txt w b f) (hb : Below w.heap.size w w') : Txt w' b f := fun j hj =>
  have hl := World.block_lt_of_cell? _ _ (h j hj).1
  ⟨(hb.cell (p := ⟨b, j, none⟩) hl).trans (h j hj).1, (hb.frozen (p := ⟨b, j, none⟩) hl).trans (h j hj).2⟩

/-- digit k of a number, from the last one on -/
def dg (N k : Nat) : Int := 48 + ((N / 10 ^ k % 10 : Nat) : Int)

set_option maxHeartbeats 1000000 in
theorem putDigits_any (b off L cap N : Nat) (hL : off + L ≤ 10) (hN : N < 1000000) (f : Nat → Int) (w : World) (hT : Txt w b f) :
    Calls Tryz.prog 69 #[.slice (some ⟨b, off, none⟩) L cap, .int .i64 N] w fun e w' => (∃ v, e = .returned v) ∧ Txt w' b (fun j => if off ≤ j ∧ j < off + L then dg N (off + L - 1 - j) else f j) ∧ Below b w w' := by
  have e1 : wrap64 ((L : Int) - 1) = (L : Int) - 1 := wrap64_id (by omega) (by omega)
  go_enter Tryz.func69, Tryz.ntmps69
  go_wp2
  go_loopw [1, 4] (fun y x wr => ∃ (i M : Nat) (z : Int), x = .int .i64 z ∧ z = (i : Int) - 1 ∧ i ≤ L ∧ y = .int .i64 M ∧ Hid (M = N / 10 ^ (L - i)) ∧ Txt wr b (fun j => if off + i ≤ j ∧ j < off + L then dg N (off + L - 1 - j) else f j) ∧ Below b w wr) (fun _ x _ => (intOf x + 1).toNat)
  case atStart => exact ⟨L, N, _, rfl, rfl, Nat.le_refl _, rfl, by unfold Hid; simp, hT.congr (fun j _ => by rw [if_neg (by omega)]), Below.refl _ _⟩
  case round =>
    obtain ⟨i, M, z, rfl, hz, hi, rfl, hM, hTr, hbr⟩ := hrel
    cases i with
    | zero =>
      obtain rfl : z = -1 := by omega
      clear hz
      go_wp2
      go_end0
      exact ⟨⟨_, rfl⟩, hTr.congr (fun j _ => by simp), hbr⟩
    | succ i =>
      obtain rfl : z = i := by omega
      clear hz
      have hM2 : Hid (M = N / 10 ^ (L - 1 - i)) := by unfold Hid; rw [hM.out, show L - (i + 1) = L - 1 - i by omega]
      have hMb : M < 1000000 := by rw [hM2.out]; exact Nat.lt_of_le_of_lt (Nat.div_le_self _ _) hN
      have c0 : (i : Int) < L := by omega
      have c1 := hTr (off + i) (by omega)
      obtain ⟨R, hR⟩ : ∃ R : Int, Hid (R = (M : Int) % 10) := ⟨_, rfl⟩
      obtain ⟨M3, hM3⟩ : ∃ M3 : Nat, Hid (M3 = M / 10) := ⟨_, rfl⟩
      have em : (M : Int).tmod 10 = R := by rw [Int.tmod_eq_emod_of_nonneg (by omega)]; exact hR.out.symm
      have eq : (M : Int).tdiv 10 = (M3 : Int) := by have := hM3.out; rw [Int.tdiv_eq_ediv_of_nonneg (by omega)]; omega
      have r0 : 0 ≤ R := by have := hR.out; omega
      have r1 : R ≤ 9 := by have := hR.out; omega
      have m3 : M3 < 1000000 := by have := hM3.out; omega
      have hs := hTr.set (off + i) (by omega) (48 + R)
      obtain ⟨c2, c3⟩ := c1
      have hx : Hid (48 + R = dg N (off + L - 1 - (off + i))) := by
        unfold Hid dg
        rw [hR.out, hM2.out, show off + L - 1 - (off + i) = L - 1 - i by omega]
        simp
      have hM4 : Hid (M3 = N / 10 ^ (L - i)) := by
        unfold Hid
        rw [hM3.out, hM2.out, Nat.div_div_eq_div_mul, ← Nat.pow_succ, show (L - 1 - i).succ = L - i by omega]
      have e3 : wrap64 ((i : Int) - 1) = (i : Int) - 1 := wrap64_id (by omega) (by omega)
      have hTn : Hid (Txt (wr.setCell ⟨b, off + i, none⟩ (.int .u8 (48 + R))) b (fun j => if off + i ≤ j ∧ j < off + L then dg N (off + L - 1 - j) else f j)) := by
        refine hs.congr (fun j _ => ?_)
        by_cases e : j = off + i
        · subst e
          rw [if_pos rfl, if_pos (by omega)]
          exact hx.out
        · rw [if_neg e]
          by_cases e2 : off + i ≤ j ∧ j < off + L
          · rw [if_pos e2, if_pos (by omega)]
          · rw [if_neg e2, if_neg (by omega)]
      clear hT hTr hM hM2 hs hx hR hM3
      go_wp2
      exact ⟨⟨i, M3, _, rfl, rfl, by omega, rfl, hM4, hTn.out, hbr.setCell (Nat.le_refl _) _⟩, by simp [intOf]⟩

theorem fits_any (c a : Int) (w : World) : Calls Tryz.prog 122 #[.int .u8 c, .int .u8 a] w fun e w' => e = .returned (.bool (if a = 48 then decide (48 ≤ c ∧ c ≤ 57) else decide (c = a))) ∧ w' = w := by
  by_cases h : a = 48
  · subst h
    by_cases h1 : 48 ≤ c
    · go_enter Tryz.func122, Tryz.ntmps122
      go_wp2
      go_ret
      exact ⟨ret_bool (by simp), rfl⟩
    · go_enter Tryz.func122, Tryz.ntmps122
      go_wp2
      go_ret
      exact ⟨ret_bool (by simp; omega), rfl⟩
  · go_enter Tryz.func122, Tryz.ntmps122
    go_wp2
    go_ret
    exact ⟨ret_bool (by rw [Bool.eq_iff_iff]; simp), rfl⟩

/-- the value of digits, from the first one on -/
def dval (c : Nat → Int) : Nat → Int
  | 0 => 0
  | n + 1 => dval c n * 10 + c n

set_option maxHeartbeats 1000000 in
theorem digits_any (s : ByteArray) (hs : s.size ≤ 9) (c : Nat → Int) (hc : ∀ i (h : i < s.size), (s[i].toNat : Int) = 48 + c i ∧ 0 ≤ c i ∧ c i ≤ 9) (w : World) :
    Calls Tryz.prog 95 #[.string s] w fun e w' => e = .returned (.int .i64 (dval c s.size)) ∧ w' = w := by
  go_enter Tryz.func95, Tryz.ntmps95
  go_wp2
  go_loopw [3, 7] (fun y x wr => ∃ (i : Nat), x = .int .i64 i ∧ i ≤ s.size ∧ y = .int .i64 (dval c i) ∧ Hid (0 ≤ dval c i ∧ dval c i < 10 ^ i) ∧ wr = w) (fun _ x _ => s.size - (intOf x).toNat)
  case atStart => exact ⟨0, rfl, Nat.zero_le _, rfl, by unfold Hid; simp [dval], rfl⟩
  case round =>
    obtain ⟨i, rfl, hi, rfl, hb, rfl⟩ := hrel
    by_cases hlt : i = s.size
    · subst hlt
      go_wp2
      go_ret
      exact ⟨rfl, rfl⟩
    · have h1 : (i : Int) < s.size := by omega
      have h2 : i < s.size := by omega
      obtain ⟨hc1, hc2, hc3⟩ := hc i h2
      go_wp2
      have hd := hb.out
      have hp : (10 : Int) ^ i ≤ 10 ^ 9 := by
        have := Nat.pow_le_pow_right (n := 10) (by omega) (show i ≤ 9 by omega)
        exact_mod_cast this
      have h9 : (10 : Int) ^ 9 = 1000000000 := by decide
      have hp2 : (10 : Int) ^ (i + 1) = 10 ^ i * 10 := Int.pow_succ _ _
      refine ⟨⟨i + 1, by simp, by omega, congrArg (Value.int .i64) ?_, ?_, trivial⟩, by simp [intOf]; omega⟩
      · rw [wrap64_id (z := dval c i * 10) (by omega) (by omega), wrap64_id (by omega) (by omega)]
        simp only [dval]
        omega
      · unfold Hid
        simp only [dval]
        omega

end Go.Proofs.YtoippgmecnlhcaaGreatDoor

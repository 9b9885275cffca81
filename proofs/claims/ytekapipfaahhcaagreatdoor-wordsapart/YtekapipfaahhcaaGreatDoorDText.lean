import Derived.Test.YtekapipfaahhcaaGreatDoorDNumber
import Derived.Laws.IdiomStrings
namespace Go.Proofs.YtekapipfaahhcaaGreatDoor
open Go.RowKit

/-- Ten bytes in a block. -/
def Txt (w : World) (b : Nat) (f : Nat → Int) : Prop := ∀ j, j < 10 → w.cell? ⟨b, j, none⟩ = some (.int .u8 (f j)) ∧ w.frozen? ⟨b, j, none⟩ = false
theorem Txt.set {w : World} {b : Nat} {f : Nat → Int} (h : Txt w b f) (i : Nat) (hi : i < 10) (v : Int) : Txt (w.setCell ⟨b, i, none⟩ (.int .u8 v)) b (fun j => if j = i then v else f j) := by
  intro j hj
  refine ⟨?_, by rw [World.frozen?_setCell]; exact (h j hj).2⟩
  by_cases e : j = i
  · subst e
    rw [World.cell?_setCell_same' _ _ _ (by rw [(h j hj).1]; rfl)]
    simp
  · rw [World.cell?_setCell_other _ _ _ _ (by simp)]
    simp only [e, if_false]
    exact (h j hj).1
theorem Txt.congr {w : World} {b : Nat} {f g : Nat → Int} (h : Txt w b f) (e : ∀ j, j < 10 → f j = g j) : Txt w b g := fun j hj => by rw [← e j hj]; exact h j hj
theorem Txt.later {w w' : World} {b : Nat} {f : Nat → Int} (h : Txt w b f) (hb : Below w.heap.size w w') : Txt w' b f := fun j hj =>
  have hl := World.block_lt_of_cell? _ _ (h j hj).1
  ⟨(hb.cell (p := ⟨b, j, none⟩) hl).trans (h j hj).1, (hb.frozen (p := ⟨b, j, none⟩) hl).trans (h j hj).2⟩

/-- digit k of a number, from the last one on -/
def dg (N k : Nat) : Int := 48 + ((N / 10 ^ k % 10 : Nat) : Int)


theorem fits_any (c a : Int) (w : World) : Calls Tryz.prog 154 #[.int .u8 c, .int .u8 a] w fun e w' => e = .returned (.bool (if a = 48 then decide (48 ≤ c ∧ c ≤ 57) else decide (c = a))) ∧ w' = w := by
  by_cases h : a = 48
  · subst h
    by_cases h1 : 48 ≤ c
    · go_enter Tryz.func154, Tryz.ntmps154
      go_wp2
      go_ret
      exact ⟨ret_bool (by simp), rfl⟩
    · go_enter Tryz.func154, Tryz.ntmps154
      go_wp2
      go_ret
      exact ⟨ret_bool (by simp; omega), rfl⟩
  · go_enter Tryz.func154, Tryz.ntmps154
    go_wp2
    go_ret
    exact ⟨ret_bool (by rw [Bool.eq_iff_iff]; simp), rfl⟩

/-- the value of digits, from the first one on -/
def dval (c : Nat → Int) : Nat → Int
  | 0 => 0
  | n + 1 => dval c n * 10 + c n

set_option maxHeartbeats 1000000 in
theorem digits_any (s : ByteArray) (hs : s.size ≤ 9) (c : Nat → Int) (hc : ∀ i (h : i < s.size), (s[i].toNat : Int) = 48 + c i ∧ 0 ≤ c i ∧ c i ≤ 9) (w : World) :
    Calls Tryz.prog 148 #[.string s] w fun e w' => e = .returned (.int .i64 (dval c s.size)) ∧ w' = w := by
  go_enter Tryz.func148, Tryz.ntmps148
  go_wp2
  go_loopw [3, 7] (fun y x wr => ∃ (i : Nat), x = .int .i64 i ∧ i ≤ s.size ∧ y = .int .i64 (dval c i) ∧ Hid (0 ≤ dval c i ∧ dval c i < 10 ^ i) ∧ wr = w) (fun _ x _ => s.size - (intOf x).toNat)
  case atStart => exact ⟨0, rfl, Nat.zero_le _, rfl, by unfold Hid; simp [dval], rfl⟩
  case round =>
    obtain ⟨i, rfl, hi, rfl, hb, rfl⟩ := hrel
    by_cases hlt : i = s.size
    · subst hlt
      go_wp2
      go_ret
      exact ⟨rfl, rfl⟩
    · have h1 : (i : Int) < s.size := by omega
      have h2 : i < s.size := by omega
      obtain ⟨hc1, hc2, hc3⟩ := hc i h2
      go_wp2
      have hd := hb.out
      have hp : (10 : Int) ^ i ≤ 10 ^ 9 := by
        have := Nat.pow_le_pow_right (n := 10) (by omega) (show i ≤ 9 by omega)
        exact_mod_cast this
      have h9 : (10 : Int) ^ 9 = 1000000000 := by decide
      have hp2 : (10 : Int) ^ (i + 1) = 10 ^ i * 10 := Int.pow_succ _ _
      refine ⟨⟨i + 1, by simp, by omega, congrArg (Value.int .i64) ?_, ?_, trivial⟩, by simp [intOf]; omega⟩
      · rw [wrap64_id (z := dval c i * 10) (by omega) (by omega), wrap64_id (by omega) (by omega)]
        simp only [dval]
        omega
      · unfold Hid
        simp only [dval]
        omega

end Go.Proofs.YtekapipfaahhcaaGreatDoor

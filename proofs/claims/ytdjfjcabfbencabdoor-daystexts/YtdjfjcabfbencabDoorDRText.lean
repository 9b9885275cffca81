import Derived.Test.YtdjfjcabfbencabDoorDRefFace
import Derived.Test.YtdjfjcabfbencabDoorDPrint
namespace Go.Proofs.YtdjfjcabfbencabDoor
open Go.RowKit

/-- the last i digits of a number -/
def dl (N : Nat) : Nat → List UInt8
  | 0 => []
  | i + 1 => UInt8.ofNat (48 + N / 10 ^ i % 10) :: dl N i
theorem dl_len (N i : Nat) : (dl N i).length = i := by
  induction i with
  | zero => rfl
  | succ i ih => simp [dl, ih]
theorem bcat (x : UInt8) (l : List UInt8) : ByteArray.mk #[x] ++ ByteArray.mk l.toArray = ByteArray.mk (x :: l).toArray := by
  apply ByteArray.ext
  simp

set_option maxRecDepth 4000 in
set_option maxHeartbeats 2000000 in
theorem rdigits_any (N many : Nat) (hm : many ≤ 9) (hN : N < 1000000) (w : World) :
    Calls Tryd.prog 39 #[.int .i64 N, .int .i64 many] w fun e w' => e = .returned (.string ⟨(dl N many).toArray⟩) ∧ w' = w := by
  obtain ⟨W, hW⟩ : ∃ W, W = w := ⟨_, rfl⟩
  rw [← hW]
  clear hW
  go_enter Tryd.func39, Tryd.ntmps39
  go_wp2
  go_loopw [0, 5, 6] (fun y s x wr => ∃ (i M : Nat), x = .int .i64 i ∧ i ≤ many ∧ y = .int .i64 M ∧ Hid (M = N / 10 ^ i) ∧ s = .string ⟨(dl N i).toArray⟩ ∧ wr = W) (fun _ _ x _ => many - (intOf x).toNat)
  case atStart => exact ⟨0, N, rfl, Nat.zero_le _, rfl, by unfold Hid; simp, rfl, rfl⟩
  case round =>
    obtain ⟨i, M, rfl, hi, rfl, hM, rfl, rfl⟩ := hrel
    by_cases hlt : i = many
    · subst hlt
      go_wp2
      go_ret
      exact ⟨rfl, rfl⟩
    · have h1 : (i : Int) < many := by omega
      have hMb : M < 1000000 := by rw [hM.out]; exact Nat.lt_of_le_of_lt (Nat.div_le_self _ _) hN
      have hlen := dl_len N i
      have hcat := bcat (UInt8.ofNat (48 + N / 10 ^ i % 10)) (dl N i)
      obtain ⟨M3, hM3⟩ : ∃ M3 : Nat, Hid (M3 = M / 10) := ⟨_, rfl⟩
      have eq : (M : Int).tdiv 10 = (M3 : Int) := by have := hM3.out; rw [Int.tdiv_eq_ediv_of_nonneg (by omega)]; omega
      have m3 : M3 < 1000000 := by have := hM3.out; omega
      have hM4 : Hid (M3 = N / 10 ^ (i + 1)) := by
        unfold Hid
        rw [hM3.out, hM.out, Nat.div_div_eq_div_mul, ← Nat.pow_succ]
      have hdl : dl N (i + 1) = UInt8.ofNat (48 + N / 10 ^ i % 10) :: dl N i := rfl
      have hR : (M : Int) % 10 = ((N / 10 ^ i % 10 : Nat) : Int) := by have := hM.out; omega
      rw [← hdl] at hcat
      have em : (M : Int).tmod 10 = (M : Int) % 10 := Int.tmod_eq_emod_of_nonneg (by omega)
      have r10 : N / 10 ^ i % 10 < 10 := by omega
      generalize N / 10 ^ i % 10 = r at *
      rw [hR] at em
      have : r = 0 ∨ r = 1 ∨ r = 2 ∨ r = 3 ∨ r = 4 ∨ r = 5 ∨ r = 6 ∨ r = 7 ∨ r = 8 ∨ r = 9 := by omega
      clear hM hM3 hdl hR
      have hcat2 : Hid _ := hcat
      clear hcat
      rcases this with rfl | rfl | rfl | rfl | rfl | rfl | rfl | rfl | rfl | rfl
      all_goals
        go_wp2
        refine ⟨⟨i + 1, M3, by simp, by omega, rfl, hM4, congrArg Value.string ?_, trivial⟩, by simp [intOf]; omega⟩
        rw [← hcat2.out]
        exact congrArg (· ++ ByteArray.mk (dl N i).toArray) (by decide)

end Go.Proofs.YtdjfjcabfbencabDoor

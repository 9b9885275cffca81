import Derived.Test.YtdjfjcabfbencabDoorDParse
import Derived.Test.YtdjfjcabfbencabDoorDPrint
import Derived.Test.YtdjfjcabfbencabDoorDPlain4
namespace Go.Proofs.YtdjfjcabfbencabDoor
open Go.RowKit

theorem getB (l : List UInt8) (i : Nat) (_h : i < (ByteArray.mk l.toArray).size) (h2 : i < l.length) : (ByteArray.mk l.toArray)[i] = l[i] := rfl
theorem sizeB (f : Nat → Int) : (ByteArray.mk (bytesOf f).toArray).size = 10 := by simp [ByteArray.size, bytesOf_len]
theorem byteB (Y M K i : Nat) (h : i < (ByteArray.mk (bytesOf (txt Y M K)).toArray).size) : ((ByteArray.mk (bytesOf (txt Y M K)).toArray)[i].toNat : Int) = txt Y M K i := by
  have h2 : i < (bytesOf (txt Y M K)).length := by rw [bytesOf_len]; rw [sizeB] at h; exact h
  rw [getB _ i h h2]
  exact bytesOf_at _ (fun j _ => txt_bd Y M K j) i h2
theorem ccB (Y M K i : Nat) (h : i < 10) : cc ⟨(bytesOf (txt Y M K)).toArray⟩ i = txt Y M K i - 48 := by
  have h2 : i < (ByteArray.mk (bytesOf (txt Y M K)).toArray).size := by rw [sizeB]; exact h
  unfold cc
  rw [dif_pos h2, byteB Y M K i h2]
theorem ckB (Y M K i : Nat) (h : i < (ByteArray.mk (bytesOf (txt Y M K)).toArray).size) : ck i (ByteArray.mk (bytesOf (txt Y M K)).toArray)[i].toNat = true := by
  rw [byteB Y M K i h]
  rw [sizeB] at h
  have a := dg_bd K (8 + 2 - 1 - i)
  have b := dg_bd M (5 + 2 - 1 - i)
  have c := dg_bd Y (0 + 4 - 1 - i)
  unfold ck txt form
  have : i = 0 ∨ i = 1 ∨ i = 2 ∨ i = 3 ∨ i = 4 ∨ i = 5 ∨ i = 6 ∨ i = 7 ∨ i = 8 ∨ i = 9 := by omega
  rcases this with rfl | rfl | rfl | rfl | rfl | rfl | rfl | rfl | rfl | rfl <;> simp <;> simp at a b c <;> omega
theorem valY (Y M K : Nat) (h : Y < 10000) : dval (fun i => cc ⟨(bytesOf (txt Y M K)).toArray⟩ (0 + i)) (4 - 0) = Y := by
  simp only [dval, show 4 - 0 = 4 from rfl, ccB Y M K _ (show 0 + 0 < 10 by omega), ccB Y M K _ (show 0 + 1 < 10 by omega), ccB Y M K _ (show 0 + 2 < 10 by omega), ccB Y M K _ (show 0 + 3 < 10 by omega)]
  simp [txt, dg]
  omega
theorem valM (Y M K : Nat) (h : M < 100) : dval (fun i => cc ⟨(bytesOf (txt Y M K)).toArray⟩ (5 + i)) (7 - 5) = M := by
  simp only [dval, show 7 - 5 = 2 from rfl, ccB Y M K _ (show 5 + 0 < 10 by omega), ccB Y M K _ (show 5 + 1 < 10 by omega)]
  simp [txt, dg]
  omega
theorem valK (Y M K : Nat) (h : K < 100) : dval (fun i => cc ⟨(bytesOf (txt Y M K)).toArray⟩ (8 + i)) (10 - 8) = K := by
  simp only [dval, show 10 - 8 = 2 from rfl, ccB Y M K _ (show 8 + 0 < 10 by omega), ccB Y M K _ (show 8 + 1 < 10 by omega)]
  simp [txt, dg]
  omega

/-- Parse reads what Print writes. -/
theorem parse_print (n k d : Int) (h : D.At n k d) (Y M K : Nat) (hY : (Y : Int) = 1900 + k / 12) (hMM : (M : Int) = k % 12 + 1) (hK : (K : Int) = d + 1) (w : World) (hM : Mon w) :
    Calls Tryd.prog 18 #[.string ⟨(bytesOf (txt Y M K)).toArray⟩] w fun e w' => e = .returned (.tuple #[.int .i64 n, .int .i64 10, .int .i64 0]) ∧ Below w.heap.size w w' := by
  have h1 := h.k1
  have h2 := h.d1
  have h3 := D.ln_bd k
  have hp := parse_good ⟨(bytesOf (txt Y M K)).toArray⟩ (sizeB _) (fun i hi => ckB Y M K i hi) n 0 (by
    unfold Hid
    rw [valY Y M K (by omega), valM Y M K (by omega), valK Y M K (by omega), hY, hMM, hK]
    exact (D.at_num h).symm) w hM
  simpa using hp

end Go.Proofs.YtdjfjcabfbencabDoor

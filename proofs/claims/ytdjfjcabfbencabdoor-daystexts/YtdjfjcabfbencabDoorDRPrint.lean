import Derived.Test.YtdjfjcabfbencabDoorDRText
namespace Go.Proofs.YtdjfjcabfbencabDoor
open Go.RowKit

theorem dg_toNat (N k : Nat) : (dg N k).toNat = 48 + N / 10 ^ k % 10 := by unfold dg; omega
theorem txt_list (Y M K : Nat) : dl Y 4 ++ [45] ++ dl M 2 ++ [45] ++ dl K 2 = bytesOf (txt Y M K) := by
  simp [dl, bytesOf, List.range_succ, txt, dg_toNat, form]
theorem catB (Y M K : Nat) : ByteArray.mk (dl Y 4).toArray ++ ByteArray.mk #[45] ++ ByteArray.mk (dl M 2).toArray ++ ByteArray.mk #[45] ++ ByteArray.mk (dl K 2).toArray = ByteArray.mk (bytesOf (txt Y M K)).toArray := by
  rw [← txt_list]
  apply ByteArray.ext
  simp
theorem catSz (l : List UInt8) : (ByteArray.mk l.toArray).size = l.length := by simp [ByteArray.size]

set_option maxRecDepth 4000 in
set_option maxHeartbeats 2000000 in
theorem rprint_yes (n k d : Int) (h : D.At n k d) (Y M K : Nat) (hY : (Y : Int) = 1900 + k / 12) (hMM : (M : Int) = k % 12 + 1) (hK : (K : Int) = d + 1) (w : World) :
    Calls Tryd.prog 17 #[.int .i64 n] w fun e w' => e = .returned (.tuple #[.string ⟨(bytesOf (txt Y M K)).toArray⟩, .int .i64 0]) ∧ w' = w := by
  have hD : Hid (D.Dat n Y M K 0) := by rw [hY, hMM, hK]; exact .yes k d h
  have d1 := h.d1
  have d2 := D.ln_bd k
  have k1 := h.k1
  have hA := rdigits_any Y 4 (by omega) (by omega) w
  have hB := rdigits_any M 2 (by omega) (by omega) w
  have hC := rdigits_any K 2 (by omega) (by omega) w
  have hcat := catB Y M K
  have s1 : (ByteArray.mk (dl Y 4).toArray).size = 4 := by rw [catSz, dl_len]
  have s2 : (ByteArray.mk (dl M 2).toArray).size = 2 := by rw [catSz, dl_len]
  have s3 : (ByteArray.mk (dl K 2).toArray).size = 2 := by rw [catSz, dl_len]
  generalize ByteArray.mk (dl Y 4).toArray = SA at *
  generalize ByteArray.mk (dl M 2).toArray = SB at *
  generalize ByteArray.mk (dl K 2).toArray = SC at *
  generalize ByteArray.mk (bytesOf (txt Y M K)).toArray = S at *
  clear h hY hMM hK
  go_enter Tryd.func17, Tryd.ntmps17
  go_wp2_with (first | (go_at_call 13; refine (rdate_any n Y M K 0 _ hD).mono ?_; clear hD; rintro _ w ⟨rfl, rfl⟩) | (go_at_call 39; refine hA.mono ?_; clear hA; rintro _ w ⟨rfl, rfl⟩) | (go_at_call 39; refine hB.mono ?_; clear hB; rintro _ w ⟨rfl, rfl⟩) | (go_at_call 39; refine hC.mono ?_; clear hC; rintro _ w ⟨rfl, rfl⟩))
  exact bodyPost_ret (v := .tuple #[.string S, .int .i64 0]) (by simp [results, Tryd.results17, go_sem]) rfl ⟨rfl, rfl⟩

theorem rprint_no (n : Int) (hn : ¬ (0 ≤ n ∧ n ≤ 109572)) (w : World) :
    Calls Tryd.prog 17 #[.int .i64 n] w fun e w' => e = .returned (.tuple #[.string ⟨#[]⟩, .int .i64 21]) ∧ w' = w := by
  have hD : Hid (D.Dat n 0 0 0 21) := .no hn
  clear hn
  go_enter Tryd.func17, Tryd.ntmps17
  go_wp2_with (go_at_call 13; refine (rdate_any n 0 0 0 21 _ hD).mono ?_; clear hD; rintro _ w ⟨rfl, rfl⟩)
  exact bodyPost_ret (v := .tuple #[.string ⟨#[]⟩, .int .i64 21]) (by simp [results, Tryd.results17, go_sem]) rfl ⟨rfl, rfl⟩

end Go.Proofs.YtdjfjcabfbencabDoor

import Derived.Test.YthbojlbgjmecoaaGreatPSum0
import Derived.Laws.BytesArg
/- string(a) == string(b). -/
namespace Go.Proofs.YthbojlbgjmecoaaGreat.DJ
open Go.RowKit

def strB (bs : List Nat) : ByteArray := strOfNums (bs.map fun (n : Nat) => (n : Int))
theorem strB_inj {a b : List Nat} (ha : ∀ n ∈ a, n < 256) (hb : ∀ n ∈ b, n < 256) (h : strB a = strB b) : a = b := by
  have h1 := congrArg (fun s : ByteArray => s.data.toList) h
  simp only [strB, strOfNums_data, List.map_map] at h1
  have key : ∀ l : List Nat, (∀ n ∈ l, n < 256) → (l.map ((fun n : Int => UInt8.ofNat n.toNat) ∘ fun (n : Nat) => (n : Int))).map (fun u => u.toNat) = l := by
    intro l hl
    rw [List.map_map]
    conv => rhs; rw [← List.map_id l]
    apply List.map_congr_left
    intro n hn
    have := hl n hn
    simp only [Function.comp, Int.toNat_natCast, id, UInt8.toNat_ofNat']
    omega
  rw [← key a ha, ← key b hb, h1]
theorem conv_bytes {a : Option Addr} {bs : List Nat} {w : World} (h : Byts w a bs) (cap : Nat) :
    (convert 34 9 (.slice a bs.length cap)).run Tryz.prog w = .ok (.string (strB bs)) w := by
  obtain ⟨-, rfl | ⟨b, off, rfl, -, hc⟩⟩ := h
  · cases a with
    | none => exact run_convert_bytes_nil w 34 5 Tryz.underlying34 Tryz.underlying5 0 cap 9 Tryz.underlying9
    | some a =>
      rw [run_convert_bytes_string w 34 9 5 _ _ cap Tryz.underlying34 Tryz.underlying5 Tryz.underlying9]
      exact run_bytesToString w a 0 cap [] (run_loadCells_list w a [] (by simp))
  · refine run_convert_bytes_arg w 34 5 Tryz.underlying34 Tryz.underlying5 b off bs.length cap (bs.map fun (n : Nat) => (n : Int)) (by simp) (fun i hi => ?_) 9 Tryz.underlying9
    rw [hc i hi]
    simp [hi]
theorem sameBytes_any {a b : Option Addr} {xs ys : List Nat} {w : World} (ha : Byts w a xs) (hb : Byts w b ys) (ca cb : Nat) :
    Calls Tryz.prog 15 #[.slice a xs.length ca, .slice b ys.length cb] w fun e w' => e = .returned (.bool (decide (xs = ys))) ∧ w' = w := by
  have c1 := conv_bytes ha ca
  have c2 := conv_bytes hb cb
  have he : Hid (((strB xs).toList == (strB ys).toList) = decide (xs = ys)) := ⟨by
    by_cases h : xs = ys
    · rw [h, decide_eq_true rfl]; exact beq_self_eq_true _
    · rw [decide_eq_false h]
      refine beq_eq_false_iff_ne.2 fun e => h (strB_inj ha.1 hb.1 ?_)
      rw [Lib.toList_data, Lib.toList_data] at e
      exact ByteArray.ext (Array.toList_inj.mp e)⟩
  generalize strB xs = A at *
  generalize strB ys = B at *
  clear ha hb
  go_enter Tryz.func15, Tryz.ntmps15
  go_wp2
  go_ret
  rw [← he.out]
  exact ⟨rfl, rfl⟩
end Go.Proofs.YthbojlbgjmecoaaGreat.DJ

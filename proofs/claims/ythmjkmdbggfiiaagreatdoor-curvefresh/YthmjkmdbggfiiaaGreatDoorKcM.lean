import Derived.Test.YthmjkmdbggfiiaaGreatDoorKbA
/- Nothing to mark. -/
namespace Go.Proofs.YthmjkmdbggfiiaaGreatDoor.KB
open Go.RowKit
set_option linter.constructorNameAsVariable false

set_option maxRecDepth 4000 in
theorem markBytes (W : World) {bb : Nat} {turn deep : Int} {f : Nat → Nat → Value} {seen : Nat → Int} (h : BkAt W bb turn deep f seen) (hk : Nil f 0) :
    Calls Tryz.prog 91 #[.pointer (some ⟨bb, 0, none⟩)] W fun e w' => e = .returned (.tuple #[]) ∧ w' = W := by
  have c2 : W.cell? ⟨bb, 6, none⟩ = some (.slice none 0 0) := (h.cell (i := 6) (by decide)).trans (congrArg some (hk 2))
  have c3 : W.cell? ⟨bb, 7, none⟩ = some (.slice none 0 0) := (h.cell (i := 7) (by decide)).trans (congrArg some (hk 3))
  have c5 : W.cell? ⟨bb, 9, none⟩ = some (.slice none 0 0) := (h.cell (i := 9) (by decide)).trans (congrArg some (hk 5))
  have c6 : W.cell? ⟨bb, 10, none⟩ = some (.slice none 0 0) := (h.cell (i := 10) (by decide)).trans (congrArg some (hk 6))
  clear h hk
  go_enter Tryz.func91, Tryz.ntmps91
  go_wp2
  refine bodyPost_ret (results_none rfl _ _ _) rfl ?_
  exact ⟨rfl, rfl⟩

set_option maxRecDepth 4000 in
theorem markInts (W : World) {bb : Nat} {turn deep : Int} {f : Nat → Nat → Value} {seen : Nat → Int} (h : BkAt W bb turn deep f seen) (hk : Nil f 1) :
    Calls Tryz.prog 92 #[.pointer (some ⟨bb, 0, none⟩)] W fun e w' => e = .returned (.tuple #[]) ∧ w' = W := by
  have c2 : W.cell? ⟨bb, 15, none⟩ = some (.slice none 0 0) := (h.cell (i := 15) (by decide)).trans (congrArg some (hk 2))
  have c3 : W.cell? ⟨bb, 16, none⟩ = some (.slice none 0 0) := (h.cell (i := 16) (by decide)).trans (congrArg some (hk 3))
  have c5 : W.cell? ⟨bb, 18, none⟩ = some (.slice none 0 0) := (h.cell (i := 18) (by decide)).trans (congrArg some (hk 5))
  have c6 : W.cell? ⟨bb, 19, none⟩ = some (.slice none 0 0) := (h.cell (i := 19) (by decide)).trans (congrArg some (hk 6))
  clear h hk
  go_enter Tryz.func92, Tryz.ntmps92
  go_wp2
  refine bodyPost_ret (results_none rfl _ _ _) rfl ?_
  exact ⟨rfl, rfl⟩

set_option maxRecDepth 4000 in
theorem markCells (W : World) {bb : Nat} {turn deep : Int} {f : Nat → Nat → Value} {seen : Nat → Int} (h : BkAt W bb turn deep f seen) (hk : Nil f 2) :
    Calls Tryz.prog 93 #[.pointer (some ⟨bb, 0, none⟩)] W fun e w' => e = .returned (.tuple #[]) ∧ w' = W := by
  have c2 : W.cell? ⟨bb, 24, none⟩ = some (.slice none 0 0) := (h.cell (i := 24) (by decide)).trans (congrArg some (hk 2))
  have c3 : W.cell? ⟨bb, 25, none⟩ = some (.slice none 0 0) := (h.cell (i := 25) (by decide)).trans (congrArg some (hk 3))
  have c5 : W.cell? ⟨bb, 27, none⟩ = some (.slice none 0 0) := (h.cell (i := 27) (by decide)).trans (congrArg some (hk 5))
  have c6 : W.cell? ⟨bb, 28, none⟩ = some (.slice none 0 0) := (h.cell (i := 28) (by decide)).trans (congrArg some (hk 6))
  clear h hk
  go_enter Tryz.func93, Tryz.ntmps93
  go_wp2
  refine bodyPost_ret (results_none rfl _ _ _) rfl ?_
  exact ⟨rfl, rfl⟩

set_option maxRecDepth 4000 in
theorem markBools (W : World) {bb : Nat} {turn deep : Int} {f : Nat → Nat → Value} {seen : Nat → Int} (h : BkAt W bb turn deep f seen) (hk : Nil f 3) :
    Calls Tryz.prog 94 #[.pointer (some ⟨bb, 0, none⟩)] W fun e w' => e = .returned (.tuple #[]) ∧ w' = W := by
  have c2 : W.cell? ⟨bb, 33, none⟩ = some (.slice none 0 0) := (h.cell (i := 33) (by decide)).trans (congrArg some (hk 2))
  have c3 : W.cell? ⟨bb, 34, none⟩ = some (.slice none 0 0) := (h.cell (i := 34) (by decide)).trans (congrArg some (hk 3))
  have c5 : W.cell? ⟨bb, 36, none⟩ = some (.slice none 0 0) := (h.cell (i := 36) (by decide)).trans (congrArg some (hk 5))
  have c6 : W.cell? ⟨bb, 37, none⟩ = some (.slice none 0 0) := (h.cell (i := 37) (by decide)).trans (congrArg some (hk 6))
  clear h hk
  go_enter Tryz.func94, Tryz.ntmps94
  go_wp2
  refine bodyPost_ret (results_none rfl _ _ _) rfl ?_
  exact ⟨rfl, rfl⟩

set_option maxRecDepth 4000 in
theorem markTexts (W : World) {bb : Nat} {turn deep : Int} {f : Nat → Nat → Value} {seen : Nat → Int} (h : BkAt W bb turn deep f seen) (hk : Nil f 4) :
    Calls Tryz.prog 95 #[.pointer (some ⟨bb, 0, none⟩)] W fun e w' => e = .returned (.tuple #[]) ∧ w' = W := by
  have c2 : W.cell? ⟨bb, 42, none⟩ = some (.slice none 0 0) := (h.cell (i := 42) (by decide)).trans (congrArg some (hk 2))
  have c3 : W.cell? ⟨bb, 43, none⟩ = some (.slice none 0 0) := (h.cell (i := 43) (by decide)).trans (congrArg some (hk 3))
  have c5 : W.cell? ⟨bb, 45, none⟩ = some (.slice none 0 0) := (h.cell (i := 45) (by decide)).trans (congrArg some (hk 5))
  have c6 : W.cell? ⟨bb, 46, none⟩ = some (.slice none 0 0) := (h.cell (i := 46) (by decide)).trans (congrArg some (hk 6))
  clear h hk
  go_enter Tryz.func95, Tryz.ntmps95
  go_wp2
  refine bodyPost_ret (results_none rfl _ _ _) rfl ?_
  exact ⟨rfl, rfl⟩

set_option maxRecDepth 4000 in
theorem markValues (W : World) {bb : Nat} {turn deep : Int} {f : Nat → Nat → Value} {seen : Nat → Int} (h : BkAt W bb turn deep f seen) (hk : Nil f 5) :
    Calls Tryz.prog 96 #[.pointer (some ⟨bb, 0, none⟩)] W fun e w' => e = .returned (.tuple #[]) ∧ w' = W := by
  have c2 : W.cell? ⟨bb, 51, none⟩ = some (.slice none 0 0) := (h.cell (i := 51) (by decide)).trans (congrArg some (hk 2))
  have c3 : W.cell? ⟨bb, 52, none⟩ = some (.slice none 0 0) := (h.cell (i := 52) (by decide)).trans (congrArg some (hk 3))
  have c5 : W.cell? ⟨bb, 54, none⟩ = some (.slice none 0 0) := (h.cell (i := 54) (by decide)).trans (congrArg some (hk 5))
  have c6 : W.cell? ⟨bb, 55, none⟩ = some (.slice none 0 0) := (h.cell (i := 55) (by decide)).trans (congrArg some (hk 6))
  clear h hk
  go_enter Tryz.func96, Tryz.ntmps96
  go_wp2
  refine bodyPost_ret (results_none rfl _ _ _) rfl ?_
  exact ⟨rfl, rfl⟩

set_option maxRecDepth 4000 in
theorem markBands (W : World) {bb : Nat} {turn deep : Int} {f : Nat → Nat → Value} {seen : Nat → Int} (h : BkAt W bb turn deep f seen) (hk : Nil f 6) :
    Calls Tryz.prog 97 #[.pointer (some ⟨bb, 0, none⟩)] W fun e w' => e = .returned (.tuple #[]) ∧ w' = W := by
  have c2 : W.cell? ⟨bb, 60, none⟩ = some (.slice none 0 0) := (h.cell (i := 60) (by decide)).trans (congrArg some (hk 2))
  have c3 : W.cell? ⟨bb, 61, none⟩ = some (.slice none 0 0) := (h.cell (i := 61) (by decide)).trans (congrArg some (hk 3))
  have c5 : W.cell? ⟨bb, 63, none⟩ = some (.slice none 0 0) := (h.cell (i := 63) (by decide)).trans (congrArg some (hk 5))
  have c6 : W.cell? ⟨bb, 64, none⟩ = some (.slice none 0 0) := (h.cell (i := 64) (by decide)).trans (congrArg some (hk 6))
  clear h hk
  go_enter Tryz.func97, Tryz.ntmps97
  go_wp2
  refine bodyPost_ret (results_none rfl _ _ _) rfl ?_
  exact ⟨rfl, rfl⟩

set_option maxRecDepth 4000 in
theorem markTokens (W : World) {bb : Nat} {turn deep : Int} {f : Nat → Nat → Value} {seen : Nat → Int} (h : BkAt W bb turn deep f seen) (hk : Nil f 7) :
    Calls Tryz.prog 98 #[.pointer (some ⟨bb, 0, none⟩)] W fun e w' => e = .returned (.tuple #[]) ∧ w' = W := by
  have c2 : W.cell? ⟨bb, 69, none⟩ = some (.slice none 0 0) := (h.cell (i := 69) (by decide)).trans (congrArg some (hk 2))
  have c3 : W.cell? ⟨bb, 70, none⟩ = some (.slice none 0 0) := (h.cell (i := 70) (by decide)).trans (congrArg some (hk 3))
  have c5 : W.cell? ⟨bb, 72, none⟩ = some (.slice none 0 0) := (h.cell (i := 72) (by decide)).trans (congrArg some (hk 5))
  have c6 : W.cell? ⟨bb, 73, none⟩ = some (.slice none 0 0) := (h.cell (i := 73) (by decide)).trans (congrArg some (hk 6))
  clear h hk
  go_enter Tryz.func98, Tryz.ntmps98
  go_wp2
  refine bodyPost_ret (results_none rfl _ _ _) rfl ?_
  exact ⟨rfl, rfl⟩

set_option maxRecDepth 4000 in
theorem markEntries (W : World) {bb : Nat} {turn deep : Int} {f : Nat → Nat → Value} {seen : Nat → Int} (h : BkAt W bb turn deep f seen) (hk : Nil f 8) :
    Calls Tryz.prog 99 #[.pointer (some ⟨bb, 0, none⟩)] W fun e w' => e = .returned (.tuple #[]) ∧ w' = W := by
  have c2 : W.cell? ⟨bb, 78, none⟩ = some (.slice none 0 0) := (h.cell (i := 78) (by decide)).trans (congrArg some (hk 2))
  have c3 : W.cell? ⟨bb, 79, none⟩ = some (.slice none 0 0) := (h.cell (i := 79) (by decide)).trans (congrArg some (hk 3))
  have c5 : W.cell? ⟨bb, 81, none⟩ = some (.slice none 0 0) := (h.cell (i := 81) (by decide)).trans (congrArg some (hk 5))
  have c6 : W.cell? ⟨bb, 82, none⟩ = some (.slice none 0 0) := (h.cell (i := 82) (by decide)).trans (congrArg some (hk 6))
  clear h hk
  go_enter Tryz.func99, Tryz.ntmps99
  go_wp2
  refine bodyPost_ret (results_none rfl _ _ _) rfl ?_
  exact ⟨rfl, rfl⟩

set_option maxRecDepth 4000 in
theorem markChanges (W : World) {bb : Nat} {turn deep : Int} {f : Nat → Nat → Value} {seen : Nat → Int} (h : BkAt W bb turn deep f seen) (hk : Nil f 9) :
    Calls Tryz.prog 100 #[.pointer (some ⟨bb, 0, none⟩)] W fun e w' => e = .returned (.tuple #[]) ∧ w' = W := by
  have c2 : W.cell? ⟨bb, 87, none⟩ = some (.slice none 0 0) := (h.cell (i := 87) (by decide)).trans (congrArg some (hk 2))
  have c3 : W.cell? ⟨bb, 88, none⟩ = some (.slice none 0 0) := (h.cell (i := 88) (by decide)).trans (congrArg some (hk 3))
  have c5 : W.cell? ⟨bb, 90, none⟩ = some (.slice none 0 0) := (h.cell (i := 90) (by decide)).trans (congrArg some (hk 5))
  have c6 : W.cell? ⟨bb, 91, none⟩ = some (.slice none 0 0) := (h.cell (i := 91) (by decide)).trans (congrArg some (hk 6))
  clear h hk
  go_enter Tryz.func100, Tryz.ntmps100
  go_wp2
  refine bodyPost_ret (results_none rfl _ _ _) rfl ?_
  exact ⟨rfl, rfl⟩

set_option maxRecDepth 4000 in
theorem markReads (W : World) {bb : Nat} {turn deep : Int} {f : Nat → Nat → Value} {seen : Nat → Int} (h : BkAt W bb turn deep f seen) (hk : Nil f 10) :
    Calls Tryz.prog 101 #[.pointer (some ⟨bb, 0, none⟩)] W fun e w' => e = .returned (.tuple #[]) ∧ w' = W := by
  have c2 : W.cell? ⟨bb, 96, none⟩ = some (.slice none 0 0) := (h.cell (i := 96) (by decide)).trans (congrArg some (hk 2))
  have c3 : W.cell? ⟨bb, 97, none⟩ = some (.slice none 0 0) := (h.cell (i := 97) (by decide)).trans (congrArg some (hk 3))
  have c5 : W.cell? ⟨bb, 99, none⟩ = some (.slice none 0 0) := (h.cell (i := 99) (by decide)).trans (congrArg some (hk 5))
  have c6 : W.cell? ⟨bb, 100, none⟩ = some (.slice none 0 0) := (h.cell (i := 100) (by decide)).trans (congrArg some (hk 6))
  clear h hk
  go_enter Tryz.func101, Tryz.ntmps101
  go_wp2
  refine bodyPost_ret (results_none rfl _ _ _) rfl ?_
  exact ⟨rfl, rfl⟩

set_option maxRecDepth 4000 in
theorem markFindings (W : World) {bb : Nat} {turn deep : Int} {f : Nat → Nat → Value} {seen : Nat → Int} (h : BkAt W bb turn deep f seen) (hk : Nil f 11) :
    Calls Tryz.prog 102 #[.pointer (some ⟨bb, 0, none⟩)] W fun e w' => e = .returned (.tuple #[]) ∧ w' = W := by
  have c2 : W.cell? ⟨bb, 105, none⟩ = some (.slice none 0 0) := (h.cell (i := 105) (by decide)).trans (congrArg some (hk 2))
  have c3 : W.cell? ⟨bb, 106, none⟩ = some (.slice none 0 0) := (h.cell (i := 106) (by decide)).trans (congrArg some (hk 3))
  have c5 : W.cell? ⟨bb, 108, none⟩ = some (.slice none 0 0) := (h.cell (i := 108) (by decide)).trans (congrArg some (hk 5))
  have c6 : W.cell? ⟨bb, 109, none⟩ = some (.slice none 0 0) := (h.cell (i := 109) (by decide)).trans (congrArg some (hk 6))
  clear h hk
  go_enter Tryz.func102, Tryz.ntmps102
  go_wp2
  refine bodyPost_ret (results_none rfl _ _ _) rfl ?_
  exact ⟨rfl, rfl⟩

set_option maxRecDepth 4000 in
theorem markConflicts (W : World) {bb : Nat} {turn deep : Int} {f : Nat → Nat → Value} {seen : Nat → Int} (h : BkAt W bb turn deep f seen) (hk : Nil f 12) :
    Calls Tryz.prog 103 #[.pointer (some ⟨bb, 0, none⟩)] W fun e w' => e = .returned (.tuple #[]) ∧ w' = W := by
  have c2 : W.cell? ⟨bb, 114, none⟩ = some (.slice none 0 0) := (h.cell (i := 114) (by decide)).trans (congrArg some (hk 2))
  have c3 : W.cell? ⟨bb, 115, none⟩ = some (.slice none 0 0) := (h.cell (i := 115) (by decide)).trans (congrArg some (hk 3))
  have c5 : W.cell? ⟨bb, 117, none⟩ = some (.slice none 0 0) := (h.cell (i := 117) (by decide)).trans (congrArg some (hk 5))
  have c6 : W.cell? ⟨bb, 118, none⟩ = some (.slice none 0 0) := (h.cell (i := 118) (by decide)).trans (congrArg some (hk 6))
  clear h hk
  go_enter Tryz.func103, Tryz.ntmps103
  go_wp2
  refine bodyPost_ret (results_none rfl _ _ _) rfl ?_
  exact ⟨rfl, rfl⟩

set_option maxRecDepth 4000 in
theorem markPoints (W : World) {bb : Nat} {turn deep : Int} {f : Nat → Nat → Value} {seen : Nat → Int} (h : BkAt W bb turn deep f seen) (hk : Nil f 13) :
    Calls Tryz.prog 104 #[.pointer (some ⟨bb, 0, none⟩)] W fun e w' => e = .returned (.tuple #[]) ∧ w' = W := by
  have c2 : W.cell? ⟨bb, 123, none⟩ = some (.slice none 0 0) := (h.cell (i := 123) (by decide)).trans (congrArg some (hk 2))
  have c3 : W.cell? ⟨bb, 124, none⟩ = some (.slice none 0 0) := (h.cell (i := 124) (by decide)).trans (congrArg some (hk 3))
  have c5 : W.cell? ⟨bb, 126, none⟩ = some (.slice none 0 0) := (h.cell (i := 126) (by decide)).trans (congrArg some (hk 5))
  have c6 : W.cell? ⟨bb, 127, none⟩ = some (.slice none 0 0) := (h.cell (i := 127) (by decide)).trans (congrArg some (hk 6))
  clear h hk
  go_enter Tryz.func104, Tryz.ntmps104
  go_wp2
  refine bodyPost_ret (results_none rfl _ _ _) rfl ?_
  exact ⟨rfl, rfl⟩

set_option maxRecDepth 4000 in
theorem markNodes (W : World) {bb : Nat} {turn deep : Int} {f : Nat → Nat → Value} {seen : Nat → Int} (h : BkAt W bb turn deep f seen) (hk : Nil f 14) :
    Calls Tryz.prog 105 #[.pointer (some ⟨bb, 0, none⟩)] W fun e w' => e = .returned (.tuple #[]) ∧ w' = W := by
  have c2 : W.cell? ⟨bb, 132, none⟩ = some (.slice none 0 0) := (h.cell (i := 132) (by decide)).trans (congrArg some (hk 2))
  have c3 : W.cell? ⟨bb, 133, none⟩ = some (.slice none 0 0) := (h.cell (i := 133) (by decide)).trans (congrArg some (hk 3))
  have c5 : W.cell? ⟨bb, 135, none⟩ = some (.slice none 0 0) := (h.cell (i := 135) (by decide)).trans (congrArg some (hk 5))
  have c6 : W.cell? ⟨bb, 136, none⟩ = some (.slice none 0 0) := (h.cell (i := 136) (by decide)).trans (congrArg some (hk 6))
  clear h hk
  go_enter Tryz.func105, Tryz.ntmps105
  go_wp2
  refine bodyPost_ret (results_none rfl _ _ _) rfl ?_
  exact ⟨rfl, rfl⟩

set_option maxRecDepth 4000 in
theorem markRecords (W : World) {bb : Nat} {turn deep : Int} {f : Nat → Nat → Value} {seen : Nat → Int} (h : BkAt W bb turn deep f seen) (hk : Nil f 15) :
    Calls Tryz.prog 106 #[.pointer (some ⟨bb, 0, none⟩)] W fun e w' => e = .returned (.tuple #[]) ∧ w' = W := by
  have c2 : W.cell? ⟨bb, 141, none⟩ = some (.slice none 0 0) := (h.cell (i := 141) (by decide)).trans (congrArg some (hk 2))
  have c3 : W.cell? ⟨bb, 142, none⟩ = some (.slice none 0 0) := (h.cell (i := 142) (by decide)).trans (congrArg some (hk 3))
  have c5 : W.cell? ⟨bb, 144, none⟩ = some (.slice none 0 0) := (h.cell (i := 144) (by decide)).trans (congrArg some (hk 5))
  have c6 : W.cell? ⟨bb, 145, none⟩ = some (.slice none 0 0) := (h.cell (i := 145) (by decide)).trans (congrArg some (hk 6))
  clear h hk
  go_enter Tryz.func106, Tryz.ntmps106
  go_wp2
  refine bodyPost_ret (results_none rfl _ _ _) rfl ?_
  exact ⟨rfl, rfl⟩

set_option maxRecDepth 4000 in
theorem markFiles (W : World) {bb : Nat} {turn deep : Int} {f : Nat → Nat → Value} {seen : Nat → Int} (h : BkAt W bb turn deep f seen) (hk : Nil f 16) :
    Calls Tryz.prog 107 #[.pointer (some ⟨bb, 0, none⟩)] W fun e w' => e = .returned (.tuple #[]) ∧ w' = W := by
  have c2 : W.cell? ⟨bb, 150, none⟩ = some (.slice none 0 0) := (h.cell (i := 150) (by decide)).trans (congrArg some (hk 2))
  have c3 : W.cell? ⟨bb, 151, none⟩ = some (.slice none 0 0) := (h.cell (i := 151) (by decide)).trans (congrArg some (hk 3))
  have c5 : W.cell? ⟨bb, 153, none⟩ = some (.slice none 0 0) := (h.cell (i := 153) (by decide)).trans (congrArg some (hk 5))
  have c6 : W.cell? ⟨bb, 154, none⟩ = some (.slice none 0 0) := (h.cell (i := 154) (by decide)).trans (congrArg some (hk 6))
  clear h hk
  go_enter Tryz.func107, Tryz.ntmps107
  go_wp2
  refine bodyPost_ret (results_none rfl _ _ _) rfl ?_
  exact ⟨rfl, rfl⟩

set_option maxRecDepth 4000 in
theorem markExprs (W : World) {bb : Nat} {turn deep : Int} {f : Nat → Nat → Value} {seen : Nat → Int} (h : BkAt W bb turn deep f seen) (hk : Nil f 17) :
    Calls Tryz.prog 108 #[.pointer (some ⟨bb, 0, none⟩)] W fun e w' => e = .returned (.tuple #[]) ∧ w' = W := by
  have c2 : W.cell? ⟨bb, 159, none⟩ = some (.slice none 0 0) := (h.cell (i := 159) (by decide)).trans (congrArg some (hk 2))
  have c3 : W.cell? ⟨bb, 160, none⟩ = some (.slice none 0 0) := (h.cell (i := 160) (by decide)).trans (congrArg some (hk 3))
  have c5 : W.cell? ⟨bb, 162, none⟩ = some (.slice none 0 0) := (h.cell (i := 162) (by decide)).trans (congrArg some (hk 5))
  have c6 : W.cell? ⟨bb, 163, none⟩ = some (.slice none 0 0) := (h.cell (i := 163) (by decide)).trans (congrArg some (hk 6))
  clear h hk
  go_enter Tryz.func108, Tryz.ntmps108
  go_wp2
  refine bodyPost_ret (results_none rfl _ _ _) rfl ?_
  exact ⟨rfl, rfl⟩

set_option maxRecDepth 4000 in
theorem markClauses (W : World) {bb : Nat} {turn deep : Int} {f : Nat → Nat → Value} {seen : Nat → Int} (h : BkAt W bb turn deep f seen) (hk : Nil f 18) :
    Calls Tryz.prog 109 #[.pointer (some ⟨bb, 0, none⟩)] W fun e w' => e = .returned (.tuple #[]) ∧ w' = W := by
  have c2 : W.cell? ⟨bb, 168, none⟩ = some (.slice none 0 0) := (h.cell (i := 168) (by decide)).trans (congrArg some (hk 2))
  have c3 : W.cell? ⟨bb, 169, none⟩ = some (.slice none 0 0) := (h.cell (i := 169) (by decide)).trans (congrArg some (hk 3))
  have c5 : W.cell? ⟨bb, 171, none⟩ = some (.slice none 0 0) := (h.cell (i := 171) (by decide)).trans (congrArg some (hk 5))
  have c6 : W.cell? ⟨bb, 172, none⟩ = some (.slice none 0 0) := (h.cell (i := 172) (by decide)).trans (congrArg some (hk 6))
  clear h hk
  go_enter Tryz.func109, Tryz.ntmps109
  go_wp2
  refine bodyPost_ret (results_none rfl _ _ _) rfl ?_
  exact ⟨rfl, rfl⟩

set_option maxRecDepth 4000 in
theorem markLines (W : World) {bb : Nat} {turn deep : Int} {f : Nat → Nat → Value} {seen : Nat → Int} (h : BkAt W bb turn deep f seen) (hk : Nil f 19) :
    Calls Tryz.prog 110 #[.pointer (some ⟨bb, 0, none⟩)] W fun e w' => e = .returned (.tuple #[]) ∧ w' = W := by
  have c2 : W.cell? ⟨bb, 177, none⟩ = some (.slice none 0 0) := (h.cell (i := 177) (by decide)).trans (congrArg some (hk 2))
  have c3 : W.cell? ⟨bb, 178, none⟩ = some (.slice none 0 0) := (h.cell (i := 178) (by decide)).trans (congrArg some (hk 3))
  have c5 : W.cell? ⟨bb, 180, none⟩ = some (.slice none 0 0) := (h.cell (i := 180) (by decide)).trans (congrArg some (hk 5))
  have c6 : W.cell? ⟨bb, 181, none⟩ = some (.slice none 0 0) := (h.cell (i := 181) (by decide)).trans (congrArg some (hk 6))
  clear h hk
  go_enter Tryz.func110, Tryz.ntmps110
  go_wp2
  refine bodyPost_ret (results_none rfl _ _ _) rfl ?_
  exact ⟨rfl, rfl⟩

set_option maxRecDepth 4000 in
theorem markChecks (W : World) {bb : Nat} {turn deep : Int} {f : Nat → Nat → Value} {seen : Nat → Int} (h : BkAt W bb turn deep f seen) (hk : Nil f 20) :
    Calls Tryz.prog 111 #[.pointer (some ⟨bb, 0, none⟩)] W fun e w' => e = .returned (.tuple #[]) ∧ w' = W := by
  have c2 : W.cell? ⟨bb, 186, none⟩ = some (.slice none 0 0) := (h.cell (i := 186) (by decide)).trans (congrArg some (hk 2))
  have c3 : W.cell? ⟨bb, 187, none⟩ = some (.slice none 0 0) := (h.cell (i := 187) (by decide)).trans (congrArg some (hk 3))
  have c5 : W.cell? ⟨bb, 189, none⟩ = some (.slice none 0 0) := (h.cell (i := 189) (by decide)).trans (congrArg some (hk 5))
  have c6 : W.cell? ⟨bb, 190, none⟩ = some (.slice none 0 0) := (h.cell (i := 190) (by decide)).trans (congrArg some (hk 6))
  clear h hk
  go_enter Tryz.func111, Tryz.ntmps111
  go_wp2
  refine bodyPost_ret (results_none rfl _ _ _) rfl ?_
  exact ⟨rfl, rfl⟩

set_option maxRecDepth 4000 in
theorem markOptions (W : World) {bb : Nat} {turn deep : Int} {f : Nat → Nat → Value} {seen : Nat → Int} (h : BkAt W bb turn deep f seen) (hk : Nil f 21) :
    Calls Tryz.prog 112 #[.pointer (some ⟨bb, 0, none⟩)] W fun e w' => e = .returned (.tuple #[]) ∧ w' = W := by
  have c2 : W.cell? ⟨bb, 195, none⟩ = some (.slice none 0 0) := (h.cell (i := 195) (by decide)).trans (congrArg some (hk 2))
  have c3 : W.cell? ⟨bb, 196, none⟩ = some (.slice none 0 0) := (h.cell (i := 196) (by decide)).trans (congrArg some (hk 3))
  have c5 : W.cell? ⟨bb, 198, none⟩ = some (.slice none 0 0) := (h.cell (i := 198) (by decide)).trans (congrArg some (hk 5))
  have c6 : W.cell? ⟨bb, 199, none⟩ = some (.slice none 0 0) := (h.cell (i := 199) (by decide)).trans (congrArg some (hk 6))
  clear h hk
  go_enter Tryz.func112, Tryz.ntmps112
  go_wp2
  refine bodyPost_ret (results_none rfl _ _ _) rfl ?_
  exact ⟨rfl, rfl⟩

set_option maxRecDepth 4000 in
theorem markTables (W : World) {bb : Nat} {turn deep : Int} {f : Nat → Nat → Value} {seen : Nat → Int} (h : BkAt W bb turn deep f seen) (hk : Nil f 22) :
    Calls Tryz.prog 113 #[.pointer (some ⟨bb, 0, none⟩)] W fun e w' => e = .returned (.tuple #[]) ∧ w' = W := by
  have c2 : W.cell? ⟨bb, 204, none⟩ = some (.slice none 0 0) := (h.cell (i := 204) (by decide)).trans (congrArg some (hk 2))
  have c3 : W.cell? ⟨bb, 205, none⟩ = some (.slice none 0 0) := (h.cell (i := 205) (by decide)).trans (congrArg some (hk 3))
  have c5 : W.cell? ⟨bb, 207, none⟩ = some (.slice none 0 0) := (h.cell (i := 207) (by decide)).trans (congrArg some (hk 5))
  have c6 : W.cell? ⟨bb, 208, none⟩ = some (.slice none 0 0) := (h.cell (i := 208) (by decide)).trans (congrArg some (hk 6))
  clear h hk
  go_enter Tryz.func113, Tryz.ntmps113
  go_wp2
  refine bodyPost_ret (results_none rfl _ _ _) rfl ?_
  exact ⟨rfl, rfl⟩

set_option maxRecDepth 4000 in
theorem markGroups (W : World) {bb : Nat} {turn deep : Int} {f : Nat → Nat → Value} {seen : Nat → Int} (h : BkAt W bb turn deep f seen) (hk : Nil f 23) :
    Calls Tryz.prog 114 #[.pointer (some ⟨bb, 0, none⟩)] W fun e w' => e = .returned (.tuple #[]) ∧ w' = W := by
  have c2 : W.cell? ⟨bb, 213, none⟩ = some (.slice none 0 0) := (h.cell (i := 213) (by decide)).trans (congrArg some (hk 2))
  have c3 : W.cell? ⟨bb, 214, none⟩ = some (.slice none 0 0) := (h.cell (i := 214) (by decide)).trans (congrArg some (hk 3))
  have c5 : W.cell? ⟨bb, 216, none⟩ = some (.slice none 0 0) := (h.cell (i := 216) (by decide)).trans (congrArg some (hk 5))
  have c6 : W.cell? ⟨bb, 217, none⟩ = some (.slice none 0 0) := (h.cell (i := 217) (by decide)).trans (congrArg some (hk 6))
  clear h hk
  go_enter Tryz.func114, Tryz.ntmps114
  go_wp2
  refine bodyPost_ret (results_none rfl _ _ _) rfl ?_
  exact ⟨rfl, rfl⟩
end Go.Proofs.YthmjkmdbggfiiaaGreatDoor.KB

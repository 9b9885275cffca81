import Derived.Test.YthmjkmdbggfiiaaGreatDoorKbA
/- Nothing to hold. -/
namespace Go.Proofs.YthmjkmdbggfiiaaGreatDoor.KB
open Go.RowKit
set_option linter.constructorNameAsVariable false

set_option maxRecDepth 4000 in
theorem holdBytes (W : World) {bb : Nat} {turn deep : Int} {f : Nat → Nat → Value} {seen : Nat → Int} (h : BkAt W bb turn deep f seen) (hk : Nil f 0) :
    Calls Tryz.prog 24 #[.pointer (some ⟨bb, 0, none⟩)] W fun e w' => e = .returned (.bool true) ∧ w' = W := by
  have c0 : W.cell? ⟨bb, 4, none⟩ = some (.slice none 0 0) := (h.cell (i := 4) (by decide)).trans (congrArg some (hk 0))
  have c2 : W.cell? ⟨bb, 6, none⟩ = some (.slice none 0 0) := (h.cell (i := 6) (by decide)).trans (congrArg some (hk 2))
  clear h hk
  go_enter Tryz.func24, Tryz.ntmps24
  go_wp2
  go_loopw [3] (fun v wr => v = .int .i64 0 ∧ wr = W) (fun _ _ => 0)
  case atStart => exact ⟨rfl, rfl⟩
  case round =>
    obtain ⟨rfl, rfl⟩ := hrel
    go_wp2
    go_loopw [4] (fun v wx => v = .int .i64 0 ∧ wx = wr) (fun _ _ => 0)
    case atStart => exact ⟨rfl, rfl⟩
    case round =>
      obtain ⟨rfl, rfl⟩ := hrel
      go_wp2
      go_ret
      exact ⟨rfl, rfl⟩

set_option maxRecDepth 4000 in
theorem holdInts (W : World) {bb : Nat} {turn deep : Int} {f : Nat → Nat → Value} {seen : Nat → Int} (h : BkAt W bb turn deep f seen) (hk : Nil f 1) :
    Calls Tryz.prog 25 #[.pointer (some ⟨bb, 0, none⟩)] W fun e w' => e = .returned (.bool true) ∧ w' = W := by
  have c0 : W.cell? ⟨bb, 13, none⟩ = some (.slice none 0 0) := (h.cell (i := 13) (by decide)).trans (congrArg some (hk 0))
  have c2 : W.cell? ⟨bb, 15, none⟩ = some (.slice none 0 0) := (h.cell (i := 15) (by decide)).trans (congrArg some (hk 2))
  clear h hk
  go_enter Tryz.func25, Tryz.ntmps25
  go_wp2
  go_loopw [3] (fun v wr => v = .int .i64 0 ∧ wr = W) (fun _ _ => 0)
  case atStart => exact ⟨rfl, rfl⟩
  case round =>
    obtain ⟨rfl, rfl⟩ := hrel
    go_wp2
    go_loopw [4] (fun v wx => v = .int .i64 0 ∧ wx = wr) (fun _ _ => 0)
    case atStart => exact ⟨rfl, rfl⟩
    case round =>
      obtain ⟨rfl, rfl⟩ := hrel
      go_wp2
      go_ret
      exact ⟨rfl, rfl⟩

set_option maxRecDepth 4000 in
theorem holdCells (W : World) {bb : Nat} {turn deep : Int} {f : Nat → Nat → Value} {seen : Nat → Int} (h : BkAt W bb turn deep f seen) (hk : Nil f 2) :
    Calls Tryz.prog 26 #[.pointer (some ⟨bb, 0, none⟩)] W fun e w' => e = .returned (.bool true) ∧ w' = W := by
  have c0 : W.cell? ⟨bb, 22, none⟩ = some (.slice none 0 0) := (h.cell (i := 22) (by decide)).trans (congrArg some (hk 0))
  have c2 : W.cell? ⟨bb, 24, none⟩ = some (.slice none 0 0) := (h.cell (i := 24) (by decide)).trans (congrArg some (hk 2))
  clear h hk
  go_enter Tryz.func26, Tryz.ntmps26
  go_wp2
  go_loopw [3] (fun v wr => v = .int .i64 0 ∧ wr = W) (fun _ _ => 0)
  case atStart => exact ⟨rfl, rfl⟩
  case round =>
    obtain ⟨rfl, rfl⟩ := hrel
    go_wp2
    go_loopw [4] (fun v wx => v = .int .i64 0 ∧ wx = wr) (fun _ _ => 0)
    case atStart => exact ⟨rfl, rfl⟩
    case round =>
      obtain ⟨rfl, rfl⟩ := hrel
      go_wp2
      go_ret
      exact ⟨rfl, rfl⟩

set_option maxRecDepth 4000 in
theorem holdBools (W : World) {bb : Nat} {turn deep : Int} {f : Nat → Nat → Value} {seen : Nat → Int} (h : BkAt W bb turn deep f seen) (hk : Nil f 3) :
    Calls Tryz.prog 27 #[.pointer (some ⟨bb, 0, none⟩)] W fun e w' => e = .returned (.bool true) ∧ w' = W := by
  have c0 : W.cell? ⟨bb, 31, none⟩ = some (.slice none 0 0) := (h.cell (i := 31) (by decide)).trans (congrArg some (hk 0))
  have c2 : W.cell? ⟨bb, 33, none⟩ = some (.slice none 0 0) := (h.cell (i := 33) (by decide)).trans (congrArg some (hk 2))
  clear h hk
  go_enter Tryz.func27, Tryz.ntmps27
  go_wp2
  go_loopw [3] (fun v wr => v = .int .i64 0 ∧ wr = W) (fun _ _ => 0)
  case atStart => exact ⟨rfl, rfl⟩
  case round =>
    obtain ⟨rfl, rfl⟩ := hrel
    go_wp2
    go_loopw [4] (fun v wx => v = .int .i64 0 ∧ wx = wr) (fun _ _ => 0)
    case atStart => exact ⟨rfl, rfl⟩
    case round =>
      obtain ⟨rfl, rfl⟩ := hrel
      go_wp2
      go_ret
      exact ⟨rfl, rfl⟩

set_option maxRecDepth 4000 in
theorem holdTexts (W : World) {bb : Nat} {turn deep : Int} {f : Nat → Nat → Value} {seen : Nat → Int} (h : BkAt W bb turn deep f seen) (hk : Nil f 4) :
    Calls Tryz.prog 28 #[.pointer (some ⟨bb, 0, none⟩)] W fun e w' => e = .returned (.bool true) ∧ w' = W := by
  have c0 : W.cell? ⟨bb, 40, none⟩ = some (.slice none 0 0) := (h.cell (i := 40) (by decide)).trans (congrArg some (hk 0))
  have c2 : W.cell? ⟨bb, 42, none⟩ = some (.slice none 0 0) := (h.cell (i := 42) (by decide)).trans (congrArg some (hk 2))
  clear h hk
  go_enter Tryz.func28, Tryz.ntmps28
  go_wp2
  go_loopw [3] (fun v wr => v = .int .i64 0 ∧ wr = W) (fun _ _ => 0)
  case atStart => exact ⟨rfl, rfl⟩
  case round =>
    obtain ⟨rfl, rfl⟩ := hrel
    go_wp2
    go_loopw [4] (fun v wx => v = .int .i64 0 ∧ wx = wr) (fun _ _ => 0)
    case atStart => exact ⟨rfl, rfl⟩
    case round =>
      obtain ⟨rfl, rfl⟩ := hrel
      go_wp2
      go_ret
      exact ⟨rfl, rfl⟩

set_option maxRecDepth 4000 in
theorem holdValues (W : World) {bb : Nat} {turn deep : Int} {f : Nat → Nat → Value} {seen : Nat → Int} (h : BkAt W bb turn deep f seen) (hk : Nil f 5) :
    Calls Tryz.prog 29 #[.pointer (some ⟨bb, 0, none⟩)] W fun e w' => e = .returned (.bool true) ∧ w' = W := by
  have c0 : W.cell? ⟨bb, 49, none⟩ = some (.slice none 0 0) := (h.cell (i := 49) (by decide)).trans (congrArg some (hk 0))
  have c2 : W.cell? ⟨bb, 51, none⟩ = some (.slice none 0 0) := (h.cell (i := 51) (by decide)).trans (congrArg some (hk 2))
  clear h hk
  go_enter Tryz.func29, Tryz.ntmps29
  go_wp2
  go_loopw [3] (fun v wr => v = .int .i64 0 ∧ wr = W) (fun _ _ => 0)
  case atStart => exact ⟨rfl, rfl⟩
  case round =>
    obtain ⟨rfl, rfl⟩ := hrel
    go_wp2
    go_loopw [4] (fun v wx => v = .int .i64 0 ∧ wx = wr) (fun _ _ => 0)
    case atStart => exact ⟨rfl, rfl⟩
    case round =>
      obtain ⟨rfl, rfl⟩ := hrel
      go_wp2
      go_ret
      exact ⟨rfl, rfl⟩

set_option maxRecDepth 4000 in
theorem holdBands (W : World) {bb : Nat} {turn deep : Int} {f : Nat → Nat → Value} {seen : Nat → Int} (h : BkAt W bb turn deep f seen) (hk : Nil f 6) :
    Calls Tryz.prog 30 #[.pointer (some ⟨bb, 0, none⟩)] W fun e w' => e = .returned (.bool true) ∧ w' = W := by
  have c0 : W.cell? ⟨bb, 58, none⟩ = some (.slice none 0 0) := (h.cell (i := 58) (by decide)).trans (congrArg some (hk 0))
  have c2 : W.cell? ⟨bb, 60, none⟩ = some (.slice none 0 0) := (h.cell (i := 60) (by decide)).trans (congrArg some (hk 2))
  clear h hk
  go_enter Tryz.func30, Tryz.ntmps30
  go_wp2
  go_loopw [3] (fun v wr => v = .int .i64 0 ∧ wr = W) (fun _ _ => 0)
  case atStart => exact ⟨rfl, rfl⟩
  case round =>
    obtain ⟨rfl, rfl⟩ := hrel
    go_wp2
    go_loopw [4] (fun v wx => v = .int .i64 0 ∧ wx = wr) (fun _ _ => 0)
    case atStart => exact ⟨rfl, rfl⟩
    case round =>
      obtain ⟨rfl, rfl⟩ := hrel
      go_wp2
      go_ret
      exact ⟨rfl, rfl⟩

set_option maxRecDepth 4000 in
theorem holdTokens (W : World) {bb : Nat} {turn deep : Int} {f : Nat → Nat → Value} {seen : Nat → Int} (h : BkAt W bb turn deep f seen) (hk : Nil f 7) :
    Calls Tryz.prog 31 #[.pointer (some ⟨bb, 0, none⟩)] W fun e w' => e = .returned (.bool true) ∧ w' = W := by
  have c0 : W.cell? ⟨bb, 67, none⟩ = some (.slice none 0 0) := (h.cell (i := 67) (by decide)).trans (congrArg some (hk 0))
  have c2 : W.cell? ⟨bb, 69, none⟩ = some (.slice none 0 0) := (h.cell (i := 69) (by decide)).trans (congrArg some (hk 2))
  clear h hk
  go_enter Tryz.func31, Tryz.ntmps31
  go_wp2
  go_loopw [3] (fun v wr => v = .int .i64 0 ∧ wr = W) (fun _ _ => 0)
  case atStart => exact ⟨rfl, rfl⟩
  case round =>
    obtain ⟨rfl, rfl⟩ := hrel
    go_wp2
    go_loopw [4] (fun v wx => v = .int .i64 0 ∧ wx = wr) (fun _ _ => 0)
    case atStart => exact ⟨rfl, rfl⟩
    case round =>
      obtain ⟨rfl, rfl⟩ := hrel
      go_wp2
      go_ret
      exact ⟨rfl, rfl⟩

set_option maxRecDepth 4000 in
theorem holdEntries (W : World) {bb : Nat} {turn deep : Int} {f : Nat → Nat → Value} {seen : Nat → Int} (h : BkAt W bb turn deep f seen) (hk : Nil f 8) :
    Calls Tryz.prog 32 #[.pointer (some ⟨bb, 0, none⟩)] W fun e w' => e = .returned (.bool true) ∧ w' = W := by
  have c0 : W.cell? ⟨bb, 76, none⟩ = some (.slice none 0 0) := (h.cell (i := 76) (by decide)).trans (congrArg some (hk 0))
  have c2 : W.cell? ⟨bb, 78, none⟩ = some (.slice none 0 0) := (h.cell (i := 78) (by decide)).trans (congrArg some (hk 2))
  clear h hk
  go_enter Tryz.func32, Tryz.ntmps32
  go_wp2
  go_loopw [3] (fun v wr => v = .int .i64 0 ∧ wr = W) (fun _ _ => 0)
  case atStart => exact ⟨rfl, rfl⟩
  case round =>
    obtain ⟨rfl, rfl⟩ := hrel
    go_wp2
    go_loopw [4] (fun v wx => v = .int .i64 0 ∧ wx = wr) (fun _ _ => 0)
    case atStart => exact ⟨rfl, rfl⟩
    case round =>
      obtain ⟨rfl, rfl⟩ := hrel
      go_wp2
      go_ret
      exact ⟨rfl, rfl⟩

set_option maxRecDepth 4000 in
theorem holdChanges (W : World) {bb : Nat} {turn deep : Int} {f : Nat → Nat → Value} {seen : Nat → Int} (h : BkAt W bb turn deep f seen) (hk : Nil f 9) :
    Calls Tryz.prog 33 #[.pointer (some ⟨bb, 0, none⟩)] W fun e w' => e = .returned (.bool true) ∧ w' = W := by
  have c0 : W.cell? ⟨bb, 85, none⟩ = some (.slice none 0 0) := (h.cell (i := 85) (by decide)).trans (congrArg some (hk 0))
  have c2 : W.cell? ⟨bb, 87, none⟩ = some (.slice none 0 0) := (h.cell (i := 87) (by decide)).trans (congrArg some (hk 2))
  clear h hk
  go_enter Tryz.func33, Tryz.ntmps33
  go_wp2
  go_loopw [3] (fun v wr => v = .int .i64 0 ∧ wr = W) (fun _ _ => 0)
  case atStart => exact ⟨rfl, rfl⟩
  case round =>
    obtain ⟨rfl, rfl⟩ := hrel
    go_wp2
    go_loopw [4] (fun v wx => v = .int .i64 0 ∧ wx = wr) (fun _ _ => 0)
    case atStart => exact ⟨rfl, rfl⟩
    case round =>
      obtain ⟨rfl, rfl⟩ := hrel
      go_wp2
      go_ret
      exact ⟨rfl, rfl⟩

set_option maxRecDepth 4000 in
theorem holdReads (W : World) {bb : Nat} {turn deep : Int} {f : Nat → Nat → Value} {seen : Nat → Int} (h : BkAt W bb turn deep f seen) (hk : Nil f 10) :
    Calls Tryz.prog 34 #[.pointer (some ⟨bb, 0, none⟩)] W fun e w' => e = .returned (.bool true) ∧ w' = W := by
  have c0 : W.cell? ⟨bb, 94, none⟩ = some (.slice none 0 0) := (h.cell (i := 94) (by decide)).trans (congrArg some (hk 0))
  have c2 : W.cell? ⟨bb, 96, none⟩ = some (.slice none 0 0) := (h.cell (i := 96) (by decide)).trans (congrArg some (hk 2))
  clear h hk
  go_enter Tryz.func34, Tryz.ntmps34
  go_wp2
  go_loopw [3] (fun v wr => v = .int .i64 0 ∧ wr = W) (fun _ _ => 0)
  case atStart => exact ⟨rfl, rfl⟩
  case round =>
    obtain ⟨rfl, rfl⟩ := hrel
    go_wp2
    go_loopw [4] (fun v wx => v = .int .i64 0 ∧ wx = wr) (fun _ _ => 0)
    case atStart => exact ⟨rfl, rfl⟩
    case round =>
      obtain ⟨rfl, rfl⟩ := hrel
      go_wp2
      go_ret
      exact ⟨rfl, rfl⟩

set_option maxRecDepth 4000 in
theorem holdFindings (W : World) {bb : Nat} {turn deep : Int} {f : Nat → Nat → Value} {seen : Nat → Int} (h : BkAt W bb turn deep f seen) (hk : Nil f 11) :
    Calls Tryz.prog 35 #[.pointer (some ⟨bb, 0, none⟩)] W fun e w' => e = .returned (.bool true) ∧ w' = W := by
  have c0 : W.cell? ⟨bb, 103, none⟩ = some (.slice none 0 0) := (h.cell (i := 103) (by decide)).trans (congrArg some (hk 0))
  have c2 : W.cell? ⟨bb, 105, none⟩ = some (.slice none 0 0) := (h.cell (i := 105) (by decide)).trans (congrArg some (hk 2))
  clear h hk
  go_enter Tryz.func35, Tryz.ntmps35
  go_wp2
  go_loopw [3] (fun v wr => v = .int .i64 0 ∧ wr = W) (fun _ _ => 0)
  case atStart => exact ⟨rfl, rfl⟩
  case round =>
    obtain ⟨rfl, rfl⟩ := hrel
    go_wp2
    go_loopw [4] (fun v wx => v = .int .i64 0 ∧ wx = wr) (fun _ _ => 0)
    case atStart => exact ⟨rfl, rfl⟩
    case round =>
      obtain ⟨rfl, rfl⟩ := hrel
      go_wp2
      go_ret
      exact ⟨rfl, rfl⟩

set_option maxRecDepth 4000 in
theorem holdConflicts (W : World) {bb : Nat} {turn deep : Int} {f : Nat → Nat → Value} {seen : Nat → Int} (h : BkAt W bb turn deep f seen) (hk : Nil f 12) :
    Calls Tryz.prog 36 #[.pointer (some ⟨bb, 0, none⟩)] W fun e w' => e = .returned (.bool true) ∧ w' = W := by
  have c0 : W.cell? ⟨bb, 112, none⟩ = some (.slice none 0 0) := (h.cell (i := 112) (by decide)).trans (congrArg some (hk 0))
  have c2 : W.cell? ⟨bb, 114, none⟩ = some (.slice none 0 0) := (h.cell (i := 114) (by decide)).trans (congrArg some (hk 2))
  clear h hk
  go_enter Tryz.func36, Tryz.ntmps36
  go_wp2
  go_loopw [3] (fun v wr => v = .int .i64 0 ∧ wr = W) (fun _ _ => 0)
  case atStart => exact ⟨rfl, rfl⟩
  case round =>
    obtain ⟨rfl, rfl⟩ := hrel
    go_wp2
    go_loopw [4] (fun v wx => v = .int .i64 0 ∧ wx = wr) (fun _ _ => 0)
    case atStart => exact ⟨rfl, rfl⟩
    case round =>
      obtain ⟨rfl, rfl⟩ := hrel
      go_wp2
      go_ret
      exact ⟨rfl, rfl⟩

set_option maxRecDepth 4000 in
theorem holdPoints (W : World) {bb : Nat} {turn deep : Int} {f : Nat → Nat → Value} {seen : Nat → Int} (h : BkAt W bb turn deep f seen) (hk : Nil f 13) :
    Calls Tryz.prog 37 #[.pointer (some ⟨bb, 0, none⟩)] W fun e w' => e = .returned (.bool true) ∧ w' = W := by
  have c0 : W.cell? ⟨bb, 121, none⟩ = some (.slice none 0 0) := (h.cell (i := 121) (by decide)).trans (congrArg some (hk 0))
  have c2 : W.cell? ⟨bb, 123, none⟩ = some (.slice none 0 0) := (h.cell (i := 123) (by decide)).trans (congrArg some (hk 2))
  clear h hk
  go_enter Tryz.func37, Tryz.ntmps37
  go_wp2
  go_loopw [3] (fun v wr => v = .int .i64 0 ∧ wr = W) (fun _ _ => 0)
  case atStart => exact ⟨rfl, rfl⟩
  case round =>
    obtain ⟨rfl, rfl⟩ := hrel
    go_wp2
    go_loopw [4] (fun v wx => v = .int .i64 0 ∧ wx = wr) (fun _ _ => 0)
    case atStart => exact ⟨rfl, rfl⟩
    case round =>
      obtain ⟨rfl, rfl⟩ := hrel
      go_wp2
      go_ret
      exact ⟨rfl, rfl⟩

set_option maxRecDepth 4000 in
theorem holdNodes (W : World) {bb : Nat} {turn deep : Int} {f : Nat → Nat → Value} {seen : Nat → Int} (h : BkAt W bb turn deep f seen) (hk : Nil f 14) :
    Calls Tryz.prog 38 #[.pointer (some ⟨bb, 0, none⟩)] W fun e w' => e = .returned (.bool true) ∧ w' = W := by
  have c0 : W.cell? ⟨bb, 130, none⟩ = some (.slice none 0 0) := (h.cell (i := 130) (by decide)).trans (congrArg some (hk 0))
  have c2 : W.cell? ⟨bb, 132, none⟩ = some (.slice none 0 0) := (h.cell (i := 132) (by decide)).trans (congrArg some (hk 2))
  clear h hk
  go_enter Tryz.func38, Tryz.ntmps38
  go_wp2
  go_loopw [3] (fun v wr => v = .int .i64 0 ∧ wr = W) (fun _ _ => 0)
  case atStart => exact ⟨rfl, rfl⟩
  case round =>
    obtain ⟨rfl, rfl⟩ := hrel
    go_wp2
    go_loopw [4] (fun v wx => v = .int .i64 0 ∧ wx = wr) (fun _ _ => 0)
    case atStart => exact ⟨rfl, rfl⟩
    case round =>
      obtain ⟨rfl, rfl⟩ := hrel
      go_wp2
      go_ret
      exact ⟨rfl, rfl⟩

set_option maxRecDepth 4000 in
theorem holdRecords (W : World) {bb : Nat} {turn deep : Int} {f : Nat → Nat → Value} {seen : Nat → Int} (h : BkAt W bb turn deep f seen) (hk : Nil f 15) :
    Calls Tryz.prog 39 #[.pointer (some ⟨bb, 0, none⟩)] W fun e w' => e = .returned (.bool true) ∧ w' = W := by
  have c0 : W.cell? ⟨bb, 139, none⟩ = some (.slice none 0 0) := (h.cell (i := 139) (by decide)).trans (congrArg some (hk 0))
  have c2 : W.cell? ⟨bb, 141, none⟩ = some (.slice none 0 0) := (h.cell (i := 141) (by decide)).trans (congrArg some (hk 2))
  clear h hk
  go_enter Tryz.func39, Tryz.ntmps39
  go_wp2
  go_loopw [3] (fun v wr => v = .int .i64 0 ∧ wr = W) (fun _ _ => 0)
  case atStart => exact ⟨rfl, rfl⟩
  case round =>
    obtain ⟨rfl, rfl⟩ := hrel
    go_wp2
    go_loopw [4] (fun v wx => v = .int .i64 0 ∧ wx = wr) (fun _ _ => 0)
    case atStart => exact ⟨rfl, rfl⟩
    case round =>
      obtain ⟨rfl, rfl⟩ := hrel
      go_wp2
      go_ret
      exact ⟨rfl, rfl⟩

set_option maxRecDepth 4000 in
theorem holdFiles (W : World) {bb : Nat} {turn deep : Int} {f : Nat → Nat → Value} {seen : Nat → Int} (h : BkAt W bb turn deep f seen) (hk : Nil f 16) :
    Calls Tryz.prog 40 #[.pointer (some ⟨bb, 0, none⟩)] W fun e w' => e = .returned (.bool true) ∧ w' = W := by
  have c0 : W.cell? ⟨bb, 148, none⟩ = some (.slice none 0 0) := (h.cell (i := 148) (by decide)).trans (congrArg some (hk 0))
  have c2 : W.cell? ⟨bb, 150, none⟩ = some (.slice none 0 0) := (h.cell (i := 150) (by decide)).trans (congrArg some (hk 2))
  clear h hk
  go_enter Tryz.func40, Tryz.ntmps40
  go_wp2
  go_loopw [3] (fun v wr => v = .int .i64 0 ∧ wr = W) (fun _ _ => 0)
  case atStart => exact ⟨rfl, rfl⟩
  case round =>
    obtain ⟨rfl, rfl⟩ := hrel
    go_wp2
    go_loopw [4] (fun v wx => v = .int .i64 0 ∧ wx = wr) (fun _ _ => 0)
    case atStart => exact ⟨rfl, rfl⟩
    case round =>
      obtain ⟨rfl, rfl⟩ := hrel
      go_wp2
      go_ret
      exact ⟨rfl, rfl⟩

set_option maxRecDepth 4000 in
theorem holdExprs (W : World) {bb : Nat} {turn deep : Int} {f : Nat → Nat → Value} {seen : Nat → Int} (h : BkAt W bb turn deep f seen) (hk : Nil f 17) :
    Calls Tryz.prog 41 #[.pointer (some ⟨bb, 0, none⟩)] W fun e w' => e = .returned (.bool true) ∧ w' = W := by
  have c0 : W.cell? ⟨bb, 157, none⟩ = some (.slice none 0 0) := (h.cell (i := 157) (by decide)).trans (congrArg some (hk 0))
  have c2 : W.cell? ⟨bb, 159, none⟩ = some (.slice none 0 0) := (h.cell (i := 159) (by decide)).trans (congrArg some (hk 2))
  clear h hk
  go_enter Tryz.func41, Tryz.ntmps41
  go_wp2
  go_loopw [3] (fun v wr => v = .int .i64 0 ∧ wr = W) (fun _ _ => 0)
  case atStart => exact ⟨rfl, rfl⟩
  case round =>
    obtain ⟨rfl, rfl⟩ := hrel
    go_wp2
    go_loopw [4] (fun v wx => v = .int .i64 0 ∧ wx = wr) (fun _ _ => 0)
    case atStart => exact ⟨rfl, rfl⟩
    case round =>
      obtain ⟨rfl, rfl⟩ := hrel
      go_wp2
      go_ret
      exact ⟨rfl, rfl⟩

set_option maxRecDepth 4000 in
theorem holdClauses (W : World) {bb : Nat} {turn deep : Int} {f : Nat → Nat → Value} {seen : Nat → Int} (h : BkAt W bb turn deep f seen) (hk : Nil f 18) :
    Calls Tryz.prog 42 #[.pointer (some ⟨bb, 0, none⟩)] W fun e w' => e = .returned (.bool true) ∧ w' = W := by
  have c0 : W.cell? ⟨bb, 166, none⟩ = some (.slice none 0 0) := (h.cell (i := 166) (by decide)).trans (congrArg some (hk 0))
  have c2 : W.cell? ⟨bb, 168, none⟩ = some (.slice none 0 0) := (h.cell (i := 168) (by decide)).trans (congrArg some (hk 2))
  clear h hk
  go_enter Tryz.func42, Tryz.ntmps42
  go_wp2
  go_loopw [3] (fun v wr => v = .int .i64 0 ∧ wr = W) (fun _ _ => 0)
  case atStart => exact ⟨rfl, rfl⟩
  case round =>
    obtain ⟨rfl, rfl⟩ := hrel
    go_wp2
    go_loopw [4] (fun v wx => v = .int .i64 0 ∧ wx = wr) (fun _ _ => 0)
    case atStart => exact ⟨rfl, rfl⟩
    case round =>
      obtain ⟨rfl, rfl⟩ := hrel
      go_wp2
      go_ret
      exact ⟨rfl, rfl⟩

set_option maxRecDepth 4000 in
theorem holdLines (W : World) {bb : Nat} {turn deep : Int} {f : Nat → Nat → Value} {seen : Nat → Int} (h : BkAt W bb turn deep f seen) (hk : Nil f 19) :
    Calls Tryz.prog 43 #[.pointer (some ⟨bb, 0, none⟩)] W fun e w' => e = .returned (.bool true) ∧ w' = W := by
  have c0 : W.cell? ⟨bb, 175, none⟩ = some (.slice none 0 0) := (h.cell (i := 175) (by decide)).trans (congrArg some (hk 0))
  have c2 : W.cell? ⟨bb, 177, none⟩ = some (.slice none 0 0) := (h.cell (i := 177) (by decide)).trans (congrArg some (hk 2))
  clear h hk
  go_enter Tryz.func43, Tryz.ntmps43
  go_wp2
  go_loopw [3] (fun v wr => v = .int .i64 0 ∧ wr = W) (fun _ _ => 0)
  case atStart => exact ⟨rfl, rfl⟩
  case round =>
    obtain ⟨rfl, rfl⟩ := hrel
    go_wp2
    go_loopw [4] (fun v wx => v = .int .i64 0 ∧ wx = wr) (fun _ _ => 0)
    case atStart => exact ⟨rfl, rfl⟩
    case round =>
      obtain ⟨rfl, rfl⟩ := hrel
      go_wp2
      go_ret
      exact ⟨rfl, rfl⟩

set_option maxRecDepth 4000 in
theorem holdChecks (W : World) {bb : Nat} {turn deep : Int} {f : Nat → Nat → Value} {seen : Nat → Int} (h : BkAt W bb turn deep f seen) (hk : Nil f 20) :
    Calls Tryz.prog 44 #[.pointer (some ⟨bb, 0, none⟩)] W fun e w' => e = .returned (.bool true) ∧ w' = W := by
  have c0 : W.cell? ⟨bb, 184, none⟩ = some (.slice none 0 0) := (h.cell (i := 184) (by decide)).trans (congrArg some (hk 0))
  have c2 : W.cell? ⟨bb, 186, none⟩ = some (.slice none 0 0) := (h.cell (i := 186) (by decide)).trans (congrArg some (hk 2))
  clear h hk
  go_enter Tryz.func44, Tryz.ntmps44
  go_wp2
  go_loopw [3] (fun v wr => v = .int .i64 0 ∧ wr = W) (fun _ _ => 0)
  case atStart => exact ⟨rfl, rfl⟩
  case round =>
    obtain ⟨rfl, rfl⟩ := hrel
    go_wp2
    go_loopw [4] (fun v wx => v = .int .i64 0 ∧ wx = wr) (fun _ _ => 0)
    case atStart => exact ⟨rfl, rfl⟩
    case round =>
      obtain ⟨rfl, rfl⟩ := hrel
      go_wp2
      go_ret
      exact ⟨rfl, rfl⟩

set_option maxRecDepth 4000 in
theorem holdOptions (W : World) {bb : Nat} {turn deep : Int} {f : Nat → Nat → Value} {seen : Nat → Int} (h : BkAt W bb turn deep f seen) (hk : Nil f 21) :
    Calls Tryz.prog 45 #[.pointer (some ⟨bb, 0, none⟩)] W fun e w' => e = .returned (.bool true) ∧ w' = W := by
  have c0 : W.cell? ⟨bb, 193, none⟩ = some (.slice none 0 0) := (h.cell (i := 193) (by decide)).trans (congrArg some (hk 0))
  have c2 : W.cell? ⟨bb, 195, none⟩ = some (.slice none 0 0) := (h.cell (i := 195) (by decide)).trans (congrArg some (hk 2))
  clear h hk
  go_enter Tryz.func45, Tryz.ntmps45
  go_wp2
  go_loopw [3] (fun v wr => v = .int .i64 0 ∧ wr = W) (fun _ _ => 0)
  case atStart => exact ⟨rfl, rfl⟩
  case round =>
    obtain ⟨rfl, rfl⟩ := hrel
    go_wp2
    go_loopw [4] (fun v wx => v = .int .i64 0 ∧ wx = wr) (fun _ _ => 0)
    case atStart => exact ⟨rfl, rfl⟩
    case round =>
      obtain ⟨rfl, rfl⟩ := hrel
      go_wp2
      go_ret
      exact ⟨rfl, rfl⟩

set_option maxRecDepth 4000 in
theorem holdTables (W : World) {bb : Nat} {turn deep : Int} {f : Nat → Nat → Value} {seen : Nat → Int} (h : BkAt W bb turn deep f seen) (hk : Nil f 22) :
    Calls Tryz.prog 46 #[.pointer (some ⟨bb, 0, none⟩)] W fun e w' => e = .returned (.bool true) ∧ w' = W := by
  have c0 : W.cell? ⟨bb, 202, none⟩ = some (.slice none 0 0) := (h.cell (i := 202) (by decide)).trans (congrArg some (hk 0))
  have c2 : W.cell? ⟨bb, 204, none⟩ = some (.slice none 0 0) := (h.cell (i := 204) (by decide)).trans (congrArg some (hk 2))
  clear h hk
  go_enter Tryz.func46, Tryz.ntmps46
  go_wp2
  go_loopw [3] (fun v wr => v = .int .i64 0 ∧ wr = W) (fun _ _ => 0)
  case atStart => exact ⟨rfl, rfl⟩
  case round =>
    obtain ⟨rfl, rfl⟩ := hrel
    go_wp2
    go_loopw [4] (fun v wx => v = .int .i64 0 ∧ wx = wr) (fun _ _ => 0)
    case atStart => exact ⟨rfl, rfl⟩
    case round =>
      obtain ⟨rfl, rfl⟩ := hrel
      go_wp2
      go_ret
      exact ⟨rfl, rfl⟩

set_option maxRecDepth 4000 in
theorem holdGroups (W : World) {bb : Nat} {turn deep : Int} {f : Nat → Nat → Value} {seen : Nat → Int} (h : BkAt W bb turn deep f seen) (hk : Nil f 23) :
    Calls Tryz.prog 47 #[.pointer (some ⟨bb, 0, none⟩)] W fun e w' => e = .returned (.bool true) ∧ w' = W := by
  have c0 : W.cell? ⟨bb, 211, none⟩ = some (.slice none 0 0) := (h.cell (i := 211) (by decide)).trans (congrArg some (hk 0))
  have c2 : W.cell? ⟨bb, 213, none⟩ = some (.slice none 0 0) := (h.cell (i := 213) (by decide)).trans (congrArg some (hk 2))
  clear h hk
  go_enter Tryz.func47, Tryz.ntmps47
  go_wp2
  go_loopw [3] (fun v wr => v = .int .i64 0 ∧ wr = W) (fun _ _ => 0)
  case atStart => exact ⟨rfl, rfl⟩
  case round =>
    obtain ⟨rfl, rfl⟩ := hrel
    go_wp2
    go_loopw [4] (fun v wx => v = .int .i64 0 ∧ wx = wr) (fun _ _ => 0)
    case atStart => exact ⟨rfl, rfl⟩
    case round =>
      obtain ⟨rfl, rfl⟩ := hrel
      go_wp2
      go_ret
      exact ⟨rfl, rfl⟩
end Go.Proofs.YthmjkmdbggfiiaaGreatDoor.KB

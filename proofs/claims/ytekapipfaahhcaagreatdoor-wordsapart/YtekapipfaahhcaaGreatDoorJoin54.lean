import Derived.Test.YtekapipfaahhcaaGreatDoorJoin48
/- Nothing to lay on. -/
namespace Go.Proofs.YtekapipfaahhcaaGreatDoor.KB
open Go.RowKit
set_option linter.constructorNameAsVariable false

set_option maxRecDepth 4000 in
theorem growBytes (W : World) {bb : Nat} {turn deep : Int} {f : Nat → Nat → Value} {seen : Nat → Int} (h : BkAt W bb turn deep f seen) (hk : Nil f 0) :
    Calls Tryz.prog 106 #[.pointer (some ⟨bb, 0, none⟩)] W fun e w' => e = .returned (.tuple #[]) ∧ w' = W := by
  have c4 : W.cell? ⟨bb, 8, none⟩ = some (.slice none 0 0) := (h.cell (i := 8) (by decide)).trans (congrArg some (hk 4))
  have c7 : W.cell? ⟨bb, 11, none⟩ = some (.slice none 0 0) := (h.cell (i := 11) (by decide)).trans (congrArg some (hk 7))
  have f4 := h.fz 8
  have f7 := h.fz 11
  have e4 := set_same W bb 8 _ _ (.slice none 0 0) h ((bkCs_get _ _ _ _ (by decide)).trans (congrArg some (hk 4)))
  have e7 := set_same W bb 11 _ _ (.slice none 0 0) h ((bkCs_get _ _ _ _ (by decide)).trans (congrArg some (hk 7)))
  clear h hk
  go_enter Tryz.func106, Tryz.ntmps106
  go_wp2
  go_loopw [2] (fun v wr => v = .int .i64 0 ∧ wr = W) (fun _ _ => 0)
  case atStart => exact ⟨rfl, rfl⟩
  case round =>
    obtain ⟨rfl, rfl⟩ := hrel
    go_wp2
    go_end0
    exact ⟨rfl, by first | rfl | (rw [e4, e7])⟩

set_option maxRecDepth 4000 in
theorem growInts (W : World) {bb : Nat} {turn deep : Int} {f : Nat → Nat → Value} {seen : Nat → Int} (h : BkAt W bb turn deep f seen) (hk : Nil f 1) :
    Calls Tryz.prog 107 #[.pointer (some ⟨bb, 0, none⟩)] W fun e w' => e = .returned (.tuple #[]) ∧ w' = W := by
  have c4 : W.cell? ⟨bb, 17, none⟩ = some (.slice none 0 0) := (h.cell (i := 17) (by decide)).trans (congrArg some (hk 4))
  have c7 : W.cell? ⟨bb, 20, none⟩ = some (.slice none 0 0) := (h.cell (i := 20) (by decide)).trans (congrArg some (hk 7))
  have f4 := h.fz 17
  have f7 := h.fz 20
  have e4 := set_same W bb 17 _ _ (.slice none 0 0) h ((bkCs_get _ _ _ _ (by decide)).trans (congrArg some (hk 4)))
  have e7 := set_same W bb 20 _ _ (.slice none 0 0) h ((bkCs_get _ _ _ _ (by decide)).trans (congrArg some (hk 7)))
  clear h hk
  go_enter Tryz.func107, Tryz.ntmps107
  go_wp2
  go_loopw [2] (fun v wr => v = .int .i64 0 ∧ wr = W) (fun _ _ => 0)
  case atStart => exact ⟨rfl, rfl⟩
  case round =>
    obtain ⟨rfl, rfl⟩ := hrel
    go_wp2
    go_end0
    exact ⟨rfl, by first | rfl | (rw [e4, e7])⟩

set_option maxRecDepth 4000 in
theorem growCells (W : World) {bb : Nat} {turn deep : Int} {f : Nat → Nat → Value} {seen : Nat → Int} (h : BkAt W bb turn deep f seen) (hk : Nil f 2) :
    Calls Tryz.prog 108 #[.pointer (some ⟨bb, 0, none⟩)] W fun e w' => e = .returned (.tuple #[]) ∧ w' = W := by
  have c4 : W.cell? ⟨bb, 26, none⟩ = some (.slice none 0 0) := (h.cell (i := 26) (by decide)).trans (congrArg some (hk 4))
  have c7 : W.cell? ⟨bb, 29, none⟩ = some (.slice none 0 0) := (h.cell (i := 29) (by decide)).trans (congrArg some (hk 7))
  have f4 := h.fz 26
  have f7 := h.fz 29
  have e4 := set_same W bb 26 _ _ (.slice none 0 0) h ((bkCs_get _ _ _ _ (by decide)).trans (congrArg some (hk 4)))
  have e7 := set_same W bb 29 _ _ (.slice none 0 0) h ((bkCs_get _ _ _ _ (by decide)).trans (congrArg some (hk 7)))
  clear h hk
  go_enter Tryz.func108, Tryz.ntmps108
  go_wp2
  go_loopw [2] (fun v wr => v = .int .i64 0 ∧ wr = W) (fun _ _ => 0)
  case atStart => exact ⟨rfl, rfl⟩
  case round =>
    obtain ⟨rfl, rfl⟩ := hrel
    go_wp2
    go_end0
    exact ⟨rfl, by first | rfl | (rw [e4, e7])⟩

set_option maxRecDepth 4000 in
theorem growBools (W : World) {bb : Nat} {turn deep : Int} {f : Nat → Nat → Value} {seen : Nat → Int} (h : BkAt W bb turn deep f seen) (hk : Nil f 3) :
    Calls Tryz.prog 109 #[.pointer (some ⟨bb, 0, none⟩)] W fun e w' => e = .returned (.tuple #[]) ∧ w' = W := by
  have c4 : W.cell? ⟨bb, 35, none⟩ = some (.slice none 0 0) := (h.cell (i := 35) (by decide)).trans (congrArg some (hk 4))
  have c7 : W.cell? ⟨bb, 38, none⟩ = some (.slice none 0 0) := (h.cell (i := 38) (by decide)).trans (congrArg some (hk 7))
  have f4 := h.fz 35
  have f7 := h.fz 38
  have e4 := set_same W bb 35 _ _ (.slice none 0 0) h ((bkCs_get _ _ _ _ (by decide)).trans (congrArg some (hk 4)))
  have e7 := set_same W bb 38 _ _ (.slice none 0 0) h ((bkCs_get _ _ _ _ (by decide)).trans (congrArg some (hk 7)))
  clear h hk
  go_enter Tryz.func109, Tryz.ntmps109
  go_wp2
  go_loopw [2] (fun v wr => v = .int .i64 0 ∧ wr = W) (fun _ _ => 0)
  case atStart => exact ⟨rfl, rfl⟩
  case round =>
    obtain ⟨rfl, rfl⟩ := hrel
    go_wp2
    go_end0
    exact ⟨rfl, by first | rfl | (rw [e4, e7])⟩

set_option maxRecDepth 4000 in
theorem growTexts (W : World) {bb : Nat} {turn deep : Int} {f : Nat → Nat → Value} {seen : Nat → Int} (h : BkAt W bb turn deep f seen) (hk : Nil f 4) :
    Calls Tryz.prog 110 #[.pointer (some ⟨bb, 0, none⟩)] W fun e w' => e = .returned (.tuple #[]) ∧ w' = W := by
  have c4 : W.cell? ⟨bb, 44, none⟩ = some (.slice none 0 0) := (h.cell (i := 44) (by decide)).trans (congrArg some (hk 4))
  have c7 : W.cell? ⟨bb, 47, none⟩ = some (.slice none 0 0) := (h.cell (i := 47) (by decide)).trans (congrArg some (hk 7))
  have f4 := h.fz 44
  have f7 := h.fz 47
  have e4 := set_same W bb 44 _ _ (.slice none 0 0) h ((bkCs_get _ _ _ _ (by decide)).trans (congrArg some (hk 4)))
  have e7 := set_same W bb 47 _ _ (.slice none 0 0) h ((bkCs_get _ _ _ _ (by decide)).trans (congrArg some (hk 7)))
  clear h hk
  go_enter Tryz.func110, Tryz.ntmps110
  go_wp2
  go_loopw [2] (fun v wr => v = .int .i64 0 ∧ wr = W) (fun _ _ => 0)
  case atStart => exact ⟨rfl, rfl⟩
  case round =>
    obtain ⟨rfl, rfl⟩ := hrel
    go_wp2
    go_end0
    exact ⟨rfl, by first | rfl | (rw [e4, e7])⟩

set_option maxRecDepth 4000 in
theorem growValues (W : World) {bb : Nat} {turn deep : Int} {f : Nat → Nat → Value} {seen : Nat → Int} (h : BkAt W bb turn deep f seen) (hk : Nil f 5) :
    Calls Tryz.prog 111 #[.pointer (some ⟨bb, 0, none⟩)] W fun e w' => e = .returned (.tuple #[]) ∧ w' = W := by
  have c4 : W.cell? ⟨bb, 53, none⟩ = some (.slice none 0 0) := (h.cell (i := 53) (by decide)).trans (congrArg some (hk 4))
  have c7 : W.cell? ⟨bb, 56, none⟩ = some (.slice none 0 0) := (h.cell (i := 56) (by decide)).trans (congrArg some (hk 7))
  have f4 := h.fz 53
  have f7 := h.fz 56
  have e4 := set_same W bb 53 _ _ (.slice none 0 0) h ((bkCs_get _ _ _ _ (by decide)).trans (congrArg some (hk 4)))
  have e7 := set_same W bb 56 _ _ (.slice none 0 0) h ((bkCs_get _ _ _ _ (by decide)).trans (congrArg some (hk 7)))
  clear h hk
  go_enter Tryz.func111, Tryz.ntmps111
  go_wp2
  go_loopw [2] (fun v wr => v = .int .i64 0 ∧ wr = W) (fun _ _ => 0)
  case atStart => exact ⟨rfl, rfl⟩
  case round =>
    obtain ⟨rfl, rfl⟩ := hrel
    go_wp2
    go_end0
    exact ⟨rfl, by first | rfl | (rw [e4, e7])⟩

set_option maxRecDepth 4000 in
theorem growBands (W : World) {bb : Nat} {turn deep : Int} {f : Nat → Nat → Value} {seen : Nat → Int} (h : BkAt W bb turn deep f seen) (hk : Nil f 6) :
    Calls Tryz.prog 112 #[.pointer (some ⟨bb, 0, none⟩)] W fun e w' => e = .returned (.tuple #[]) ∧ w' = W := by
  have c4 : W.cell? ⟨bb, 62, none⟩ = some (.slice none 0 0) := (h.cell (i := 62) (by decide)).trans (congrArg some (hk 4))
  have c7 : W.cell? ⟨bb, 65, none⟩ = some (.slice none 0 0) := (h.cell (i := 65) (by decide)).trans (congrArg some (hk 7))
  have f4 := h.fz 62
  have f7 := h.fz 65
  have e4 := set_same W bb 62 _ _ (.slice none 0 0) h ((bkCs_get _ _ _ _ (by decide)).trans (congrArg some (hk 4)))
  have e7 := set_same W bb 65 _ _ (.slice none 0 0) h ((bkCs_get _ _ _ _ (by decide)).trans (congrArg some (hk 7)))
  clear h hk
  go_enter Tryz.func112, Tryz.ntmps112
  go_wp2
  go_loopw [2] (fun v wr => v = .int .i64 0 ∧ wr = W) (fun _ _ => 0)
  case atStart => exact ⟨rfl, rfl⟩
  case round =>
    obtain ⟨rfl, rfl⟩ := hrel
    go_wp2
    go_end0
    exact ⟨rfl, by first | rfl | (rw [e4, e7])⟩

set_option maxRecDepth 4000 in
theorem growEntries (W : World) {bb : Nat} {turn deep : Int} {f : Nat → Nat → Value} {seen : Nat → Int} (h : BkAt W bb turn deep f seen) (hk : Nil f 8) :
    Calls Tryz.prog 114 #[.pointer (some ⟨bb, 0, none⟩)] W fun e w' => e = .returned (.tuple #[]) ∧ w' = W := by
  have c4 : W.cell? ⟨bb, 80, none⟩ = some (.slice none 0 0) := (h.cell (i := 80) (by decide)).trans (congrArg some (hk 4))
  have c7 : W.cell? ⟨bb, 83, none⟩ = some (.slice none 0 0) := (h.cell (i := 83) (by decide)).trans (congrArg some (hk 7))
  have f4 := h.fz 80
  have f7 := h.fz 83
  have e4 := set_same W bb 80 _ _ (.slice none 0 0) h ((bkCs_get _ _ _ _ (by decide)).trans (congrArg some (hk 4)))
  have e7 := set_same W bb 83 _ _ (.slice none 0 0) h ((bkCs_get _ _ _ _ (by decide)).trans (congrArg some (hk 7)))
  clear h hk
  go_enter Tryz.func114, Tryz.ntmps114
  go_wp2
  go_loopw [2] (fun v wr => v = .int .i64 0 ∧ wr = W) (fun _ _ => 0)
  case atStart => exact ⟨rfl, rfl⟩
  case round =>
    obtain ⟨rfl, rfl⟩ := hrel
    go_wp2
    go_end0
    exact ⟨rfl, by first | rfl | (rw [e4, e7])⟩

set_option maxRecDepth 4000 in
theorem growChanges (W : World) {bb : Nat} {turn deep : Int} {f : Nat → Nat → Value} {seen : Nat → Int} (h : BkAt W bb turn deep f seen) (hk : Nil f 9) :
    Calls Tryz.prog 115 #[.pointer (some ⟨bb, 0, none⟩)] W fun e w' => e = .returned (.tuple #[]) ∧ w' = W := by
  have c4 : W.cell? ⟨bb, 89, none⟩ = some (.slice none 0 0) := (h.cell (i := 89) (by decide)).trans (congrArg some (hk 4))
  have c7 : W.cell? ⟨bb, 92, none⟩ = some (.slice none 0 0) := (h.cell (i := 92) (by decide)).trans (congrArg some (hk 7))
  have f4 := h.fz 89
  have f7 := h.fz 92
  have e4 := set_same W bb 89 _ _ (.slice none 0 0) h ((bkCs_get _ _ _ _ (by decide)).trans (congrArg some (hk 4)))
  have e7 := set_same W bb 92 _ _ (.slice none 0 0) h ((bkCs_get _ _ _ _ (by decide)).trans (congrArg some (hk 7)))
  clear h hk
  go_enter Tryz.func115, Tryz.ntmps115
  go_wp2
  go_loopw [2] (fun v wr => v = .int .i64 0 ∧ wr = W) (fun _ _ => 0)
  case atStart => exact ⟨rfl, rfl⟩
  case round =>
    obtain ⟨rfl, rfl⟩ := hrel
    go_wp2
    go_end0
    exact ⟨rfl, by first | rfl | (rw [e4, e7])⟩

set_option maxRecDepth 4000 in
theorem growReads (W : World) {bb : Nat} {turn deep : Int} {f : Nat → Nat → Value} {seen : Nat → Int} (h : BkAt W bb turn deep f seen) (hk : Nil f 10) :
    Calls Tryz.prog 116 #[.pointer (some ⟨bb, 0, none⟩)] W fun e w' => e = .returned (.tuple #[]) ∧ w' = W := by
  have c4 : W.cell? ⟨bb, 98, none⟩ = some (.slice none 0 0) := (h.cell (i := 98) (by decide)).trans (congrArg some (hk 4))
  have c7 : W.cell? ⟨bb, 101, none⟩ = some (.slice none 0 0) := (h.cell (i := 101) (by decide)).trans (congrArg some (hk 7))
  have f4 := h.fz 98
  have f7 := h.fz 101
  have e4 := set_same W bb 98 _ _ (.slice none 0 0) h ((bkCs_get _ _ _ _ (by decide)).trans (congrArg some (hk 4)))
  have e7 := set_same W bb 101 _ _ (.slice none 0 0) h ((bkCs_get _ _ _ _ (by decide)).trans (congrArg some (hk 7)))
  clear h hk
  go_enter Tryz.func116, Tryz.ntmps116
  go_wp2
  go_loopw [2] (fun v wr => v = .int .i64 0 ∧ wr = W) (fun _ _ => 0)
  case atStart => exact ⟨rfl, rfl⟩
  case round =>
    obtain ⟨rfl, rfl⟩ := hrel
    go_wp2
    go_end0
    exact ⟨rfl, by first | rfl | (rw [e4, e7])⟩

set_option maxRecDepth 4000 in
theorem growFindings (W : World) {bb : Nat} {turn deep : Int} {f : Nat → Nat → Value} {seen : Nat → Int} (h : BkAt W bb turn deep f seen) (hk : Nil f 11) :
    Calls Tryz.prog 117 #[.pointer (some ⟨bb, 0, none⟩)] W fun e w' => e = .returned (.tuple #[]) ∧ w' = W := by
  have c4 : W.cell? ⟨bb, 107, none⟩ = some (.slice none 0 0) := (h.cell (i := 107) (by decide)).trans (congrArg some (hk 4))
  have c7 : W.cell? ⟨bb, 110, none⟩ = some (.slice none 0 0) := (h.cell (i := 110) (by decide)).trans (congrArg some (hk 7))
  have f4 := h.fz 107
  have f7 := h.fz 110
  have e4 := set_same W bb 107 _ _ (.slice none 0 0) h ((bkCs_get _ _ _ _ (by decide)).trans (congrArg some (hk 4)))
  have e7 := set_same W bb 110 _ _ (.slice none 0 0) h ((bkCs_get _ _ _ _ (by decide)).trans (congrArg some (hk 7)))
  clear h hk
  go_enter Tryz.func117, Tryz.ntmps117
  go_wp2
  go_loopw [2] (fun v wr => v = .int .i64 0 ∧ wr = W) (fun _ _ => 0)
  case atStart => exact ⟨rfl, rfl⟩
  case round =>
    obtain ⟨rfl, rfl⟩ := hrel
    go_wp2
    go_end0
    exact ⟨rfl, by first | rfl | (rw [e4, e7])⟩

set_option maxRecDepth 4000 in
theorem growConflicts (W : World) {bb : Nat} {turn deep : Int} {f : Nat → Nat → Value} {seen : Nat → Int} (h : BkAt W bb turn deep f seen) (hk : Nil f 12) :
    Calls Tryz.prog 118 #[.pointer (some ⟨bb, 0, none⟩)] W fun e w' => e = .returned (.tuple #[]) ∧ w' = W := by
  have c4 : W.cell? ⟨bb, 116, none⟩ = some (.slice none 0 0) := (h.cell (i := 116) (by decide)).trans (congrArg some (hk 4))
  have c7 : W.cell? ⟨bb, 119, none⟩ = some (.slice none 0 0) := (h.cell (i := 119) (by decide)).trans (congrArg some (hk 7))
  have f4 := h.fz 116
  have f7 := h.fz 119
  have e4 := set_same W bb 116 _ _ (.slice none 0 0) h ((bkCs_get _ _ _ _ (by decide)).trans (congrArg some (hk 4)))
  have e7 := set_same W bb 119 _ _ (.slice none 0 0) h ((bkCs_get _ _ _ _ (by decide)).trans (congrArg some (hk 7)))
  clear h hk
  go_enter Tryz.func118, Tryz.ntmps118
  go_wp2
  go_loopw [2] (fun v wr => v = .int .i64 0 ∧ wr = W) (fun _ _ => 0)
  case atStart => exact ⟨rfl, rfl⟩
  case round =>
    obtain ⟨rfl, rfl⟩ := hrel
    go_wp2
    go_end0
    exact ⟨rfl, by first | rfl | (rw [e4, e7])⟩

set_option maxRecDepth 4000 in
theorem growPoints (W : World) {bb : Nat} {turn deep : Int} {f : Nat → Nat → Value} {seen : Nat → Int} (h : BkAt W bb turn deep f seen) (hk : Nil f 13) :
    Calls Tryz.prog 119 #[.pointer (some ⟨bb, 0, none⟩)] W fun e w' => e = .returned (.tuple #[]) ∧ w' = W := by
  have c4 : W.cell? ⟨bb, 125, none⟩ = some (.slice none 0 0) := (h.cell (i := 125) (by decide)).trans (congrArg some (hk 4))
  have c7 : W.cell? ⟨bb, 128, none⟩ = some (.slice none 0 0) := (h.cell (i := 128) (by decide)).trans (congrArg some (hk 7))
  have f4 := h.fz 125
  have f7 := h.fz 128
  have e4 := set_same W bb 125 _ _ (.slice none 0 0) h ((bkCs_get _ _ _ _ (by decide)).trans (congrArg some (hk 4)))
  have e7 := set_same W bb 128 _ _ (.slice none 0 0) h ((bkCs_get _ _ _ _ (by decide)).trans (congrArg some (hk 7)))
  clear h hk
  go_enter Tryz.func119, Tryz.ntmps119
  go_wp2
  go_loopw [2] (fun v wr => v = .int .i64 0 ∧ wr = W) (fun _ _ => 0)
  case atStart => exact ⟨rfl, rfl⟩
  case round =>
    obtain ⟨rfl, rfl⟩ := hrel
    go_wp2
    go_end0
    exact ⟨rfl, by first | rfl | (rw [e4, e7])⟩

set_option maxRecDepth 4000 in
theorem growNodes (W : World) {bb : Nat} {turn deep : Int} {f : Nat → Nat → Value} {seen : Nat → Int} (h : BkAt W bb turn deep f seen) (hk : Nil f 14) :
    Calls Tryz.prog 120 #[.pointer (some ⟨bb, 0, none⟩)] W fun e w' => e = .returned (.tuple #[]) ∧ w' = W := by
  have c4 : W.cell? ⟨bb, 134, none⟩ = some (.slice none 0 0) := (h.cell (i := 134) (by decide)).trans (congrArg some (hk 4))
  have c7 : W.cell? ⟨bb, 137, none⟩ = some (.slice none 0 0) := (h.cell (i := 137) (by decide)).trans (congrArg some (hk 7))
  have f4 := h.fz 134
  have f7 := h.fz 137
  have e4 := set_same W bb 134 _ _ (.slice none 0 0) h ((bkCs_get _ _ _ _ (by decide)).trans (congrArg some (hk 4)))
  have e7 := set_same W bb 137 _ _ (.slice none 0 0) h ((bkCs_get _ _ _ _ (by decide)).trans (congrArg some (hk 7)))
  clear h hk
  go_enter Tryz.func120, Tryz.ntmps120
  go_wp2
  go_loopw [2] (fun v wr => v = .int .i64 0 ∧ wr = W) (fun _ _ => 0)
  case atStart => exact ⟨rfl, rfl⟩
  case round =>
    obtain ⟨rfl, rfl⟩ := hrel
    go_wp2
    go_end0
    exact ⟨rfl, by first | rfl | (rw [e4, e7])⟩

set_option maxRecDepth 4000 in
theorem growRecords (W : World) {bb : Nat} {turn deep : Int} {f : Nat → Nat → Value} {seen : Nat → Int} (h : BkAt W bb turn deep f seen) (hk : Nil f 15) :
    Calls Tryz.prog 121 #[.pointer (some ⟨bb, 0, none⟩)] W fun e w' => e = .returned (.tuple #[]) ∧ w' = W := by
  have c4 : W.cell? ⟨bb, 143, none⟩ = some (.slice none 0 0) := (h.cell (i := 143) (by decide)).trans (congrArg some (hk 4))
  have c7 : W.cell? ⟨bb, 146, none⟩ = some (.slice none 0 0) := (h.cell (i := 146) (by decide)).trans (congrArg some (hk 7))
  have f4 := h.fz 143
  have f7 := h.fz 146
  have e4 := set_same W bb 143 _ _ (.slice none 0 0) h ((bkCs_get _ _ _ _ (by decide)).trans (congrArg some (hk 4)))
  have e7 := set_same W bb 146 _ _ (.slice none 0 0) h ((bkCs_get _ _ _ _ (by decide)).trans (congrArg some (hk 7)))
  clear h hk
  go_enter Tryz.func121, Tryz.ntmps121
  go_wp2
  go_loopw [2] (fun v wr => v = .int .i64 0 ∧ wr = W) (fun _ _ => 0)
  case atStart => exact ⟨rfl, rfl⟩
  case round =>
    obtain ⟨rfl, rfl⟩ := hrel
    go_wp2
    go_end0
    exact ⟨rfl, by first | rfl | (rw [e4, e7])⟩

set_option maxRecDepth 4000 in
theorem growFiles (W : World) {bb : Nat} {turn deep : Int} {f : Nat → Nat → Value} {seen : Nat → Int} (h : BkAt W bb turn deep f seen) (hk : Nil f 16) :
    Calls Tryz.prog 122 #[.pointer (some ⟨bb, 0, none⟩)] W fun e w' => e = .returned (.tuple #[]) ∧ w' = W := by
  have c4 : W.cell? ⟨bb, 152, none⟩ = some (.slice none 0 0) := (h.cell (i := 152) (by decide)).trans (congrArg some (hk 4))
  have c7 : W.cell? ⟨bb, 155, none⟩ = some (.slice none 0 0) := (h.cell (i := 155) (by decide)).trans (congrArg some (hk 7))
  have f4 := h.fz 152
  have f7 := h.fz 155
  have e4 := set_same W bb 152 _ _ (.slice none 0 0) h ((bkCs_get _ _ _ _ (by decide)).trans (congrArg some (hk 4)))
  have e7 := set_same W bb 155 _ _ (.slice none 0 0) h ((bkCs_get _ _ _ _ (by decide)).trans (congrArg some (hk 7)))
  clear h hk
  go_enter Tryz.func122, Tryz.ntmps122
  go_wp2
  go_loopw [2] (fun v wr => v = .int .i64 0 ∧ wr = W) (fun _ _ => 0)
  case atStart => exact ⟨rfl, rfl⟩
  case round =>
    obtain ⟨rfl, rfl⟩ := hrel
    go_wp2
    go_end0
    exact ⟨rfl, by first | rfl | (rw [e4, e7])⟩

set_option maxRecDepth 4000 in
theorem growExprs (W : World) {bb : Nat} {turn deep : Int} {f : Nat → Nat → Value} {seen : Nat → Int} (h : BkAt W bb turn deep f seen) (hk : Nil f 17) :
    Calls Tryz.prog 123 #[.pointer (some ⟨bb, 0, none⟩)] W fun e w' => e = .returned (.tuple #[]) ∧ w' = W := by
  have c4 : W.cell? ⟨bb, 161, none⟩ = some (.slice none 0 0) := (h.cell (i := 161) (by decide)).trans (congrArg some (hk 4))
  have c7 : W.cell? ⟨bb, 164, none⟩ = some (.slice none 0 0) := (h.cell (i := 164) (by decide)).trans (congrArg some (hk 7))
  have f4 := h.fz 161
  have f7 := h.fz 164
  have e4 := set_same W bb 161 _ _ (.slice none 0 0) h ((bkCs_get _ _ _ _ (by decide)).trans (congrArg some (hk 4)))
  have e7 := set_same W bb 164 _ _ (.slice none 0 0) h ((bkCs_get _ _ _ _ (by decide)).trans (congrArg some (hk 7)))
  clear h hk
  go_enter Tryz.func123, Tryz.ntmps123
  go_wp2
  go_loopw [2] (fun v wr => v = .int .i64 0 ∧ wr = W) (fun _ _ => 0)
  case atStart => exact ⟨rfl, rfl⟩
  case round =>
    obtain ⟨rfl, rfl⟩ := hrel
    go_wp2
    go_end0
    exact ⟨rfl, by first | rfl | (rw [e4, e7])⟩

set_option maxRecDepth 4000 in
theorem growClauses (W : World) {bb : Nat} {turn deep : Int} {f : Nat → Nat → Value} {seen : Nat → Int} (h : BkAt W bb turn deep f seen) (hk : Nil f 18) :
    Calls Tryz.prog 124 #[.pointer (some ⟨bb, 0, none⟩)] W fun e w' => e = .returned (.tuple #[]) ∧ w' = W := by
  have c4 : W.cell? ⟨bb, 170, none⟩ = some (.slice none 0 0) := (h.cell (i := 170) (by decide)).trans (congrArg some (hk 4))
  have c7 : W.cell? ⟨bb, 173, none⟩ = some (.slice none 0 0) := (h.cell (i := 173) (by decide)).trans (congrArg some (hk 7))
  have f4 := h.fz 170
  have f7 := h.fz 173
  have e4 := set_same W bb 170 _ _ (.slice none 0 0) h ((bkCs_get _ _ _ _ (by decide)).trans (congrArg some (hk 4)))
  have e7 := set_same W bb 173 _ _ (.slice none 0 0) h ((bkCs_get _ _ _ _ (by decide)).trans (congrArg some (hk 7)))
  clear h hk
  go_enter Tryz.func124, Tryz.ntmps124
  go_wp2
  go_loopw [2] (fun v wr => v = .int .i64 0 ∧ wr = W) (fun _ _ => 0)
  case atStart => exact ⟨rfl, rfl⟩
  case round =>
    obtain ⟨rfl, rfl⟩ := hrel
    go_wp2
    go_end0
    exact ⟨rfl, by first | rfl | (rw [e4, e7])⟩

set_option maxRecDepth 4000 in
theorem growLines (W : World) {bb : Nat} {turn deep : Int} {f : Nat → Nat → Value} {seen : Nat → Int} (h : BkAt W bb turn deep f seen) (hk : Nil f 19) :
    Calls Tryz.prog 125 #[.pointer (some ⟨bb, 0, none⟩)] W fun e w' => e = .returned (.tuple #[]) ∧ w' = W := by
  have c4 : W.cell? ⟨bb, 179, none⟩ = some (.slice none 0 0) := (h.cell (i := 179) (by decide)).trans (congrArg some (hk 4))
  have c7 : W.cell? ⟨bb, 182, none⟩ = some (.slice none 0 0) := (h.cell (i := 182) (by decide)).trans (congrArg some (hk 7))
  have f4 := h.fz 179
  have f7 := h.fz 182
  have e4 := set_same W bb 179 _ _ (.slice none 0 0) h ((bkCs_get _ _ _ _ (by decide)).trans (congrArg some (hk 4)))
  have e7 := set_same W bb 182 _ _ (.slice none 0 0) h ((bkCs_get _ _ _ _ (by decide)).trans (congrArg some (hk 7)))
  clear h hk
  go_enter Tryz.func125, Tryz.ntmps125
  go_wp2
  go_loopw [2] (fun v wr => v = .int .i64 0 ∧ wr = W) (fun _ _ => 0)
  case atStart => exact ⟨rfl, rfl⟩
  case round =>
    obtain ⟨rfl, rfl⟩ := hrel
    go_wp2
    go_end0
    exact ⟨rfl, by first | rfl | (rw [e4, e7])⟩

set_option maxRecDepth 4000 in
theorem growChecks (W : World) {bb : Nat} {turn deep : Int} {f : Nat → Nat → Value} {seen : Nat → Int} (h : BkAt W bb turn deep f seen) (hk : Nil f 20) :
    Calls Tryz.prog 126 #[.pointer (some ⟨bb, 0, none⟩)] W fun e w' => e = .returned (.tuple #[]) ∧ w' = W := by
  have c4 : W.cell? ⟨bb, 188, none⟩ = some (.slice none 0 0) := (h.cell (i := 188) (by decide)).trans (congrArg some (hk 4))
  have c7 : W.cell? ⟨bb, 191, none⟩ = some (.slice none 0 0) := (h.cell (i := 191) (by decide)).trans (congrArg some (hk 7))
  have f4 := h.fz 188
  have f7 := h.fz 191
  have e4 := set_same W bb 188 _ _ (.slice none 0 0) h ((bkCs_get _ _ _ _ (by decide)).trans (congrArg some (hk 4)))
  have e7 := set_same W bb 191 _ _ (.slice none 0 0) h ((bkCs_get _ _ _ _ (by decide)).trans (congrArg some (hk 7)))
  clear h hk
  go_enter Tryz.func126, Tryz.ntmps126
  go_wp2
  go_loopw [2] (fun v wr => v = .int .i64 0 ∧ wr = W) (fun _ _ => 0)
  case atStart => exact ⟨rfl, rfl⟩
  case round =>
    obtain ⟨rfl, rfl⟩ := hrel
    go_wp2
    go_end0
    exact ⟨rfl, by first | rfl | (rw [e4, e7])⟩

set_option maxRecDepth 4000 in
theorem growOptions (W : World) {bb : Nat} {turn deep : Int} {f : Nat → Nat → Value} {seen : Nat → Int} (h : BkAt W bb turn deep f seen) (hk : Nil f 21) :
    Calls Tryz.prog 127 #[.pointer (some ⟨bb, 0, none⟩)] W fun e w' => e = .returned (.tuple #[]) ∧ w' = W := by
  have c4 : W.cell? ⟨bb, 197, none⟩ = some (.slice none 0 0) := (h.cell (i := 197) (by decide)).trans (congrArg some (hk 4))
  have c7 : W.cell? ⟨bb, 200, none⟩ = some (.slice none 0 0) := (h.cell (i := 200) (by decide)).trans (congrArg some (hk 7))
  have f4 := h.fz 197
  have f7 := h.fz 200
  have e4 := set_same W bb 197 _ _ (.slice none 0 0) h ((bkCs_get _ _ _ _ (by decide)).trans (congrArg some (hk 4)))
  have e7 := set_same W bb 200 _ _ (.slice none 0 0) h ((bkCs_get _ _ _ _ (by decide)).trans (congrArg some (hk 7)))
  clear h hk
  go_enter Tryz.func127, Tryz.ntmps127
  go_wp2
  go_loopw [2] (fun v wr => v = .int .i64 0 ∧ wr = W) (fun _ _ => 0)
  case atStart => exact ⟨rfl, rfl⟩
  case round =>
    obtain ⟨rfl, rfl⟩ := hrel
    go_wp2
    go_end0
    exact ⟨rfl, by first | rfl | (rw [e4, e7])⟩

set_option maxRecDepth 4000 in
theorem growTables (W : World) {bb : Nat} {turn deep : Int} {f : Nat → Nat → Value} {seen : Nat → Int} (h : BkAt W bb turn deep f seen) (hk : Nil f 22) :
    Calls Tryz.prog 128 #[.pointer (some ⟨bb, 0, none⟩)] W fun e w' => e = .returned (.tuple #[]) ∧ w' = W := by
  have c4 : W.cell? ⟨bb, 206, none⟩ = some (.slice none 0 0) := (h.cell (i := 206) (by decide)).trans (congrArg some (hk 4))
  have c7 : W.cell? ⟨bb, 209, none⟩ = some (.slice none 0 0) := (h.cell (i := 209) (by decide)).trans (congrArg some (hk 7))
  have f4 := h.fz 206
  have f7 := h.fz 209
  have e4 := set_same W bb 206 _ _ (.slice none 0 0) h ((bkCs_get _ _ _ _ (by decide)).trans (congrArg some (hk 4)))
  have e7 := set_same W bb 209 _ _ (.slice none 0 0) h ((bkCs_get _ _ _ _ (by decide)).trans (congrArg some (hk 7)))
  clear h hk
  go_enter Tryz.func128, Tryz.ntmps128
  go_wp2
  go_loopw [2] (fun v wr => v = .int .i64 0 ∧ wr = W) (fun _ _ => 0)
  case atStart => exact ⟨rfl, rfl⟩
  case round =>
    obtain ⟨rfl, rfl⟩ := hrel
    go_wp2
    go_end0
    exact ⟨rfl, by first | rfl | (rw [e4, e7])⟩

set_option maxRecDepth 4000 in
theorem growGroups (W : World) {bb : Nat} {turn deep : Int} {f : Nat → Nat → Value} {seen : Nat → Int} (h : BkAt W bb turn deep f seen) (hk : Nil f 23) :
    Calls Tryz.prog 129 #[.pointer (some ⟨bb, 0, none⟩)] W fun e w' => e = .returned (.tuple #[]) ∧ w' = W := by
  have c4 : W.cell? ⟨bb, 215, none⟩ = some (.slice none 0 0) := (h.cell (i := 215) (by decide)).trans (congrArg some (hk 4))
  have c7 : W.cell? ⟨bb, 218, none⟩ = some (.slice none 0 0) := (h.cell (i := 218) (by decide)).trans (congrArg some (hk 7))
  have f4 := h.fz 215
  have f7 := h.fz 218
  have e4 := set_same W bb 215 _ _ (.slice none 0 0) h ((bkCs_get _ _ _ _ (by decide)).trans (congrArg some (hk 4)))
  have e7 := set_same W bb 218 _ _ (.slice none 0 0) h ((bkCs_get _ _ _ _ (by decide)).trans (congrArg some (hk 7)))
  clear h hk
  go_enter Tryz.func129, Tryz.ntmps129
  go_wp2
  go_loopw [2] (fun v wr => v = .int .i64 0 ∧ wr = W) (fun _ _ => 0)
  case atStart => exact ⟨rfl, rfl⟩
  case round =>
    obtain ⟨rfl, rfl⟩ := hrel
    go_wp2
    go_end0
    exact ⟨rfl, by first | rfl | (rw [e4, e7])⟩
end Go.Proofs.YtekapipfaahhcaaGreatDoor.KB


/- Nothing to mark. -/
namespace Go.Proofs.YtekapipfaahhcaaGreatDoor.KB
open Go.RowKit
set_option linter.constructorNameAsVariable false

set_option maxRecDepth 4000 in
theorem markBytes (W : World) {bb : Nat} {turn deep : Int} {f : Nat → Nat → Value} {seen : Nat → Int} (h : BkAt W bb turn deep f seen) (hk : Nil f 0) :
    Calls Tryz.prog 82 #[.pointer (some ⟨bb, 0, none⟩)] W fun e w' => e = .returned (.tuple #[]) ∧ w' = W := by
  have c2 : W.cell? ⟨bb, 6, none⟩ = some (.slice none 0 0) := (h.cell (i := 6) (by decide)).trans (congrArg some (hk 2))
  have c3 : W.cell? ⟨bb, 7, none⟩ = some (.slice none 0 0) := (h.cell (i := 7) (by decide)).trans (congrArg some (hk 3))
  have c5 : W.cell? ⟨bb, 9, none⟩ = some (.slice none 0 0) := (h.cell (i := 9) (by decide)).trans (congrArg some (hk 5))
  have c6 : W.cell? ⟨bb, 10, none⟩ = some (.slice none 0 0) := (h.cell (i := 10) (by decide)).trans (congrArg some (hk 6))
  clear h hk
  go_enter Tryz.func82, Tryz.ntmps82
  go_wp2
  refine bodyPost_ret (results_none rfl _ _ _) rfl ?_
  exact ⟨rfl, rfl⟩

set_option maxRecDepth 4000 in
theorem markInts (W : World) {bb : Nat} {turn deep : Int} {f : Nat → Nat → Value} {seen : Nat → Int} (h : BkAt W bb turn deep f seen) (hk : Nil f 1) :
    Calls Tryz.prog 83 #[.pointer (some ⟨bb, 0, none⟩)] W fun e w' => e = .returned (.tuple #[]) ∧ w' = W := by
  have c2 : W.cell? ⟨bb, 15, none⟩ = some (.slice none 0 0) := (h.cell (i := 15) (by decide)).trans (congrArg some (hk 2))
  have c3 : W.cell? ⟨bb, 16, none⟩ = some (.slice none 0 0) := (h.cell (i := 16) (by decide)).trans (congrArg some (hk 3))
  have c5 : W.cell? ⟨bb, 18, none⟩ = some (.slice none 0 0) := (h.cell (i := 18) (by decide)).trans (congrArg some (hk 5))
  have c6 : W.cell? ⟨bb, 19, none⟩ = some (.slice none 0 0) := (h.cell (i := 19) (by decide)).trans (congrArg some (hk 6))
  clear h hk
  go_enter Tryz.func83, Tryz.ntmps83
  go_wp2
  refine bodyPost_ret (results_none rfl _ _ _) rfl ?_
  exact ⟨rfl, rfl⟩

set_option maxRecDepth 4000 in
theorem markCells (W : World) {bb : Nat} {turn deep : Int} {f : Nat → Nat → Value} {seen : Nat → Int} (h : BkAt W bb turn deep f seen) (hk : Nil f 2) :
    Calls Tryz.prog 84 #[.pointer (some ⟨bb, 0, none⟩)] W fun e w' => e = .returned (.tuple #[]) ∧ w' = W := by
  have c2 : W.cell? ⟨bb, 24, none⟩ = some (.slice none 0 0) := (h.cell (i := 24) (by decide)).trans (congrArg some (hk 2))
  have c3 : W.cell? ⟨bb, 25, none⟩ = some (.slice none 0 0) := (h.cell (i := 25) (by decide)).trans (congrArg some (hk 3))
  have c5 : W.cell? ⟨bb, 27, none⟩ = some (.slice none 0 0) := (h.cell (i := 27) (by decide)).trans (congrArg some (hk 5))
  have c6 : W.cell? ⟨bb, 28, none⟩ = some (.slice none 0 0) := (h.cell (i := 28) (by decide)).trans (congrArg some (hk 6))
  clear h hk
  go_enter Tryz.func84, Tryz.ntmps84
  go_wp2
  refine bodyPost_ret (results_none rfl _ _ _) rfl ?_
  exact ⟨rfl, rfl⟩

set_option maxRecDepth 4000 in
theorem markBools (W : World) {bb : Nat} {turn deep : Int} {f : Nat → Nat → Value} {seen : Nat → Int} (h : BkAt W bb turn deep f seen) (hk : Nil f 3) :
    Calls Tryz.prog 85 #[.pointer (some ⟨bb, 0, none⟩)] W fun e w' => e = .returned (.tuple #[]) ∧ w' = W := by
  have c2 : W.cell? ⟨bb, 33, none⟩ = some (.slice none 0 0) := (h.cell (i := 33) (by decide)).trans (congrArg some (hk 2))
  have c3 : W.cell? ⟨bb, 34, none⟩ = some (.slice none 0 0) := (h.cell (i := 34) (by decide)).trans (congrArg some (hk 3))
  have c5 : W.cell? ⟨bb, 36, none⟩ = some (.slice none 0 0) := (h.cell (i := 36) (by decide)).trans (congrArg some (hk 5))
  have c6 : W.cell? ⟨bb, 37, none⟩ = some (.slice none 0 0) := (h.cell (i := 37) (by decide)).trans (congrArg some (hk 6))
  clear h hk
  go_enter Tryz.func85, Tryz.ntmps85
  go_wp2
  refine bodyPost_ret (results_none rfl _ _ _) rfl ?_
  exact ⟨rfl, rfl⟩

set_option maxRecDepth 4000 in
theorem markTexts (W : World) {bb : Nat} {turn deep : Int} {f : Nat → Nat → Value} {seen : Nat → Int} (h : BkAt W bb turn deep f seen) (hk : Nil f 4) :
    Calls Tryz.prog 86 #[.pointer (some ⟨bb, 0, none⟩)] W fun e w' => e = .returned (.tuple #[]) ∧ w' = W := by
  have c2 : W.cell? ⟨bb, 42, none⟩ = some (.slice none 0 0) := (h.cell (i := 42) (by decide)).trans (congrArg some (hk 2))
  have c3 : W.cell? ⟨bb, 43, none⟩ = some (.slice none 0 0) := (h.cell (i := 43) (by decide)).trans (congrArg some (hk 3))
  have c5 : W.cell? ⟨bb, 45, none⟩ = some (.slice none 0 0) := (h.cell (i := 45) (by decide)).trans (congrArg some (hk 5))
  have c6 : W.cell? ⟨bb, 46, none⟩ = some (.slice none 0 0) := (h.cell (i := 46) (by decide)).trans (congrArg some (hk 6))
  clear h hk
  go_enter Tryz.func86, Tryz.ntmps86
  go_wp2
  refine bodyPost_ret (results_none rfl _ _ _) rfl ?_
  exact ⟨rfl, rfl⟩

set_option maxRecDepth 4000 in
theorem markValues (W : World) {bb : Nat} {turn deep : Int} {f : Nat → Nat → Value} {seen : Nat → Int} (h : BkAt W bb turn deep f seen) (hk : Nil f 5) :
    Calls Tryz.prog 87 #[.pointer (some ⟨bb, 0, none⟩)] W fun e w' => e = .returned (.tuple #[]) ∧ w' = W := by
  have c2 : W.cell? ⟨bb, 51, none⟩ = some (.slice none 0 0) := (h.cell (i := 51) (by decide)).trans (congrArg some (hk 2))
  have c3 : W.cell? ⟨bb, 52, none⟩ = some (.slice none 0 0) := (h.cell (i := 52) (by decide)).trans (congrArg some (hk 3))
  have c5 : W.cell? ⟨bb, 54, none⟩ = some (.slice none 0 0) := (h.cell (i := 54) (by decide)).trans (congrArg some (hk 5))
  have c6 : W.cell? ⟨bb, 55, none⟩ = some (.slice none 0 0) := (h.cell (i := 55) (by decide)).trans (congrArg some (hk 6))
  clear h hk
  go_enter Tryz.func87, Tryz.ntmps87
  go_wp2
  refine bodyPost_ret (results_none rfl _ _ _) rfl ?_
  exact ⟨rfl, rfl⟩

set_option maxRecDepth 4000 in
theorem markBands (W : World) {bb : Nat} {turn deep : Int} {f : Nat → Nat → Value} {seen : Nat → Int} (h : BkAt W bb turn deep f seen) (hk : Nil f 6) :
    Calls Tryz.prog 88 #[.pointer (some ⟨bb, 0, none⟩)] W fun e w' => e = .returned (.tuple #[]) ∧ w' = W := by
  have c2 : W.cell? ⟨bb, 60, none⟩ = some (.slice none 0 0) := (h.cell (i := 60) (by decide)).trans (congrArg some (hk 2))
  have c3 : W.cell? ⟨bb, 61, none⟩ = some (.slice none 0 0) := (h.cell (i := 61) (by decide)).trans (congrArg some (hk 3))
  have c5 : W.cell? ⟨bb, 63, none⟩ = some (.slice none 0 0) := (h.cell (i := 63) (by decide)).trans (congrArg some (hk 5))
  have c6 : W.cell? ⟨bb, 64, none⟩ = some (.slice none 0 0) := (h.cell (i := 64) (by decide)).trans (congrArg some (hk 6))
  clear h hk
  go_enter Tryz.func88, Tryz.ntmps88
  go_wp2
  refine bodyPost_ret (results_none rfl _ _ _) rfl ?_
  exact ⟨rfl, rfl⟩

set_option maxRecDepth 4000 in
theorem markEntries (W : World) {bb : Nat} {turn deep : Int} {f : Nat → Nat → Value} {seen : Nat → Int} (h : BkAt W bb turn deep f seen) (hk : Nil f 8) :
    Calls Tryz.prog 90 #[.pointer (some ⟨bb, 0, none⟩)] W fun e w' => e = .returned (.tuple #[]) ∧ w' = W := by
  have c2 : W.cell? ⟨bb, 78, none⟩ = some (.slice none 0 0) := (h.cell (i := 78) (by decide)).trans (congrArg some (hk 2))
  have c3 : W.cell? ⟨bb, 79, none⟩ = some (.slice none 0 0) := (h.cell (i := 79) (by decide)).trans (congrArg some (hk 3))
  have c5 : W.cell? ⟨bb, 81, none⟩ = some (.slice none 0 0) := (h.cell (i := 81) (by decide)).trans (congrArg some (hk 5))
  have c6 : W.cell? ⟨bb, 82, none⟩ = some (.slice none 0 0) := (h.cell (i := 82) (by decide)).trans (congrArg some (hk 6))
  clear h hk
  go_enter Tryz.func90, Tryz.ntmps90
  go_wp2
  refine bodyPost_ret (results_none rfl _ _ _) rfl ?_
  exact ⟨rfl, rfl⟩

set_option maxRecDepth 4000 in
theorem markChanges (W : World) {bb : Nat} {turn deep : Int} {f : Nat → Nat → Value} {seen : Nat → Int} (h : BkAt W bb turn deep f seen) (hk : Nil f 9) :
    Calls Tryz.prog 91 #[.pointer (some ⟨bb, 0, none⟩)] W fun e w' => e = .returned (.tuple #[]) ∧ w' = W := by
  have c2 : W.cell? ⟨bb, 87, none⟩ = some (.slice none 0 0) := (h.cell (i := 87) (by decide)).trans (congrArg some (hk 2))
  have c3 : W.cell? ⟨bb, 88, none⟩ = some (.slice none 0 0) := (h.cell (i := 88) (by decide)).trans (congrArg some (hk 3))
  have c5 : W.cell? ⟨bb, 90, none⟩ = some (.slice none 0 0) := (h.cell (i := 90) (by decide)).trans (congrArg some (hk 5))
  have c6 : W.cell? ⟨bb, 91, none⟩ = some (.slice none 0 0) := (h.cell (i := 91) (by decide)).trans (congrArg some (hk 6))
  clear h hk
  go_enter Tryz.func91, Tryz.ntmps91
  go_wp2
  refine bodyPost_ret (results_none rfl _ _ _) rfl ?_
  exact ⟨rfl, rfl⟩

set_option maxRecDepth 4000 in
theorem markReads (W : World) {bb : Nat} {turn deep : Int} {f : Nat → Nat → Value} {seen : Nat → Int} (h : BkAt W bb turn deep f seen) (hk : Nil f 10) :
    Calls Tryz.prog 92 #[.pointer (some ⟨bb, 0, none⟩)] W fun e w' => e = .returned (.tuple #[]) ∧ w' = W := by
  have c2 : W.cell? ⟨bb, 96, none⟩ = some (.slice none 0 0) := (h.cell (i := 96) (by decide)).trans (congrArg some (hk 2))
  have c3 : W.cell? ⟨bb, 97, none⟩ = some (.slice none 0 0) := (h.cell (i := 97) (by decide)).trans (congrArg some (hk 3))
  have c5 : W.cell? ⟨bb, 99, none⟩ = some (.slice none 0 0) := (h.cell (i := 99) (by decide)).trans (congrArg some (hk 5))
  have c6 : W.cell? ⟨bb, 100, none⟩ = some (.slice none 0 0) := (h.cell (i := 100) (by decide)).trans (congrArg some (hk 6))
  clear h hk
  go_enter Tryz.func92, Tryz.ntmps92
  go_wp2
  refine bodyPost_ret (results_none rfl _ _ _) rfl ?_
  exact ⟨rfl, rfl⟩

set_option maxRecDepth 4000 in
theorem markFindings (W : World) {bb : Nat} {turn deep : Int} {f : Nat → Nat → Value} {seen : Nat → Int} (h : BkAt W bb turn deep f seen) (hk : Nil f 11) :
    Calls Tryz.prog 93 #[.pointer (some ⟨bb, 0, none⟩)] W fun e w' => e = .returned (.tuple #[]) ∧ w' = W := by
  have c2 : W.cell? ⟨bb, 105, none⟩ = some (.slice none 0 0) := (h.cell (i := 105) (by decide)).trans (congrArg some (hk 2))
  have c3 : W.cell? ⟨bb, 106, none⟩ = some (.slice none 0 0) := (h.cell (i := 106) (by decide)).trans (congrArg some (hk 3))
  have c5 : W.cell? ⟨bb, 108, none⟩ = some (.slice none 0 0) := (h.cell (i := 108) (by decide)).trans (congrArg some (hk 5))
  have c6 : W.cell? ⟨bb, 109, none⟩ = some (.slice none 0 0) := (h.cell (i := 109) (by decide)).trans (congrArg some (hk 6))
  clear h hk
  go_enter Tryz.func93, Tryz.ntmps93
  go_wp2
  refine bodyPost_ret (results_none rfl _ _ _) rfl ?_
  exact ⟨rfl, rfl⟩

set_option maxRecDepth 4000 in
theorem markConflicts (W : World) {bb : Nat} {turn deep : Int} {f : Nat → Nat → Value} {seen : Nat → Int} (h : BkAt W bb turn deep f seen) (hk : Nil f 12) :
    Calls Tryz.prog 94 #[.pointer (some ⟨bb, 0, none⟩)] W fun e w' => e = .returned (.tuple #[]) ∧ w' = W := by
  have c2 : W.cell? ⟨bb, 114, none⟩ = some (.slice none 0 0) := (h.cell (i := 114) (by decide)).trans (congrArg some (hk 2))
  have c3 : W.cell? ⟨bb, 115, none⟩ = some (.slice none 0 0) := (h.cell (i := 115) (by decide)).trans (congrArg some (hk 3))
  have c5 : W.cell? ⟨bb, 117, none⟩ = some (.slice none 0 0) := (h.cell (i := 117) (by decide)).trans (congrArg some (hk 5))
  have c6 : W.cell? ⟨bb, 118, none⟩ = some (.slice none 0 0) := (h.cell (i := 118) (by decide)).trans (congrArg some (hk 6))
  clear h hk
  go_enter Tryz.func94, Tryz.ntmps94
  go_wp2
  refine bodyPost_ret (results_none rfl _ _ _) rfl ?_
  exact ⟨rfl, rfl⟩

set_option maxRecDepth 4000 in
theorem markPoints (W : World) {bb : Nat} {turn deep : Int} {f : Nat → Nat → Value} {seen : Nat → Int} (h : BkAt W bb turn deep f seen) (hk : Nil f 13) :
    Calls Tryz.prog 95 #[.pointer (some ⟨bb, 0, none⟩)] W fun e w' => e = .returned (.tuple #[]) ∧ w' = W := by
  have c2 : W.cell? ⟨bb, 123, none⟩ = some (.slice none 0 0) := (h.cell (i := 123) (by decide)).trans (congrArg some (hk 2))
  have c3 : W.cell? ⟨bb, 124, none⟩ = some (.slice none 0 0) := (h.cell (i := 124) (by decide)).trans (congrArg some (hk 3))
  have c5 : W.cell? ⟨bb, 126, none⟩ = some (.slice none 0 0) := (h.cell (i := 126) (by decide)).trans (congrArg some (hk 5))
  have c6 : W.cell? ⟨bb, 127, none⟩ = some (.slice none 0 0) := (h.cell (i := 127) (by decide)).trans (congrArg some (hk 6))
  clear h hk
  go_enter Tryz.func95, Tryz.ntmps95
  go_wp2
  refine bodyPost_ret (results_none rfl _ _ _) rfl ?_
  exact ⟨rfl, rfl⟩

set_option maxRecDepth 4000 in
theorem markNodes (W : World) {bb : Nat} {turn deep : Int} {f : Nat → Nat → Value} {seen : Nat → Int} (h : BkAt W bb turn deep f seen) (hk : Nil f 14) :
    Calls Tryz.prog 96 #[.pointer (some ⟨bb, 0, none⟩)] W fun e w' => e = .returned (.tuple #[]) ∧ w' = W := by
  have c2 : W.cell? ⟨bb, 132, none⟩ = some (.slice none 0 0) := (h.cell (i := 132) (by decide)).trans (congrArg some (hk 2))
  have c3 : W.cell? ⟨bb, 133, none⟩ = some (.slice none 0 0) := (h.cell (i := 133) (by decide)).trans (congrArg some (hk 3))
  have c5 : W.cell? ⟨bb, 135, none⟩ = some (.slice none 0 0) := (h.cell (i := 135) (by decide)).trans (congrArg some (hk 5))
  have c6 : W.cell? ⟨bb, 136, none⟩ = some (.slice none 0 0) := (h.cell (i := 136) (by decide)).trans (congrArg some (hk 6))
  clear h hk
  go_enter Tryz.func96, Tryz.ntmps96
  go_wp2
  refine bodyPost_ret (results_none rfl _ _ _) rfl ?_
  exact ⟨rfl, rfl⟩

set_option maxRecDepth 4000 in
theorem markRecords (W : World) {bb : Nat} {turn deep : Int} {f : Nat → Nat → Value} {seen : Nat → Int} (h : BkAt W bb turn deep f seen) (hk : Nil f 15) :
    Calls Tryz.prog 97 #[.pointer (some ⟨bb, 0, none⟩)] W fun e w' => e = .returned (.tuple #[]) ∧ w' = W := by
  have c2 : W.cell? ⟨bb, 141, none⟩ = some (.slice none 0 0) := (h.cell (i := 141) (by decide)).trans (congrArg some (hk 2))
  have c3 : W.cell? ⟨bb, 142, none⟩ = some (.slice none 0 0) := (h.cell (i := 142) (by decide)).trans (congrArg some (hk 3))
  have c5 : W.cell? ⟨bb, 144, none⟩ = some (.slice none 0 0) := (h.cell (i := 144) (by decide)).trans (congrArg some (hk 5))
  have c6 : W.cell? ⟨bb, 145, none⟩ = some (.slice none 0 0) := (h.cell (i := 145) (by decide)).trans (congrArg some (hk 6))
  clear h hk
  go_enter Tryz.func97, Tryz.ntmps97
  go_wp2
  refine bodyPost_ret (results_none rfl _ _ _) rfl ?_
  exact ⟨rfl, rfl⟩

set_option maxRecDepth 4000 in
theorem markFiles (W : World) {bb : Nat} {turn deep : Int} {f : Nat → Nat → Value} {seen : Nat → Int} (h : BkAt W bb turn deep f seen) (hk : Nil f 16) :
    Calls Tryz.prog 98 #[.pointer (some ⟨bb, 0, none⟩)] W fun e w' => e = .returned (.tuple #[]) ∧ w' = W := by
  have c2 : W.cell? ⟨bb, 150, none⟩ = some (.slice none 0 0) := (h.cell (i := 150) (by decide)).trans (congrArg some (hk 2))
  have c3 : W.cell? ⟨bb, 151, none⟩ = some (.slice none 0 0) := (h.cell (i := 151) (by decide)).trans (congrArg some (hk 3))
  have c5 : W.cell? ⟨bb, 153, none⟩ = some (.slice none 0 0) := (h.cell (i := 153) (by decide)).trans (congrArg some (hk 5))
  have c6 : W.cell? ⟨bb, 154, none⟩ = some (.slice none 0 0) := (h.cell (i := 154) (by decide)).trans (congrArg some (hk 6))
  clear h hk
  go_enter Tryz.func98, Tryz.ntmps98
  go_wp2
  refine bodyPost_ret (results_none rfl _ _ _) rfl ?_
  exact ⟨rfl, rfl⟩

set_option maxRecDepth 4000 in
theorem markExprs (W : World) {bb : Nat} {turn deep : Int} {f : Nat → Nat → Value} {seen : Nat → Int} (h : BkAt W bb turn deep f seen) (hk : Nil f 17) :
    Calls Tryz.prog 99 #[.pointer (some ⟨bb, 0, none⟩)] W fun e w' => e = .returned (.tuple #[]) ∧ w' = W := by
  have c2 : W.cell? ⟨bb, 159, none⟩ = some (.slice none 0 0) := (h.cell (i := 159) (by decide)).trans (congrArg some (hk 2))
  have c3 : W.cell? ⟨bb, 160, none⟩ = some (.slice none 0 0) := (h.cell (i := 160) (by decide)).trans (congrArg some (hk 3))
  have c5 : W.cell? ⟨bb, 162, none⟩ = some (.slice none 0 0) := (h.cell (i := 162) (by decide)).trans (congrArg some (hk 5))
  have c6 : W.cell? ⟨bb, 163, none⟩ = some (.slice none 0 0) := (h.cell (i := 163) (by decide)).trans (congrArg some (hk 6))
  clear h hk
  go_enter Tryz.func99, Tryz.ntmps99
  go_wp2
  refine bodyPost_ret (results_none rfl _ _ _) rfl ?_
  exact ⟨rfl, rfl⟩

set_option maxRecDepth 4000 in
theorem markClauses (W : World) {bb : Nat} {turn deep : Int} {f : Nat → Nat → Value} {seen : Nat → Int} (h : BkAt W bb turn deep f seen) (hk : Nil f 18) :
    Calls Tryz.prog 100 #[.pointer (some ⟨bb, 0, none⟩)] W fun e w' => e = .returned (.tuple #[]) ∧ w' = W := by
  have c2 : W.cell? ⟨bb, 168, none⟩ = some (.slice none 0 0) := (h.cell (i := 168) (by decide)).trans (congrArg some (hk 2))
  have c3 : W.cell? ⟨bb, 169, none⟩ = some (.slice none 0 0) := (h.cell (i := 169) (by decide)).trans (congrArg some (hk 3))
  have c5 : W.cell? ⟨bb, 171, none⟩ = some (.slice none 0 0) := (h.cell (i := 171) (by decide)).trans (congrArg some (hk 5))
  have c6 : W.cell? ⟨bb, 172, none⟩ = some (.slice none 0 0) := (h.cell (i := 172) (by decide)).trans (congrArg some (hk 6))
  clear h hk
  go_enter Tryz.func100, Tryz.ntmps100
  go_wp2
  refine bodyPost_ret (results_none rfl _ _ _) rfl ?_
  exact ⟨rfl, rfl⟩

set_option maxRecDepth 4000 in
theorem markLines (W : World) {bb : Nat} {turn deep : Int} {f : Nat → Nat → Value} {seen : Nat → Int} (h : BkAt W bb turn deep f seen) (hk : Nil f 19) :
    Calls Tryz.prog 101 #[.pointer (some ⟨bb, 0, none⟩)] W fun e w' => e = .returned (.tuple #[]) ∧ w' = W := by
  have c2 : W.cell? ⟨bb, 177, none⟩ = some (.slice none 0 0) := (h.cell (i := 177) (by decide)).trans (congrArg some (hk 2))
  have c3 : W.cell? ⟨bb, 178, none⟩ = some (.slice none 0 0) := (h.cell (i := 178) (by decide)).trans (congrArg some (hk 3))
  have c5 : W.cell? ⟨bb, 180, none⟩ = some (.slice none 0 0) := (h.cell (i := 180) (by decide)).trans (congrArg some (hk 5))
  have c6 : W.cell? ⟨bb, 181, none⟩ = some (.slice none 0 0) := (h.cell (i := 181) (by decide)).trans (congrArg some (hk 6))
  clear h hk
  go_enter Tryz.func101, Tryz.ntmps101
  go_wp2
  refine bodyPost_ret (results_none rfl _ _ _) rfl ?_
  exact ⟨rfl, rfl⟩

set_option maxRecDepth 4000 in
theorem markChecks (W : World) {bb : Nat} {turn deep : Int} {f : Nat → Nat → Value} {seen : Nat → Int} (h : BkAt W bb turn deep f seen) (hk : Nil f 20) :
    Calls Tryz.prog 102 #[.pointer (some ⟨bb, 0, none⟩)] W fun e w' => e = .returned (.tuple #[]) ∧ w' = W := by
  have c2 : W.cell? ⟨bb, 186, none⟩ = some (.slice none 0 0) := (h.cell (i := 186) (by decide)).trans (congrArg some (hk 2))
  have c3 : W.cell? ⟨bb, 187, none⟩ = some (.slice none 0 0) := (h.cell (i := 187) (by decide)).trans (congrArg some (hk 3))
  have c5 : W.cell? ⟨bb, 189, none⟩ = some (.slice none 0 0) := (h.cell (i := 189) (by decide)).trans (congrArg some (hk 5))
  have c6 : W.cell? ⟨bb, 190, none⟩ = some (.slice none 0 0) := (h.cell (i := 190) (by decide)).trans (congrArg some (hk 6))
  clear h hk
  go_enter Tryz.func102, Tryz.ntmps102
  go_wp2
  refine bodyPost_ret (results_none rfl _ _ _) rfl ?_
  exact ⟨rfl, rfl⟩

set_option maxRecDepth 4000 in
theorem markOptions (W : World) {bb : Nat} {turn deep : Int} {f : Nat → Nat → Value} {seen : Nat → Int} (h : BkAt W bb turn deep f seen) (hk : Nil f 21) :
    Calls Tryz.prog 103 #[.pointer (some ⟨bb, 0, none⟩)] W fun e w' => e = .returned (.tuple #[]) ∧ w' = W := by
  have c2 : W.cell? ⟨bb, 195, none⟩ = some (.slice none 0 0) := (h.cell (i := 195) (by decide)).trans (congrArg some (hk 2))
  have c3 : W.cell? ⟨bb, 196, none⟩ = some (.slice none 0 0) := (h.cell (i := 196) (by decide)).trans (congrArg some (hk 3))
  have c5 : W.cell? ⟨bb, 198, none⟩ = some (.slice none 0 0) := (h.cell (i := 198) (by decide)).trans (congrArg some (hk 5))
  have c6 : W.cell? ⟨bb, 199, none⟩ = some (.slice none 0 0) := (h.cell (i := 199) (by decide)).trans (congrArg some (hk 6))
  clear h hk
  go_enter Tryz.func103, Tryz.ntmps103
  go_wp2
  refine bodyPost_ret (results_none rfl _ _ _) rfl ?_
  exact ⟨rfl, rfl⟩

set_option maxRecDepth 4000 in
theorem markTables (W : World) {bb : Nat} {turn deep : Int} {f : Nat → Nat → Value} {seen : Nat → Int} (h : BkAt W bb turn deep f seen) (hk : Nil f 22) :
    Calls Tryz.prog 104 #[.pointer (some ⟨bb, 0, none⟩)] W fun e w' => e = .returned (.tuple #[]) ∧ w' = W := by
  have c2 : W.cell? ⟨bb, 204, none⟩ = some (.slice none 0 0) := (h.cell (i := 204) (by decide)).trans (congrArg some (hk 2))
  have c3 : W.cell? ⟨bb, 205, none⟩ = some (.slice none 0 0) := (h.cell (i := 205) (by decide)).trans (congrArg some (hk 3))
  have c5 : W.cell? ⟨bb, 207, none⟩ = some (.slice none 0 0) := (h.cell (i := 207) (by decide)).trans (congrArg some (hk 5))
  have c6 : W.cell? ⟨bb, 208, none⟩ = some (.slice none 0 0) := (h.cell (i := 208) (by decide)).trans (congrArg some (hk 6))
  clear h hk
  go_enter Tryz.func104, Tryz.ntmps104
  go_wp2
  refine bodyPost_ret (results_none rfl _ _ _) rfl ?_
  exact ⟨rfl, rfl⟩

set_option maxRecDepth 4000 in
theorem markGroups (W : World) {bb : Nat} {turn deep : Int} {f : Nat → Nat → Value} {seen : Nat → Int} (h : BkAt W bb turn deep f seen) (hk : Nil f 23) :
    Calls Tryz.prog 105 #[.pointer (some ⟨bb, 0, none⟩)] W fun e w' => e = .returned (.tuple #[]) ∧ w' = W := by
  have c2 : W.cell? ⟨bb, 213, none⟩ = some (.slice none 0 0) := (h.cell (i := 213) (by decide)).trans (congrArg some (hk 2))
  have c3 : W.cell? ⟨bb, 214, none⟩ = some (.slice none 0 0) := (h.cell (i := 214) (by decide)).trans (congrArg some (hk 3))
  have c5 : W.cell? ⟨bb, 216, none⟩ = some (.slice none 0 0) := (h.cell (i := 216) (by decide)).trans (congrArg some (hk 5))
  have c6 : W.cell? ⟨bb, 217, none⟩ = some (.slice none 0 0) := (h.cell (i := 217) (by decide)).trans (congrArg some (hk 6))
  clear h hk
  go_enter Tryz.func105, Tryz.ntmps105
  go_wp2
  refine bodyPost_ret (results_none rfl _ _ _) rfl ?_
  exact ⟨rfl, rfl⟩
end Go.Proofs.YtekapipfaahhcaaGreatDoor.KB

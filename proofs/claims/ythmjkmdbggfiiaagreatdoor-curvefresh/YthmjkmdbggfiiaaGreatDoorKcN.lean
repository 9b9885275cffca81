import Derived.Test.YthmjkmdbggfiiaaGreatDoorKbA
/- Nothing to lay on. -/
namespace Go.Proofs.YthmjkmdbggfiiaaGreatDoor.KB
open Go.RowKit
set_option linter.constructorNameAsVariable false

set_option maxRecDepth 4000 in
theorem growBytes (W : World) {bb : Nat} {turn deep : Int} {f : Nat → Nat → Value} {seen : Nat → Int} (h : BkAt W bb turn deep f seen) (hk : Nil f 0) :
    Calls Tryz.prog 115 #[.pointer (some ⟨bb, 0, none⟩)] W fun e w' => e = .returned (.tuple #[]) ∧ w' = W := by
  have c4 : W.cell? ⟨bb, 8, none⟩ = some (.slice none 0 0) := (h.cell (i := 8) (by decide)).trans (congrArg some (hk 4))
  have c7 : W.cell? ⟨bb, 11, none⟩ = some (.slice none 0 0) := (h.cell (i := 11) (by decide)).trans (congrArg some (hk 7))
  have f4 := h.fz 8
  have f7 := h.fz 11
  have e4 := set_same W bb 8 _ _ (.slice none 0 0) h ((bkCs_get _ _ _ _ (by decide)).trans (congrArg some (hk 4)))
  have e7 := set_same W bb 11 _ _ (.slice none 0 0) h ((bkCs_get _ _ _ _ (by decide)).trans (congrArg some (hk 7)))
  clear h hk
  go_enter Tryz.func115, Tryz.ntmps115
  go_wp2
  go_loopw [2] (fun v wr => v = .int .i64 0 ∧ wr = W) (fun _ _ => 0)
  case atStart => exact ⟨rfl, rfl⟩
  case round =>
    obtain ⟨rfl, rfl⟩ := hrel
    go_wp2
    go_end0
    exact ⟨rfl, by first | rfl | (rw [e4, e7])⟩

set_option maxRecDepth 4000 in
theorem growInts (W : World) {bb : Nat} {turn deep : Int} {f : Nat → Nat → Value} {seen : Nat → Int} (h : BkAt W bb turn deep f seen) (hk : Nil f 1) :
    Calls Tryz.prog 116 #[.pointer (some ⟨bb, 0, none⟩)] W fun e w' => e = .returned (.tuple #[]) ∧ w' = W := by
  have c4 : W.cell? ⟨bb, 17, none⟩ = some (.slice none 0 0) := (h.cell (i := 17) (by decide)).trans (congrArg some (hk 4))
  have c7 : W.cell? ⟨bb, 20, none⟩ = some (.slice none 0 0) := (h.cell (i := 20) (by decide)).trans (congrArg some (hk 7))
  have f4 := h.fz 17
  have f7 := h.fz 20
  have e4 := set_same W bb 17 _ _ (.slice none 0 0) h ((bkCs_get _ _ _ _ (by decide)).trans (congrArg some (hk 4)))
  have e7 := set_same W bb 20 _ _ (.slice none 0 0) h ((bkCs_get _ _ _ _ (by decide)).trans (congrArg some (hk 7)))
  clear h hk
  go_enter Tryz.func116, Tryz.ntmps116
  go_wp2
  go_loopw [2] (fun v wr => v = .int .i64 0 ∧ wr = W) (fun _ _ => 0)
  case atStart => exact ⟨rfl, rfl⟩
  case round =>
    obtain ⟨rfl, rfl⟩ := hrel
    go_wp2
    go_end0
    exact ⟨rfl, by first | rfl | (rw [e4, e7])⟩

set_option maxRecDepth 4000 in
theorem growCells (W : World) {bb : Nat} {turn deep : Int} {f : Nat → Nat → Value} {seen : Nat → Int} (h : BkAt W bb turn deep f seen) (hk : Nil f 2) :
    Calls Tryz.prog 117 #[.pointer (some ⟨bb, 0, none⟩)] W fun e w' => e = .returned (.tuple #[]) ∧ w' = W := by
  have c4 : W.cell? ⟨bb, 26, none⟩ = some (.slice none 0 0) := (h.cell (i := 26) (by decide)).trans (congrArg some (hk 4))
  have c7 : W.cell? ⟨bb, 29, none⟩ = some (.slice none 0 0) := (h.cell (i := 29) (by decide)).trans (congrArg some (hk 7))
  have f4 := h.fz 26
  have f7 := h.fz 29
  have e4 := set_same W bb 26 _ _ (.slice none 0 0) h ((bkCs_get _ _ _ _ (by decide)).trans (congrArg some (hk 4)))
  have e7 := set_same W bb 29 _ _ (.slice none 0 0) h ((bkCs_get _ _ _ _ (by decide)).trans (congrArg some (hk 7)))
  clear h hk
  go_enter Tryz.func117, Tryz.ntmps117
  go_wp2
  go_loopw [2] (fun v wr => v = .int .i64 0 ∧ wr = W) (fun _ _ => 0)
  case atStart => exact ⟨rfl, rfl⟩
  case round =>
    obtain ⟨rfl, rfl⟩ := hrel
    go_wp2
    go_end0
    exact ⟨rfl, by first | rfl | (rw [e4, e7])⟩

set_option maxRecDepth 4000 in
theorem growBools (W : World) {bb : Nat} {turn deep : Int} {f : Nat → Nat → Value} {seen : Nat → Int} (h : BkAt W bb turn deep f seen) (hk : Nil f 3) :
    Calls Tryz.prog 118 #[.pointer (some ⟨bb, 0, none⟩)] W fun e w' => e = .returned (.tuple #[]) ∧ w' = W := by
  have c4 : W.cell? ⟨bb, 35, none⟩ = some (.slice none 0 0) := (h.cell (i := 35) (by decide)).trans (congrArg some (hk 4))
  have c7 : W.cell? ⟨bb, 38, none⟩ = some (.slice none 0 0) := (h.cell (i := 38) (by decide)).trans (congrArg some (hk 7))
  have f4 := h.fz 35
  have f7 := h.fz 38
  have e4 := set_same W bb 35 _ _ (.slice none 0 0) h ((bkCs_get _ _ _ _ (by decide)).trans (congrArg some (hk 4)))
  have e7 := set_same W bb 38 _ _ (.slice none 0 0) h ((bkCs_get _ _ _ _ (by decide)).trans (congrArg some (hk 7)))
  clear h hk
  go_enter Tryz.func118, Tryz.ntmps118
  go_wp2
  go_loopw [2] (fun v wr => v = .int .i64 0 ∧ wr = W) (fun _ _ => 0)
  case atStart => exact ⟨rfl, rfl⟩
  case round =>
    obtain ⟨rfl, rfl⟩ := hrel
    go_wp2
    go_end0
    exact ⟨rfl, by first | rfl | (rw [e4, e7])⟩

set_option maxRecDepth 4000 in
theorem growTexts (W : World) {bb : Nat} {turn deep : Int} {f : Nat → Nat → Value} {seen : Nat → Int} (h : BkAt W bb turn deep f seen) (hk : Nil f 4) :
    Calls Tryz.prog 119 #[.pointer (some ⟨bb, 0, none⟩)] W fun e w' => e = .returned (.tuple #[]) ∧ w' = W := by
  have c4 : W.cell? ⟨bb, 44, none⟩ = some (.slice none 0 0) := (h.cell (i := 44) (by decide)).trans (congrArg some (hk 4))
  have c7 : W.cell? ⟨bb, 47, none⟩ = some (.slice none 0 0) := (h.cell (i := 47) (by decide)).trans (congrArg some (hk 7))
  have f4 := h.fz 44
  have f7 := h.fz 47
  have e4 := set_same W bb 44 _ _ (.slice none 0 0) h ((bkCs_get _ _ _ _ (by decide)).trans (congrArg some (hk 4)))
  have e7 := set_same W bb 47 _ _ (.slice none 0 0) h ((bkCs_get _ _ _ _ (by decide)).trans (congrArg some (hk 7)))
  clear h hk
  go_enter Tryz.func119, Tryz.ntmps119
  go_wp2
  go_loopw [2] (fun v wr => v = .int .i64 0 ∧ wr = W) (fun _ _ => 0)
  case atStart => exact ⟨rfl, rfl⟩
  case round =>
    obtain ⟨rfl, rfl⟩ := hrel
    go_wp2
    go_end0
    exact ⟨rfl, by first | rfl | (rw [e4, e7])⟩

set_option maxRecDepth 4000 in
theorem growValues (W : World) {bb : Nat} {turn deep : Int} {f : Nat → Nat → Value} {seen : Nat → Int} (h : BkAt W bb turn deep f seen) (hk : Nil f 5) :
    Calls Tryz.prog 120 #[.pointer (some ⟨bb, 0, none⟩)] W fun e w' => e = .returned (.tuple #[]) ∧ w' = W := by
  have c4 : W.cell? ⟨bb, 53, none⟩ = some (.slice none 0 0) := (h.cell (i := 53) (by decide)).trans (congrArg some (hk 4))
  have c7 : W.cell? ⟨bb, 56, none⟩ = some (.slice none 0 0) := (h.cell (i := 56) (by decide)).trans (congrArg some (hk 7))
  have f4 := h.fz 53
  have f7 := h.fz 56
  have e4 := set_same W bb 53 _ _ (.slice none 0 0) h ((bkCs_get _ _ _ _ (by decide)).trans (congrArg some (hk 4)))
  have e7 := set_same W bb 56 _ _ (.slice none 0 0) h ((bkCs_get _ _ _ _ (by decide)).trans (congrArg some (hk 7)))
  clear h hk
  go_enter Tryz.func120, Tryz.ntmps120
  go_wp2
  go_loopw [2] (fun v wr => v = .int .i64 0 ∧ wr = W) (fun _ _ => 0)
  case atStart => exact ⟨rfl, rfl⟩
  case round =>
    obtain ⟨rfl, rfl⟩ := hrel
    go_wp2
    go_end0
    exact ⟨rfl, by first | rfl | (rw [e4, e7])⟩

set_option maxRecDepth 4000 in
theorem growBands (W : World) {bb : Nat} {turn deep : Int} {f : Nat → Nat → Value} {seen : Nat → Int} (h : BkAt W bb turn deep f seen) (hk : Nil f 6) :
    Calls Tryz.prog 121 #[.pointer (some ⟨bb, 0, none⟩)] W fun e w' => e = .returned (.tuple #[]) ∧ w' = W := by
  have c4 : W.cell? ⟨bb, 62, none⟩ = some (.slice none 0 0) := (h.cell (i := 62) (by decide)).trans (congrArg some (hk 4))
  have c7 : W.cell? ⟨bb, 65, none⟩ = some (.slice none 0 0) := (h.cell (i := 65) (by decide)).trans (congrArg some (hk 7))
  have f4 := h.fz 62
  have f7 := h.fz 65
  have e4 := set_same W bb 62 _ _ (.slice none 0 0) h ((bkCs_get _ _ _ _ (by decide)).trans (congrArg some (hk 4)))
  have e7 := set_same W bb 65 _ _ (.slice none 0 0) h ((bkCs_get _ _ _ _ (by decide)).trans (congrArg some (hk 7)))
  clear h hk
  go_enter Tryz.func121, Tryz.ntmps121
  go_wp2
  go_loopw [2] (fun v wr => v = .int .i64 0 ∧ wr = W) (fun _ _ => 0)
  case atStart => exact ⟨rfl, rfl⟩
  case round =>
    obtain ⟨rfl, rfl⟩ := hrel
    go_wp2
    go_end0
    exact ⟨rfl, by first | rfl | (rw [e4, e7])⟩

set_option maxRecDepth 4000 in
theorem growTokens (W : World) {bb : Nat} {turn deep : Int} {f : Nat → Nat → Value} {seen : Nat → Int} (h : BkAt W bb turn deep f seen) (hk : Nil f 7) :
    Calls Tryz.prog 122 #[.pointer (some ⟨bb, 0, none⟩)] W fun e w' => e = .returned (.tuple #[]) ∧ w' = W := by
  have c4 : W.cell? ⟨bb, 71, none⟩ = some (.slice none 0 0) := (h.cell (i := 71) (by decide)).trans (congrArg some (hk 4))
  have c7 : W.cell? ⟨bb, 74, none⟩ = some (.slice none 0 0) := (h.cell (i := 74) (by decide)).trans (congrArg some (hk 7))
  have f4 := h.fz 71
  have f7 := h.fz 74
  have e4 := set_same W bb 71 _ _ (.slice none 0 0) h ((bkCs_get _ _ _ _ (by decide)).trans (congrArg some (hk 4)))
  have e7 := set_same W bb 74 _ _ (.slice none 0 0) h ((bkCs_get _ _ _ _ (by decide)).trans (congrArg some (hk 7)))
  clear h hk
  go_enter Tryz.func122, Tryz.ntmps122
  go_wp2
  go_loopw [2] (fun v wr => v = .int .i64 0 ∧ wr = W) (fun _ _ => 0)
  case atStart => exact ⟨rfl, rfl⟩
  case round =>
    obtain ⟨rfl, rfl⟩ := hrel
    go_wp2
    go_end0
    exact ⟨rfl, by first | rfl | (rw [e4, e7])⟩

set_option maxRecDepth 4000 in
theorem growEntries (W : World) {bb : Nat} {turn deep : Int} {f : Nat → Nat → Value} {seen : Nat → Int} (h : BkAt W bb turn deep f seen) (hk : Nil f 8) :
    Calls Tryz.prog 123 #[.pointer (some ⟨bb, 0, none⟩)] W fun e w' => e = .returned (.tuple #[]) ∧ w' = W := by
  have c4 : W.cell? ⟨bb, 80, none⟩ = some (.slice none 0 0) := (h.cell (i := 80) (by decide)).trans (congrArg some (hk 4))
  have c7 : W.cell? ⟨bb, 83, none⟩ = some (.slice none 0 0) := (h.cell (i := 83) (by decide)).trans (congrArg some (hk 7))
  have f4 := h.fz 80
  have f7 := h.fz 83
  have e4 := set_same W bb 80 _ _ (.slice none 0 0) h ((bkCs_get _ _ _ _ (by decide)).trans (congrArg some (hk 4)))
  have e7 := set_same W bb 83 _ _ (.slice none 0 0) h ((bkCs_get _ _ _ _ (by decide)).trans (congrArg some (hk 7)))
  clear h hk
  go_enter Tryz.func123, Tryz.ntmps123
  go_wp2
  go_loopw [2] (fun v wr => v = .int .i64 0 ∧ wr = W) (fun _ _ => 0)
  case atStart => exact ⟨rfl, rfl⟩
  case round =>
    obtain ⟨rfl, rfl⟩ := hrel
    go_wp2
    go_end0
    exact ⟨rfl, by first | rfl | (rw [e4, e7])⟩

set_option maxRecDepth 4000 in
theorem growChanges (W : World) {bb : Nat} {turn deep : Int} {f : Nat → Nat → Value} {seen : Nat → Int} (h : BkAt W bb turn deep f seen) (hk : Nil f 9) :
    Calls Tryz.prog 124 #[.pointer (some ⟨bb, 0, none⟩)] W fun e w' => e = .returned (.tuple #[]) ∧ w' = W := by
  have c4 : W.cell? ⟨bb, 89, none⟩ = some (.slice none 0 0) := (h.cell (i := 89) (by decide)).trans (congrArg some (hk 4))
  have c7 : W.cell? ⟨bb, 92, none⟩ = some (.slice none 0 0) := (h.cell (i := 92) (by decide)).trans (congrArg some (hk 7))
  have f4 := h.fz 89
  have f7 := h.fz 92
  have e4 := set_same W bb 89 _ _ (.slice none 0 0) h ((bkCs_get _ _ _ _ (by decide)).trans (congrArg some (hk 4)))
  have e7 := set_same W bb 92 _ _ (.slice none 0 0) h ((bkCs_get _ _ _ _ (by decide)).trans (congrArg some (hk 7)))
  clear h hk
  go_enter Tryz.func124, Tryz.ntmps124
  go_wp2
  go_loopw [2] (fun v wr => v = .int .i64 0 ∧ wr = W) (fun _ _ => 0)
  case atStart => exact ⟨rfl, rfl⟩
  case round =>
    obtain ⟨rfl, rfl⟩ := hrel
    go_wp2
    go_end0
    exact ⟨rfl, by first | rfl | (rw [e4, e7])⟩

set_option maxRecDepth 4000 in
theorem growReads (W : World) {bb : Nat} {turn deep : Int} {f : Nat → Nat → Value} {seen : Nat → Int} (h : BkAt W bb turn deep f seen) (hk : Nil f 10) :
    Calls Tryz.prog 125 #[.pointer (some ⟨bb, 0, none⟩)] W fun e w' => e = .returned (.tuple #[]) ∧ w' = W := by
  have c4 : W.cell? ⟨bb, 98, none⟩ = some (.slice none 0 0) := (h.cell (i := 98) (by decide)).trans (congrArg some (hk 4))
  have c7 : W.cell? ⟨bb, 101, none⟩ = some (.slice none 0 0) := (h.cell (i := 101) (by decide)).trans (congrArg some (hk 7))
  have f4 := h.fz 98
  have f7 := h.fz 101
  have e4 := set_same W bb 98 _ _ (.slice none 0 0) h ((bkCs_get _ _ _ _ (by decide)).trans (congrArg some (hk 4)))
  have e7 := set_same W bb 101 _ _ (.slice none 0 0) h ((bkCs_get _ _ _ _ (by decide)).trans (congrArg some (hk 7)))
  clear h hk
  go_enter Tryz.func125, Tryz.ntmps125
  go_wp2
  go_loopw [2] (fun v wr => v = .int .i64 0 ∧ wr = W) (fun _ _ => 0)
  case atStart => exact ⟨rfl, rfl⟩
  case round =>
    obtain ⟨rfl, rfl⟩ := hrel
    go_wp2
    go_end0
    exact ⟨rfl, by first | rfl | (rw [e4, e7])⟩

set_option maxRecDepth 4000 in
theorem growFindings (W : World) {bb : Nat} {turn deep : Int} {f : Nat → Nat → Value} {seen : Nat → Int} (h : BkAt W bb turn deep f seen) (hk : Nil f 11) :
    Calls Tryz.prog 126 #[.pointer (some ⟨bb, 0, none⟩)] W fun e w' => e = .returned (.tuple #[]) ∧ w' = W := by
  have c4 : W.cell? ⟨bb, 107, none⟩ = some (.slice none 0 0) := (h.cell (i := 107) (by decide)).trans (congrArg some (hk 4))
  have c7 : W.cell? ⟨bb, 110, none⟩ = some (.slice none 0 0) := (h.cell (i := 110) (by decide)).trans (congrArg some (hk 7))
  have f4 := h.fz 107
  have f7 := h.fz 110
  have e4 := set_same W bb 107 _ _ (.slice none 0 0) h ((bkCs_get _ _ _ _ (by decide)).trans (congrArg some (hk 4)))
  have e7 := set_same W bb 110 _ _ (.slice none 0 0) h ((bkCs_get _ _ _ _ (by decide)).trans (congrArg some (hk 7)))
  clear h hk
  go_enter Tryz.func126, Tryz.ntmps126
  go_wp2
  go_loopw [2] (fun v wr => v = .int .i64 0 ∧ wr = W) (fun _ _ => 0)
  case atStart => exact ⟨rfl, rfl⟩
  case round =>
    obtain ⟨rfl, rfl⟩ := hrel
    go_wp2
    go_end0
    exact ⟨rfl, by first | rfl | (rw [e4, e7])⟩

set_option maxRecDepth 4000 in
theorem growConflicts (W : World) {bb : Nat} {turn deep : Int} {f : Nat → Nat → Value} {seen : Nat → Int} (h : BkAt W bb turn deep f seen) (hk : Nil f 12) :
    Calls Tryz.prog 127 #[.pointer (some ⟨bb, 0, none⟩)] W fun e w' => e = .returned (.tuple #[]) ∧ w' = W := by
  have c4 : W.cell? ⟨bb, 116, none⟩ = some (.slice none 0 0) := (h.cell (i := 116) (by decide)).trans (congrArg some (hk 4))
  have c7 : W.cell? ⟨bb, 119, none⟩ = some (.slice none 0 0) := (h.cell (i := 119) (by decide)).trans (congrArg some (hk 7))
  have f4 := h.fz 116
  have f7 := h.fz 119
  have e4 := set_same W bb 116 _ _ (.slice none 0 0) h ((bkCs_get _ _ _ _ (by decide)).trans (congrArg some (hk 4)))
  have e7 := set_same W bb 119 _ _ (.slice none 0 0) h ((bkCs_get _ _ _ _ (by decide)).trans (congrArg some (hk 7)))
  clear h hk
  go_enter Tryz.func127, Tryz.ntmps127
  go_wp2
  go_loopw [2] (fun v wr => v = .int .i64 0 ∧ wr = W) (fun _ _ => 0)
  case atStart => exact ⟨rfl, rfl⟩
  case round =>
    obtain ⟨rfl, rfl⟩ := hrel
    go_wp2
    go_end0
    exact ⟨rfl, by first | rfl | (rw [e4, e7])⟩

set_option maxRecDepth 4000 in
theorem growPoints (W : World) {bb : Nat} {turn deep : Int} {f : Nat → Nat → Value} {seen : Nat → Int} (h : BkAt W bb turn deep f seen) (hk : Nil f 13) :
    Calls Tryz.prog 128 #[.pointer (some ⟨bb, 0, none⟩)] W fun e w' => e = .returned (.tuple #[]) ∧ w' = W := by
  have c4 : W.cell? ⟨bb, 125, none⟩ = some (.slice none 0 0) := (h.cell (i := 125) (by decide)).trans (congrArg some (hk 4))
  have c7 : W.cell? ⟨bb, 128, none⟩ = some (.slice none 0 0) := (h.cell (i := 128) (by decide)).trans (congrArg some (hk 7))
  have f4 := h.fz 125
  have f7 := h.fz 128
  have e4 := set_same W bb 125 _ _ (.slice none 0 0) h ((bkCs_get _ _ _ _ (by decide)).trans (congrArg some (hk 4)))
  have e7 := set_same W bb 128 _ _ (.slice none 0 0) h ((bkCs_get _ _ _ _ (by decide)).trans (congrArg some (hk 7)))
  clear h hk
  go_enter Tryz.func128, Tryz.ntmps128
  go_wp2
  go_loopw [2] (fun v wr => v = .int .i64 0 ∧ wr = W) (fun _ _ => 0)
  case atStart => exact ⟨rfl, rfl⟩
  case round =>
    obtain ⟨rfl, rfl⟩ := hrel
    go_wp2
    go_end0
    exact ⟨rfl, by first | rfl | (rw [e4, e7])⟩

set_option maxRecDepth 4000 in
theorem growNodes (W : World) {bb : Nat} {turn deep : Int} {f : Nat → Nat → Value} {seen : Nat → Int} (h : BkAt W bb turn deep f seen) (hk : Nil f 14) :
    Calls Tryz.prog 129 #[.pointer (some ⟨bb, 0, none⟩)] W fun e w' => e = .returned (.tuple #[]) ∧ w' = W := by
  have c4 : W.cell? ⟨bb, 134, none⟩ = some (.slice none 0 0) := (h.cell (i := 134) (by decide)).trans (congrArg some (hk 4))
  have c7 : W.cell? ⟨bb, 137, none⟩ = some (.slice none 0 0) := (h.cell (i := 137) (by decide)).trans (congrArg some (hk 7))
  have f4 := h.fz 134
  have f7 := h.fz 137
  have e4 := set_same W bb 134 _ _ (.slice none 0 0) h ((bkCs_get _ _ _ _ (by decide)).trans (congrArg some (hk 4)))
  have e7 := set_same W bb 137 _ _ (.slice none 0 0) h ((bkCs_get _ _ _ _ (by decide)).trans (congrArg some (hk 7)))
  clear h hk
  go_enter Tryz.func129, Tryz.ntmps129
  go_wp2
  go_loopw [2] (fun v wr => v = .int .i64 0 ∧ wr = W) (fun _ _ => 0)
  case atStart => exact ⟨rfl, rfl⟩
  case round =>
    obtain ⟨rfl, rfl⟩ := hrel
    go_wp2
    go_end0
    exact ⟨rfl, by first | rfl | (rw [e4, e7])⟩

set_option maxRecDepth 4000 in
theorem growRecords (W : World) {bb : Nat} {turn deep : Int} {f : Nat → Nat → Value} {seen : Nat → Int} (h : BkAt W bb turn deep f seen) (hk : Nil f 15) :
    Calls Tryz.prog 130 #[.pointer (some ⟨bb, 0, none⟩)] W fun e w' => e = .returned (.tuple #[]) ∧ w' = W := by
  have c4 : W.cell? ⟨bb, 143, none⟩ = some (.slice none 0 0) := (h.cell (i := 143) (by decide)).trans (congrArg some (hk 4))
  have c7 : W.cell? ⟨bb, 146, none⟩ = some (.slice none 0 0) := (h.cell (i := 146) (by decide)).trans (congrArg some (hk 7))
  have f4 := h.fz 143
  have f7 := h.fz 146
  have e4 := set_same W bb 143 _ _ (.slice none 0 0) h ((bkCs_get _ _ _ _ (by decide)).trans (congrArg some (hk 4)))
  have e7 := set_same W bb 146 _ _ (.slice none 0 0) h ((bkCs_get _ _ _ _ (by decide)).trans (congrArg some (hk 7)))
  clear h hk
  go_enter Tryz.func130, Tryz.ntmps130
  go_wp2
  go_loopw [2] (fun v wr => v = .int .i64 0 ∧ wr = W) (fun _ _ => 0)
  case atStart => exact ⟨rfl, rfl⟩
  case round =>
    obtain ⟨rfl, rfl⟩ := hrel
    go_wp2
    go_end0
    exact ⟨rfl, by first | rfl | (rw [e4, e7])⟩

set_option maxRecDepth 4000 in
theorem growFiles (W : World) {bb : Nat} {turn deep : Int} {f : Nat → Nat → Value} {seen : Nat → Int} (h : BkAt W bb turn deep f seen) (hk : Nil f 16) :
    Calls Tryz.prog 131 #[.pointer (some ⟨bb, 0, none⟩)] W fun e w' => e = .returned (.tuple #[]) ∧ w' = W := by
  have c4 : W.cell? ⟨bb, 152, none⟩ = some (.slice none 0 0) := (h.cell (i := 152) (by decide)).trans (congrArg some (hk 4))
  have c7 : W.cell? ⟨bb, 155, none⟩ = some (.slice none 0 0) := (h.cell (i := 155) (by decide)).trans (congrArg some (hk 7))
  have f4 := h.fz 152
  have f7 := h.fz 155
  have e4 := set_same W bb 152 _ _ (.slice none 0 0) h ((bkCs_get _ _ _ _ (by decide)).trans (congrArg some (hk 4)))
  have e7 := set_same W bb 155 _ _ (.slice none 0 0) h ((bkCs_get _ _ _ _ (by decide)).trans (congrArg some (hk 7)))
  clear h hk
  go_enter Tryz.func131, Tryz.ntmps131
  go_wp2
  go_loopw [2] (fun v wr => v = .int .i64 0 ∧ wr = W) (fun _ _ => 0)
  case atStart => exact ⟨rfl, rfl⟩
  case round =>
    obtain ⟨rfl, rfl⟩ := hrel
    go_wp2
    go_end0
    exact ⟨rfl, by first | rfl | (rw [e4, e7])⟩

set_option maxRecDepth 4000 in
theorem growExprs (W : World) {bb : Nat} {turn deep : Int} {f : Nat → Nat → Value} {seen : Nat → Int} (h : BkAt W bb turn deep f seen) (hk : Nil f 17) :
    Calls Tryz.prog 132 #[.pointer (some ⟨bb, 0, none⟩)] W fun e w' => e = .returned (.tuple #[]) ∧ w' = W := by
  have c4 : W.cell? ⟨bb, 161, none⟩ = some (.slice none 0 0) := (h.cell (i := 161) (by decide)).trans (congrArg some (hk 4))
  have c7 : W.cell? ⟨bb, 164, none⟩ = some (.slice none 0 0) := (h.cell (i := 164) (by decide)).trans (congrArg some (hk 7))
  have f4 := h.fz 161
  have f7 := h.fz 164
  have e4 := set_same W bb 161 _ _ (.slice none 0 0) h ((bkCs_get _ _ _ _ (by decide)).trans (congrArg some (hk 4)))
  have e7 := set_same W bb 164 _ _ (.slice none 0 0) h ((bkCs_get _ _ _ _ (by decide)).trans (congrArg some (hk 7)))
  clear h hk
  go_enter Tryz.func132, Tryz.ntmps132
  go_wp2
  go_loopw [2] (fun v wr => v = .int .i64 0 ∧ wr = W) (fun _ _ => 0)
  case atStart => exact ⟨rfl, rfl⟩
  case round =>
    obtain ⟨rfl, rfl⟩ := hrel
    go_wp2
    go_end0
    exact ⟨rfl, by first | rfl | (rw [e4, e7])⟩

set_option maxRecDepth 4000 in
theorem growClauses (W : World) {bb : Nat} {turn deep : Int} {f : Nat → Nat → Value} {seen : Nat → Int} (h : BkAt W bb turn deep f seen) (hk : Nil f 18) :
    Calls Tryz.prog 133 #[.pointer (some ⟨bb, 0, none⟩)] W fun e w' => e = .returned (.tuple #[]) ∧ w' = W := by
  have c4 : W.cell? ⟨bb, 170, none⟩ = some (.slice none 0 0) := (h.cell (i := 170) (by decide)).trans (congrArg some (hk 4))
  have c7 : W.cell? ⟨bb, 173, none⟩ = some (.slice none 0 0) := (h.cell (i := 173) (by decide)).trans (congrArg some (hk 7))
  have f4 := h.fz 170
  have f7 := h.fz 173
  have e4 := set_same W bb 170 _ _ (.slice none 0 0) h ((bkCs_get _ _ _ _ (by decide)).trans (congrArg some (hk 4)))
  have e7 := set_same W bb 173 _ _ (.slice none 0 0) h ((bkCs_get _ _ _ _ (by decide)).trans (congrArg some (hk 7)))
  clear h hk
  go_enter Tryz.func133, Tryz.ntmps133
  go_wp2
  go_loopw [2] (fun v wr => v = .int .i64 0 ∧ wr = W) (fun _ _ => 0)
  case atStart => exact ⟨rfl, rfl⟩
  case round =>
    obtain ⟨rfl, rfl⟩ := hrel
    go_wp2
    go_end0
    exact ⟨rfl, by first | rfl | (rw [e4, e7])⟩

set_option maxRecDepth 4000 in
theorem growLines (W : World) {bb : Nat} {turn deep : Int} {f : Nat → Nat → Value} {seen : Nat → Int} (h : BkAt W bb turn deep f seen) (hk : Nil f 19) :
    Calls Tryz.prog 134 #[.pointer (some ⟨bb, 0, none⟩)] W fun e w' => e = .returned (.tuple #[]) ∧ w' = W := by
  have c4 : W.cell? ⟨bb, 179, none⟩ = some (.slice none 0 0) := (h.cell (i := 179) (by decide)).trans (congrArg some (hk 4))
  have c7 : W.cell? ⟨bb, 182, none⟩ = some (.slice none 0 0) := (h.cell (i := 182) (by decide)).trans (congrArg some (hk 7))
  have f4 := h.fz 179
  have f7 := h.fz 182
  have e4 := set_same W bb 179 _ _ (.slice none 0 0) h ((bkCs_get _ _ _ _ (by decide)).trans (congrArg some (hk 4)))
  have e7 := set_same W bb 182 _ _ (.slice none 0 0) h ((bkCs_get _ _ _ _ (by decide)).trans (congrArg some (hk 7)))
  clear h hk
  go_enter Tryz.func134, Tryz.ntmps134
  go_wp2
  go_loopw [2] (fun v wr => v = .int .i64 0 ∧ wr = W) (fun _ _ => 0)
  case atStart => exact ⟨rfl, rfl⟩
  case round =>
    obtain ⟨rfl, rfl⟩ := hrel
    go_wp2
    go_end0
    exact ⟨rfl, by first | rfl | (rw [e4, e7])⟩

set_option maxRecDepth 4000 in
theorem growChecks (W : World) {bb : Nat} {turn deep : Int} {f : Nat → Nat → Value} {seen : Nat → Int} (h : BkAt W bb turn deep f seen) (hk : Nil f 20) :
    Calls Tryz.prog 135 #[.pointer (some ⟨bb, 0, none⟩)] W fun e w' => e = .returned (.tuple #[]) ∧ w' = W := by
  have c4 : W.cell? ⟨bb, 188, none⟩ = some (.slice none 0 0) := (h.cell (i := 188) (by decide)).trans (congrArg some (hk 4))
  have c7 : W.cell? ⟨bb, 191, none⟩ = some (.slice none 0 0) := (h.cell (i := 191) (by decide)).trans (congrArg some (hk 7))
  have f4 := h.fz 188
  have f7 := h.fz 191
  have e4 := set_same W bb 188 _ _ (.slice none 0 0) h ((bkCs_get _ _ _ _ (by decide)).trans (congrArg some (hk 4)))
  have e7 := set_same W bb 191 _ _ (.slice none 0 0) h ((bkCs_get _ _ _ _ (by decide)).trans (congrArg some (hk 7)))
  clear h hk
  go_enter Tryz.func135, Tryz.ntmps135
  go_wp2
  go_loopw [2] (fun v wr => v = .int .i64 0 ∧ wr = W) (fun _ _ => 0)
  case atStart => exact ⟨rfl, rfl⟩
  case round =>
    obtain ⟨rfl, rfl⟩ := hrel
    go_wp2
    go_end0
    exact ⟨rfl, by first | rfl | (rw [e4, e7])⟩

set_option maxRecDepth 4000 in
theorem growOptions (W : World) {bb : Nat} {turn deep : Int} {f : Nat → Nat → Value} {seen : Nat → Int} (h : BkAt W bb turn deep f seen) (hk : Nil f 21) :
    Calls Tryz.prog 136 #[.pointer (some ⟨bb, 0, none⟩)] W fun e w' => e = .returned (.tuple #[]) ∧ w' = W := by
  have c4 : W.cell? ⟨bb, 197, none⟩ = some (.slice none 0 0) := (h.cell (i := 197) (by decide)).trans (congrArg some (hk 4))
  have c7 : W.cell? ⟨bb, 200, none⟩ = some (.slice none 0 0) := (h.cell (i := 200) (by decide)).trans (congrArg some (hk 7))
  have f4 := h.fz 197
  have f7 := h.fz 200
  have e4 := set_same W bb 197 _ _ (.slice none 0 0) h ((bkCs_get _ _ _ _ (by decide)).trans (congrArg some (hk 4)))
  have e7 := set_same W bb 200 _ _ (.slice none 0 0) h ((bkCs_get _ _ _ _ (by decide)).trans (congrArg some (hk 7)))
  clear h hk
  go_enter Tryz.func136, Tryz.ntmps136
  go_wp2
  go_loopw [2] (fun v wr => v = .int .i64 0 ∧ wr = W) (fun _ _ => 0)
  case atStart => exact ⟨rfl, rfl⟩
  case round =>
    obtain ⟨rfl, rfl⟩ := hrel
    go_wp2
    go_end0
    exact ⟨rfl, by first | rfl | (rw [e4, e7])⟩

set_option maxRecDepth 4000 in
theorem growTables (W : World) {bb : Nat} {turn deep : Int} {f : Nat → Nat → Value} {seen : Nat → Int} (h : BkAt W bb turn deep f seen) (hk : Nil f 22) :
    Calls Tryz.prog 137 #[.pointer (some ⟨bb, 0, none⟩)] W fun e w' => e = .returned (.tuple #[]) ∧ w' = W := by
  have c4 : W.cell? ⟨bb, 206, none⟩ = some (.slice none 0 0) := (h.cell (i := 206) (by decide)).trans (congrArg some (hk 4))
  have c7 : W.cell? ⟨bb, 209, none⟩ = some (.slice none 0 0) := (h.cell (i := 209) (by decide)).trans (congrArg some (hk 7))
  have f4 := h.fz 206
  have f7 := h.fz 209
  have e4 := set_same W bb 206 _ _ (.slice none 0 0) h ((bkCs_get _ _ _ _ (by decide)).trans (congrArg some (hk 4)))
  have e7 := set_same W bb 209 _ _ (.slice none 0 0) h ((bkCs_get _ _ _ _ (by decide)).trans (congrArg some (hk 7)))
  clear h hk
  go_enter Tryz.func137, Tryz.ntmps137
  go_wp2
  go_loopw [2] (fun v wr => v = .int .i64 0 ∧ wr = W) (fun _ _ => 0)
  case atStart => exact ⟨rfl, rfl⟩
  case round =>
    obtain ⟨rfl, rfl⟩ := hrel
    go_wp2
    go_end0
    exact ⟨rfl, by first | rfl | (rw [e4, e7])⟩

set_option maxRecDepth 4000 in
theorem growGroups (W : World) {bb : Nat} {turn deep : Int} {f : Nat → Nat → Value} {seen : Nat → Int} (h : BkAt W bb turn deep f seen) (hk : Nil f 23) :
    Calls Tryz.prog 138 #[.pointer (some ⟨bb, 0, none⟩)] W fun e w' => e = .returned (.tuple #[]) ∧ w' = W := by
  have c4 : W.cell? ⟨bb, 215, none⟩ = some (.slice none 0 0) := (h.cell (i := 215) (by decide)).trans (congrArg some (hk 4))
  have c7 : W.cell? ⟨bb, 218, none⟩ = some (.slice none 0 0) := (h.cell (i := 218) (by decide)).trans (congrArg some (hk 7))
  have f4 := h.fz 215
  have f7 := h.fz 218
  have e4 := set_same W bb 215 _ _ (.slice none 0 0) h ((bkCs_get _ _ _ _ (by decide)).trans (congrArg some (hk 4)))
  have e7 := set_same W bb 218 _ _ (.slice none 0 0) h ((bkCs_get _ _ _ _ (by decide)).trans (congrArg some (hk 7)))
  clear h hk
  go_enter Tryz.func138, Tryz.ntmps138
  go_wp2
  go_loopw [2] (fun v wr => v = .int .i64 0 ∧ wr = W) (fun _ _ => 0)
  case atStart => exact ⟨rfl, rfl⟩
  case round =>
    obtain ⟨rfl, rfl⟩ := hrel
    go_wp2
    go_end0
    exact ⟨rfl, by first | rfl | (rw [e4, e7])⟩
end Go.Proofs.YthmjkmdbggfiiaaGreatDoor.KB

import Derived.Test.YthmjkmdbggfiiaaGreatDoorKcIntsM
import Derived.Test.YthmjkmdbggfiiaaGreatDoorJoin51
import Derived.Test.YthmjkmdbggfiiaaGreatDoorTurnKcIntsK
import Derived.Test.YthmjkmdbggfiiaaGreatDoorKcTextsM
import Derived.Test.YthmjkmdbggfiiaaGreatDoorJoin49
import Derived.Test.YthmjkmdbggfiiaaGreatDoorJoin48
import Derived.Test.YthmjkmdbggfiiaaGreatDoorKcPointsM
import Derived.Test.YthmjkmdbggfiiaaGreatDoorJoin36
import Derived.Test.YthmjkmdbggfiiaaGreatDoorJoin47
import Derived.Test.YthmjkmdbggfiiaaGreatDoorKcM
import Derived.Test.YthmjkmdbggfiiaaGreatDoorKcN
import Derived.Test.YthmjkmdbggfiiaaGreatDoorKcO
/- A book of Ints, Texts, Points. -/
namespace Go.Proofs.YthmjkmdbggfiiaaGreatDoor.KB
open Go.RowKit
set_option linter.constructorNameAsVariable false

def kN (k : Nat) : Kn := if k = 1 then knInts else if k = 4 then knTexts else knPoints
def kU (k : Nat) : Prop := k = 1 ∨ k = 4 ∨ k = 13
instance : DecidablePred kU := fun k => by unfold kU; infer_instance
theorem kU_lt : ∀ k, kU k → k < 24 := fun k h => by unfold kU at h; omega

set_option maxRecDepth 4000 in
set_option maxHeartbeats 4000000 in
theorem hold_any {W : World} {lo bb : Nat} {X : World} {turn deep : Int} {seen : Nat → Int} {F : List (Value × Nat × List Value)} {R : Nat → Row → Prop} {c : Nat → Nat} (h : KM kN kU lo bb W turn deep seen F R c (fun _ => True) X) (hc : ∀ k, kU k → c k ≤ 1000000) :
    Calls Tryz.prog 11 #[.pointer (some ⟨bb, 0, none⟩)] X fun e w' => e = .returned (.bool true) ∧ Below X.heap.size X w' := by
  obtain ⟨Z, r, fz, f, O, Q, A, hS, -, -, -, hcc, hv⟩ := h
  have c1 : X.cell? ⟨bb, 1, none⟩ = some (.bool false) := hS.bk.cell (i := 1) (by decide)
  have hb0 : Below X.heap.size X X := Below.refl _ _
  have hT1 := Hid.mk (fun Y (hY : Below X.heap.size X Y) => by
    have hL := (hS.later hY).lists (k := 1) (.inl rfl)
    have hC := (hS.later hY).c 1 (.inl rfl)
    have h1 := hcc 1 (.inl rfl)
    have h2 := hc 1 (.inl rfl)
    rw [hv 1 (.inl rfl) trivial] at hL hC
    exact holdInts_any hL hC (by omega) (by omega))
  have hT4 := Hid.mk (fun Y (hY : Below X.heap.size X Y) => by
    have hL := (hS.later hY).lists (k := 4) (.inr (.inl rfl))
    have hC := (hS.later hY).c 4 (.inr (.inl rfl))
    have h1 := hcc 4 (.inr (.inl rfl))
    have h2 := hc 4 (.inr (.inl rfl))
    rw [hv 4 (.inr (.inl rfl)) trivial] at hL hC
    exact holdTexts_any hL hC (by omega) (by omega))
  have hT13 := Hid.mk (fun Y (hY : Below X.heap.size X Y) => by
    have hL := (hS.later hY).lists (k := 13) (.inr (.inr (rfl)))
    have hC := (hS.later hY).c 13 (.inr (.inr (rfl)))
    have h1 := hcc 13 (.inr (.inr (rfl)))
    have h2 := hc 13 (.inr (.inr (rfl)))
    rw [hv 13 (.inr (.inr (rfl))) trivial] at hL hC
    exact holdPoints_any hL hC (by omega) (by omega))
  have hn := Hid.mk hS.nil
  have hl := Hid.mk (fun Y (hY : Below X.heap.size X Y) => (hS.later hY).bk)
  clear hS hcc hv hc
  go_enter Tryz.func11, Tryz.ntmps11
  go_wp2_with (first
    | (go_at_call 24; refine (holdBytes X (hl.out X hb0) (hn.out 0 (by decide))).mono ?_; intro e w9 hw9; obtain ⟨rfl, hw9⟩ := hw9; subst w9)
    | (go_at_call 25; refine (hT1.out X hb0).mono ?_; rintro e u1 ⟨rfl, hu1⟩; have hb1 := below_step hb0 hu1)
    | (go_at_call 26; refine (holdCells u1 (hl.out u1 hb1) (hn.out 2 (by decide))).mono ?_; intro e w9 hw9; obtain ⟨rfl, hw9⟩ := hw9; subst w9)
    | (go_at_call 27; refine (holdBools u1 (hl.out u1 hb1) (hn.out 3 (by decide))).mono ?_; intro e w9 hw9; obtain ⟨rfl, hw9⟩ := hw9; subst w9)
    | (go_at_call 28; refine (hT4.out u1 hb1).mono ?_; rintro e u2 ⟨rfl, hu2⟩; have hb2 := below_step hb1 hu2)
    | (go_at_call 29; refine (holdValues u2 (hl.out u2 hb2) (hn.out 5 (by decide))).mono ?_; intro e w9 hw9; obtain ⟨rfl, hw9⟩ := hw9; subst w9)
    | (go_at_call 30; refine (holdBands u2 (hl.out u2 hb2) (hn.out 6 (by decide))).mono ?_; intro e w9 hw9; obtain ⟨rfl, hw9⟩ := hw9; subst w9)
    | (go_at_call 31; refine (holdTokens u2 (hl.out u2 hb2) (hn.out 7 (by decide))).mono ?_; intro e w9 hw9; obtain ⟨rfl, hw9⟩ := hw9; subst w9)
    | (go_at_call 32; refine (holdEntries u2 (hl.out u2 hb2) (hn.out 8 (by decide))).mono ?_; intro e w9 hw9; obtain ⟨rfl, hw9⟩ := hw9; subst w9)
    | (go_at_call 33; refine (holdChanges u2 (hl.out u2 hb2) (hn.out 9 (by decide))).mono ?_; intro e w9 hw9; obtain ⟨rfl, hw9⟩ := hw9; subst w9)
    | (go_at_call 34; refine (holdReads u2 (hl.out u2 hb2) (hn.out 10 (by decide))).mono ?_; intro e w9 hw9; obtain ⟨rfl, hw9⟩ := hw9; subst w9)
    | (go_at_call 35; refine (holdFindings u2 (hl.out u2 hb2) (hn.out 11 (by decide))).mono ?_; intro e w9 hw9; obtain ⟨rfl, hw9⟩ := hw9; subst w9)
    | (go_at_call 36; refine (holdConflicts u2 (hl.out u2 hb2) (hn.out 12 (by decide))).mono ?_; intro e w9 hw9; obtain ⟨rfl, hw9⟩ := hw9; subst w9)
    | (go_at_call 37; refine (hT13.out u2 hb2).mono ?_; rintro e u3 ⟨rfl, hu3⟩; have hb3 := below_step hb2 hu3)
    | (go_at_call 38; refine (holdNodes u3 (hl.out u3 hb3) (hn.out 14 (by decide))).mono ?_; intro e w9 hw9; obtain ⟨rfl, hw9⟩ := hw9; subst w9)
    | (go_at_call 39; refine (holdRecords u3 (hl.out u3 hb3) (hn.out 15 (by decide))).mono ?_; intro e w9 hw9; obtain ⟨rfl, hw9⟩ := hw9; subst w9)
    | (go_at_call 40; refine (holdFiles u3 (hl.out u3 hb3) (hn.out 16 (by decide))).mono ?_; intro e w9 hw9; obtain ⟨rfl, hw9⟩ := hw9; subst w9)
    | (go_at_call 41; refine (holdExprs u3 (hl.out u3 hb3) (hn.out 17 (by decide))).mono ?_; intro e w9 hw9; obtain ⟨rfl, hw9⟩ := hw9; subst w9)
    | (go_at_call 42; refine (holdClauses u3 (hl.out u3 hb3) (hn.out 18 (by decide))).mono ?_; intro e w9 hw9; obtain ⟨rfl, hw9⟩ := hw9; subst w9)
    | (go_at_call 43; refine (holdLines u3 (hl.out u3 hb3) (hn.out 19 (by decide))).mono ?_; intro e w9 hw9; obtain ⟨rfl, hw9⟩ := hw9; subst w9)
    | (go_at_call 44; refine (holdChecks u3 (hl.out u3 hb3) (hn.out 20 (by decide))).mono ?_; intro e w9 hw9; obtain ⟨rfl, hw9⟩ := hw9; subst w9)
    | (go_at_call 45; refine (holdOptions u3 (hl.out u3 hb3) (hn.out 21 (by decide))).mono ?_; intro e w9 hw9; obtain ⟨rfl, hw9⟩ := hw9; subst w9)
    | (go_at_call 46; refine (holdTables u3 (hl.out u3 hb3) (hn.out 22 (by decide))).mono ?_; intro e w9 hw9; obtain ⟨rfl, hw9⟩ := hw9; subst w9)
    | (go_at_call 47; refine (holdGroups u3 (hl.out u3 hb3) (hn.out 23 (by decide))).mono ?_; intro e w9 hw9; obtain ⟨rfl, hw9⟩ := hw9; subst w9))
  go_ret
  exact ⟨rfl, hb3⟩

theorem markInts_km {W : World} {lo bb : Nat} {X : World} {turn deep : Int} {seen : Nat → Int} {F : List (Value × Nat × List Value)} {R : Nat → Row → Prop} {c : Nat → Nat} {V : Nat → Prop} (hlo : lo ≤ W.heap.size) (h : KM kN kU lo bb W turn deep seen F R c V X) (hV : V 1) (hc : c 1 ≤ 1000) :
    Calls Tryz.prog 92 #[.pointer (some ⟨bb, 0, none⟩)] X fun e Y => e = .returned (.tuple #[]) ∧ KM kN kU lo bb W turn deep seen F R c (fun j => V j ∧ j ≠ 1) Y := by
  have hl := h.lox hlo
  obtain ⟨Z, r, fz, f, O, Q, A, hS, hb, hF, hR, hcc, hv⟩ := h
  have hL := hS.lists (k := 1) (.inl rfl)
  have hC := hS.c 1 (.inl rfl)
  have h1 := hcc 1 (.inl rfl)
  have hA := hv 1 (.inl rfl) hV
  rw [hA] at hL hC
  refine (markInts_any hL hC hS.fin hl (by omega) (by omega)).mono ?_
  rintro e Y ⟨rfl, Zo, hM⟩
  exact ⟨rfl, marked hS (k := 1) (.inl rfl) hb hF hR hcc hv hA hM⟩
theorem growInts_km {W : World} {lo bb : Nat} {X : World} {turn deep : Int} {seen : Nat → Int} {F : List (Value × Nat × List Value)} {R : Nat → Row → Prop} {c : Nat → Nat} {V : Nat → Prop} (hlo : lo ≤ W.heap.size) (h : KM kN kU lo bb W turn deep seen F R c V X) (hc : c 1 ≤ 1000) :
    Calls Tryz.prog 116 #[.pointer (some ⟨bb, 0, none⟩)] X fun e Y => e = .returned (.tuple #[]) ∧ KM kN kU lo bb W turn deep seen F R c (fun j => V j ∨ j = 1) Y := by
  have hl := h.lox hlo
  obtain ⟨Z, r, fz, f, O, Q, A, hS, hb, hF, hR, hcc, hv⟩ := h
  have hL := hS.lists (k := 1) (.inl rfl)
  have hC := hS.c 1 (.inl rfl)
  have h1 := hcc 1 (.inl rfl)
  refine (growInts_any hL hC hS.fin hl (by omega) (by omega)).mono ?_
  rintro e Y ⟨rfl, hM⟩
  exact ⟨rfl, grown hS (k := 1) (.inl rfl) hb hF hR hcc hv hM⟩

theorem markTexts_km {W : World} {lo bb : Nat} {X : World} {turn deep : Int} {seen : Nat → Int} {F : List (Value × Nat × List Value)} {R : Nat → Row → Prop} {c : Nat → Nat} {V : Nat → Prop} (hlo : lo ≤ W.heap.size) (h : KM kN kU lo bb W turn deep seen F R c V X) (hV : V 4) (hc : c 4 ≤ 1000) (hTab : ∀ X, Below lo W X → Go.Lib.TabIs Tryz.prog X "internal/strconv.uint64pow10" .u64 Go.Lib.pow10Tab) :
    Calls Tryz.prog 95 #[.pointer (some ⟨bb, 0, none⟩)] X fun e Y => e = .returned (.tuple #[]) ∧ KM kN kU lo bb W turn deep seen F R c (fun j => V j ∧ j ≠ 4) Y := by
  have hl := h.lox hlo
  obtain ⟨Z, r, fz, f, O, Q, A, hS, hb, hF, hR, hcc, hv⟩ := h
  have hL := hS.lists (k := 4) (.inr (.inl rfl))
  have hC := hS.c 4 (.inr (.inl rfl))
  have h1 := hcc 4 (.inr (.inl rfl))
  have hA := hv 4 (.inr (.inl rfl)) hV
  rw [hA] at hL hC
  refine (markTexts_any hL hC hS.fin hl (by omega) (by omega) (fun Y hY => hTab Y (hb.trans hY))).mono ?_
  rintro e Y ⟨rfl, Zo, hM⟩
  exact ⟨rfl, marked hS (k := 4) (.inr (.inl rfl)) hb hF hR hcc hv hA hM⟩
theorem growTexts_km {W : World} {lo bb : Nat} {X : World} {turn deep : Int} {seen : Nat → Int} {F : List (Value × Nat × List Value)} {R : Nat → Row → Prop} {c : Nat → Nat} {V : Nat → Prop} (hlo : lo ≤ W.heap.size) (h : KM kN kU lo bb W turn deep seen F R c V X) (hc : c 4 ≤ 1000) (hTab : ∀ X, Below lo W X → Go.Lib.TabIs Tryz.prog X "internal/strconv.uint64pow10" .u64 Go.Lib.pow10Tab) :
    Calls Tryz.prog 119 #[.pointer (some ⟨bb, 0, none⟩)] X fun e Y => e = .returned (.tuple #[]) ∧ KM kN kU lo bb W turn deep seen F R c (fun j => V j ∨ j = 4) Y := by
  have hl := h.lox hlo
  obtain ⟨Z, r, fz, f, O, Q, A, hS, hb, hF, hR, hcc, hv⟩ := h
  have hL := hS.lists (k := 4) (.inr (.inl rfl))
  have hC := hS.c 4 (.inr (.inl rfl))
  have h1 := hcc 4 (.inr (.inl rfl))
  refine (growTexts_any hL hC hS.fin hl (by omega) (by omega) (fun Y hY => hTab Y (hb.trans hY))).mono ?_
  rintro e Y ⟨rfl, hM⟩
  exact ⟨rfl, grown hS (k := 4) (.inr (.inl rfl)) hb hF hR hcc hv hM⟩

theorem markPoints_km {W : World} {lo bb : Nat} {X : World} {turn deep : Int} {seen : Nat → Int} {F : List (Value × Nat × List Value)} {R : Nat → Row → Prop} {c : Nat → Nat} {V : Nat → Prop} (hlo : lo ≤ W.heap.size) (h : KM kN kU lo bb W turn deep seen F R c V X) (hV : V 13) (hc : c 13 ≤ 1000) :
    Calls Tryz.prog 104 #[.pointer (some ⟨bb, 0, none⟩)] X fun e Y => e = .returned (.tuple #[]) ∧ KM kN kU lo bb W turn deep seen F R c (fun j => V j ∧ j ≠ 13) Y := by
  have hl := h.lox hlo
  obtain ⟨Z, r, fz, f, O, Q, A, hS, hb, hF, hR, hcc, hv⟩ := h
  have hL := hS.lists (k := 13) (.inr (.inr (rfl)))
  have hC := hS.c 13 (.inr (.inr (rfl)))
  have h1 := hcc 13 (.inr (.inr (rfl)))
  have hA := hv 13 (.inr (.inr (rfl))) hV
  rw [hA] at hL hC
  refine (markPoints_any hL hC hS.fin hl (by omega) (by omega)).mono ?_
  rintro e Y ⟨rfl, Zo, hM⟩
  exact ⟨rfl, marked hS (k := 13) (.inr (.inr (rfl))) hb hF hR hcc hv hA hM⟩
theorem growPoints_km {W : World} {lo bb : Nat} {X : World} {turn deep : Int} {seen : Nat → Int} {F : List (Value × Nat × List Value)} {R : Nat → Row → Prop} {c : Nat → Nat} {V : Nat → Prop} (hlo : lo ≤ W.heap.size) (h : KM kN kU lo bb W turn deep seen F R c V X) (hc : c 13 ≤ 1000) :
    Calls Tryz.prog 128 #[.pointer (some ⟨bb, 0, none⟩)] X fun e Y => e = .returned (.tuple #[]) ∧ KM kN kU lo bb W turn deep seen F R c (fun j => V j ∨ j = 13) Y := by
  have hl := h.lox hlo
  obtain ⟨Z, r, fz, f, O, Q, A, hS, hb, hF, hR, hcc, hv⟩ := h
  have hL := hS.lists (k := 13) (.inr (.inr (rfl)))
  have hC := hS.c 13 (.inr (.inr (rfl)))
  have h1 := hcc 13 (.inr (.inr (rfl)))
  refine (growPoints_any hL hC hS.fin hl (by omega) (by omega)).mono ?_
  rintro e Y ⟨rfl, hM⟩
  exact ⟨rfl, grown hS (k := 13) (.inr (.inr (rfl))) hb hF hR hcc hv hM⟩

set_option maxRecDepth 4000 in
set_option maxHeartbeats 4000000 in
theorem marks_any {W : World} {lo bb : Nat} {X : World} {turn deep : Int} {seen : Nat → Int} {F : List (Value × Nat × List Value)} {R : Nat → Row → Prop} {c : Nat → Nat} (hlo : lo ≤ W.heap.size) (h : KM kN kU lo bb W turn deep seen F R c (fun _ => True) X) (hc : ∀ k, kU k → c k ≤ 1000) (hTab : ∀ X, Below lo W X → Go.Lib.TabIs Tryz.prog X "internal/strconv.uint64pow10" .u64 Go.Lib.pow10Tab) :
    Calls Tryz.prog 88 #[.pointer (some ⟨bb, 0, none⟩)] X fun e Y => e = .returned (.tuple #[]) ∧ KM kN kU lo bb W turn deep seen F R c (fun _ => False) Y := by
  have hT1 := Hid.mk (fun Y V (h : KM kN kU lo bb W turn deep seen F R c V Y) (hV : V 1) => markInts_km hlo h hV (hc 1 (.inl rfl)))
  have hT4 := Hid.mk (fun Y V (h : KM kN kU lo bb W turn deep seen F R c V Y) (hV : V 4) => markTexts_km hlo h hV (hc 4 (.inr (.inl rfl))) hTab)
  have hT13 := Hid.mk (fun Y V (h : KM kN kU lo bb W turn deep seen F R c V Y) (hV : V 13) => markPoints_km hlo h hV (hc 13 (.inr (.inr (rfl)))))
  obtain ⟨f0, hk0, hn0⟩ := h.bkn
  replace hk0 := Hid.mk hk0
  replace hn0 := Hid.mk hn0
  replace h := Hid.mk h
  clear hc hTab
  go_enter Tryz.func88, Tryz.ntmps88
  go_wp2_with (first
    | (go_at_call 91; refine (markBytes X hk0.out (hn0.out 0 (by decide))).mono ?_; intro e w9 hw9; obtain ⟨rfl, hw9⟩ := hw9; subst w9)
    | (go_at_call 92; refine (hT1.out X _ h.out (trivial)).mono ?_; rintro e u1 ⟨rfl, hh1⟩; obtain ⟨f1, hk1, hn1⟩ := hh1.bkn; replace hk1 := Hid.mk hk1; replace hn1 := Hid.mk hn1; replace hh1 := Hid.mk hh1)
    | (go_at_call 93; refine (markCells u1 hk1.out (hn1.out 2 (by decide))).mono ?_; intro e w9 hw9; obtain ⟨rfl, hw9⟩ := hw9; subst w9)
    | (go_at_call 94; refine (markBools u1 hk1.out (hn1.out 3 (by decide))).mono ?_; intro e w9 hw9; obtain ⟨rfl, hw9⟩ := hw9; subst w9)
    | (go_at_call 95; refine (hT4.out u1 _ hh1.out (⟨trivial, by decide⟩)).mono ?_; rintro e u2 ⟨rfl, hh2⟩; obtain ⟨f2, hk2, hn2⟩ := hh2.bkn; replace hk2 := Hid.mk hk2; replace hn2 := Hid.mk hn2; replace hh2 := Hid.mk hh2)
    | (go_at_call 96; refine (markValues u2 hk2.out (hn2.out 5 (by decide))).mono ?_; intro e w9 hw9; obtain ⟨rfl, hw9⟩ := hw9; subst w9)
    | (go_at_call 97; refine (markBands u2 hk2.out (hn2.out 6 (by decide))).mono ?_; intro e w9 hw9; obtain ⟨rfl, hw9⟩ := hw9; subst w9)
    | (go_at_call 98; refine (markTokens u2 hk2.out (hn2.out 7 (by decide))).mono ?_; intro e w9 hw9; obtain ⟨rfl, hw9⟩ := hw9; subst w9)
    | (go_at_call 99; refine (markEntries u2 hk2.out (hn2.out 8 (by decide))).mono ?_; intro e w9 hw9; obtain ⟨rfl, hw9⟩ := hw9; subst w9)
    | (go_at_call 100; refine (markChanges u2 hk2.out (hn2.out 9 (by decide))).mono ?_; intro e w9 hw9; obtain ⟨rfl, hw9⟩ := hw9; subst w9)
    | (go_at_call 101; refine (markReads u2 hk2.out (hn2.out 10 (by decide))).mono ?_; intro e w9 hw9; obtain ⟨rfl, hw9⟩ := hw9; subst w9)
    | (go_at_call 102; refine (markFindings u2 hk2.out (hn2.out 11 (by decide))).mono ?_; intro e w9 hw9; obtain ⟨rfl, hw9⟩ := hw9; subst w9)
    | (go_at_call 103; refine (markConflicts u2 hk2.out (hn2.out 12 (by decide))).mono ?_; intro e w9 hw9; obtain ⟨rfl, hw9⟩ := hw9; subst w9)
    | (go_at_call 104; refine (hT13.out u2 _ hh2.out (⟨⟨trivial, by decide⟩, by decide⟩)).mono ?_; rintro e u3 ⟨rfl, hh3⟩; obtain ⟨f3, hk3, hn3⟩ := hh3.bkn; replace hk3 := Hid.mk hk3; replace hn3 := Hid.mk hn3; replace hh3 := Hid.mk hh3)
    | (go_at_call 105; refine (markNodes u3 hk3.out (hn3.out 14 (by decide))).mono ?_; intro e w9 hw9; obtain ⟨rfl, hw9⟩ := hw9; subst w9)
    | (go_at_call 106; refine (markRecords u3 hk3.out (hn3.out 15 (by decide))).mono ?_; intro e w9 hw9; obtain ⟨rfl, hw9⟩ := hw9; subst w9)
    | (go_at_call 107; refine (markFiles u3 hk3.out (hn3.out 16 (by decide))).mono ?_; intro e w9 hw9; obtain ⟨rfl, hw9⟩ := hw9; subst w9)
    | (go_at_call 108; refine (markExprs u3 hk3.out (hn3.out 17 (by decide))).mono ?_; intro e w9 hw9; obtain ⟨rfl, hw9⟩ := hw9; subst w9)
    | (go_at_call 109; refine (markClauses u3 hk3.out (hn3.out 18 (by decide))).mono ?_; intro e w9 hw9; obtain ⟨rfl, hw9⟩ := hw9; subst w9)
    | (go_at_call 110; refine (markLines u3 hk3.out (hn3.out 19 (by decide))).mono ?_; intro e w9 hw9; obtain ⟨rfl, hw9⟩ := hw9; subst w9)
    | (go_at_call 111; refine (markChecks u3 hk3.out (hn3.out 20 (by decide))).mono ?_; intro e w9 hw9; obtain ⟨rfl, hw9⟩ := hw9; subst w9)
    | (go_at_call 112; refine (markOptions u3 hk3.out (hn3.out 21 (by decide))).mono ?_; intro e w9 hw9; obtain ⟨rfl, hw9⟩ := hw9; subst w9)
    | (go_at_call 113; refine (markTables u3 hk3.out (hn3.out 22 (by decide))).mono ?_; intro e w9 hw9; obtain ⟨rfl, hw9⟩ := hw9; subst w9)
    | (go_at_call 114; refine (markGroups u3 hk3.out (hn3.out 23 (by decide))).mono ?_; intro e w9 hw9; obtain ⟨rfl, hw9⟩ := hw9; subst w9))
  go_end0
  exact ⟨rfl, hh3.out.mono (fun _ h => h.elim)⟩

set_option maxRecDepth 4000 in
set_option maxHeartbeats 4000000 in
theorem grows_any {W : World} {lo bb : Nat} {X : World} {turn deep : Int} {seen : Nat → Int} {F : List (Value × Nat × List Value)} {R : Nat → Row → Prop} {c : Nat → Nat} (hlo : lo ≤ W.heap.size) (h : KM kN kU lo bb W turn deep seen F R c (fun _ => False) X) (hc : ∀ k, kU k → c k ≤ 1000) (hTab : ∀ X, Below lo W X → Go.Lib.TabIs Tryz.prog X "internal/strconv.uint64pow10" .u64 Go.Lib.pow10Tab) :
    Calls Tryz.prog 89 #[.pointer (some ⟨bb, 0, none⟩)] X fun e Y => e = .returned (.tuple #[]) ∧ KM kN kU lo bb W turn deep seen F R c (fun _ => True) Y := by
  have hT1 := Hid.mk (fun Y V (h : KM kN kU lo bb W turn deep seen F R c V Y) => growInts_km hlo h (hc 1 (.inl rfl)))
  have hT4 := Hid.mk (fun Y V (h : KM kN kU lo bb W turn deep seen F R c V Y) => growTexts_km hlo h (hc 4 (.inr (.inl rfl))) hTab)
  have hT13 := Hid.mk (fun Y V (h : KM kN kU lo bb W turn deep seen F R c V Y) => growPoints_km hlo h (hc 13 (.inr (.inr (rfl)))))
  obtain ⟨f0, hk0, hn0⟩ := h.bkn
  replace hk0 := Hid.mk hk0
  replace hn0 := Hid.mk hn0
  replace h := Hid.mk h
  clear hc hTab
  go_enter Tryz.func89, Tryz.ntmps89
  go_wp2_with (first
    | (go_at_call 115; refine (growBytes X hk0.out (hn0.out 0 (by decide))).mono ?_; intro e w9 hw9; obtain ⟨rfl, hw9⟩ := hw9; subst w9)
    | (go_at_call 116; refine (hT1.out X _ h.out).mono ?_; rintro e u1 ⟨rfl, hh1⟩; obtain ⟨f1, hk1, hn1⟩ := hh1.bkn; replace hk1 := Hid.mk hk1; replace hn1 := Hid.mk hn1; replace hh1 := Hid.mk hh1)
    | (go_at_call 117; refine (growCells u1 hk1.out (hn1.out 2 (by decide))).mono ?_; intro e w9 hw9; obtain ⟨rfl, hw9⟩ := hw9; subst w9)
    | (go_at_call 118; refine (growBools u1 hk1.out (hn1.out 3 (by decide))).mono ?_; intro e w9 hw9; obtain ⟨rfl, hw9⟩ := hw9; subst w9)
    | (go_at_call 119; refine (hT4.out u1 _ hh1.out).mono ?_; rintro e u2 ⟨rfl, hh2⟩; obtain ⟨f2, hk2, hn2⟩ := hh2.bkn; replace hk2 := Hid.mk hk2; replace hn2 := Hid.mk hn2; replace hh2 := Hid.mk hh2)
    | (go_at_call 120; refine (growValues u2 hk2.out (hn2.out 5 (by decide))).mono ?_; intro e w9 hw9; obtain ⟨rfl, hw9⟩ := hw9; subst w9)
    | (go_at_call 121; refine (growBands u2 hk2.out (hn2.out 6 (by decide))).mono ?_; intro e w9 hw9; obtain ⟨rfl, hw9⟩ := hw9; subst w9)
    | (go_at_call 122; refine (growTokens u2 hk2.out (hn2.out 7 (by decide))).mono ?_; intro e w9 hw9; obtain ⟨rfl, hw9⟩ := hw9; subst w9)
    | (go_at_call 123; refine (growEntries u2 hk2.out (hn2.out 8 (by decide))).mono ?_; intro e w9 hw9; obtain ⟨rfl, hw9⟩ := hw9; subst w9)
    | (go_at_call 124; refine (growChanges u2 hk2.out (hn2.out 9 (by decide))).mono ?_; intro e w9 hw9; obtain ⟨rfl, hw9⟩ := hw9; subst w9)
    | (go_at_call 125; refine (growReads u2 hk2.out (hn2.out 10 (by decide))).mono ?_; intro e w9 hw9; obtain ⟨rfl, hw9⟩ := hw9; subst w9)
    | (go_at_call 126; refine (growFindings u2 hk2.out (hn2.out 11 (by decide))).mono ?_; intro e w9 hw9; obtain ⟨rfl, hw9⟩ := hw9; subst w9)
    | (go_at_call 127; refine (growConflicts u2 hk2.out (hn2.out 12 (by decide))).mono ?_; intro e w9 hw9; obtain ⟨rfl, hw9⟩ := hw9; subst w9)
    | (go_at_call 128; refine (hT13.out u2 _ hh2.out).mono ?_; rintro e u3 ⟨rfl, hh3⟩; obtain ⟨f3, hk3, hn3⟩ := hh3.bkn; replace hk3 := Hid.mk hk3; replace hn3 := Hid.mk hn3; replace hh3 := Hid.mk hh3)
    | (go_at_call 129; refine (growNodes u3 hk3.out (hn3.out 14 (by decide))).mono ?_; intro e w9 hw9; obtain ⟨rfl, hw9⟩ := hw9; subst w9)
    | (go_at_call 130; refine (growRecords u3 hk3.out (hn3.out 15 (by decide))).mono ?_; intro e w9 hw9; obtain ⟨rfl, hw9⟩ := hw9; subst w9)
    | (go_at_call 131; refine (growFiles u3 hk3.out (hn3.out 16 (by decide))).mono ?_; intro e w9 hw9; obtain ⟨rfl, hw9⟩ := hw9; subst w9)
    | (go_at_call 132; refine (growExprs u3 hk3.out (hn3.out 17 (by decide))).mono ?_; intro e w9 hw9; obtain ⟨rfl, hw9⟩ := hw9; subst w9)
    | (go_at_call 133; refine (growClauses u3 hk3.out (hn3.out 18 (by decide))).mono ?_; intro e w9 hw9; obtain ⟨rfl, hw9⟩ := hw9; subst w9)
    | (go_at_call 134; refine (growLines u3 hk3.out (hn3.out 19 (by decide))).mono ?_; intro e w9 hw9; obtain ⟨rfl, hw9⟩ := hw9; subst w9)
    | (go_at_call 135; refine (growChecks u3 hk3.out (hn3.out 20 (by decide))).mono ?_; intro e w9 hw9; obtain ⟨rfl, hw9⟩ := hw9; subst w9)
    | (go_at_call 136; refine (growOptions u3 hk3.out (hn3.out 21 (by decide))).mono ?_; intro e w9 hw9; obtain ⟨rfl, hw9⟩ := hw9; subst w9)
    | (go_at_call 137; refine (growTables u3 hk3.out (hn3.out 22 (by decide))).mono ?_; intro e w9 hw9; obtain ⟨rfl, hw9⟩ := hw9; subst w9)
    | (go_at_call 138; refine (growGroups u3 hk3.out (hn3.out 23 (by decide))).mono ?_; intro e w9 hw9; obtain ⟨rfl, hw9⟩ := hw9; subst w9))
  go_end0
  exact ⟨rfl, hh3.out.all (fun k hk => by unfold kU at hk; simp only [false_or]; omega)⟩

set_option maxRecDepth 8000 in
set_option maxHeartbeats 2000000 in
theorem done_any {W : World} {lo bb : Nat} {X : World} {turn : Int} {seen : Nat → Int} {F : List (Value × Nat × List Value)} {R : Nat → Row → Prop} {c : Nat → Nat} (hlo : lo ≤ W.heap.size) (h : KM kN kU lo bb W turn 1 seen F R c (fun _ => True) X) (hc : ∀ k, kU k → c k ≤ 1000) (hTab : ∀ X, Below lo W X → Go.Lib.TabIs Tryz.prog X "internal/strconv.uint64pow10" .u64 Go.Lib.pow10Tab) :
    Calls Tryz.prog 59 #[.pointer (some ⟨bb, 0, none⟩)] X fun e Y => e = .returned (.tuple #[]) ∧ ∃ turn', KM kN kU lo bb W turn' 0 seen F R c (fun _ => True) Y := by
  obtain ⟨f0, hk0, -⟩ := h.bkn
  have c3 : X.cell? ⟨bb, 3, none⟩ = some (.int .i64 1) := hk0.cell (i := 3) (by decide)
  have f3 := hk0.fz 3
  have h0 := h.setDeep hlo 0
  have c30 : (X.setCell ⟨bb, 3, none⟩ (.int .i64 0)).cell? ⟨bb, 3, none⟩ = some (.int .i64 0) := by
    obtain ⟨f0, hk0, -⟩ := h0.bkn
    exact hk0.cell (i := 3) (by decide)
  clear h hk0
  go_enter Tryz.func59, Tryz.ntmps59
  go_upto_region 1 with fail
  clear c3 f3
  generalize X.setCell ⟨bb, 3, none⟩ (.int .i64 0) = W0 at *
  have hm := marks_any hlo h0 hc hTab
  have hg := Hid.mk (fun Y (hY : KM kN kU lo bb W turn 0 seen F R c (fun _ => False) Y) => grows_any hlo hY hc hTab)
  clear h0
  go_wp2_with (first
    | (go_at_call 88; refine hm.mono ?_; rintro e w1 ⟨rfl, hp1⟩; have hg1 := hg.out _ hp1; clear hp1)
    | (go_at_call 89; refine hg1.mono ?_; rintro e w2 ⟨rfl, hS⟩; obtain ⟨f2, hk2, -⟩ := hS.bkn; have c2 : w2.cell? ⟨bb, 2, none⟩ = some (.int .i64 turn) := hk2.cell (i := 2) (by decide); have f2c := hk2.fz 2; have hfin := Hid.mk (hS.setTurn hlo (wrap64 (turn + 1))); clear hS hk2))
  go_end0
  exact ⟨rfl, _, hfin.out⟩
set_option maxRecDepth 8000 in
theorem done_deep {W : World} {lo bb : Nat} {X : World} {turn : Int} {seen : Nat → Int} {F : List (Value × Nat × List Value)} {R : Nat → Row → Prop} {c : Nat → Nat} {d : Int} (hd0 : 1 ≤ d) (hd1 : d ≤ 1000) (hlo : lo ≤ W.heap.size) (h : KM kN kU lo bb W turn (d + 1) seen F R c (fun _ => True) X) :
    Calls Tryz.prog 59 #[.pointer (some ⟨bb, 0, none⟩)] X fun e Y => e = .returned (.tuple #[]) ∧ KM kN kU lo bb W turn d seen F R c (fun _ => True) Y := by
  obtain ⟨f0, hk0, -⟩ := h.bkn
  have c3 : X.cell? ⟨bb, 3, none⟩ = some (.int .i64 (d + 1)) := hk0.cell (i := 3) (by decide)
  have f3 := hk0.fz 3
  have h0 := h.setDeep hlo d
  have c30 : (X.setCell ⟨bb, 3, none⟩ (.int .i64 d)).cell? ⟨bb, 3, none⟩ = some (.int .i64 d) := by
    obtain ⟨f0, hk0, -⟩ := h0.bkn
    exact hk0.cell (i := 3) (by decide)
  have e1 : wrap64 (d + 1 - 1) = d := by unfold wrap64; omega
  have e2 : d + 1 - 1 = d := by omega
  have hd2 : 0 < d := by omega
  clear h hk0
  replace h0 := Hid.mk h0
  go_enter Tryz.func59, Tryz.ntmps59
  go_upto_region 1 with fail
  try rw [e1]
  try rw [e2]
  clear c3 f3
  generalize X.setCell ⟨bb, 3, none⟩ (.int .i64 d) = W0 at *
  go_wp2
  refine bodyPost_ret (results_none rfl _ _ _) rfl ?_
  exact ⟨rfl, h0.out⟩
/-- The book as the laws see it: F stands, R is set by; at most m lists of a kind. -/
def BkC (lo bb : Nat) (W : World) (F : List (Value × Nat × List Value)) (R : Nat → Row → Prop) (m : Nat) (X : World) : Prop := ∃ turn seen c, KM kN kU lo bb W turn 0 seen F R c (fun _ => True) X ∧ ∀ k, kU k → c k ≤ 2 * m
theorem BkC.later {lo bb : Nat} {W X Y : World} {F : List (Value × Nat × List Value)} {R : Nat → Row → Prop} {m : Nat} (h : BkC lo bb W F R m X) (hlo : lo ≤ W.heap.size) (hX : Below X.heap.size X Y) : BkC lo bb W F R m Y := by
  obtain ⟨t, s, c, h, hc⟩ := h
  exact ⟨t, s, c, h.later hlo hX, hc⟩
theorem BkC.keep {lo bb : Nat} {W X Y : World} {F : List (Value × Nat × List Value)} {R : Nat → Row → Prop} {m : Nat} (h : BkC lo bb W F R m X) (hlo : lo ≤ W.heap.size) (hX : Below X.heap.size X Y) {e : TypeId} {z n : Nat} {v : Value} {L : List Value} (hv : Y.ownsRow X.heap.size e z v n L) : BkC lo bb W ((v, n, L) :: F) R m Y := by
  obtain ⟨t, s, c, h, hc⟩ := h
  exact ⟨t, s, c, h.keep hlo hX hv, hc⟩
theorem BkC.less {lo bb : Nat} {W X : World} {F F' : List (Value × Nat × List Value)} {R R' : Nat → Row → Prop} {m : Nat} (h : BkC lo bb W F R m X) (hF : ∀ y ∈ F', y ∈ F) (hR : ∀ i x, R' i x → R i x) : BkC lo bb W F' R' m X := by
  obtain ⟨t, s, c, h, hc⟩ := h
  exact ⟨t, s, c, h.less hF hR, hc⟩
theorem BkC.more {lo bb : Nat} {W X : World} {F : List (Value × Nat × List Value)} {R : Nat → Row → Prop} {m m' : Nat} (h : BkC lo bb W F R m X) (hm : m ≤ m') : BkC lo bb W F R m' X := by
  obtain ⟨t, s, c, h, hc⟩ := h
  exact ⟨t, s, c, h, fun k hk => by have := hc k hk; omega⟩
theorem BkC.base {lo bb : Nat} {W X : World} {F : List (Value × Nat × List Value)} {R : Nat → Row → Prop} {m : Nat} (h : BkC lo bb W F R m X) : Below lo W X := by
  obtain ⟨t, s, c, h, hc⟩ := h
  exact h.base
theorem BkC.fz {lo bb : Nat} {W X : World} {F : List (Value × Nat × List Value)} {R : Nat → Row → Prop} {m : Nat} (h : BkC lo bb W F R m X) {v : Value} {n : Nat} {L : List Value} (hm : (v, n, L) ∈ F) : RwZ X (fun _ => True) v n L := by
  obtain ⟨t, s, c, h, hc⟩ := h
  exact h.fz hm
theorem BkC.res {lo bb : Nat} {W X : World} {F : List (Value × Nat × List Value)} {R : Nat → Row → Prop} {m : Nat} (h : BkC lo bb W F R m X) {i : Nat} {x : Row} (hm : R i x) : X.ownsRow lo x.e x.k x.v x.n x.xs := by
  obtain ⟨t, s, c, h, hc⟩ := h
  exact h.res hm
theorem BkC.reserve {lo bb : Nat} {W X Y : World} {F : List (Value × Nat × List Value)} {R : Nat → Row → Prop} {m : Nat} (h : BkC lo bb W F R m X) (hlo : lo ≤ W.heap.size) (hX : Below X.heap.size X Y) {e : TypeId} {z n : Nat} {v : Value} {L : List Value} (hz : 0 < z) (hv : Y.ownsRow X.heap.size e z v n L) : ∃ i, (∀ x, ¬ R i x) ∧ BkC lo bb W F (fun j x => R j x ∨ (j = i ∧ x = ⟨e, z, v, n, L⟩)) m Y := by
  obtain ⟨t, s, c, h, hc⟩ := h
  obtain ⟨i, h1, h2⟩ := h.reserve hlo hX hz hv
  exact ⟨i, h1, t, s, c, h2, hc⟩
theorem BkC.reserves {lo bb : Nat} {W X Y : World} {F : List (Value × Nat × List Value)} {R : Nat → Row → Prop} {m : Nat} (h : BkC lo bb W F R m X) (hlo : lo ≤ W.heap.size) (hX : Below X.heap.size X Y) {l : List Row} (hl : Rows X.heap.size Y l) : ∃ is : List Nat, is.length = l.length ∧ is.Nodup ∧ (∀ i ∈ is, ∀ x, ¬ R i x) ∧ BkC lo bb W F (fun j x => R j x ∨ ∃ k : Nat, is[k]? = some j ∧ l[k]? = some x) m Y := by
  obtain ⟨t, s, c, h, hc⟩ := h
  obtain ⟨is, h1, h2, h3, h4⟩ := h.reserves hlo hX hl
  exact ⟨is, h1, h2, h3, t, s, c, h4, hc⟩
theorem BkC.freeze {lo bb : Nat} {W X : World} {F : List (Value × Nat × List Value)} {R : Nat → Row → Prop} {m : Nat} (h : BkC lo bb W F R m X) {i : Nat} {x : Row} (hR : R i x) : BkC lo bb W ((x.v, x.n, x.xs) :: F) (fun j y => R j y ∧ j ≠ i) m X := by
  obtain ⟨t, s, c, h, hc⟩ := h
  exact ⟨t, s, c, h.freeze hR, hc⟩
theorem BkC.app {lo bb : Nat} {W X Y : World} {F : List (Value × Nat × List Value)} {R : Nat → Row → Prop} {m : Nat} (h : BkC lo bb W F R m X) (hlo : lo ≤ W.heap.size) {i : Nat} {x x' : Row} (hR : R i x) (ho : Y.ownsRow lo x'.e x'.k x'.v x'.n x'.xs) (hk : 0 < x'.k) (hg : X.grownBy Y x.v.ownBlock) (hat : x'.v.ownBlock = x.v.ownBlock ∨ x'.v.ownBlock = some X.heap.size) : BkC lo bb W F (fun j y => (R j y ∧ j ≠ i) ∨ (j = i ∧ y = x')) m Y := by
  obtain ⟨t, s, c, h, hc⟩ := h
  exact ⟨t, s, c, h.app hlo hR ho hk hg hat, hc⟩
theorem BkC.write {lo bb : Nat} {W X : World} {F : List (Value × Nat × List Value)} {R : Nat → Row → Prop} {m : Nat} (h : BkC lo bb W F R m X) (hlo : lo ≤ W.heap.size) {i g n cap : Nat} {e : TypeId} {k : Nat} {xs : List Value} (hR : R i ⟨e, k, .slice (some ⟨g, 0, none⟩) n cap, n, xs⟩) (j : Nat) (u : Value) : BkC lo bb W F (fun q y => (R q y ∧ q ≠ i) ∨ (q = i ∧ y = ⟨e, k, .slice (some ⟨g, 0, none⟩) n cap, n, xs.set j u⟩)) m (X.setCell ⟨g, j, none⟩ u) := by
  obtain ⟨t, s, c, h, hc⟩ := h
  exact ⟨t, s, c, h.write hlo hR j u, hc⟩
theorem BkC.hold {lo bb : Nat} {W X : World} {F : List (Value × Nat × List Value)} {R : Nat → Row → Prop} {m : Nat} (h : BkC lo bb W F R m X) (hm : m ≤ 400) : Calls Tryz.prog 11 #[.pointer (some ⟨bb, 0, none⟩)] X fun e w' => e = .returned (.bool true) ∧ Below X.heap.size X w' := by
  obtain ⟨t, s, c, h, hc⟩ := h
  exact hold_any h (fun k hk => by have := hc k hk; omega)
theorem BkC.new (W : World) : BkC W.heap.size W.heap.size W [] (fun _ _ => False) 0 (W.alloc (.cells bkLit 53)) := ⟨_, _, _, KM.new kU_lt W, fun _ _ => Nat.zero_le _⟩
theorem BkC.putInts {lo bb : Nat} {W X : World} {F : List (Value × Nat × List Value)} {R : Nat → Row → Prop} {m : Nat} (h : BkC lo bb W F R m X) (hlo : lo ≤ W.heap.size) (hm : m ≤ 200) {i n : Nat} {l : Value} {L : List Value} (hR : R i ⟨knInts.e, knInts.z, l, n, L⟩) (hgd : knInts.good n L) (hn : n ≤ 90000) (mark : Int) (hTab : ∀ X, Below lo W X → Go.Lib.TabIs Tryz.prog X "internal/strconv.uint64pow10" .u64 Go.Lib.pow10Tab) : Calls Tryz.prog 22 #[.pointer (some ⟨bb, 0, none⟩), l, .int .i64 mark] X fun e Y => e = .returned (.tuple #[]) ∧ BkC lo bb W F (fun j x => R j x ∧ j ≠ i) (m + 1) Y := by
  obtain ⟨t, s, c, h, hc⟩ := h
  have hl := h.lox hlo
  obtain ⟨Z, r, fz, f, O, Q, A, hS, hb, hF, hRR, hcc, hv⟩ := h
  have hL := hS.lists (k := 1) (.inl rfl)
  have hC := hS.c 1 (.inl rfl)
  have h1 := hcc 1 (.inl rfl)
  have h2 := hc 1 (.inl rfl)
  have hA := hv 1 (.inl rfl) trivial
  have hrs := hRR i _ hR
  rw [hA] at hL hC
  refine keepInts_walk hL hC hS.fin hl hrs.big hrs.row (fun q hq e => hrs.no 1 (.inl rfl) (.inl ⟨q, hq, e⟩)) hgd hn (by omega) (by omega) (by decide) (by decide) mark (P := fun Y => BkC lo bb W F (fun j x => R j x ∧ j ≠ i) (m + 1) Y) ?_
  intro Y Z' r' fz' f' seen' q hqi hqv hqn hqL hT hC' hb' hff hfx hrr
  subst hqi hqv hqn hqL
  have hK := kept hS (k := 1) (.inl rfl) hb hF hRR hcc hv hrs (by rw [hA]; exact hT) (by rw [hA]; exact hC') hff hfx hrr hb'
  have hc' : ∀ k, kU k → updN c 1 (c 1 + 2) k ≤ 2 * (m + 1) := fun k hk => by
    by_cases e : k = 1
    · subst e
      rw [updN_same]
      omega
    · rw [updN_ne _ _ e]
      have := hc k hk
      omega
  refine (done_any hlo hK (fun k hk => by have := hc' k hk; omega) hTab).mono ?_
  rintro e Y' ⟨rfl, turn', hK'⟩
  exact ⟨rfl, turn', _, _, hK', hc'⟩
theorem BkC.putTexts {lo bb : Nat} {W X : World} {F : List (Value × Nat × List Value)} {R : Nat → Row → Prop} {m : Nat} (h : BkC lo bb W F R m X) (hlo : lo ≤ W.heap.size) (hm : m ≤ 200) {i n : Nat} {l : Value} {L : List Value} (hR : R i ⟨knTexts.e, knTexts.z, l, n, L⟩) (hgd : knTexts.good n L) (hn : n ≤ 90000) (mark : Int) (hTab : ∀ X, Below lo W X → Go.Lib.TabIs Tryz.prog X "internal/strconv.uint64pow10" .u64 Go.Lib.pow10Tab) : Calls Tryz.prog 23 #[.pointer (some ⟨bb, 0, none⟩), l, .int .i64 mark] X fun e Y => e = .returned (.tuple #[]) ∧ BkC lo bb W F (fun j x => R j x ∧ j ≠ i) (m + 1) Y := by
  obtain ⟨t, s, c, h, hc⟩ := h
  have hl := h.lox hlo
  obtain ⟨Z, r, fz, f, O, Q, A, hS, hb, hF, hRR, hcc, hv⟩ := h
  have hL := hS.lists (k := 4) (.inr (.inl rfl))
  have hC := hS.c 4 (.inr (.inl rfl))
  have h1 := hcc 4 (.inr (.inl rfl))
  have h2 := hc 4 (.inr (.inl rfl))
  have hA := hv 4 (.inr (.inl rfl)) trivial
  have hrs := hRR i _ hR
  rw [hA] at hL hC
  refine keepTexts_walk hL hC hS.fin hl hrs.big hrs.row (fun q hq e => hrs.no 4 (.inr (.inl rfl)) (.inl ⟨q, hq, e⟩)) hgd hn (by omega) (by omega) (by decide) (by decide) mark (P := fun Y => BkC lo bb W F (fun j x => R j x ∧ j ≠ i) (m + 1) Y) ?_
  intro Y Z' r' fz' f' seen' q hqi hqv hqn hqL hT hC' hb' hff hfx hrr
  subst hqi hqv hqn hqL
  have hK := kept hS (k := 4) (.inr (.inl rfl)) hb hF hRR hcc hv hrs (by rw [hA]; exact hT) (by rw [hA]; exact hC') hff hfx hrr hb'
  have hc' : ∀ k, kU k → updN c 4 (c 4 + 2) k ≤ 2 * (m + 1) := fun k hk => by
    by_cases e : k = 4
    · subst e
      rw [updN_same]
      omega
    · rw [updN_ne _ _ e]
      have := hc k hk
      omega
  refine (done_any hlo hK (fun k hk => by have := hc' k hk; omega) hTab).mono ?_
  rintro e Y' ⟨rfl, turn', hK'⟩
  exact ⟨rfl, turn', _, _, hK', hc'⟩
theorem BkC.putPoints {lo bb : Nat} {W X : World} {F : List (Value × Nat × List Value)} {R : Nat → Row → Prop} {m : Nat} (h : BkC lo bb W F R m X) (hlo : lo ≤ W.heap.size) (hm : m ≤ 200) {i n : Nat} {l : Value} {L : List Value} (hR : R i ⟨knPoints.e, knPoints.z, l, n, L⟩) (hgd : knPoints.good n L) (hn : n ≤ 90000) (mark : Int) (hTab : ∀ X, Below lo W X → Go.Lib.TabIs Tryz.prog X "internal/strconv.uint64pow10" .u64 Go.Lib.pow10Tab) : Calls Tryz.prog 21 #[.pointer (some ⟨bb, 0, none⟩), l, .int .i64 mark] X fun e Y => e = .returned (.tuple #[]) ∧ BkC lo bb W F (fun j x => R j x ∧ j ≠ i) (m + 1) Y := by
  obtain ⟨t, s, c, h, hc⟩ := h
  have hl := h.lox hlo
  obtain ⟨Z, r, fz, f, O, Q, A, hS, hb, hF, hRR, hcc, hv⟩ := h
  have hL := hS.lists (k := 13) (.inr (.inr (rfl)))
  have hC := hS.c 13 (.inr (.inr (rfl)))
  have h1 := hcc 13 (.inr (.inr (rfl)))
  have h2 := hc 13 (.inr (.inr (rfl)))
  have hA := hv 13 (.inr (.inr (rfl))) trivial
  have hrs := hRR i _ hR
  rw [hA] at hL hC
  refine keepPoints_walk hL hC hS.fin hl hrs.big hrs.row (fun q hq e => hrs.no 13 (.inr (.inr (rfl))) (.inl ⟨q, hq, e⟩)) hgd hn (by omega) (by omega) (by decide) (by decide) mark (P := fun Y => BkC lo bb W F (fun j x => R j x ∧ j ≠ i) (m + 1) Y) ?_
  intro Y Z' r' fz' f' seen' q hqi hqv hqn hqL hT hC' hb' hff hfx hrr
  subst hqi hqv hqn hqL
  have hK := kept hS (k := 13) (.inr (.inr (rfl))) hb hF hRR hcc hv hrs (by rw [hA]; exact hT) (by rw [hA]; exact hC') hff hfx hrr hb'
  have hc' : ∀ k, kU k → updN c 13 (c 13 + 2) k ≤ 2 * (m + 1) := fun k hk => by
    by_cases e : k = 13
    · subst e
      rw [updN_same]
      omega
    · rw [updN_ne _ _ e]
      have := hc k hk
      omega
  refine (done_any hlo hK (fun k hk => by have := hc' k hk; omega) hTab).mono ?_
  rintro e Y' ⟨rfl, turn', hK'⟩
  exact ⟨rfl, turn', _, _, hK', hc'⟩
end Go.Proofs.YthmjkmdbggfiiaaGreatDoor.KB

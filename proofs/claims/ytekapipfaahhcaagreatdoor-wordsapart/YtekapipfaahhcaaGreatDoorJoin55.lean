import Derived.Test.YtekapipfaahhcaaGreatDoorJoin49
import Derived.Test.YtekapipfaahhcaaGreatDoorJoin54
import Derived.Test.YtekapipfaahhcaaGreatDoorJoin53
import Derived.Test.YtekapipfaahhcaaGreatDoorTurnKbQ
import Derived.Test.YtekapipfaahhcaaGreatDoorJoin51
import Derived.Test.YtekapipfaahhcaaGreatDoorWRsc
import Derived.Test.YtekapipfaahhcaaGreatDoorWLaidA
import Derived.SizedLaws
import Derived.SliceStrings
import Derived.Carry
/- Hold, marks, grows. -/
namespace Go.Proofs.YtekapipfaahhcaaGreatDoor.KB
open Go.RowKit
set_option linter.constructorNameAsVariable false

set_option maxRecDepth 4000 in
set_option maxHeartbeats 4000000 in
theorem hold_any {W : World} {lo bb : Nat} {Z : Nat → Prop} {r : Nat → Row} {fz : List (Value × List Tk)} {turn deep : Int} {f : Nat → Nat → Value} {seen : Nat → Int} {O : List Ot} {Q : List Wt} (h : TkS W lo bb Z r fz turn deep f seen O Q) (hO : O.length ≤ 1000000) (hQ : Q.length ≤ 1000000) :
    Calls Tryz.prog 9 #[.pointer (some ⟨bb, 0, none⟩)] W fun e w' => e = .returned (.bool true) ∧ Below W.heap.size W w' := by
  have hT := holdTokens h hO hQ
  have c1 : W.cell? ⟨bb, 1, none⟩ = some (.bool false) := h.bk.cell (i := 1) (by decide)
  have hn := Hid.mk h.nil
  have hb := Hid.mk h.bk
  have hl := Hid.mk (fun X (hX : Below W.heap.size W X) => (h.later hX).bk)
  clear h
  go_enter Tryz.func9, Tryz.ntmps9
  go_wp2_with (first
    | (go_at_call 14; refine (holdBytes W hb.out (hn.out 0 (by decide))).mono ?_; intro e w9 hw9; obtain ⟨rfl, hw9⟩ := hw9; subst w9)
    | (go_at_call 15; refine (holdInts W hb.out (hn.out 1 (by decide))).mono ?_; intro e w9 hw9; obtain ⟨rfl, hw9⟩ := hw9; subst w9)
    | (go_at_call 16; refine (holdCells W hb.out (hn.out 2 (by decide))).mono ?_; intro e w9 hw9; obtain ⟨rfl, hw9⟩ := hw9; subst w9)
    | (go_at_call 17; refine (holdBools W hb.out (hn.out 3 (by decide))).mono ?_; intro e w9 hw9; obtain ⟨rfl, hw9⟩ := hw9; subst w9)
    | (go_at_call 18; refine (holdTexts W hb.out (hn.out 4 (by decide))).mono ?_; intro e w9 hw9; obtain ⟨rfl, hw9⟩ := hw9; subst w9)
    | (go_at_call 19; refine (holdValues W hb.out (hn.out 5 (by decide))).mono ?_; intro e w9 hw9; obtain ⟨rfl, hw9⟩ := hw9; subst w9)
    | (go_at_call 20; refine (holdBands W hb.out (hn.out 6 (by decide))).mono ?_; intro e w9 hw9; obtain ⟨rfl, hw9⟩ := hw9; subst w9)
    | (go_at_call 21; refine hT.mono ?_; rintro e w2 ⟨rfl, hb2⟩; have hbk := Hid.mk (hl.out _ hb2))
    | (go_at_call 22; refine (holdEntries w2 hbk.out (hn.out 8 (by decide))).mono ?_; intro e w9 hw9; obtain ⟨rfl, hw9⟩ := hw9; subst w9)
    | (go_at_call 23; refine (holdChanges w2 hbk.out (hn.out 9 (by decide))).mono ?_; intro e w9 hw9; obtain ⟨rfl, hw9⟩ := hw9; subst w9)
    | (go_at_call 24; refine (holdReads w2 hbk.out (hn.out 10 (by decide))).mono ?_; intro e w9 hw9; obtain ⟨rfl, hw9⟩ := hw9; subst w9)
    | (go_at_call 25; refine (holdFindings w2 hbk.out (hn.out 11 (by decide))).mono ?_; intro e w9 hw9; obtain ⟨rfl, hw9⟩ := hw9; subst w9)
    | (go_at_call 26; refine (holdConflicts w2 hbk.out (hn.out 12 (by decide))).mono ?_; intro e w9 hw9; obtain ⟨rfl, hw9⟩ := hw9; subst w9)
    | (go_at_call 27; refine (holdPoints w2 hbk.out (hn.out 13 (by decide))).mono ?_; intro e w9 hw9; obtain ⟨rfl, hw9⟩ := hw9; subst w9)
    | (go_at_call 28; refine (holdNodes w2 hbk.out (hn.out 14 (by decide))).mono ?_; intro e w9 hw9; obtain ⟨rfl, hw9⟩ := hw9; subst w9)
    | (go_at_call 29; refine (holdRecords w2 hbk.out (hn.out 15 (by decide))).mono ?_; intro e w9 hw9; obtain ⟨rfl, hw9⟩ := hw9; subst w9)
    | (go_at_call 30; refine (holdFiles w2 hbk.out (hn.out 16 (by decide))).mono ?_; intro e w9 hw9; obtain ⟨rfl, hw9⟩ := hw9; subst w9)
    | (go_at_call 31; refine (holdExprs w2 hbk.out (hn.out 17 (by decide))).mono ?_; intro e w9 hw9; obtain ⟨rfl, hw9⟩ := hw9; subst w9)
    | (go_at_call 32; refine (holdClauses w2 hbk.out (hn.out 18 (by decide))).mono ?_; intro e w9 hw9; obtain ⟨rfl, hw9⟩ := hw9; subst w9)
    | (go_at_call 33; refine (holdLines w2 hbk.out (hn.out 19 (by decide))).mono ?_; intro e w9 hw9; obtain ⟨rfl, hw9⟩ := hw9; subst w9)
    | (go_at_call 34; refine (holdChecks w2 hbk.out (hn.out 20 (by decide))).mono ?_; intro e w9 hw9; obtain ⟨rfl, hw9⟩ := hw9; subst w9)
    | (go_at_call 35; refine (holdOptions w2 hbk.out (hn.out 21 (by decide))).mono ?_; intro e w9 hw9; obtain ⟨rfl, hw9⟩ := hw9; subst w9)
    | (go_at_call 36; refine (holdTables w2 hbk.out (hn.out 22 (by decide))).mono ?_; intro e w9 hw9; obtain ⟨rfl, hw9⟩ := hw9; subst w9)
    | (go_at_call 37; refine (holdGroups w2 hbk.out (hn.out 23 (by decide))).mono ?_; intro e w9 hw9; obtain ⟨rfl, hw9⟩ := hw9; subst w9))
  go_ret
  exact ⟨rfl, hb2⟩

set_option maxRecDepth 4000 in
set_option maxHeartbeats 4000000 in
theorem marks_any {W : World} {bb : Nat} {turn deep : Int} {f : Nat → Nat → Value} {seen : Nat → Int} (h : BkAt W bb turn deep f seen) (hn : ∀ k, k ≠ 7 → Nil f k) {P : World → Prop} (hT : Calls Tryz.prog 89 #[.pointer (some ⟨bb, 0, none⟩)] W fun e X => e = .returned (.tuple #[]) ∧ P X) (hP : ∀ X, P X → ∃ turn' deep' f' seen', BkAt X bb turn' deep' f' seen' ∧ ∀ k, k ≠ 7 → Nil f' k) :
    Calls Tryz.prog 43 #[.pointer (some ⟨bb, 0, none⟩)] W fun e X => e = .returned (.tuple #[]) ∧ P X := by
  replace hn := Hid.mk hn
  replace hP := Hid.mk hP
  replace h := Hid.mk h
  go_enter Tryz.func43, Tryz.ntmps43
  go_wp2_with (first
    | (go_at_call 82; refine (markBytes W h.out (hn.out 0 (by decide))).mono ?_; intro e w9 hw9; obtain ⟨rfl, hw9⟩ := hw9; subst w9)
    | (go_at_call 83; refine (markInts W h.out (hn.out 1 (by decide))).mono ?_; intro e w9 hw9; obtain ⟨rfl, hw9⟩ := hw9; subst w9)
    | (go_at_call 84; refine (markCells W h.out (hn.out 2 (by decide))).mono ?_; intro e w9 hw9; obtain ⟨rfl, hw9⟩ := hw9; subst w9)
    | (go_at_call 85; refine (markBools W h.out (hn.out 3 (by decide))).mono ?_; intro e w9 hw9; obtain ⟨rfl, hw9⟩ := hw9; subst w9)
    | (go_at_call 86; refine (markTexts W h.out (hn.out 4 (by decide))).mono ?_; intro e w9 hw9; obtain ⟨rfl, hw9⟩ := hw9; subst w9)
    | (go_at_call 87; refine (markValues W h.out (hn.out 5 (by decide))).mono ?_; intro e w9 hw9; obtain ⟨rfl, hw9⟩ := hw9; subst w9)
    | (go_at_call 88; refine (markBands W h.out (hn.out 6 (by decide))).mono ?_; intro e w9 hw9; obtain ⟨rfl, hw9⟩ := hw9; subst w9)
    | (go_at_call 89; refine hT.mono ?_; rintro e w2 ⟨rfl, hp⟩; obtain ⟨turn2, deep2, f2, seen2, hbk, hn2⟩ := hP.out _ hp; replace hbk := Hid.mk hbk; replace hn2 := Hid.mk hn2; replace hp := Hid.mk hp)
    | (go_at_call 90; refine (markEntries w2 hbk.out (hn2.out 8 (by decide))).mono ?_; intro e w9 hw9; obtain ⟨rfl, hw9⟩ := hw9; subst w9)
    | (go_at_call 91; refine (markChanges w2 hbk.out (hn2.out 9 (by decide))).mono ?_; intro e w9 hw9; obtain ⟨rfl, hw9⟩ := hw9; subst w9)
    | (go_at_call 92; refine (markReads w2 hbk.out (hn2.out 10 (by decide))).mono ?_; intro e w9 hw9; obtain ⟨rfl, hw9⟩ := hw9; subst w9)
    | (go_at_call 93; refine (markFindings w2 hbk.out (hn2.out 11 (by decide))).mono ?_; intro e w9 hw9; obtain ⟨rfl, hw9⟩ := hw9; subst w9)
    | (go_at_call 94; refine (markConflicts w2 hbk.out (hn2.out 12 (by decide))).mono ?_; intro e w9 hw9; obtain ⟨rfl, hw9⟩ := hw9; subst w9)
    | (go_at_call 95; refine (markPoints w2 hbk.out (hn2.out 13 (by decide))).mono ?_; intro e w9 hw9; obtain ⟨rfl, hw9⟩ := hw9; subst w9)
    | (go_at_call 96; refine (markNodes w2 hbk.out (hn2.out 14 (by decide))).mono ?_; intro e w9 hw9; obtain ⟨rfl, hw9⟩ := hw9; subst w9)
    | (go_at_call 97; refine (markRecords w2 hbk.out (hn2.out 15 (by decide))).mono ?_; intro e w9 hw9; obtain ⟨rfl, hw9⟩ := hw9; subst w9)
    | (go_at_call 98; refine (markFiles w2 hbk.out (hn2.out 16 (by decide))).mono ?_; intro e w9 hw9; obtain ⟨rfl, hw9⟩ := hw9; subst w9)
    | (go_at_call 99; refine (markExprs w2 hbk.out (hn2.out 17 (by decide))).mono ?_; intro e w9 hw9; obtain ⟨rfl, hw9⟩ := hw9; subst w9)
    | (go_at_call 100; refine (markClauses w2 hbk.out (hn2.out 18 (by decide))).mono ?_; intro e w9 hw9; obtain ⟨rfl, hw9⟩ := hw9; subst w9)
    | (go_at_call 101; refine (markLines w2 hbk.out (hn2.out 19 (by decide))).mono ?_; intro e w9 hw9; obtain ⟨rfl, hw9⟩ := hw9; subst w9)
    | (go_at_call 102; refine (markChecks w2 hbk.out (hn2.out 20 (by decide))).mono ?_; intro e w9 hw9; obtain ⟨rfl, hw9⟩ := hw9; subst w9)
    | (go_at_call 103; refine (markOptions w2 hbk.out (hn2.out 21 (by decide))).mono ?_; intro e w9 hw9; obtain ⟨rfl, hw9⟩ := hw9; subst w9)
    | (go_at_call 104; refine (markTables w2 hbk.out (hn2.out 22 (by decide))).mono ?_; intro e w9 hw9; obtain ⟨rfl, hw9⟩ := hw9; subst w9)
    | (go_at_call 105; refine (markGroups w2 hbk.out (hn2.out 23 (by decide))).mono ?_; intro e w9 hw9; obtain ⟨rfl, hw9⟩ := hw9; subst w9))
  go_end0
  exact ⟨rfl, hp.out⟩

set_option maxRecDepth 4000 in
set_option maxHeartbeats 4000000 in
theorem grows_any {W : World} {bb : Nat} {turn deep : Int} {f : Nat → Nat → Value} {seen : Nat → Int} (h : BkAt W bb turn deep f seen) (hn : ∀ k, k ≠ 7 → Nil f k) {P : World → Prop} (hT : Calls Tryz.prog 113 #[.pointer (some ⟨bb, 0, none⟩)] W fun e X => e = .returned (.tuple #[]) ∧ P X) (hP : ∀ X, P X → ∃ turn' deep' f' seen', BkAt X bb turn' deep' f' seen' ∧ ∀ k, k ≠ 7 → Nil f' k) :
    Calls Tryz.prog 44 #[.pointer (some ⟨bb, 0, none⟩)] W fun e X => e = .returned (.tuple #[]) ∧ P X := by
  replace hn := Hid.mk hn
  replace hP := Hid.mk hP
  replace h := Hid.mk h
  go_enter Tryz.func44, Tryz.ntmps44
  go_wp2_with (first
    | (go_at_call 106; refine (growBytes W h.out (hn.out 0 (by decide))).mono ?_; intro e w9 hw9; obtain ⟨rfl, hw9⟩ := hw9; subst w9)
    | (go_at_call 107; refine (growInts W h.out (hn.out 1 (by decide))).mono ?_; intro e w9 hw9; obtain ⟨rfl, hw9⟩ := hw9; subst w9)
    | (go_at_call 108; refine (growCells W h.out (hn.out 2 (by decide))).mono ?_; intro e w9 hw9; obtain ⟨rfl, hw9⟩ := hw9; subst w9)
    | (go_at_call 109; refine (growBools W h.out (hn.out 3 (by decide))).mono ?_; intro e w9 hw9; obtain ⟨rfl, hw9⟩ := hw9; subst w9)
    | (go_at_call 110; refine (growTexts W h.out (hn.out 4 (by decide))).mono ?_; intro e w9 hw9; obtain ⟨rfl, hw9⟩ := hw9; subst w9)
    | (go_at_call 111; refine (growValues W h.out (hn.out 5 (by decide))).mono ?_; intro e w9 hw9; obtain ⟨rfl, hw9⟩ := hw9; subst w9)
    | (go_at_call 112; refine (growBands W h.out (hn.out 6 (by decide))).mono ?_; intro e w9 hw9; obtain ⟨rfl, hw9⟩ := hw9; subst w9)
    | (go_at_call 113; refine hT.mono ?_; rintro e w2 ⟨rfl, hp⟩; obtain ⟨turn2, deep2, f2, seen2, hbk, hn2⟩ := hP.out _ hp; replace hbk := Hid.mk hbk; replace hn2 := Hid.mk hn2; replace hp := Hid.mk hp)
    | (go_at_call 114; refine (growEntries w2 hbk.out (hn2.out 8 (by decide))).mono ?_; intro e w9 hw9; obtain ⟨rfl, hw9⟩ := hw9; subst w9)
    | (go_at_call 115; refine (growChanges w2 hbk.out (hn2.out 9 (by decide))).mono ?_; intro e w9 hw9; obtain ⟨rfl, hw9⟩ := hw9; subst w9)
    | (go_at_call 116; refine (growReads w2 hbk.out (hn2.out 10 (by decide))).mono ?_; intro e w9 hw9; obtain ⟨rfl, hw9⟩ := hw9; subst w9)
    | (go_at_call 117; refine (growFindings w2 hbk.out (hn2.out 11 (by decide))).mono ?_; intro e w9 hw9; obtain ⟨rfl, hw9⟩ := hw9; subst w9)
    | (go_at_call 118; refine (growConflicts w2 hbk.out (hn2.out 12 (by decide))).mono ?_; intro e w9 hw9; obtain ⟨rfl, hw9⟩ := hw9; subst w9)
    | (go_at_call 119; refine (growPoints w2 hbk.out (hn2.out 13 (by decide))).mono ?_; intro e w9 hw9; obtain ⟨rfl, hw9⟩ := hw9; subst w9)
    | (go_at_call 120; refine (growNodes w2 hbk.out (hn2.out 14 (by decide))).mono ?_; intro e w9 hw9; obtain ⟨rfl, hw9⟩ := hw9; subst w9)
    | (go_at_call 121; refine (growRecords w2 hbk.out (hn2.out 15 (by decide))).mono ?_; intro e w9 hw9; obtain ⟨rfl, hw9⟩ := hw9; subst w9)
    | (go_at_call 122; refine (growFiles w2 hbk.out (hn2.out 16 (by decide))).mono ?_; intro e w9 hw9; obtain ⟨rfl, hw9⟩ := hw9; subst w9)
    | (go_at_call 123; refine (growExprs w2 hbk.out (hn2.out 17 (by decide))).mono ?_; intro e w9 hw9; obtain ⟨rfl, hw9⟩ := hw9; subst w9)
    | (go_at_call 124; refine (growClauses w2 hbk.out (hn2.out 18 (by decide))).mono ?_; intro e w9 hw9; obtain ⟨rfl, hw9⟩ := hw9; subst w9)
    | (go_at_call 125; refine (growLines w2 hbk.out (hn2.out 19 (by decide))).mono ?_; intro e w9 hw9; obtain ⟨rfl, hw9⟩ := hw9; subst w9)
    | (go_at_call 126; refine (growChecks w2 hbk.out (hn2.out 20 (by decide))).mono ?_; intro e w9 hw9; obtain ⟨rfl, hw9⟩ := hw9; subst w9)
    | (go_at_call 127; refine (growOptions w2 hbk.out (hn2.out 21 (by decide))).mono ?_; intro e w9 hw9; obtain ⟨rfl, hw9⟩ := hw9; subst w9)
    | (go_at_call 128; refine (growTables w2 hbk.out (hn2.out 22 (by decide))).mono ?_; intro e w9 hw9; obtain ⟨rfl, hw9⟩ := hw9; subst w9)
    | (go_at_call 129; refine (growGroups w2 hbk.out (hn2.out 23 (by decide))).mono ?_; intro e w9 hw9; obtain ⟨rfl, hw9⟩ := hw9; subst w9))
  go_end0
  exact ⟨rfl, hp.out⟩
end Go.Proofs.YtekapipfaahhcaaGreatDoor.KB


/- done; Tokens whole. -/
namespace Go.Proofs.YtekapipfaahhcaaGreatDoor.KB
open Go.RowKit
set_option linter.constructorNameAsVariable false

section
variable {W X : World} {lo bb : Nat} {Z : Nat → Prop} {r : Nat → Row} {fz : List (Value × List Tk)} {turn deep : Int} {f : Nat → Nat → Value} {seen : Nat → Int} {O : List Ot} {Q : List Wt}
theorem TkS.setDeep (h : TkS W lo bb Z r fz turn deep f seen O Q) (v : Int) : TkS (W.setCell ⟨bb, 3, none⟩ (.int .i64 v)) lo bb Z r fz turn v f seen O Q :=
  { h with
    bk := h.bk.setDeep v
    sep := h.sep.book 3 _ }
theorem TkS.setTurn (h : TkS W lo bb Z r fz turn deep f seen O Q) (v : Int) : TkS (W.setCell ⟨bb, 2, none⟩ (.int .i64 v)) lo bb Z r fz v deep f seen O Q :=
  { h with
    bk := h.bk.setTurn v
    sep := h.sep.book 2 _ }
/-- What was handed out and stands: it is kept in mind. -/
theorem TkS.keep (h : TkS W lo bb Z r fz turn deep f seen O Q) (hlo : lo ≤ W.heap.size) (hX : Below W.heap.size W X) {v : Value} {L : List Tk} (hv : X.ownsRow W.heap.size 66 5 v L.length (tkLs L)) : ∃ Z', TkS X lo bb Z' r ((v, L) :: fz) turn deep f seen O Q := by
  obtain ⟨N, hN⟩ := h.fin
  have hnil : r (max N 8) = nilRow := hN _ (by omega)
  have h1 := h.sep.add (max N 8) (by rw [hnil]; rfl) (x := ⟨66, 5, v, L.length, tkLs L⟩) hX hv hlo
  have h2 := h1.freeze (max N 8) [(v, L)] (fun x hx => by
    rw [List.mem_singleton.1 hx, updR_same]
    exact RwZ.of_own hv)
  have hrr : updR (updR r (max N 8) ⟨66, 5, v, L.length, tkLs L⟩) (max N 8) nilRow = r := by
    funext k
    by_cases e : k = max N 8
    · subst e
      rw [updR_same, hnil]
    · rw [updR_ne _ _ e, updR_ne _ _ e]
  rw [hrr] at h2
  exact ⟨_, { h with
    bk := h.bk.later hX
    sep := h2
    cO := fun o ho => ⟨List.mem_cons_of_mem _ (h.cO o ho).1, List.mem_cons_of_mem _ (h.cO o ho).2⟩
    cQ := fun q hq => ⟨(h.cQ q hq).1, (h.cQ q hq).2.1, List.mem_cons_of_mem _ (h.cQ q hq).2.2⟩ }⟩
end

def DnP (lo bb : Nat) (W : World) (seen : Nat → Int) (fz : List (Value × List Tk)) (n : Nat) (X : World) : Prop := ∃ Z' r' fz' turn' f' O' Q', TkS X lo bb Z' r' fz' turn' 0 f' seen O' Q' ∧ O'.length + 2 * Q'.length = n ∧ Below lo W X ∧ ∀ y ∈ fz, y ∈ fz'
set_option maxRecDepth 8000 in
set_option maxHeartbeats 2000000 in
theorem done_any {W : World} {lo bb : Nat} {Z : Nat → Prop} {r : Nat → Row} {fz : List (Value × List Tk)} {turn : Int} {f : Nat → Nat → Value} {seen : Nat → Int} {O : List Ot} {Q : List Wt} (h : TkS W lo bb Z r fz turn 1 f seen O Q) (hlo : lo ≤ W.heap.size) (hO : O.length ≤ 400) (hQ : Q.length ≤ 400) :
    Calls Tryz.prog 13 #[.pointer (some ⟨bb, 0, none⟩)] W fun e X => e = .returned (.tuple #[]) ∧ DnP lo bb W seen fz (O.length + 2 * Q.length) X := by
  have c3 : W.cell? ⟨bb, 3, none⟩ = some (.int .i64 1) := h.bk.cell (i := 3) (by decide)
  have f3 := h.bk.fz 3
  have h0 := h.setDeep 0
  have c30 : (W.setCell ⟨bb, 3, none⟩ (.int .i64 0)).cell? ⟨bb, 3, none⟩ = some (.int .i64 0) := h0.bk.cell (i := 3) (by decide)
  have hb0 : Below lo W (W.setCell ⟨bb, 3, none⟩ (.int .i64 0)) := (grS_set W bb 3 _).below hlo (fun b e => e ▸ h.sep.bl.1)
  have hl0 : lo ≤ (W.setCell ⟨bb, 3, none⟩ (.int .i64 0)).heap.size := Nat.le_trans hlo hb0.size
  clear h
  go_enter Tryz.func13, Tryz.ntmps13
  go_upto_region 1 with fail
  clear c3 f3
  generalize W.setCell ⟨bb, 3, none⟩ (.int .i64 0) = W0 at *
  have hm := marks_any h0.bk h0.nil (markTokens_any h0 hl0 (by omega) (by omega)) (fun X ⟨Z', r', fz', f', O', Q', A, hG, _⟩ => ⟨_, _, _, _, hG.bk, hG.nil⟩)
  have hg : Hid (∀ X, (∃ Z' r' fz' f' O' Q' A, TkG X lo bb Z' r' fz' turn 0 f' seen O' Q' A A ∧ O'.length = O.length + A.length ∧ Q'.length + A.length = Q.length ∧ Below lo W0 X ∧ ∀ y ∈ fz, y ∈ fz') → Calls Tryz.prog 44 #[.pointer (some ⟨bb, 0, none⟩)] X fun e Y => e = .returned (.tuple #[]) ∧ ∃ Z' r' fz' f' O' Q', TkS Y lo bb Z' r' fz' turn 0 f' seen O' Q' ∧ O'.length + 2 * Q'.length = O.length + 2 * Q.length ∧ Below lo W0 Y ∧ ∀ y ∈ fz, y ∈ fz') := ⟨fun X ⟨Z', r', fz', f', O', Q', A, hG, hl1, hl2, hb, hf⟩ => by
    refine (grows_any hG.bk hG.nil (growTokens_any hG (Nat.le_trans hl0 hb.size) (by omega) (by omega)) (fun X ⟨Z', r', fz', f', O', hS, _⟩ => ⟨_, _, _, _, hS.bk, hS.nil⟩)).mono ?_
    rintro e Y ⟨rfl, Z2, r2, fz2, f2, O2, hS, hl3, hb2, hf2⟩
    exact ⟨rfl, Z2, r2, fz2, f2, O2, Q', hS, by omega, hb.trans hb2, fun y hy => hf2 y (hf y hy)⟩⟩
  clear h0
  go_wp2_with (first
    | (go_at_call 43; refine hm.mono ?_; rintro e w1 ⟨rfl, hp1⟩; have hg1 := hg.out _ hp1; clear hp1)
    | (go_at_call 44; refine hg1.mono ?_; rintro e w2 ⟨rfl, Z2, r2, fz2, f2, O2, Q2, hS, hl2, hb2, hf2⟩; have c2 : w2.cell? ⟨bb, 2, none⟩ = some (.int .i64 turn) := hS.bk.cell (i := 2) (by decide); have f2c := hS.bk.fz 2; have hfin : Hid (DnP lo bb W seen fz (O.length + 2 * Q.length) (w2.setCell ⟨bb, 2, none⟩ (.int .i64 (wrap64 (turn + 1))))) := ⟨Z2, r2, fz2, _, f2, O2, Q2, hS.setTurn _, hl2, (hb0.trans hb2).trans ((grS_set w2 bb 2 _).below (Nat.le_trans hl0 hb2.size) (fun b e => e ▸ hS.sep.bl.1)), hf2⟩; clear hS hf2 hl2))
  go_end0
  exact ⟨rfl, hfin.out⟩
/-- A list is kept. -/
theorem tokens_any {W X : World} {lo bb : Nat} {Z : Nat → Prop} {r : Nat → Row} {fz : List (Value × List Tk)} {turn : Int} {f : Nat → Nat → Value} {seen : Nat → Int} {O : List Ot} {Q : List Wt} (h : TkS W lo bb Z r fz turn 0 f seen O Q) (hlo : lo ≤ W.heap.size) (hX : Below W.heap.size W X) {l : Value} {L : List Tk} (hl : X.ownsRow W.heap.size 66 5 l L.length (tkLs L)) (hL : L.length ≤ 90000) (hn : O.length + 2 * Q.length ≤ 300) (m : Int) :
    Calls Tryz.prog 8 #[.pointer (some ⟨bb, 0, none⟩), l, .int .i64 m] X fun e Y => e = .returned (.tuple #[]) ∧ ∃ seen', DnP lo bb W seen' fz (O.length + 2 * Q.length + 2) Y := by
  refine tokens_walk h hlo hX hl hL (by omega) (by omega) m (P := fun Y => ∃ seen', DnP lo bb W seen' fz (O.length + 2 * Q.length + 2) Y) ?_
  intro Y Z' r' fz' f' seen' Q' hS hq hb hf
  refine (done_any hS (Nat.le_trans hlo hb.size) (by omega) (by omega)).mono ?_
  rintro e Y' ⟨rfl, Z2, r2, fz2, t2, f2, O2, Q2, h1, h2, h3, h4⟩
  exact ⟨rfl, seen', Z2, r2, fz2, t2, f2, O2, Q2, h1, by omega, hb.trans h3, fun y hy => h4 y (hf y hy)⟩
end Go.Proofs.YtekapipfaahhcaaGreatDoor.KB


/- WordsApart. -/
namespace Go.Proofs.YtekapipfaahhcaaGreatDoor.KB
open Go.RowKit
set_option linter.constructorNameAsVariable false

def toT (x : Itm) : Tk := ((x.1.1 : Int), (x.2.1 : Int), ⟨x.1.2.1.toArray⟩, (x.1.2.2.1 : Int), (x.1.2.2.2 : Int))
theorem toT_Ls (M : List Itm) : Q.tokLs M = tkLs (M.map toT) := by
  unfold Q.tokLs tkLs
  rw [List.flatMap_map]
  rfl
theorem tokrow_rw {W : World} {Z : Nat → Prop} {v : Value} {M : List Itm} (h : RwZ W Z v (M.map toT)) : Q.TokRow W v M := by
  obtain ⟨a, c, rfl, h⟩ := h
  refine ⟨a, c, by rw [List.length_map], ?_⟩
  rcases h with h | ⟨b, rfl, -, hb, hc⟩
  · exact .inl (List.map_eq_nil_iff.1 h)
  · refine .inr ⟨b, 0, rfl, hb, fun j hj => ?_⟩
    rw [← toT_Ls] at hc
    rw [Nat.zero_add]
    exact ⟨hc (j * 5) _ (Q.tokLs_get M j 0 hj (by decide)), hc (j * 5 + 1) _ (Q.tokLs_get M j 1 hj (by decide)), hc (j * 5 + 2) _ (Q.tokLs_get M j 2 hj (by decide)), hc (j * 5 + 3) _ (Q.tokLs_get M j 3 hj (by decide)), hc (j * 5 + 4) _ (Q.tokLs_get M j 4 hj (by decide))⟩
/-- What every scan of a text answers. -/
theorem scan_res (s : ByteArray) : ∃ (M : List Itm) (n f : Int), M.length ≤ 16002 ∧ ∀ w e w', Q.ScanP s w e w' → Below w.heap.size w w' ∧ ∃ v, e = .returned (.tuple #[v, .int .i64 n, .int .i64 f]) ∧ w'.ownsRow w.heap.size 66 5 v M.length (Q.tokLs M) := by
  by_cases hx : ∃ pre x, foundL s.data.toList = pre ++ [x] ∧ x.2.2 ≠ 0
  · obtain ⟨pre, x, hL, h0⟩ := hx
    refine ⟨[], (x.2.1 : Int), (x.2.2 : Int), by simp, fun w e w' ⟨hb, hP⟩ => ⟨hb, ?_⟩⟩
    rcases hP with ⟨pre2, x2, hL2, -, rfl⟩ | ⟨hall, -⟩
    · obtain ⟨-, hxx⟩ := List.append_inj' (hL.symm.trans hL2) rfl
      obtain rfl : x = x2 := by simpa using hxx
      exact ⟨_, rfl, World.ownsRow_nil _ _ _ _⟩
    · exact absurd (hall x (by rw [hL]; simp)) h0
  · refine ⟨foundL s.data.toList, 0, 0, Q.foundL_len _, fun w e w' ⟨hb, hP⟩ => ⟨hb, ?_⟩⟩
    rcases hP with ⟨pre, x, hL, h0, -⟩ | ⟨-, v, rfl, ho⟩
    · exact absurd ⟨pre, x, hL, h0⟩ hx
    · exact ⟨v, rfl, ho⟩
/-- A list of texts, in memory. -/
def SL (W : World) (a : Option Addr) (ss : List ByteArray) : Prop := ss = [] ∨ ∃ g off, a = some ⟨g, off, none⟩ ∧ g < W.heap.size ∧ ∀ i (h : i < ss.length), W.cell? ⟨g, off + i, none⟩ = some (.string ss[i])
/-- The book behind n lists. -/
def AL (w : World) (n : Nat) (X : World) : Prop := ∃ Z r fz turn f seen O Q, TkS X w.heap.size w.heap.size Z r fz turn 0 f seen O Q ∧ O.length + 2 * Q.length = 2 * n ∧ Below w.heap.size w X
def AK (w : World) (mv : Value) (M : List Itm) (n : Nat) (X : World) : Prop := ∃ Z r fz turn f seen O Q, TkS X w.heap.size w.heap.size Z r fz turn 0 f seen O Q ∧ O.length + 2 * Q.length = 2 * n ∧ Below w.heap.size w X ∧ (mv, M.map toT) ∈ fz

set_option maxRecDepth 20000 in
set_option maxHeartbeats 4000000 in
theorem apart_walk (a : Option Addr) (cap : Nat) (ss : List ByteArray) (w : World) (hA : SL w a ss) (hT : Tabs w) : Calls Tryz.prog 3 #[.slice a ss.length cap] w fun e w' => e = .returned (.bool true) ∧ Below w.heap.size w w' := by
  have hN : Hid (AL w 0 (w.alloc (.cells #[.bool false, .bool false, .int .i64 0, .int .i64 0, .slice none 0 0, .slice none 0 0, .slice none 0 0, .slice none 0 0, .slice none 0 0, .slice none 0 0, .slice none 0 0, .slice none 0 0, .int .i64 0, .slice none 0 0, .slice none 0 0, .slice none 0 0, .slice none 0 0, .slice none 0 0, .slice none 0 0, .slice none 0 0, .slice none 0 0, .int .i64 0, .slice none 0 0, .slice none 0 0, .slice none 0 0, .slice none 0 0, .slice none 0 0, .slice none 0 0, .slice none 0 0, .slice none 0 0, .int .i64 0, .slice none 0 0, .slice none 0 0, .slice none 0 0, .slice none 0 0, .slice none 0 0, .slice none 0 0, .slice none 0 0, .slice none 0 0, .int .i64 0, .slice none 0 0, .slice none 0 0, .slice none 0 0, .slice none 0 0, .slice none 0 0, .slice none 0 0, .slice none 0 0, .slice none 0 0, .int .i64 0, .slice none 0 0, .slice none 0 0, .slice none 0 0, .slice none 0 0, .slice none 0 0, .slice none 0 0, .slice none 0 0, .slice none 0 0, .int .i64 0, .slice none 0 0, .slice none 0 0, .slice none 0 0, .slice none 0 0, .slice none 0 0, .slice none 0 0, .slice none 0 0, .slice none 0 0, .int .i64 0, .slice none 0 0, .slice none 0 0, .slice none 0 0, .slice none 0 0, .slice none 0 0, .slice none 0 0, .slice none 0 0, .slice none 0 0, .int .i64 0, .slice none 0 0, .slice none 0 0, .slice none 0 0, .slice none 0 0, .slice none 0 0, .slice none 0 0, .slice none 0 0, .slice none 0 0, .int .i64 0, .slice none 0 0, .slice none 0 0, .slice none 0 0, .slice none 0 0, .slice none 0 0, .slice none 0 0, .slice none 0 0, .slice none 0 0, .int .i64 0, .slice none 0 0, .slice none 0 0, .slice none 0 0, .slice none 0 0, .slice none 0 0, .slice none 0 0, .slice none 0 0, .slice none 0 0, .int .i64 0, .slice none 0 0, .slice none 0 0, .slice none 0 0, .slice none 0 0, .slice none 0 0, .slice none 0 0, .slice none 0 0, .slice none 0 0, .int .i64 0, .slice none 0 0, .slice none 0 0, .slice none 0 0, .slice none 0 0, .slice none 0 0, .slice none 0 0, .slice none 0 0, .slice none 0 0, .int .i64 0, .slice none 0 0, .slice none 0 0, .slice none 0 0, .slice none 0 0, .slice none 0 0, .slice none 0 0, .slice none 0 0, .slice none 0 0, .int .i64 0, .slice none 0 0, .slice none 0 0, .slice none 0 0, .slice none 0 0, .slice none 0 0, .slice none 0 0, .slice none 0 0, .slice none 0 0, .int .i64 0, .slice none 0 0, .slice none 0 0, .slice none 0 0, .slice none 0 0, .slice none 0 0, .slice none 0 0, .slice none 0 0, .slice none 0 0, .int .i64 0, .slice none 0 0, .slice none 0 0, .slice none 0 0, .slice none 0 0, .slice none 0 0, .slice none 0 0, .slice none 0 0, .slice none 0 0, .int .i64 0, .slice none 0 0, .slice none 0 0, .slice none 0 0, .slice none 0 0, .slice none 0 0, .slice none 0 0, .slice none 0 0, .slice none 0 0, .int .i64 0, .slice none 0 0, .slice none 0 0, .slice none 0 0, .slice none 0 0, .slice none 0 0, .slice none 0 0, .slice none 0 0, .slice none 0 0, .int .i64 0, .slice none 0 0, .slice none 0 0, .slice none 0 0, .slice none 0 0, .slice none 0 0, .slice none 0 0, .slice none 0 0, .slice none 0 0, .int .i64 0, .slice none 0 0, .slice none 0 0, .slice none 0 0, .slice none 0 0, .slice none 0 0, .slice none 0 0, .slice none 0 0, .slice none 0 0, .int .i64 0, .slice none 0 0, .slice none 0 0, .slice none 0 0, .slice none 0 0, .slice none 0 0, .slice none 0 0, .slice none 0 0, .slice none 0 0, .int .i64 0, .slice none 0 0, .slice none 0 0, .slice none 0 0, .slice none 0 0, .slice none 0 0, .slice none 0 0, .slice none 0 0, .slice none 0 0, .int .i64 0, .slice none 0 0, .slice none 0 0, .slice none 0 0, .slice none 0 0, .slice none 0 0, .slice none 0 0, .slice none 0 0, .slice none 0 0, .int .i64 0] 50))) := ⟨_, _, _, _, _, _, _, _, TkS.new w, rfl, (Below.refl _ _).alloc (Nat.le_refl _) _⟩
  replace hT := Hid.mk hT
  replace hA := Hid.mk hA
  go_enter Tryz.func3, Tryz.ntmps3
  go_upto_region 2 with (refine wp_build rfl book_built ?_)
  generalize w.alloc (.cells #[.bool false, .bool false, .int .i64 0, .int .i64 0, .slice none 0 0, .slice none 0 0, .slice none 0 0, .slice none 0 0, .slice none 0 0, .slice none 0 0, .slice none 0 0, .slice none 0 0, .int .i64 0, .slice none 0 0, .slice none 0 0, .slice none 0 0, .slice none 0 0, .slice none 0 0, .slice none 0 0, .slice none 0 0, .slice none 0 0, .int .i64 0, .slice none 0 0, .slice none 0 0, .slice none 0 0, .slice none 0 0, .slice none 0 0, .slice none 0 0, .slice none 0 0, .slice none 0 0, .int .i64 0, .slice none 0 0, .slice none 0 0, .slice none 0 0, .slice none 0 0, .slice none 0 0, .slice none 0 0, .slice none 0 0, .slice none 0 0, .int .i64 0, .slice none 0 0, .slice none 0 0, .slice none 0 0, .slice none 0 0, .slice none 0 0, .slice none 0 0, .slice none 0 0, .slice none 0 0, .int .i64 0, .slice none 0 0, .slice none 0 0, .slice none 0 0, .slice none 0 0, .slice none 0 0, .slice none 0 0, .slice none 0 0, .slice none 0 0, .int .i64 0, .slice none 0 0, .slice none 0 0, .slice none 0 0, .slice none 0 0, .slice none 0 0, .slice none 0 0, .slice none 0 0, .slice none 0 0, .int .i64 0, .slice none 0 0, .slice none 0 0, .slice none 0 0, .slice none 0 0, .slice none 0 0, .slice none 0 0, .slice none 0 0, .slice none 0 0, .int .i64 0, .slice none 0 0, .slice none 0 0, .slice none 0 0, .slice none 0 0, .slice none 0 0, .slice none 0 0, .slice none 0 0, .slice none 0 0, .int .i64 0, .slice none 0 0, .slice none 0 0, .slice none 0 0, .slice none 0 0, .slice none 0 0, .slice none 0 0, .slice none 0 0, .slice none 0 0, .int .i64 0, .slice none 0 0, .slice none 0 0, .slice none 0 0, .slice none 0 0, .slice none 0 0, .slice none 0 0, .slice none 0 0, .slice none 0 0, .int .i64 0, .slice none 0 0, .slice none 0 0, .slice none 0 0, .slice none 0 0, .slice none 0 0, .slice none 0 0, .slice none 0 0, .slice none 0 0, .int .i64 0, .slice none 0 0, .slice none 0 0, .slice none 0 0, .slice none 0 0, .slice none 0 0, .slice none 0 0, .slice none 0 0, .slice none 0 0, .int .i64 0, .slice none 0 0, .slice none 0 0, .slice none 0 0, .slice none 0 0, .slice none 0 0, .slice none 0 0, .slice none 0 0, .slice none 0 0, .int .i64 0, .slice none 0 0, .slice none 0 0, .slice none 0 0, .slice none 0 0, .slice none 0 0, .slice none 0 0, .slice none 0 0, .slice none 0 0, .int .i64 0, .slice none 0 0, .slice none 0 0, .slice none 0 0, .slice none 0 0, .slice none 0 0, .slice none 0 0, .slice none 0 0, .slice none 0 0, .int .i64 0, .slice none 0 0, .slice none 0 0, .slice none 0 0, .slice none 0 0, .slice none 0 0, .slice none 0 0, .slice none 0 0, .slice none 0 0, .int .i64 0, .slice none 0 0, .slice none 0 0, .slice none 0 0, .slice none 0 0, .slice none 0 0, .slice none 0 0, .slice none 0 0, .slice none 0 0, .int .i64 0, .slice none 0 0, .slice none 0 0, .slice none 0 0, .slice none 0 0, .slice none 0 0, .slice none 0 0, .slice none 0 0, .slice none 0 0, .int .i64 0, .slice none 0 0, .slice none 0 0, .slice none 0 0, .slice none 0 0, .slice none 0 0, .slice none 0 0, .slice none 0 0, .slice none 0 0, .int .i64 0, .slice none 0 0, .slice none 0 0, .slice none 0 0, .slice none 0 0, .slice none 0 0, .slice none 0 0, .slice none 0 0, .slice none 0 0, .int .i64 0, .slice none 0 0, .slice none 0 0, .slice none 0 0, .slice none 0 0, .slice none 0 0, .slice none 0 0, .slice none 0 0, .slice none 0 0, .int .i64 0, .slice none 0 0, .slice none 0 0, .slice none 0 0, .slice none 0 0, .slice none 0 0, .slice none 0 0, .slice none 0 0, .slice none 0 0, .int .i64 0, .slice none 0 0, .slice none 0 0, .slice none 0 0, .slice none 0 0, .slice none 0 0, .slice none 0 0, .slice none 0 0, .slice none 0 0, .int .i64 0] 50) = w0 at *
  generalize Value.agg #[.bool false, .bool false, .int .i64 0, .int .i64 0, .slice none 0 0, .slice none 0 0, .slice none 0 0, .slice none 0 0, .slice none 0 0, .slice none 0 0, .slice none 0 0, .slice none 0 0, .int .i64 0, .slice none 0 0, .slice none 0 0, .slice none 0 0, .slice none 0 0, .slice none 0 0, .slice none 0 0, .slice none 0 0, .slice none 0 0, .int .i64 0, .slice none 0 0, .slice none 0 0, .slice none 0 0, .slice none 0 0, .slice none 0 0, .slice none 0 0, .slice none 0 0, .slice none 0 0, .int .i64 0, .slice none 0 0, .slice none 0 0, .slice none 0 0, .slice none 0 0, .slice none 0 0, .slice none 0 0, .slice none 0 0, .slice none 0 0, .int .i64 0, .slice none 0 0, .slice none 0 0, .slice none 0 0, .slice none 0 0, .slice none 0 0, .slice none 0 0, .slice none 0 0, .slice none 0 0, .int .i64 0, .slice none 0 0, .slice none 0 0, .slice none 0 0, .slice none 0 0, .slice none 0 0, .slice none 0 0, .slice none 0 0, .slice none 0 0, .int .i64 0, .slice none 0 0, .slice none 0 0, .slice none 0 0, .slice none 0 0, .slice none 0 0, .slice none 0 0, .slice none 0 0, .slice none 0 0, .int .i64 0, .slice none 0 0, .slice none 0 0, .slice none 0 0, .slice none 0 0, .slice none 0 0, .slice none 0 0, .slice none 0 0, .slice none 0 0, .int .i64 0, .slice none 0 0, .slice none 0 0, .slice none 0 0, .slice none 0 0, .slice none 0 0, .slice none 0 0, .slice none 0 0, .slice none 0 0, .int .i64 0, .slice none 0 0, .slice none 0 0, .slice none 0 0, .slice none 0 0, .slice none 0 0, .slice none 0 0, .slice none 0 0, .slice none 0 0, .int .i64 0, .slice none 0 0, .slice none 0 0, .slice none 0 0, .slice none 0 0, .slice none 0 0, .slice none 0 0, .slice none 0 0, .slice none 0 0, .int .i64 0, .slice none 0 0, .slice none 0 0, .slice none 0 0, .slice none 0 0, .slice none 0 0, .slice none 0 0, .slice none 0 0, .slice none 0 0, .int .i64 0, .slice none 0 0, .slice none 0 0, .slice none 0 0, .slice none 0 0, .slice none 0 0, .slice none 0 0, .slice none 0 0, .slice none 0 0, .int .i64 0, .slice none 0 0, .slice none 0 0, .slice none 0 0, .slice none 0 0, .slice none 0 0, .slice none 0 0, .slice none 0 0, .slice none 0 0, .int .i64 0, .slice none 0 0, .slice none 0 0, .slice none 0 0, .slice none 0 0, .slice none 0 0, .slice none 0 0, .slice none 0 0, .slice none 0 0, .int .i64 0, .slice none 0 0, .slice none 0 0, .slice none 0 0, .slice none 0 0, .slice none 0 0, .slice none 0 0, .slice none 0 0, .slice none 0 0, .int .i64 0, .slice none 0 0, .slice none 0 0, .slice none 0 0, .slice none 0 0, .slice none 0 0, .slice none 0 0, .slice none 0 0, .slice none 0 0, .int .i64 0, .slice none 0 0, .slice none 0 0, .slice none 0 0, .slice none 0 0, .slice none 0 0, .slice none 0 0, .slice none 0 0, .slice none 0 0, .int .i64 0, .slice none 0 0, .slice none 0 0, .slice none 0 0, .slice none 0 0, .slice none 0 0, .slice none 0 0, .slice none 0 0, .slice none 0 0, .int .i64 0, .slice none 0 0, .slice none 0 0, .slice none 0 0, .slice none 0 0, .slice none 0 0, .slice none 0 0, .slice none 0 0, .slice none 0 0, .int .i64 0, .slice none 0 0, .slice none 0 0, .slice none 0 0, .slice none 0 0, .slice none 0 0, .slice none 0 0, .slice none 0 0, .slice none 0 0, .int .i64 0, .slice none 0 0, .slice none 0 0, .slice none 0 0, .slice none 0 0, .slice none 0 0, .slice none 0 0, .slice none 0 0, .slice none 0 0, .int .i64 0, .slice none 0 0, .slice none 0 0, .slice none 0 0, .slice none 0 0, .slice none 0 0, .slice none 0 0, .slice none 0 0, .slice none 0 0, .int .i64 0, .slice none 0 0, .slice none 0 0, .slice none 0 0, .slice none 0 0, .slice none 0 0, .slice none 0 0, .slice none 0 0, .slice none 0 0, .int .i64 0] = bk0 at *
  go_wp2
  go_loopw [4] (fun v wr => ∃ i : Nat, i ≤ 12 ∧ v = .int .i64 (i : Int) ∧ AL w (3 * i) wr) (fun v _ => 12 - (intOf v).toNat)
  case atStart => exact ⟨0, by decide, rfl, hN.out⟩
  case round =>
    clear hN
    obtain ⟨i, hi, rfl, hAL⟩ := hrel
    have hbw : Below w.heap.size w wr := by
      obtain ⟨-, -, -, -, -, -, -, -, -, -, h⟩ := hAL
      exact h
    replace hAL := Hid.mk hAL
    by_cases hlt : i < ss.length
    · have hlt' : (i : Int) < (ss.length : Int) := by omega
      have hi0 : (0 : Int) ≤ (i : Int) := by omega
      by_cases h12 : i < 12
      · have h12' : (i : Int) < 12 := by omega
        obtain ⟨g, off, rfl, hgl, hcs⟩ := hA.out.resolve_left (fun e => by rw [e] at hlt; simp at hlt)
        have hcx : Hid (∀ X, Below w.heap.size w X → X.cell? ⟨g, off + i, none⟩ = some (.string ss[i])) := ⟨fun X hX => (hX.cell (p := ⟨g, off + i, none⟩) hgl).trans (hcs i hlt)⟩
        have hsc := hcx.out _ hbw
        generalize ss[i] = s at *
        clear hcs
        by_cases hlong : (65536 : Int) < s.size
        · go_wp2_with fail
          go_ret
          exact ⟨rfl, hbw⟩
        · obtain ⟨M, n, fl, hMl, hres⟩ := scan_res s
          replace hres := Hid.mk hres
          replace hMl := Hid.mk hMl
          have hrs := Q.rscan_any s wr (hT.out.2.2.2.2.later hbw)
          go_wp2_with (go_at_call 4; refine hrs.mono ?_; rintro e w1 hp; obtain ⟨hb1, mv, rfl, hom⟩ := hres.out _ _ _ hp; obtain ⟨ma, mc, rfl⟩ := own_s3 hom; clear hp)
          have hAK : Hid (AK w (.slice ma M.length mc) M (3 * i + 0) w1) := ⟨by
            obtain ⟨Z, r, fz, turn, f, seen, O, Q, hS, hl, hb⟩ := hAL.out
            rw [toT_Ls] at hom
            obtain ⟨Z2, hS2⟩ := hS.keep hb.size hb1 (L := M.map toT) (by rw [List.length_map]; exact hom)
            exact ⟨Z2, r, _, turn, f, seen, O, Q, hS2, hl, hb.trans (hb1.mono hb.size), List.mem_cons_self ..⟩⟩
          clear hom hrs hAL hsc
          go_wp2
          go_loopw [8] (fun v wx => ∃ k : Nat, k ≤ 3 ∧ v = .int .i64 (k : Int) ∧ AK w (.slice ma M.length mc) M (3 * i + k) wx) (fun v _ => 3 - (intOf v).toNat)
          case atStart => exact ⟨0, by decide, rfl, hAK.out⟩
          case round =>
            clear hAK
            obtain ⟨k, hk, rfl, Z, r, fz, turn, f, seen, O, Qw, hS, hl, hb, hm⟩ := hrel
            by_cases hk3 : k < 3
            · have hk3' : (k : Int) < 3 := by omega
              have hsc := hcx.out _ hb
              have hsn := Q.scan_any s _ (hT.out.1.later hb) (hT.out.2.1.later hb) (hT.out.2.2.1.later hb) (hT.out.2.2.2.1.later hb)
              replace hS := Hid.mk hS
              replace hl := Hid.mk hl
              replace hm := Hid.mk hm
              go_wp2_with (first
                | (go_at_call 5; refine hsn.mono ?_; rintro e w2 hp; obtain ⟨hb2, lv, rfl, hov⟩ := hres.out _ _ _ hp; obtain ⟨la, lc, rfl⟩ := own_s3 hov; have hsm := Q.same_toks (.slice la M.length lc) (.slice ma M.length mc) M (Nat.le_trans hMl.out (by decide)) w2 (Q.tokrow_of_own hov) (tokrow_rw ((hS.out.later hb2).sep.fz _ hm.out)); replace hov := Hid.mk hov; clear hp)
                | (go_at_call 6; refine (Q.num_any _ _).mono ?_; rintro e w9 ⟨rfl, hw9⟩; subst w9)
                | (go_at_call 7; refine hsm.mono ?_; rintro e w3 ⟨rfl, hb3⟩; have hb23 := below_step hb2 hb3; have hov3 : Hid (w3.ownsRow _ 66 5 (.slice la M.length lc) (M.map toT).length (tkLs (M.map toT))) := ⟨by rw [← toT_Ls, List.length_map]; exact (GrS.of_below hb3 : GrS (fun _ => False) _ _).own hov.out (fun _ _ h => h)⟩)
                | (go_at_call 8; refine (tokens_any hS.out hb.size hb23 hov3.out (by rw [List.length_map]; exact Nat.le_trans hMl.out (by decide)) (by rw [hl.out]; omega) _).mono ?_; rintro e w4 ⟨rfl, seen4, Z4, r4, fz4, t4, f4, O4, Q4, hS4, hl4, hb4, hf4⟩; have hho := hold_any hS4 (by have := hl.out; omega) (by have := hl.out; omega); replace hS4 := Hid.mk hS4; replace hl4 := Hid.mk hl4; replace hf4 := Hid.mk hf4)
                | (go_at_call 9; refine hho.mono ?_; rintro e w5 ⟨rfl, hb5⟩))
              go_roundw
              case rel => exact ⟨k + 1, by omega, by first | rfl | go_num, Z4, r4, fz4, t4, f4, seen4, O4, Q4, hS4.out.later hb5, by have := hl.out; have := hl4.out; omega, (hb.trans hb4).trans (hb5.mono (Nat.le_trans hb.size hb4.size)), hf4.out _ hm.out⟩
              case measure => simp [intOf]; omega
            · obtain rfl : k = 3 := by omega
              clear hk hk3
              have hnx : Hid (AL w (3 * (i + 1)) _) := ⟨Z, r, fz, turn, f, seen, O, Qw, hS, by omega, hb⟩
              clear hS hl hm
              go_wp2
              go_roundw
              case rel => exact ⟨i + 1, by omega, by first | rfl | go_num, hnx.out⟩
              case measure => simp [intOf]; omega
      · have h12' : ¬ (i : Int) < 12 := by omega
        go_wp2
        go_ret
        exact ⟨rfl, hbw⟩
    · have hlt' : ¬ (i : Int) < (ss.length : Int) := by omega
      go_wp2
      go_ret
      exact ⟨rfl, hbw⟩
end Go.Proofs.YtekapipfaahhcaaGreatDoor.KB
namespace Go.Proofs.YtekapipfaahhcaaGreatDoor
open Go.RowKit
theorem wapart_walk (a : Option Addr) (cap : Nat) (ss : List ByteArray) (w : World) (hA : KB.SL w a ss) (hT : Tabs w) : Calls Tryz.prog 3 #[.slice a ss.length cap] w fun e w' => e = .returned (.bool true) ∧ Below w.heap.size w w' := KB.apart_walk a cap ss w hA hT
end Go.Proofs.YtekapipfaahhcaaGreatDoor


/- Texts that came in. -/
namespace Go.Proofs.YtekapipfaahhcaaGreatDoor
open Go.ChangeShapes Go.WideShapes Go.ChangeAt Go.WideMaps Go.WideElems Go.RowKit Go.Joins

theorem laidOutP : laidOutB Tryz.prog = true := by kernel_rfl
set_option maxRecDepth 100000 in
theorem open_texts {H : Type} {enc : TypeId × Value → H} {W : World} {base : Nat} {v : Value} {d : DataW H} {ps : List MemPlace} (hval : Value.okWide Tryz.prog W .any base 22 v)
    (h : DataW.Trod enc Tryz.prog W 0 (fun _ => true) true 22 v d ps) : ∃ a cap ss, v = .slice a (List.length ss) cap ∧ KB.SL W a ss := by
  obtain ⟨a0, len, cap, rfl⟩ := okWide_slice Tryz.underlying22 hval
  obtain ⟨fuel, hf⟩ := h
  rcases open_strings Tryz.underlying22 Tryz.underlying9 cS hf with ⟨hcs, hx⟩ | ⟨a, len', cap', ss, hcs, _, hl, hm, hz, hx, hcell, hsz⟩
  · simp [Value.cells] at hcs
    obtain ⟨rfl, rfl, rfl⟩ := hcs
    exact ⟨none, 0, [], rfl, .inl rfl⟩
  · simp [Value.cells] at hcs
    obtain ⟨rfl, rfl, rfl⟩ := hcs
    simp only [if_true] at hz
    have hlen : (ss.take len).length = len := by rw [List.length_take]; omega
    refine ⟨some a, cap, ss.take len, by rw [hlen], ?_⟩
    by_cases h0 : len = 0
    · subst h0
      exact .inl rfl
    obtain ⟨b, off, spot⟩ := a
    have hspot : spot = none := by
      have h2 := hcell 0 (by omega)
      simpa [Addr.add] using World.cell?_spot h2
    subst hspot
    have hc : ∀ i, i < len → W.cell? ⟨b, off + i, none⟩ = some (.string (ss.getD i ByteArray.empty)) := fun i hi => by
      have := hcell i (by omega)
      rwa [add_plain] at this
    refine .inr ⟨b, off, rfl, World.block_lt_of_cell? _ _ (hc 0 (by omega)), fun i hi => ?_⟩
    rw [hlen] at hi
    rw [hc i hi, List.getD_eq_getElem?_getD, List.getElem?_eq_getElem (by omega)]
    simp
end Go.Proofs.YtekapipfaahhcaaGreatDoor

import Derived.Test.YtmlkceganilboaaDoorTVer2
import Derived.Deep.RegionHeld3
import Derived.Deep.DeepCutAuto
import Derived.Deep.CutBlock
import Derived.Deep.QuietTactic
import Derived.BigQuiet
namespace Go.Proofs.YtmlkceganilboaaDoor
open Go.RowKit

theorem infoMp : (Tryd.prog.info? 24).map (fun i => (i.zero, i.size, i.bytes)) = some (some (.pointer none), 1, 8) := by kernel_rfl
theorem infoEs : (Tryd.prog.info? 35).map (fun i => (i.zero, i.size, i.bytes)) = some (some (.slice none 0 0), 1, 24) := by kernel_rfl

/-- Which version is put on. -/
theorem keeps_pick (O : List Int) (i : Nat) : (∃ h : i < O.length, 0 ≤ O[i] ∧ O[i] < (i : Int) + 1) ∨ ¬ i < O.length ∨ (∃ h : i < O.length, O[i] < 0) ∨ ∃ h : i < O.length, 0 ≤ O[i] ∧ ¬ O[i] < (i : Int) + 1 := by
  by_cases h : i < O.length
  · by_cases h1 : 0 ≤ O[i]
    · by_cases h2 : O[i] < (i : Int) + 1
      · exact .inl ⟨h, h1, h2⟩
      · exact .inr (.inr (.inr ⟨h, h1, h2⟩))
    · exact .inr (.inr (.inl ⟨h, by omega⟩))
  · exact .inr (.inl h)

theorem stepL_length (L : List (Nat × (Int × Int))) (id : Nat) (v : Int × Int) (gone : Bool) : (stepL L id v gone).length ≤ L.length + 1 := by
  have h1 := length_ins L id v
  have h2 := length_del L id
  unfold stepL
  split <;> omega
theorem small_step {vs : List Ver} {j mb : Nat} {t : Tr} {ev : Value} (h : ∀ x ∈ vs, (x.2.1.ents 7 0).length ≤ j) (ht : (t.ents 7 0).length ≤ j + 1) : ∀ x ∈ vs ++ [(mb, (t, ev))], (x.2.1.ents 7 0).length ≤ j + 1 := by
  intro x hx
  rcases List.mem_append.1 hx with hx | hx
  · exact Nat.le_succ_of_le (h x hx)
  · rw [List.mem_singleton.1 hx]; exact ht

/-- What holds while a version is looked at. -/
structure Look (B : Nat) (w X : World) (mv hv : Value) (vs : List Ver) (mg hg m mb : Nat) (t : Tr) (ea : Option Addr) (ec : Nat) (aa : Option Addr) (ac : Nat) : Prop where
  cm : X.cell? ⟨mg, m, none⟩ = some (.pointer (some ⟨mb, 0, none⟩))
  ch : X.cell? ⟨hg, m, none⟩ = some (.slice ea (t.ents 7 0).length ec)
  map : MapT X mb t
  ents : EntsAt X (.slice ea (t.ents 7 0).length ec) (t.ents 7 0)
  all : EntsAt X (.slice aa (t.ents 7 0).length ac) (t.ents 7 0)
  vers : Vers B w X mv hv vs
theorem Look.later {B : Nat} {w X X' : World} {mv hv : Value} {vs : List Ver} {mg hg m mb : Nat} {t : Tr} {ea aa : Option Addr} {ec ac : Nat} (h : Look B w X mv hv vs mg hg m mb t ea ec aa ac) (hB : B ≤ w.heap.size) (hb : Below X.heap.size X X') : Look B w X' mv hv vs mg hg m mb t ea ec aa ac :=
  ⟨(hb.cell (World.block_lt_of_cell? _ _ h.cm)).trans h.cm, (hb.cell (World.block_lt_of_cell? _ _ h.ch)).trans h.ch, h.map.later hb, h.ents.later hb, h.all.later hb, h.vers.later hB hb⟩
theorem Look.held {B : Nat} {w X : World} {mv hv : Value} {vs : List Ver} {mg hg m mb : Nat} {t : Tr} {ea aa : Option Addr} {ec ac : Nat} (h : Look B w X mv hv vs mg hg m mb t ea ec aa ac) : X.cell? ⟨mg, m, none⟩ = some (.pointer (some ⟨mb, 0, none⟩)) ∧ X.cell? ⟨hg, m, none⟩ = some (.slice ea (t.ents 7 0).length ec) ∧ Look B w X mv hv vs mg hg m mb t ea ec aa ac := ⟨h.cm, h.ch, h⟩
theorem look_same {B : Nat} {w X : World} {mv hv : Value} {vs : List Ver} {mg hg m mb : Nat} {t : Tr} {ea aa : Option Addr} {ec ac : Nat} (h : X.cell? ⟨mg, m, none⟩ = some (.pointer (some ⟨mb, 0, none⟩)) ∧ X.cell? ⟨hg, m, none⟩ = some (.slice ea (t.ents 7 0).length ec) ∧ Look B w X mv hv vs mg hg m mb t ea ec aa ac) (hB : B ≤ w.heap.size) (hl : (t.ents 7 0).length ≤ 60) :
    Calls Tryd.prog 10 #[.slice aa (t.ents 7 0).length ac, .slice ea (t.ents 7 0).length ec] X fun e w' => e = .returned (.bool true) ∧ (w'.cell? ⟨mg, m, none⟩ = some (.pointer (some ⟨mb, 0, none⟩)) ∧ w'.cell? ⟨hg, m, none⟩ = some (.slice ea (t.ents 7 0).length ec) ∧ Look B w w' mv hv vs mg hg m mb t ea ec aa ac) := by
  refine (same_entries _ _ (t.ents 7 0) (by omega) X h.2.2.all h.2.2.ents).mono ?_
  rintro e w' ⟨rfl, hb⟩
  exact ⟨rfl, (h.2.2.later hB hb).held⟩
theorem look_len {B : Nat} {w X : World} {mv hv : Value} {vs : List Ver} {mg hg m mb : Nat} {t : Tr} {ea aa : Option Addr} {ec ac : Nat} (h : X.cell? ⟨mg, m, none⟩ = some (.pointer (some ⟨mb, 0, none⟩)) ∧ X.cell? ⟨hg, m, none⟩ = some (.slice ea (t.ents 7 0).length ec) ∧ Look B w X mv hv vs mg hg m mb t ea ec aa ac) :
    Calls Tryd.prog 11 #[.pointer (some ⟨mb, 0, none⟩)] X fun e w' => e = .returned (.int .i64 ((t.ents 7 0).length : Int)) ∧ (w'.cell? ⟨mg, m, none⟩ = some (.pointer (some ⟨mb, 0, none⟩)) ∧ w'.cell? ⟨hg, m, none⟩ = some (.slice ea (t.ents 7 0).length ec) ∧ Look B w w' mv hv vs mg hg m mb t ea ec aa ac) := by
  refine (len_any mb t X h.2.2.map).mono ?_
  rintro e w' ⟨rfl, rfl⟩
  exact ⟨rfl, h⟩
/-- Where a list's entry lies. -/
theorem ents_cells {X : World} {a : Option Addr} {n c : Nat} {L : List (Nat × (Int × Int))} (h : EntsAt X (.slice a n c) L) (k : Nat) (hk : k < L.length) : ∃ g off, a = some ⟨g, off, none⟩ ∧ X.cell? ⟨g, off + k * 3, none⟩ = some (.int .u32 (L[k].1 : Int)) ∧ X.cell? ⟨g, off + k * 3 + 1, none⟩ = some (.int .i64 L[k].2.1) ∧ X.cell? ⟨g, off + k * 3 + 2, none⟩ = some (.int .i64 L[k].2.2) := by
  obtain ⟨a', c', h1, h2⟩ := h
  obtain ⟨rfl, -, -⟩ := Value.slice.inj h1
  rcases h2 with h2 | ⟨g, off, rfl, -, h3⟩
  · rw [h2] at hk; simp at hk
  · exact ⟨g, off, rfl, h3 k hk⟩
def fnd (L : List (Nat × (Int × Int))) (id j : Nat) : Bool := (L.take j).any fun e => e.1 == id
theorem fnd_succ {L : List (Nat × (Int × Int))} {id j : Nat} (h : j < L.length) : fnd L id (j + 1) = (fnd L id j || (L[j].1 == id)) := by
  unfold fnd
  rw [List.take_succ_eq_append_getElem h, List.any_append]
  simp
theorem fnd_all {t : Tr} (hw : t.wf 7) {id : Nat} (hi : id < 4294967296) : fnd (t.ents 7 0) id (t.ents 7 0).length = (t.get 7 id).isSome := by
  unfold fnd
  rw [List.take_length]
  cases h : t.get 7 id with
  | none =>
    rw [Option.isSome_none, List.any_eq_false]
    intro e he
    simp only [beq_iff_eq]
    intro e1
    have := (mem_of_get hw (v := e.2) hi).1 (by rw [← e1]; exact he)
    rw [h] at this; cases this
  | some v =>
    rw [Option.isSome_some, List.any_eq_true]
    exact ⟨_, (mem_of_get hw hi).2 h, by simp⟩
theorem look_get {B : Nat} {w V X : World} {mv hv : Value} {vs : List Ver} {mg hg m mb : Nat} {t : Tr} {ea aa : Option Addr} {ec ac : Nat} (h : Look B w V mv hv vs mg hg m mb t ea ec aa ac) (hB : B ≤ w.heap.size) (hV : Below V.heap.size V X) (id : Nat) (x y : Int) (o : Bool) (hg1 : (t.get 7 id).getD (0, 0) = (x, y)) (hg2 : (t.get 7 id).isSome = o) :
    Calls Tryd.prog 12 #[.pointer (some ⟨mb, 0, none⟩), .int .u32 (id : Int)] X fun e w' => e = .returned (.tuple #[.agg #[.int .i64 x, .int .i64 y], .bool o]) ∧ Below V.heap.size V w' ∧ Below X.heap.size X w' := by
  refine (mget_any mb id t X (h.later hB hV).map).mono ?_
  rintro e w' ⟨rfl, hb⟩
  rw [hg1, hg2]
  exact ⟨rfl, below_step hV hb, hb⟩
theorem below_al {w X : World} (h : Below w.heap.size w X) (o : Obj) : Below w.heap.size w (X.alloc o) := h.alloc h.size o
theorem below_sc2 {n b : Nat} {w X : World} (h : Below n w X) (hb : n ≤ b) (u v : Value) : Below n w ((X.setCell ⟨b, 0, none⟩ u).setCell ⟨b, 1, none⟩ v) := (h.setCell hb u).setCell hb v
theorem box_drew {w W : World} (h : Below (w.alloc (.cells #[.int .i64 0, .int .i64 0] 32)).drew.heap.size (w.alloc (.cells #[.int .i64 0, .int .i64 0] 32)).drew W) : W.cell? ⟨w.heap.size, 0, none⟩ = some (.int .i64 0) ∧ W.cell? ⟨w.heap.size, 1, none⟩ = some (.int .i64 0) ∧ W.frozen? ⟨w.heap.size, 0, none⟩ = false ∧ W.frozen? ⟨w.heap.size, 1, none⟩ = false := by
  have hB : Box2 (w.alloc (.cells #[.int .i64 0, .int .i64 0] 32)).drew w.heap.size (.int .i64 0) (.int .i64 0) := Box2.new w (.int .i64 0) (.int .i64 0) 32
  exact hB.later h
theorem set2_cells {X : World} {b : Nat} {u v : Value} (h0 : X.cell? ⟨b, 0, none⟩ = some u) (h1 : X.cell? ⟨b, 1, none⟩ = some v) (x y : Value) : ((X.setCell ⟨b, 0, none⟩ x).setCell ⟨b, 1, none⟩ y).cell? ⟨b, 0, none⟩ = some x ∧ ((X.setCell ⟨b, 0, none⟩ x).setCell ⟨b, 1, none⟩ y).cell? ⟨b, 1, none⟩ = some y := by
  constructor
  · rw [World.cell?_setCell_other _ _ _ _ (fun e => by cases e)]
    exact World.cell?_setCell_same _ _ _ h0
  · refine World.cell?_setCell_same _ _ _ (u := v) ?_
    rw [World.cell?_setCell_other _ _ _ _ (fun e => by cases e)]
    exact h1
theorem alloc2_cells (X : World) (x y : Value) (T : TypeId) : (X.alloc (.cells #[x, y] T)).cell? ⟨X.heap.size, 0, none⟩ = some x ∧ (X.alloc (.cells #[x, y] T)).cell? ⟨X.heap.size, 1, none⟩ = some y := by
  have h := heap_alloc_last X (.cells #[x, y] T)
  exact ⟨cell_of_row _ _ 0 _ _ _ h, cell_of_row _ _ 1 _ _ _ h⟩
theorem same_V {V X : World} (hV : Below V.heap.size V X) (x y : Int) : Calls Tryd.prog 13 #[.agg #[.int .i64 x, .int .i64 y], .agg #[.int .i64 x, .int .i64 y]] X fun e w' => e = .returned (.bool true) ∧ Below V.heap.size V w' := by
  refine (same_any x y x y true (by simp) X).mono ?_
  rintro e w' ⟨rfl, hb⟩
  exact ⟨rfl, below_step hV hb⟩

end Go.Proofs.YtmlkceganilboaaDoor

import Derived.Test.YthbojlbgjmecoaaGreatJoin32
import Derived.Laws.OwnMore
import Derived.Test.YthbojlbgjmecoaaGreatDjK
/- levyref19's disk in memory. -/
namespace Go.Proofs.YthbojlbgjmecoaaGreat.DJ
open Go.RowKit
set_option linter.constructorNameAsVariable false

/-- The units; -1: none. -/
def rU (d : Dk) : Int := match d.units with
  | none => -1
  | some u => (u : Int)
def rdRow (v : Value) (d : Dk) : Obj := .cells #[v, .bool d.down, .int .i64 (rU d), .int .i64 (d.after : Int), .int .i64 (d.calls : Int)] 102 (0, 0)
/-- Files in a row of its own, whose blocks are of T. -/
structure FfT (w : World) (T : Nat → Prop) (v : Value) (R : List Fl) : Prop where
  ex : ∃ L : List (Fl × Value), L.map Prod.fst = R ∧ w.ownsRow 0 74 3 v R.length (ffV L) ∧ ∀ x ∈ L, FfB w 0 x ∧ ∀ g, x.2.ownBlock = some g → T g
  own : ∀ g, v.ownBlock = some g → T g
theorem FfT.grS {S T : Nat → Prop} {w w' : World} {v : Value} {R : List Fl} (h : FfT w T v R) (hg : GrS S w w') (hd : ∀ k, T k → ¬ S k) : FfT w' T v R := by
  obtain ⟨⟨L, h1, h2, h3⟩, h4⟩ := h
  exact ⟨⟨L, h1, hg.own h2 (fun g e => hd g (h4 g e)), fun x hx => ⟨⟨(h3 x hx).1.byt, hg.own (h3 x hx).1.own (fun g e => hd g ((h3 x hx).2 g e))⟩, (h3 x hx).2⟩⟩, h4⟩
/-- A block of another kind has changed. -/
theorem FfT.kept {T : Nat → Prop} {w w' : World} {v : Value} {R : List Fl} {rb : Nat} {cs : Array Value} (h : FfT w T v R) (hr : w.heap[rb]? = some (.cells cs 102 (0, 0))) (hg : GrS (fun k => k = rb) w w') : FfT w' T v R := by
  obtain ⟨⟨L, h1, h2, h3⟩, h4⟩ := h
  have tag : ∀ (g : Nat) (xs : Array Value) (t : TypeId), w.heap[g]? = some (.cells xs t (0, 0)) → t ≠ 102 → ¬ g = rb := fun g xs t hc ht e => by
    rw [e, hr] at hc
    injection hc with hc
    injection hc with _ hc _
    exact ht hc.symm
  refine ⟨⟨L, h1, hg.own h2 (fun g e => ?_), fun x hx => ⟨⟨(h3 x hx).1.byt, hg.own (h3 x hx).1.own (fun g e => ?_)⟩, (h3 x hx).2⟩⟩, h4⟩
  · obtain ⟨-, xs, r⟩ := own_rowT h2 e
    exact tag g xs _ r (by decide)
  · obtain ⟨-, xs, r⟩ := own_rowT (h3 x hx).1.own e
    exact tag g xs _ r (by decide)
theorem FfT.nil (w : World) (T : Nat → Prop) : FfT w T (.slice none 0 0) [] := ⟨⟨[], rfl, World.ownsRow_nil _ _ _ _, fun x hx => by cases hx⟩, fun g e => by cases e⟩
theorem FfT.mono {T T' : Nat → Prop} {w : World} {v : Value} {R : List Fl} (h : FfT w T v R) (ht : ∀ k, k < w.heap.size → T k → T' k) : FfT w T' v R := by
  obtain ⟨⟨L, h1, h2, h3⟩, h4⟩ := h
  exact ⟨⟨L, h1, h2, fun x hx => ⟨(h3 x hx).1, fun g e => ht g ((h3 x hx).1.own.lt g e).2 ((h3 x hx).2 g e)⟩⟩, fun g e => ht g (h2.lt g e).2 (h4 g e)⟩

/-- The document's disk. -/
structure RdAt (w : World) (T : Nat → Prop) (rb : Nat) (d : Dk) : Prop where
  ok : Ok d
  rigs : Rigs d
  ex : ∃ v, w.heap[rb]? = some (rdRow v d) ∧ FfT w T v d.fs
  Trb : T rb
  hi : ∀ k, T k → k < w.heap.size
theorem RdAt.grS {S T : Nat → Prop} {w w' : World} {rb : Nat} {d : Dk} (h : RdAt w T rb d) (hg : GrS S w w') (hd : ∀ k, T k → ¬ S k) : RdAt w' T rb d := by
  obtain ⟨h1, h2, ⟨v, h3, h4⟩, h5, h6⟩ := h
  exact ⟨h1, h2, ⟨v, (hg.block rb (h6 _ h5) (hd _ h5)).trans h3, h4.grS hg hd⟩, h5, fun k hk => Nat.lt_of_lt_of_le (h6 k hk) hg.size⟩
theorem RdAt.later {T : Nat → Prop} {w w' : World} {rb : Nat} {d : Dk} (h : RdAt w T rb d) (hb : Below w.heap.size w w') : RdAt w' T rb d := h.grS (S := fun _ => False) (.of_below hb) (fun _ _ h => h)
theorem RdAt.lt {T : Nat → Prop} {w : World} {rb : Nat} {d : Dk} (h : RdAt w T rb d) : rb < w.heap.size := h.hi _ h.Trb
/-- The rigs turn; the files stay. -/
theorem RdAt.turn {T : Nat → Prop} {w w' : World} {rb : Nat} {d e : Dk} (h : RdAt w T rb d) (hf : e.fs = d.fs) (hr : Rigs e) (hg : GrS (fun k => k = rb) w w') (hrow : ∀ v, w.heap[rb]? = some (rdRow v d) → w'.heap[rb]? = some (rdRow v e)) : RdAt w' T rb e := by
  obtain ⟨h1, h2, ⟨v, h3, h4⟩, h5, h6⟩ := h
  exact ⟨h1.of_fs hf, hr, ⟨v, hrow v h3, by rw [hf]; exact h4.kept h3 hg⟩, h5, fun k hk => Nat.lt_of_lt_of_le (h6 k hk) hg.size⟩
theorem rd_cells {w : World} {rb : Nat} {v : Value} {d : Dk} (h : w.heap[rb]? = some (rdRow v d)) : w.cell? ⟨rb, 0, none⟩ = some v ∧ w.cell? ⟨rb, 1, none⟩ = some (.bool d.down) ∧ w.cell? ⟨rb, 2, none⟩ = some (.int .i64 (rU d)) ∧ w.cell? ⟨rb, 3, none⟩ = some (.int .i64 (d.after : Int)) ∧ w.cell? ⟨rb, 4, none⟩ = some (.int .i64 (d.calls : Int)) ∧ ∀ j, w.frozen? ⟨rb, j, none⟩ = false := by
  unfold rdRow at h
  exact ⟨cell_of_row _ _ 0 _ _ _ h, cell_of_row _ _ 1 _ _ _ h, cell_of_row _ _ 2 _ _ _ h, cell_of_row _ _ 3 _ _ _ h, cell_of_row _ _ 4 _ _ _ h, fun j => frozen_of_row _ _ j _ _ h⟩
end Go.Proofs.YthbojlbgjmecoaaGreat.DJ


/- Where a name stands in the document's list. No program. -/
namespace Go.Proofs.YthbojlbgjmecoaaGreat.DJ
open Go.RowKit

theorem less_u8 : ∀ {a b : List Nat}, (∀ x ∈ a, x < 256) → (∀ x ∈ b, x < 256) → Op.bytesLess (u8 a) (u8 b) = ltB a b
  | [], [], _, _ => rfl
  | _ :: _, [], _, _ => rfl
  | [], _ :: _, _, _ => rfl
  | x :: a, y :: b, ha, hb => by
    have hx := ha x List.mem_cons_self
    have hy := hb y List.mem_cons_self
    have ih := less_u8 (fun z hz => ha z (List.mem_cons_of_mem _ hz)) (fun z hz => hb z (List.mem_cons_of_mem _ hz))
    show (decide (UInt8.ofNat x < UInt8.ofNat y) || (UInt8.ofNat x == UInt8.ofNat y && Op.bytesLess (u8 a) (u8 b))) = if x = y then ltB a b else decide (x < y)
    rw [ih]
    have e1 : decide (UInt8.ofNat x < UInt8.ofNat y) = decide (x < y) := by
      refine decide_eq_decide.2 ?_
      rw [UInt8.lt_iff_toNat_lt, UInt8.toNat_ofNat', UInt8.toNat_ofNat']
      omega
    have e2 : (UInt8.ofNat x == UInt8.ofNat y) = decide (x = y) := by
      by_cases h : x = y
      · rw [h, decide_eq_true rfl]
        exact beq_self_eq_true _
      · rw [decide_eq_false h]
        refine beq_eq_false_iff_ne.2 fun e => h ?_
        have := congrArg UInt8.toNat e
        rw [UInt8.toNat_ofNat', UInt8.toNat_ofNat'] at this
        omega
    rw [e1, e2]
    by_cases h : x = y
    · subst h
      simp
    · simp [h]
theorem toList_strB (a : List Nat) : (strB a).toList = u8 a := by
  rw [Lib.toList_data]
  unfold strB u8
  rw [strOfNums_data, List.map_map]
  rfl
theorem less_strB {a b : List Nat} (ha : ∀ x ∈ a, x < 256) (hb : ∀ x ∈ b, x < 256) : Op.bytesLess (strB a).toList (strB b).toList = ltB a b := by
  rw [toList_strB, toList_strB]
  exact less_u8 ha hb
/-- The place of a name. -/
def plc (fs : List Fl) (nm : List Nat) : Nat := (fs.takeWhile (fun x => ltB x.nm nm)).length
theorem plc_le (fs : List Fl) (nm : List Nat) : plc fs nm ≤ fs.length := by
  unfold plc
  induction fs with
  | nil => exact Nat.le_refl _
  | cons f fs ih =>
    rw [List.takeWhile_cons]
    split
    · rw [List.length_cons, List.length_cons]; omega
    · exact Nat.zero_le _
theorem plc_lt {fs : List Fl} {nm : List Nat} : ∀ {i : Nat} (h : i < fs.length), i < plc fs nm → ltB fs[i].nm nm = true := by
  unfold plc
  induction fs with
  | nil => intro i h; cases h
  | cons f fs ih =>
    intro i h hi
    rw [List.takeWhile_cons] at hi
    split at hi
    · cases i with
      | zero => assumption
      | succ i => exact ih (by simpa using h) (by simpa using hi)
    · cases hi
theorem plc_at {fs : List Fl} {nm : List Nat} : ∀ (h : plc fs nm < fs.length), ltB (fs[plc fs nm]'h).nm nm = false := by
  induction fs with
  | nil => intro h; cases h
  | cons f fs ih =>
    intro h
    by_cases hf : ltB f.nm nm = true
    · have e : plc (f :: fs) nm = plc fs nm + 1 := by unfold plc; rw [List.takeWhile_cons, if_pos hf, List.length_cons]
      have h2 : plc fs nm < fs.length := by rw [e, List.length_cons] at h; omega
      have := ih h2
      simpa [e] using this
    · have e : plc (f :: fs) nm = 0 := by unfold plc; rw [List.takeWhile_cons, if_neg hf]; rfl
      simpa [e] using hf
theorem plc_take (fs : List Fl) (nm : List Nat) : fs.takeWhile (fun x => ltB x.nm nm) = fs.take (plc fs nm) := by
  unfold plc
  induction fs with
  | nil => rfl
  | cons f fs ih =>
    rw [List.takeWhile_cons]
    split
    · rw [List.length_cons, List.take_succ_cons, ← ih]
    · rfl
theorem plc_drop (fs : List Fl) (nm : List Nat) : fs.dropWhile (fun x => ltB x.nm nm) = fs.drop (plc fs nm) := by
  unfold plc
  induction fs with
  | nil => rfl
  | cons f fs ih =>
    rw [List.takeWhile_cons, List.dropWhile_cons]
    split
    · rw [List.length_cons, List.drop_succ_cons, ← ih]
    · rfl
/-- The name stands there, or nowhere. -/
theorem plc_get {fs : List Fl} (hs : Srt fs) {nm : List Nat} (h : plc fs nm < fs.length) (he : (fs[plc fs nm]'h).nm = nm) : get fs nm = some (fs[plc fs nm]'h) := by
  have := get_of hs (List.getElem_mem h)
  rw [he] at this
  exact this
theorem plc_none {fs : List Fl} (hs : Srt fs) {nm : List Nat} (h : ∀ h : plc fs nm < fs.length, (fs[plc fs nm]'h).nm ≠ nm) : get fs nm = none := by
  rw [get_none]
  intro f hf e
  obtain ⟨i, hi, rfl⟩ := List.mem_iff_getElem.1 hf
  have h1 : ¬ i < plc fs nm := fun hl => ltB_ne (plc_lt hi hl) e
  by_cases h2 : i = plc fs nm
  · subst h2
    exact h hi e
  · have h3 : plc fs nm < fs.length := by omega
    have h4 := List.pairwise_iff_getElem.1 hs (plc fs nm) i h3 hi (by omega)
    have h5 := plc_at h3
    rw [e] at h4
    rw [h4] at h5
    cases h5
theorem ins_eq (fs : List Fl) (f : Fl) : ins fs f = fs.take (plc fs f.nm) ++ f :: fs.drop (plc fs f.nm) := by
  unfold ins
  rw [plc_take, plc_drop]
theorem get_plc {fs : List Fl} (hs : Srt fs) {nm : List Nat} {f : Fl} (hg : get fs nm = some f) : ∃ h : plc fs nm < fs.length, fs[plc fs nm]'h = f := by
  by_cases h : ∃ h : plc fs nm < fs.length, (fs[plc fs nm]'h).nm = nm
  · obtain ⟨h1, h2⟩ := h
    have := plc_get hs h1 h2
    rw [hg] at this
    exact ⟨h1, (Option.some.inj this).symm⟩
  · have := plc_none hs (nm := nm) (fun h1 h2 => h ⟨h1, h2⟩)
    rw [hg] at this
    cases this
theorem upd_eq {fs : List Fl} (hs : Srt fs) {nm : List Nat} (h : plc fs nm < fs.length) (he : (fs[plc fs nm]'h).nm = nm) (g : Fl → Fl) : upd fs nm g = fs.set (plc fs nm) (g (fs[plc fs nm]'h)) := by
  refine List.ext_getElem (by simp [upd]) fun i h1 h2 => ?_
  have hi : i < fs.length := by simpa [upd] using h1
  have e : (upd fs nm g)[i]'h1 = if fs[i].nm = nm then g fs[i] else fs[i] := by simp [upd]
  rw [List.getElem_set, e]
  by_cases hip : plc fs nm = i
  · subst hip
    rw [if_pos he, if_pos rfl]
  · rw [if_neg hip, if_neg]
    intro e
    have := hs.one (List.getElem_mem hi) (List.getElem_mem h) (e.trans he.symm)
    rcases Nat.lt_or_gt_of_ne hip with hl | hl
    · have h4 := List.pairwise_iff_getElem.1 hs (plc fs nm) i h hi hl
      exact ltB_ne h4 (by rw [this])
    · have h4 := List.pairwise_iff_getElem.1 hs i (plc fs nm) hi h hl
      exact ltB_ne h4 (by rw [this])
theorem del_eq {fs : List Fl} (hs : Srt fs) {nm : List Nat} (h : plc fs nm < fs.length) (he : (fs[plc fs nm]'h).nm = nm) : del fs nm = fs.take (plc fs nm) ++ fs.drop (plc fs nm + 1) := by
  have h1 : fs = fs.take (plc fs nm) ++ (fs[plc fs nm]'h) :: fs.drop (plc fs nm + 1) := by
    rw [← List.drop_eq_getElem_cons h, List.take_append_drop]
  have hne : ∀ i (hi : i < fs.length), i ≠ plc fs nm → fs[i].nm ≠ nm := fun i hi hn e => by
    have := hs.one (List.getElem_mem hi) (List.getElem_mem h) (e.trans he.symm)
    rcases Nat.lt_or_gt_of_ne hn with hl | hl
    · exact ltB_ne (List.pairwise_iff_getElem.1 hs i (plc fs nm) hi h hl) (by rw [this])
    · exact ltB_ne (List.pairwise_iff_getElem.1 hs (plc fs nm) i h hi hl) (by rw [this])
  have k1 : (fs.take (plc fs nm)).filter (fun f => f.nm ≠ nm) = fs.take (plc fs nm) := List.filter_eq_self.2 fun f hf => by
    obtain ⟨i, hi, rfl⟩ := List.mem_iff_getElem.1 hf
    rw [List.length_take] at hi
    rw [List.getElem_take]
    simpa using hne i (by omega) (by omega)
  have k2 : (fs.drop (plc fs nm + 1)).filter (fun f => f.nm ≠ nm) = fs.drop (plc fs nm + 1) := List.filter_eq_self.2 fun f hf => by
    obtain ⟨i, hi, rfl⟩ := List.mem_iff_getElem.1 hf
    rw [List.length_drop] at hi
    rw [List.getElem_drop]
    simpa using hne (plc fs nm + 1 + i) (by omega) (by omega)
  unfold del
  conv => lhs; rw [h1]
  rw [List.filter_append, List.filter_cons, if_neg (by simpa using he), k1, k2]
end Go.Proofs.YthbojlbgjmecoaaGreat.DJ

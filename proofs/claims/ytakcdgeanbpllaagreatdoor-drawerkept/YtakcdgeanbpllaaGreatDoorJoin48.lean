import Derived.Test.YtakcdgeanbpllaaGreatDoorJoin47
import Derived.Test.YtakcdgeanbpllaaGreatDoorDrC
import Derived.Test.YtakcdgeanbpllaaGreatDoorJoin44
import Derived.BigRegionIn
import Derived.Deep.RegionHeld3
import Derived.Test.YtakcdgeanbpllaaGreatDoorJoin45
/- newest. -/
namespace Go.Proofs.YtakcdgeanbpllaaGreatDoor.DJ
open Go.RowKit Go.Shelf
attribute [local go_sem] Oper.semAt_some

/-- What newest answers. -/
def NwP (fs : List Fl) (w : World) (e : Ending) (w' : World) : Prop :=
  Below w.heap.size w w' ∧ match lastGood fs with
    | none => e = .returned (.tuple #[.int .i64 0, .agg #[.int .u32 0, .slice none 0 0, .slice none 0 0, .int .i64 0]])
    | some f => ∃ s k bd sv rv, whole f.dat 0 = some (s, k, bd) ∧ e = .returned (.tuple #[.int .i64 (genOf f.nm : Int), .agg #[.int .u32 (s : Int), sv, rv, .int .i64 ((18 + bd.length + (recs s (f.dat.drop (18 + bd.length)) 1).2 : Nat) : Int)]]) ∧ w'.ownsRow w.heap.size 5 1 sv bd.length (bysV bd) ∧ RcO w' w.heap.size rv (recs s (f.dat.drop (18 + bd.length)) 1).1

theorem lastGood_at {fs : List Fl} {i : Nat} (hi : i < fs.length) (hg : goodF fs[i] = true) (hn : ∀ j (h : j < fs.length), i < j → goodF fs[j] = false) : lastGood fs = some fs[i] := by
  have e : fs = fs.take i ++ fs[i] :: fs.drop (i + 1) := by rw [← List.drop_eq_getElem_cons hi, List.take_append_drop]
  have hm : ∀ x ∈ fs.drop (i + 1), goodF x = false := fun x hx => by
    obtain ⟨j, hj, rfl⟩ := List.getElem_of_mem hx
    rw [List.getElem_drop]
    rw [List.length_drop] at hj
    exact hn _ (by omega) (by omega)
  have hnone : (fs.drop (i + 1)).reverse.find? goodF = none := by
    rw [List.find?_eq_none]
    intro x hx
    rw [hm x (List.mem_reverse.1 hx)]
    simp
  unfold lastGood
  conv => lhs; rw [e]
  rw [List.reverse_append, List.reverse_cons, List.append_assoc, List.find?_append, hnone]
  simp [hg]
theorem lastGood_none {fs : List Fl} (hn : ∀ j (h : j < fs.length), goodF fs[j] = false) : lastGood fs = none := by
  unfold lastGood
  rw [List.find?_eq_none]
  intro x hx
  obtain ⟨j, hj, rfl⟩ := List.getElem_of_mem (List.mem_reverse.1 hx)
  rw [hn j hj]
  simp

/-- newest under way: k names have been looked at. -/
structure nI (w : World) (db bx : Nat) (ad : Option Addr) (c : Nat) (fs : List Fl) (k : Nat) (X : World) : Prop where
  r0 : X.heap[w.heap.size]? = some (.cells #[.pointer (some ⟨db, 0, none⟩)] 27 (0, 0))
  r1 : X.heap[w.heap.size + 1]? = some (.cells #[.int .i64 0] 3 (0, 0))
  r2 : X.heap[w.heap.size + 2]? = some (.cells #[.int .u32 0, .slice none 0 0, .slice none 0 0, .int .i64 0] 123 (0, 0))
  rb : X.heap[bx]? = some (.cells #[.slice ad fs.length c] 84 (0, 0))
  row : X.ownsRow w.heap.size 9 1 (.slice ad fs.length c) fs.length (nmV fs)
  bel : Below w.heap.size w X
  no : ∀ i (h : i < fs.length), fs.length ≤ i + k → goodF fs[i] = false
theorem StepB.own {B : Nat} {X Y : World} {base n size : Nat} {e : TypeId} {v : Value} {xs : List Value} (hs : StepB B X Y) (h : X.ownsRow base e size v n xs) : Y.ownsRow base e size v n xs := hs.grS.own h (fun g hg ⟨_, o, h1, h2⟩ => by
  obtain ⟨-, cs, r⟩ := own_rowT h hg
  rw [r] at h1
  rw [← Option.some.inj h1] at h2
  cases h2)
theorem StepB.bel {B : Nat} {w X Y : World} (hs : StepB B X Y) (h : Below w.heap.size w X) (hB : w.heap.size ≤ B) : Below w.heap.size w Y := h.trans (hs.grS.below h.size (fun _ hk => Nat.le_trans hB hk.1))
theorem StepB.rcs {B : Nat} {X Y : World} {base : Nat} {v : Value} {R : List Rec} (hs : StepB B X Y) (h : RcO X base v R) : RcO Y base v R := h.grS hs.grS (fun g cs t _ hc _ ⟨_, o, h1, h2⟩ => by
  rw [hc] at h1
  rw [← Option.some.inj h1] at h2
  cases h2)
theorem nI.step {w : World} {db bx : Nat} {ad : Option Addr} {c : Nat} {fs : List Fl} {k B : Nat} {X Y : World} (h : nI w db bx ad c fs k X) (hs : StepB B X Y) (hB : w.heap.size ≤ B) : nI w db bx ad c fs k Y :=
  ⟨hs.block h.r0, hs.block h.r1, hs.block h.r2, hs.block h.rb, hs.own h.row, hs.bel h.bel hB, h.no⟩
theorem nI.later {w : World} {db bx : Nat} {ad : Option Addr} {c : Nat} {fs : List Fl} {k : Nat} {X Y : World} (h : nI w db bx ad c fs k X) (hs : Below X.heap.size X Y) : nI w db bx ad c fs k Y := h.step (stepB_below w.heap.size hs) (Nat.le_refl _)
theorem nI.more {w : World} {db bx : Nat} {ad : Option Addr} {c : Nat} {fs : List Fl} {k : Nat} {X : World} (h : nI w db bx ad c fs k X) {i : Nat} (hi : i < fs.length) (hik : i + k + 1 = fs.length) (hg : goodF fs[i] = false) : nI w db bx ad c fs (k + 1) X :=
  ⟨h.r0, h.r1, h.r2, h.rb, h.row, h.bel, fun j hj hjk => by
    by_cases e : j = i
    · subst e; exact hg
    · exact h.no j hj (by omega)⟩
/-- newest has found it. -/
def nX (w : World) (fs : List Fl) (X : World) : Prop := ∃ f s k bd sv rv, lastGood fs = some f ∧ whole f.dat 0 = some (s, k, bd) ∧ X.heap[w.heap.size + 1]? = some (.cells #[.int .i64 (genOf f.nm : Int)] 3 (0, 0)) ∧ X.heap[w.heap.size + 2]? = some (jRow s sv rv (18 + bd.length + (recs s (f.dat.drop (18 + bd.length)) 1).2)) ∧ X.ownsRow w.heap.size 5 1 sv bd.length (bysV bd) ∧ RcO X w.heap.size rv (recs s (f.dat.drop (18 + bd.length)) 1).1 ∧ Below w.heap.size w X
theorem nX.step {w : World} {fs : List Fl} {B : Nat} {X Y : World} (h : nX w fs X) (hs : StepB B X Y) (hB : w.heap.size ≤ B) : nX w fs Y := by
  obtain ⟨f, s, k, bd, sv, rv, h1, h2, h3, h4, h5, h6, h7⟩ := h
  exact ⟨f, s, k, bd, sv, rv, h1, h2, hs.block h3, hs.block h4, hs.own h5, hs.rcs h6, hs.bel h7 hB⟩

theorem results_two {fn : Func} {p q : Tmp} {ty tz : TypeId} (h : fn.results = #[.cell p ty, .cell q tz]) (tmps : Array Value) (P : Program) (w : World) :
    (results fn tmps).run P w =
      ((asAddr (tmps.getD p undef)).run P w).andThen fun a w₁ => ((loadVar ty a).run P w₁).andThen fun v w₂ => ((asAddr (tmps.getD q undef)).run P w₂).andThen fun b w₃ => ((loadVar tz b).run P w₃).andThen fun u w₄ => .ok (.tuple #[v, u]) w₄ := by
  simp only [results, h]
  simp [Sem.run_bind, Result.andThen]
  repeat' split
  all_goals simp_all
theorem loadVar_int (X : World) (b : Nat) (v : Value) (h : X.heap[b]? = some (.cells #[v] 3 (0, 0))) : (loadVar 3 ⟨b, 0, none⟩).run Tryz.prog X = .ok v X := by
  have c : X.cell? ⟨b, 0, none⟩ = some v := cell_of_row _ _ 0 _ _ _ h
  simp [loadVar, go_sem, c]
theorem results_nw (tmps : Array Value) (X : World) (b1 b2 : Nat) (v : Value) (cs : Array Value) (h2 : tmps.getD 2 undef = .pointer (some ⟨b1, 0, none⟩)) (h3 : tmps.getD 3 undef = .pointer (some ⟨b2, 0, none⟩)) (r1 : X.heap[b1]? = some (.cells #[v] 3 (0, 0))) (r2 : X.heap[b2]? = some (.cells cs 123 (0, 0))) (hcs : cs.size = 4) :
    (results Tryz.f49 tmps).run Tryz.prog X = .ok (.tuple #[v, .agg cs]) X := by
  rw [results_two Tryz.results49, h2, h3]
  simp [asAddr, loadVar_int X b1 v r1, run_loadVar_row X b2 123 123 cs (0, 0) _ r2 Tryz.underlying123 rfl (by rw [hcs]; exact info_journal)]

theorem nw_end {fs : List Fl} {w X : World} {D b1 b2 : Nat} {tmps : Array Value} {v : Value} {cs : Array Value} (hD : w.heap.size ≤ D) (hdef : X.heap[D]? = some (.deferred (some []))) (h2 : tmps.getD 2 undef = .pointer (some ⟨b1, 0, none⟩)) (h3 : tmps.getD 3 undef = .pointer (some ⟨b2, 0, none⟩)) (r1 : X.heap[b1]? = some (.cells #[v] 3 (0, 0))) (r2 : X.heap[b2]? = some (.cells cs 123 (0, 0))) (hcs : cs.size = 4)
    (hP : ∀ Y, StepB w.heap.size X Y → NwP fs w (.returned (.tuple #[v, .agg cs])) Y) : bodyPostM Fence.wide 5 Tryz.prog Tryz.f49 (NwP fs w) Exit.ret { tmps := tmps, defers := [{ target := .collected D, args := #[] }] } X := by
  have hst := stepB_put (B := w.heap.size) (.deferred none) hD hdef rfl
  refine ⟨by simp, .inl ⟨_, _, rfl, run_takeDeferred hdef, ?_⟩⟩
  exact ⟨.tuple #[v, .agg cs], results_nw tmps _ b1 b2 v cs h2 h3 (hst.block r1) (hst.block r2) hcs, hP _ hst⟩
def set5 (W : World) (b1 b2 : Nat) (v c0 c1 c2 c3 : Value) : World := ((((W.setCell ⟨b1, 0, none⟩ v).setCell ⟨b2, 0, none⟩ c0).setCell ⟨b2, 1, none⟩ c1).setCell ⟨b2, 2, none⟩ c2).setCell ⟨b2, 3, none⟩ c3
theorem set5_grS (W : World) (b1 b2 : Nat) (v c0 c1 c2 c3 : Value) : GrS (fun k => k = b1 ∨ k = b2) W (set5 W b1 b2 v c0 c1 c2 c3) := ((grS_set W b1 0 v).mono (fun _ _ e => .inl e)).trans ((grS_set4 _ b2 c0 c1 c2 c3).mono (fun _ _ e => .inr e))
theorem set5_rows {W : World} {b1 b2 : Nat} (hne : b1 ≠ b2) {x y0 y1 y2 y3 : Value} {t1 t2 : TypeId} (r1 : W.heap[b1]? = some (.cells #[x] t1 (0, 0))) (r2 : W.heap[b2]? = some (.cells #[y0, y1, y2, y3] t2 (0, 0))) (v c0 c1 c2 c3 : Value) : (set5 W b1 b2 v c0 c1 c2 c3).heap[b1]? = some (.cells #[v] t1 (0, 0)) ∧ (set5 W b1 b2 v c0 c1 c2 c3).heap[b2]? = some (.cells #[c0, c1, c2, c3] t2 (0, 0)) := by
  have h1 : (W.setCell ⟨b1, 0, none⟩ v).heap[b1]? = some (.cells #[v] t1 (0, 0)) := heap_setCell_same _ _ 0 _ _ _ r1
  have h2 : (W.setCell ⟨b1, 0, none⟩ v).heap[b2]? = some (.cells #[y0, y1, y2, y3] t2 (0, 0)) := ((grS_set W b1 0 v).block b2 (Array.getElem?_eq_some_iff.1 r2).1 (fun e => hne e.symm)).trans r2
  exact ⟨((grS_set4 _ b2 c0 c1 c2 c3).block b1 (Array.getElem?_eq_some_iff.1 h1).1 hne).trans h1, row4 h2 c0 c1 c2 c3⟩

set_option maxRecDepth 10000 in
set_option maxHeartbeats 2000000 in
theorem newest_any {lo db : Nat} {S : Nat → Prop} {d : Dk} (hall : ∀ f ∈ d.fs, ∃ k, k ≤ 99999999 ∧ f.nm = Nm k) (w : World) (h : DiskAt w lo S db d) :
    Calls Tryz.prog 49 #[.pointer (some ⟨db, 0, none⟩)] w (NwP d.fs w) := by
  refine (callsIn_wide (n := 5)).1 ?_
  have hN := fun X (hX : Below w.heap.size w X) => (callsIn_wide (n := 4)).2 (names_any X (h.later hX))
  have hBk := fun a n c X => (callsIn_wide (n := 4)).2 (back_iter a n c X)
  refine callsIn_of_wp_marks Tryz.func49 rfl trivial ?_ rfl
  simp only [Tryz.ntmps49, List.size_toArray, List.length_cons, List.length_nil, Nat.reduceAdd, Nat.reduceSub, Array.replicate_succ, Array.replicate_zero, List.push_toArray, List.append_toArray, List.nil_append, List.cons_append]
  obtain ⟨W0, hW0⟩ : ∃ W0, ((w.alloc (.cells #[.pointer (some ⟨db, 0, none⟩)] 27)).alloc (.cells #[.int .i64 0] 3)).alloc (.cells #[.int .u32 0, .slice none 0 0, .slice none 0 0, .int .i64 0] 123) = W0 := ⟨_, rfl⟩
  have B0 : Below w.heap.size w W0 := by rw [← hW0]; exact (((Below.refl _ _).alloc (Nat.le_refl _) _).alloc (by simp) _).alloc (by simp <;> omega) _
  have R0 : W0.heap[w.heap.size]? = some (.cells #[.pointer (some ⟨db, 0, none⟩)] 27 (0, 0)) := by
    rw [← hW0, Below.heap_alloc _ _ _ (by simp <;> omega), Below.heap_alloc _ _ _ (by simp)]
    exact heap_new w _
  have R1 : W0.heap[w.heap.size + 1]? = some (.cells #[.int .i64 0] 3 (0, 0)) := by
    rw [← hW0, Below.heap_alloc _ _ _ (by simp)]
    have := heap_new (w.alloc (.cells #[.pointer (some ⟨db, 0, none⟩)] 27)) (.cells #[.int .i64 0] 3)
    rwa [World.size_alloc] at this
  have R2 : W0.heap[w.heap.size + 2]? = some (.cells #[.int .u32 0, .slice none 0 0, .slice none 0 0, .int .i64 0] 123 (0, 0)) := by
    rw [← hW0]
    have := heap_new ((w.alloc (.cells #[.pointer (some ⟨db, 0, none⟩)] 27)).alloc (.cells #[.int .i64 0] 3)) (.cells #[.int .u32 0, .slice none 0 0, .slice none 0 0, .int .i64 0] 123)
    rwa [World.size_alloc, World.size_alloc] at this
  have hc0 : W0.cell? ⟨w.heap.size, 0, none⟩ = some (.pointer (some ⟨db, 0, none⟩)) := cell_of_row _ _ 0 _ _ _ R0
  have hs0 : W0.heap.size = w.heap.size + 3 := by rw [← hW0]; simp
  replace hs0 := Hid.mk hs0
  gi_wp2_with (first | (refine ⟨trivial, ?_⟩; gi_at_call 34; refine (hN _ B0).mono ?_; rintro e w1 ⟨v1, rfl, hrow1, hb1⟩; obtain ⟨p1, c1, rfl⟩ := own_lenB hrow1) | (refine ⟨trivial, ?_⟩; gi_at_call 106; refine (hBk _ _ _ _).mono ?_; rintro e w2 ⟨rfl, hw2⟩; subst w2))
  have BV := Below.alloc (Below.refl w1.heap.size w1) (Nat.le_refl _) (.cells #[.slice p1 d.fs.length c1] 84)
  have hIV : nI w db w1.heap.size p1 c1 d.fs 0 (w1.alloc (.cells #[.slice p1 d.fs.length c1] 84)) := by
    have hbb : Below W0.heap.size W0 (w1.alloc (.cells #[.slice p1 d.fs.length c1] 84)) := hb1.trans (BV.mono hb1.size)
    have lt : ∀ k o, W0.heap[k]? = some o → k < W0.heap.size := fun k o e => (Array.getElem?_eq_some_iff.1 e).1
    exact ⟨(hbb.block _ (lt _ _ R0)).trans R0, (hbb.block _ (lt _ _ R1)).trans R1, (hbb.block _ (lt _ _ R2)).trans R2, heap_new w1 _, own_later (hrow1.mono B0.size) BV, B0.trans (hbb.mono B0.size), fun i hi hk => absurd hi (by omega)⟩
  have hw1l : w.heap.size + 3 ≤ w1.heap.size := by have := hb1.size; rw [hs0.out] at this; exact this
  obtain ⟨fs, hfs⟩ : ∃ fs, d.fs = fs := ⟨_, rfl⟩
  rw [hfs] at hIV hall
  have hlen : (fs.map fun f => strB f.nm).length = fs.length := List.length_map _
  have hget : ∀ i (hi : i < (fs.map fun f => strB f.nm).length), (fs.map fun f => strB f.nm)[i] = strB (fs[i]'(by rw [hlen] at hi; exact hi)).nm := fun i hi => List.getElem_map _
  have h40 : fs.length ≤ 40 := by
    obtain ⟨mb, D, fb, vv, hL⟩ := h
    rw [← hfs]; exact hL.ok.len
  rw [hfs]
  have hsz : (w1.alloc (.cells #[.slice p1 fs.length c1] 84)).heap.size = w1.heap.size + 1 := by simp
  rw [hfs] at BV
  generalize w1.alloc (.cells #[.slice p1 fs.length c1] 84) = wb at *
  refine range_back w1.heap.size p1 c1 (fs.map fun f => strB f.nm) (by rw [hlen]; omega) rfl rfl (nI w db w1.heap.size p1 c1 fs) (fun _ => nX w fs) (fun k X Y hX hs => hX.step hs (by rw [hsz]; omega)) (fun k X Y hX hs => nX.step hX hs (by rw [hsz]; omega))
    (fun k X hX => by rw [hlen]; exact cell_of_row _ _ 0 _ _ _ hX.rb)
    (fun k X hX i hi => ?row) hIV
    (fun s a' X => ∃ iv, a' = { tmps := #[.pointer (some ⟨db, 0, none⟩), .pointer (some ⟨w.heap.size, 0, none⟩), .pointer (some ⟨w.heap.size + 1, 0, none⟩), .pointer (some ⟨w.heap.size + 1 + 1, 0, none⟩), undef, .string s, undef, undef, undef, .pointer (some ⟨db, 0, none⟩), .slice p1 fs.length c1, .func (.func 136) #[] #[.pointer (some ⟨w1.heap.size, 0, none⟩)], iv, .string s, undef, undef, undef, undef, undef, undef, undef, undef, undef, undef, undef, undef, undef, undef, undef, undef, undef, undef, undef, undef, undef], defers := [] })
    (fun s a' X Y hX hs => hX) ?assign ?body ?done ?stop
  case row =>
    have hrow := hX.row
    rw [hget i hi]
    rw [hlen] at hi
    obtain ⟨g, hg⟩ : ∃ g, p1 = some ⟨g, 0, none⟩ := by
      obtain ⟨-, ⟨e, h0⟩ | ⟨gg, cc, cur, e, -⟩⟩ := hrow
      · omega
      · injection e with e1
        exact ⟨gg, e1⟩
    subst hg
    exact ⟨g, rfl, name_at hrow hi rfl⟩
  case assign =>
    intro l' k i hi W K hIW hK'
    dsimp only [encB]
    generalize (fs.map fun f => strB f.nm)[i] = s at *
    gi_wp2
    exact hK' _ _ (KeepsFrom.refl _ _) hIW ⟨_, rfl⟩
  case body =>
    rintro l' k i hi a' W hik hIW ⟨iv, rfl⟩
    have hi' : i < fs.length := by rw [hlen] at hi; exact hi
    rw [hlen] at hik
    rw [hget i hi]
    obtain ⟨g, hg9, hnm⟩ := hall fs[i] (List.getElem_mem hi')
    have hmore := hIW.more hi' hik
    have hgf : goodF fs[i] = (decide (g ≠ 0) && (whole fs[i].dat 0).isSome) := by unfold goodF; rw [hnm, gen_Nm g hg9]
    have hlast : goodF fs[i] = true → lastGood fs = some fs[i] := fun hgd => lastGood_at hi' hgd (fun j hj hij => hIW.no j hj (by omega))
    rw [hnm]
    have hGn := fun X => (callsIn_wide (n := 2)).2 (genOf_Nm g hg9 X)
    have keep : ∀ X Y, Below X.heap.size X Y → KeepsFrom wb.heap.size X Y := fun X Y hXY => (KeepsOthers.of_grownBy (grown_of_below hXY) (fun _ _ e => by cases e)).from _
    by_cases hg0 : g = 0
    · have hz : ¬ (0 : Int) < (g : Int) := by omega
      have hbad := hmore (by rw [hgf, hg0]; rfl)
      clear hg0 hmore hgf hlast hnm hIW
      generalize strB (Nm g) = s at *
      gi_wp2_with (refine ⟨trivial, ?_⟩; gi_at_call 107; refine (hGn _).mono ?_; rintro e w3 ⟨rfl, hb3⟩)
      exact ⟨keep _ _ hb3, hbad.later hb3⟩
    · have hz : (0 : Int) < (g : Int) := by omega
      obtain ⟨mb, D, fb, vv, hL⟩ := h
      have hfm : fs[i] ∈ d.fs := by rw [hfs]; exact List.getElem_mem hi'
      obtain ⟨f, hf⟩ : ∃ f, fs[i] = f := ⟨_, rfl⟩
      rw [hf] at hmore hgf hlast hfm hnm
      clear hf
      have hsiz := hL.ok.siz f hfm
      obtain ⟨pv, cv, hvv⟩ := own_lenB (hL.fil f hfm).dat
      obtain ⟨fbb, hfbb⟩ : ∃ b, fb f.nm = b := ⟨_, rfl⟩
      have hpre : ∀ X, Below w.heap.size w X → X.cell? ⟨db, 0, none⟩ = some (.map (some mb)) ∧ (Instr.lookup 72 (.map (some mb)) (.string (strB (Nm g))) false).run Tryz.prog X = .ok (.pointer (some ⟨fbb, 0, none⟩)) X ∧ X.cell? ⟨fbb, 0, none⟩ = some (.slice pv f.dat.length cv) ∧ CallsIn Fence.wide 2 Tryz.prog 108 #[.slice pv f.dat.length cv] X (JnP f.dat X) := fun X hX => by
        have hLX := hL.grS (T := fun _ => False) (.of_below hX) (fun _ _ h => h)
        have hlk := hLX.look hfm
        have ho := (hLX.fil f hfm).dat
        rw [hvv] at ho
        obtain ⟨k0, -, -, -⟩ := (hLX.fil f hfm).cells
        rw [hvv, hfbb] at k0
        rw [hfbb, hnm] at hlk
        exact ⟨hLX.cells.1, hlk, k0, callsIn_wide.2 (journalIn_any pv cv f.dat (own_pos ho).2.1 hsiz X (byts_of_own (n := f.dat.length) (hL.ok.byt f hfm) ho))⟩
      cases hwh : whole f.dat 0 with
      | none =>
        have hbad := hmore (by rw [hgf, hwh]; simp)
        clear hmore hgf hlast hg0 hL hvv hfbb hall hN hBk
        generalize strB (Nm g) = s at *
        gi_wp2_with (first | (refine ⟨trivial, ?_⟩; gi_at_call 107; refine (hGn _).mono ?_; rintro e w3 ⟨rfl, hb3⟩; have hI3 := hIW.later hb3; have x0 : w3.cell? ⟨w.heap.size, 0, none⟩ = some (.pointer (some ⟨db, 0, none⟩)) := cell_of_row _ _ 0 _ _ _ hI3.r0; obtain ⟨x1, x2, x3, x4⟩ := hpre _ hI3.bel) | (refine ⟨trivial, ?_⟩; gi_at_call 108; refine x4.mono ?_; rintro e w4 ⟨hb4, hm4⟩; rw [hwh] at hm4; subst hm4))
        have hbA := (hb3.trans (hb4.mono hb3.size)).alloc (hb3.trans (hb4.mono hb3.size)).size (.cells #[.int .u32 0, .slice none 0 0, .slice none 0 0, .int .i64 0] 123)
        exact ⟨keep _ _ hbA, hbad.later hbA⟩
      | some tt =>
        obtain ⟨s0, k0, bd⟩ := tt
        have hgood := hlast (by rw [hgf, hwh]; simp [hg0])
        have hgen : genOf f.nm = g := by rw [hnm, gen_Nm g hg9]
        clear hmore hgf hlast hg0 hL hvv hfbb hall hN hBk
        generalize strB (Nm g) = s at *
        obtain ⟨n, hn⟩ : ∃ n, 18 + bd.length + (recs s0 (f.dat.drop (18 + bd.length)) 1).2 = n := ⟨_, rfl⟩
        obtain ⟨R, hR⟩ : ∃ R, (recs s0 (f.dat.drop (18 + bd.length)) 1).1 = R := ⟨_, rfl⟩
        have hnR := Hid.mk (And.intro hn hR)
        have e2 : w.heap.size + 1 + 1 = w.heap.size + 2 := rfl
        rw [e2]
        clear e2 hn hR
        gi_wp2_with (first | (refine ⟨trivial, ?_⟩; gi_at_call 107; refine (hGn _).mono ?_; rintro e w3 ⟨rfl, hb3⟩; have hI3 := hIW.later hb3; have x0 : w3.cell? ⟨w.heap.size, 0, none⟩ = some (.pointer (some ⟨db, 0, none⟩)) := cell_of_row _ _ 0 _ _ _ hI3.r0; obtain ⟨x1, x2, x3, x4⟩ := hpre _ hI3.bel) | (refine ⟨trivial, ?_⟩; gi_at_call 108; refine x4.mono ?_; rintro e w4 ⟨hb4, hm4⟩; rw [hwh] at hm4; simp only [hnR.out.1, hnR.out.2] at hm4; obtain ⟨sv, rv, rfl, ho4, hr4⟩ := hm4; obtain ⟨sa, sc, rfl⟩ := own_lenB ho4; obtain ⟨ra, rc, rfl, -, -, -⟩ := hr4.len))
        have hbA := (hb4.alloc hb4.size (.cells #[.int .u32 (s0 : Int), .slice sa bd.length sc, .slice ra R.length rc, .int .i64 (n : Int)] 123))
        have hI5 := hI3.later hbA
        have n5 := heap_new w4 (.cells #[.int .u32 (s0 : Int), .slice sa bd.length sc, .slice ra R.length rc, .int .i64 (n : Int)] 123)
        have ho5 := own_later ho4 ((Below.refl _ _).alloc (Nat.le_refl _) (.cells #[.int .u32 (s0 : Int), .slice sa bd.length sc, .slice ra R.length rc, .int .i64 (n : Int)] 123))
        have hr5 := hr4.later ((Below.refl _ _).alloc (Nat.le_refl _) (.cells #[.int .u32 (s0 : Int), .slice sa bd.length sc, .slice ra R.length rc, .int .i64 (n : Int)] 123))
        generalize w4.alloc (.cells #[.int .u32 (s0 : Int), .slice sa bd.length sc, .slice ra R.length rc, .int .i64 (n : Int)] 123) = w5 at *
        have c1' : w5.cell? ⟨w.heap.size + 1, 0, none⟩ = some (.int .i64 0) := cell_of_row _ _ 0 _ _ _ hI5.r1
        have f1 := Go.frozen_of_row _ _ 0 _ _ hI5.r1
        have d0 : w5.cell? ⟨w.heap.size + 2, 0, none⟩ = some (.int .u32 0) := cell_of_row _ _ 0 _ _ _ hI5.r2
        have d1 : w5.cell? ⟨w.heap.size + 2, 1, none⟩ = some (.slice none 0 0) := cell_of_row _ _ 1 _ _ _ hI5.r2
        have d2 : w5.cell? ⟨w.heap.size + 2, 2, none⟩ = some (.slice none 0 0) := cell_of_row _ _ 2 _ _ _ hI5.r2
        have d3 : w5.cell? ⟨w.heap.size + 2, 3, none⟩ = some (.int .i64 0) := cell_of_row _ _ 3 _ _ _ hI5.r2
        have g0 := Go.frozen_of_row _ _ 0 _ _ hI5.r2
        have g1 := Go.frozen_of_row _ _ 1 _ _ hI5.r2
        have g2 := Go.frozen_of_row _ _ 2 _ _ hI5.r2
        have g3 := Go.frozen_of_row _ _ 3 _ _ hI5.r2
        have y0 : w5.cell? ⟨w4.heap.size, 0, none⟩ = some (.int .u32 (s0 : Int)) := cell_of_row _ _ 0 _ _ _ n5
        have y1 : w5.cell? ⟨w4.heap.size, 1, none⟩ = some (.slice sa bd.length sc) := cell_of_row _ _ 1 _ _ _ n5
        have y2 : w5.cell? ⟨w4.heap.size, 2, none⟩ = some (.slice ra R.length rc) := cell_of_row _ _ 2 _ _ _ n5
        have y3 : w5.cell? ⟨w4.heap.size, 3, none⟩ = some (.int .i64 (n : Int)) := cell_of_row _ _ 3 _ _ _ n5
        have hw45 : w.heap.size + 3 ≤ w4.heap.size := by have h1 := hI3.bel.size; have h2 := hb4.size; have := (Array.getElem?_eq_some_iff.1 hI3.r2).1; omega
        have m1 : ¬ w4.heap.size = w.heap.size + 1 := by omega
        have m2 : ¬ w4.heap.size = w.heap.size + 2 := by omega
        have m1' : ¬ w.heap.size + 1 = w4.heap.size := by omega
        have m2' : ¬ w.heap.size + 2 = w4.heap.size := by omega
        have hgr := set5_grS w5 (w.heap.size + 1) (w.heap.size + 2) (.int .i64 (g : Int)) (.int .u32 (s0 : Int)) (.slice sa bd.length sc) (.slice ra R.length rc) (.int .i64 (n : Int))
        obtain ⟨q1, q2⟩ := set5_rows (by omega) hI5.r1 hI5.r2 (.int .i64 (g : Int)) (.int .u32 (s0 : Int)) (.slice sa bd.length sc) (.slice ra R.length rc) (.int .i64 (n : Int))
        have hT1 : ∀ x cs t, x = w.heap.size + 1 ∨ x = w.heap.size + 2 → w5.heap[x]? = some (.cells cs t (0, 0)) → t = 3 ∨ t = 123 := fun x cs t hx hc => by
          rcases hx with rfl | rfl
          · rw [hI5.r1] at hc; injection hc with hc; injection hc with _ hc _; exact .inl hc.symm
          · rw [hI5.r2] at hc; injection hc with hc; injection hc with _ hc _; exact .inr hc.symm
        have hfin : Hid (KeepsOthers W (set5 w5 (w.heap.size + 1) (w.heap.size + 2) (.int .i64 (g : Int)) (.int .u32 (s0 : Int)) (.slice sa bd.length sc) (.slice ra R.length rc) (.int .i64 (n : Int))).drew ∧ nX w fs (set5 w5 (w.heap.size + 1) (w.heap.size + 2) (.int .i64 (g : Int)) (.int .u32 (s0 : Int)) (.slice sa bd.length sc) (.slice ra R.length rc) (.int .i64 (n : Int))).drew) := by
          refine ⟨?_, f, s0, k0, bd, .slice sa bd.length sc, .slice ra R.length rc, hgood, hwh, ?_, ?_, ?_, ?_, ?_⟩
          · have k1 := KeepsOthers.of_grownBy (grown_of_below (hb3.trans (hbA.mono hb3.size))) (fun _ _ e => by cases e)
            exact (((((k1.trans (KeepsOthers.setCell _ _ _)).trans (KeepsOthers.setCell _ _ _)).trans (KeepsOthers.setCell _ _ _)).trans (KeepsOthers.setCell _ _ _)).trans (KeepsOthers.setCell _ _ _)).trans (KeepsOthers.drew _)
          · rw [hgen]; exact q1
          · rw [hnR.out.1]; exact q2
          · refine (hgr.own (ho5.mono hI3.bel.size) (fun x hx e => ?_)).drew
            obtain ⟨-, cs, r⟩ := own_rowT ho5 hx
            rcases hT1 _ _ _ e r with h' | h' <;> exact absurd h' (by decide)
          · rw [hnR.out.2]
            exact ((hr5.mono hI3.bel.size).grS hgr (fun x cs t _ hc ht e => by
              rcases hT1 _ _ _ e hc with rfl | rfl <;> rcases ht with h' | h' <;> exact absurd h' (by decide))).later (Below.refl _ _).drew
          · exact (hI5.bel.trans (hgr.below hI5.bel.size (by omega))).drew
        clear hw45 hgr q1 q2 hT1
        unfold set5 at hfin
        gi_region
        all_goals
          gi_wp2
          exact ⟨hfin.out.1.from _, hfin.out.2⟩
  case done =>
    intro D W hD hIW hdef
    have hng := lastGood_none (fs := fs) (fun j hj => hIW.no j hj (by rw [hlen]; omega))
    have e2 : w.heap.size + 1 + 1 = w.heap.size + 2 := rfl
    rw [hsz] at hD
    have c1' : W.cell? ⟨w.heap.size + 1, 0, none⟩ = some (.int .i64 0) := cell_of_row _ _ 0 _ _ _ hIW.r1
    have f1 := Go.frozen_of_row _ _ 0 _ _ hIW.r1
    have d0 : W.cell? ⟨w.heap.size + 2, 0, none⟩ = some (.int .u32 0) := cell_of_row _ _ 0 _ _ _ hIW.r2
    have d1 : W.cell? ⟨w.heap.size + 2, 1, none⟩ = some (.slice none 0 0) := cell_of_row _ _ 1 _ _ _ hIW.r2
    have d2 : W.cell? ⟨w.heap.size + 2, 2, none⟩ = some (.slice none 0 0) := cell_of_row _ _ 2 _ _ _ hIW.r2
    have d3 : W.cell? ⟨w.heap.size + 2, 3, none⟩ = some (.int .i64 0) := cell_of_row _ _ 3 _ _ _ hIW.r2
    have g0 := Go.frozen_of_row _ _ 0 _ _ hIW.r2
    have g1 := Go.frozen_of_row _ _ 1 _ _ hIW.r2
    have g2 := Go.frozen_of_row _ _ 2 _ _ hIW.r2
    have g3 := Go.frozen_of_row _ _ 3 _ _ hIW.r2
    rw [e2]
    clear e2
    have hgr := set5_grS W (w.heap.size + 1) (w.heap.size + 2) (.int .i64 0) (.int .u32 0) (.slice none 0 0) (.slice none 0 0) (.int .i64 0)
    obtain ⟨q1, q2⟩ := set5_rows (by omega) hIW.r1 hIW.r2 (.int .i64 0) (.int .u32 0) (.slice none 0 0) (.slice none 0 0) (.int .i64 0)
    have hdl : D < W.heap.size := (Array.getElem?_eq_some_iff.1 hdef).1
    have hE := fun tmps h2 h3 => nw_end (fs := d.fs) (w := w) (D := D) (tmps := tmps) (by omega) ((hgr.block D hdl (by omega)).trans hdef) h2 h3 q1 q2 rfl (fun Y hY => ⟨hY.bel (hIW.bel.trans (hgr.below hIW.bel.size (by omega))) (Nat.le_refl _), by rw [hfs, hng]⟩)
    replace hE := Hid.mk hE
    clear hgr q1 q2
    unfold set5 at hE
    gi_wp2
    refine hE.out _ ?_ ?_
    · rfl
    · rfl
  case stop =>
    intro D k W hD hIW hdef
    obtain ⟨f, s, kk, bd, sv, rv, h1, h2, h3, h4, h5, h6, h7⟩ := hIW
    rw [hsz] at hD
    have hE := fun tmps e2 e3 => nw_end (fs := fs) (w := w) (D := D) (tmps := tmps) (by omega) hdef e2 e3 h3 h4 rfl (fun Y hY => ⟨hY.bel h7 (Nat.le_refl _), by rw [h1]; exact ⟨s, kk, bd, sv, rv, h2, rfl, hY.own h5, hY.rcs h6⟩⟩)
    replace hE := Hid.mk hE
    clear h3 h4 h5 h6
    gi_wp2
    refine hE.out _ ?_ ?_
    · rfl
    · rfl
end Go.Proofs.YtakcdgeanbpllaaGreatDoor.DJ


/- Open. -/
namespace Go.Proofs.YtakcdgeanbpllaaGreatDoor.DJ
open Go.RowKit

theorem Rd.le {sum : Nat} {b : List Nat} {k : Nat} {l : List Rec} {n : Nat} (h : Rd sum b k l n) : n ≤ b.length := by
  induction h with
  | stop _ => exact Nat.zero_le _
  | more hw _ ih =>
    have := (whole_len hw).1
    rw [List.length_drop] at ih
    omega
theorem recs_le (sum : Nat) (b : List Nat) (k : Nat) : (recs sum b k).2 ≤ b.length := (recsF_rd sum b.length b k (Nat.le_refl _)).le
theorem Rd.cnt {sum : Nat} {b : List Nat} {k : Nat} {l : List Rec} {n : Nat} (h : Rd sum b k l n) : l.length ≤ n := by
  induction h with
  | stop _ => exact Nat.zero_le _
  | more hw _ ih => rw [List.length_cons]; omega
theorem recs_cnt (sum : Nat) (b : List Nat) (k : Nat) : (recs sum b k).1.length ≤ b.length := Nat.le_trans (recsF_rd sum b.length b k (Nat.le_refl _)).cnt (recs_le sum b k)

/-- What Open answers. -/
def OpP (lo db : Nat) (S : Nat → Prop) (d : Dk) (sum : Nat) (w : World) (e : Ending) (w' : World) : Prop :=
  ∃ S', DiskAt w' lo S' db (openD d sum).2.2 ∧ Dv S w S' w' ∧ match (openD d sum).2.1 with
    | none => e = .returned (.tuple #[.pointer none, .slice none 0 0, .slice none 0 0, .int .i64 ((openD d sum).1 : Nat)]) ∧ (openD d sum).1 ≠ 0
    | some (g, s, R) => ∃ wb sa sc ra rc, e = .returned (.tuple #[.pointer (some ⟨wb, 0, none⟩), .slice sa s.length sc, .slice ra R.length rc, .int .i64 0]) ∧ (openD d sum).1 = 0 ∧ w.heap.size ≤ wb ∧ DwAt w' wb db sum g R.length false ∧ ¬ S' wb ∧ w'.ownsRow w.heap.size 5 1 (.slice sa s.length sc) s.length (bysV s) ∧ RcO w' w.heap.size (.slice ra R.length rc) R

theorem op_ret {Q : Ending → World → Prop} {tmps : Array Value} {X : World} {a b c d : Value} (h4 : tmps.getD 4 undef = a) (h5 : tmps.getD 5 undef = b) (h6 : tmps.getD 6 undef = c) (h7 : tmps.getD 7 undef = d) (hP : Q (.returned (.tuple #[a, b, c, d])) X) : bodyPost Tryz.prog Tryz.f24 Q Exit.ret { tmps := tmps, defers := [] } X := by
  refine bodyPost_ret (v := .tuple #[a, b, c, d]) ?_ rfl hP
  subst h4 h5 h6 h7
  simp [results, Tryz.results24, go_sem]

set_option maxRecDepth 4000 in
set_option maxHeartbeats 2000000 in
theorem open_down {lo db : Nat} {S : Nat → Prop} {d : Dk} (sum : Nat) (hd : d.down = true) (w : World) (h : DiskAt w lo S db d) :
    Calls Tryz.prog 24 #[.pointer (some ⟨db, 0, none⟩), .int .u32 (sum : Int)] w (OpP lo db S d sum w) := by
  have hO : openD d sum = (190, none, d) := by unfold openD; rw [hd]; rfl
  have hP : Hid (OpP lo db S d sum w (.returned (.tuple #[.pointer none, .slice none 0 0, .slice none 0 0, .int .i64 190])) w) := ⟨S, by rw [hO]; exact h, .refl _ _, by rw [hO]; exact ⟨rfl, fun e => by cases e⟩⟩
  obtain ⟨mb, D, fb, vv, hL⟩ := h
  have k5 : w.cell? ⟨db, 5, none⟩ = some (.bool true) := by rw [cell_of_row _ _ 5 _ _ _ hL.row, hd]; rfl
  have hnil : ∀ W : World, (binOp BinOp.eql 27 (.pointer (some ⟨db, 0, none⟩)) (.pointer none)).run Tryz.prog W = .ok (.bool false) W := fun _ => rfl
  go_enter Tryz.func24, Tryz.ntmps24
  go_wp2
  exact op_ret rfl rfl rfl rfl hP.out

set_option maxRecDepth 4000 in
set_option maxHeartbeats 2000000 in
theorem open_new {lo db : Nat} {S : Nat → Prop} {d : Dk} (sum : Nat) (hsum : sum < 4294967296) (hd : d.down = false) (hb : best d.fs = none) (hall : ∀ f ∈ d.fs, ∃ k, k ≤ 99999999 ∧ f.nm = Nm k) (w : World) (hlo : lo ≤ w.heap.size) (ht : TabL lo w) (h : DiskAt w lo S db d) :
    Calls Tryz.prog 24 #[.pointer (some ⟨db, 0, none⟩), .int .u32 (sum : Int)] w (OpP lo db S d sum w) := by
  have hN := newest_any hall w h
  have hSl := h.low
  have hO : openD d sum = if (newR d sum).1 ≠ 0 then ((newR d sum).1, none, (newR d sum).2) else (0, some (1, [], []), (newR d sum).2) := by unfold openD newR; rw [hd, hb]; rfl
  have hbl : lastGood d.fs = none := by
    obtain ⟨mb, D, fb, vv, hL⟩ := h
    rw [← best_eq hL.ok.srt]; exact hb
  have k5 : w.cell? ⟨db, 5, none⟩ = some (.bool false) := by
    obtain ⟨mb, D, fb, vv, hL⟩ := h
    rw [cell_of_row _ _ 5 _ _ _ hL.row, hd]; rfl
  have hnil : ∀ W : World, (binOp BinOp.eql 27 (.pointer (some ⟨db, 0, none⟩)) (.pointer none)).run Tryz.prog W = .ok (.bool false) W := fun _ => rfl
  have hSt := fun X wb (hX : Below w.heap.size w X) (hwb : w.heap.size ≤ wb) (hw : DwAt X wb db sum 0 0 false) => settle_none hsum 0 hall X (Nat.le_trans hlo hX.size) (ht.next (hX.mono hlo)) hw (fun e => by have := (hSl _ e).2; omega) (Nat.le_trans hlo hwb) (h.later hX)
  obtain ⟨r, hr⟩ : ∃ r, newR d sum = r := ⟨_, rfl⟩
  rw [hr] at hO
  simp only [hr] at hSt
  replace hSt := Hid.mk hSt
  go_enter Tryz.func24, Tryz.ntmps24
  go_wp2_with (go_at_call 49; refine hN.mono ?_; rintro e w1 ⟨hb1, hm1⟩; rw [hbl] at hm1; subst hm1)
  have bA := hb1.alloc hb1.size (.cells #[.int .u32 0, .slice none 0 0, .slice none 0 0, .int .i64 0] 123)
  have bB := bA.alloc bA.size (.cells #[.pointer (some ⟨db, 0, none⟩), .int .u32 (sum : Int), .int .i64 0, .int .i64 0, .bool false] 80)
  have rj := heap_new w1 (.cells #[.int .u32 0, .slice none 0 0, .slice none 0 0, .int .i64 0] 123)
  have rw' := heap_new (w1.alloc (.cells #[.int .u32 0, .slice none 0 0, .slice none 0 0, .int .i64 0] 123)) (.cells #[.pointer (some ⟨db, 0, none⟩), .int .u32 (sum : Int), .int .i64 0, .int .i64 0, .bool false] 80)
  rw [World.size_alloc] at rw'
  have rj' := (Below.heap_alloc (w1.alloc (.cells #[.int .u32 0, .slice none 0 0, .slice none 0 0, .int .i64 0] 123)) (.cells #[.pointer (some ⟨db, 0, none⟩), .int .u32 (sum : Int), .int .i64 0, .int .i64 0, .bool false] 80) w1.heap.size (by simp)).trans rj
  generalize (w1.alloc (.cells #[.int .u32 0, .slice none 0 0, .slice none 0 0, .int .i64 0] 123)).alloc (.cells #[.pointer (some ⟨db, 0, none⟩), .int .u32 (sum : Int), .int .i64 0, .int .i64 0, .bool false] 80) = w2 at *
  have hw1l := hb1.size
  refine (hSt.out w2 (w1.heap.size + 1) bB (by omega) rw').mono ?_
  rintro e w3 ⟨rfl, S3, hD3, hv3, hw3⟩
  have hjl : w1.heap.size < w2.heap.size := (Array.getElem?_eq_some_iff.1 rj').1
  have hwl : w1.heap.size + 1 < w2.heap.size := (Array.getElem?_eq_some_iff.1 rw').1
  have rj3 := (hv3.gr.block w1.heap.size hjl (fun e => by
    rcases e with e | e
    · have := (hSl _ e).2; omega
    · omega)).trans rj'
  have j1 := cell_of_row _ _ 1 _ _ _ rj3
  have j2 := cell_of_row _ _ 2 _ _ _ rj3
  simp only [List.getElem?_toArray, List.getElem?_cons_zero, List.getElem?_cons_succ] at j1 j2
  have hDv : Dv S w S3 w3 := ⟨⟨hv3.gr.os.trans bB.os, hv3.gr.tape.trans bB.tape, hv3.gr.output.trans bB.output, Nat.le_trans bB.size hv3.gr.size, fun k hk hn => (hv3.gr.block k (Nat.lt_of_lt_of_le hk bB.size) (fun e => by
      rcases e with e | e
      · exact hn e
      · omega)).trans (bB.block k hk)⟩, fun k hk => by
      rcases hv3.sub k hk with e | e
      · exact .inl e
      · exact .inr (Nat.le_trans bB.size e)⟩
  have hnS : ¬ S3 (w1.heap.size + 1) := fun e => by
    rcases hv3.sub _ e with e | e
    · have := (hSl _ e).2; omega
    · omega
  by_cases h0 : r.1 = 0
  · have h0' : ((r.1 : Int) != 0) = false := by rw [h0]; rfl
    rw [if_neg (fun x => x h0)] at hO
    have hP : ∀ m, Hid (OpP lo db S d sum w (.returned (.tuple #[.pointer (some ⟨w1.heap.size + 1, 0, none⟩), .slice none 0 0, .slice none 0 0, .int .i64 0])) (w3.drewN m)) := fun m => ⟨S3, by rw [hO]; exact hD3.later (below_drewN (Below.refl _ _) _), Dv.trans hDv (.below (below_drewN (Below.refl _ _) _)), by
      rw [hO]
      exact ⟨w1.heap.size + 1, none, 0, none, 0, rfl, rfl, by omega, (hw3 h0).later (below_drewN (Below.refl _ _) _), hnS, World.ownsRow_nil _ _ _ _, .nil _ _⟩⟩
    clear hw3 hD3 hv3 hDv rj3 rj rj' rw' hN hSt hO h0
    go_wp2_with fail
    go_quiet (fail)
    go_wp2
    exact op_ret rfl rfl rfl rfl (hP _).out
  · have h0' : ((r.1 : Int) != 0) = true := by rw [bne_iff_ne]; omega
    rw [if_pos h0] at hO
    have hP : Hid (OpP lo db S d sum w (.returned (.tuple #[.pointer none, .slice none 0 0, .slice none 0 0, .int .i64 (r.1 : Nat)])) w3) := ⟨S3, by rw [hO]; exact hD3, hDv, by rw [hO]; exact ⟨rfl, h0⟩⟩
    clear hw3 hD3 hv3 hDv rj3 rj rj' rw' hN hSt hO h0
    go_wp2
    exact op_ret rfl rfl rfl rfl hP.out
end Go.Proofs.YtakcdgeanbpllaaGreatDoor.DJ


/- Open, of a journal. -/
namespace Go.Proofs.YtakcdgeanbpllaaGreatDoor.DJ
open Go.RowKit

set_option maxRecDepth 4000 in
set_option maxHeartbeats 2000000 in
theorem open_old {lo db : Nat} {S : Nat → Prop} {d : Dk} (sum : Nat) (hsum : sum < 4294967296) (hd : d.down = false) {f : Fl} (hb : best d.fs = some f) (hall : ∀ f ∈ d.fs, ∃ k, k ≤ 99999999 ∧ f.nm = Nm k) (w : World) (hlo : lo ≤ w.heap.size) (ht : TabL lo w) (h : DiskAt w lo S db d) :
    Calls Tryz.prog 24 #[.pointer (some ⟨db, 0, none⟩), .int .u32 (sum : Int)] w (OpP lo db S d sum w) := by
  have hN := newest_any hall w h
  have hSl := h.low
  have hbl : lastGood d.fs = some f := by
    obtain ⟨mb, D, fb, vv, hL⟩ := h
    rw [← best_eq hL.ok.srt]; exact hb
  obtain ⟨hfm, hfg, hfw⟩ := lastGood_mem hbl
  obtain ⟨hg0, hg1, hg9⟩ := genOf_pos hfg
  obtain ⟨g, hg⟩ : ∃ g, genOf f.nm = g := ⟨_, rfl⟩
  rw [hg] at hg0 hg1 hg9
  obtain ⟨⟨s, k, bd⟩, hw0⟩ := Option.isSome_iff_exists.1 hfw
  have hwl := whole_len hw0
  have hdl : f.dat.length ≤ 2097152 := by
    obtain ⟨mb, D, fb, vv, hL⟩ := h
    exact hL.ok.siz f hfm
  have k5 : w.cell? ⟨db, 5, none⟩ = some (.bool false) := by
    obtain ⟨mb, D, fb, vv, hL⟩ := h
    rw [cell_of_row _ _ 5 _ _ _ hL.row, hd]; rfl
  have hnil : ∀ W : World, (binOp BinOp.eql 27 (.pointer (some ⟨db, 0, none⟩)) (.pointer none)).run Tryz.prog W = .ok (.bool false) W := fun _ => rfl
  have hgI : (0 : Int) < (g : Int) := by omega
  have hsz : 18 + bd.length + (recs s (f.dat.drop (18 + bd.length)) 1).2 ≤ f.dat.length := by
    have := recs_le s (f.dat.drop (18 + bd.length)) 1
    rw [List.length_drop] at this
    omega
  have hO : openD d sum = if s ≠ sum then (198, none, d) else if (mend d f (18 + bd.length + (recs s (f.dat.drop (18 + bd.length)) 1).2)).1 ≠ 0 then ((mend d f (18 + bd.length + (recs s (f.dat.drop (18 + bd.length)) 1).2)).1, none, (mend d f (18 + bd.length + (recs s (f.dat.drop (18 + bd.length)) 1).2)).2) else (0, some (g, bd, (recs s (f.dat.drop (18 + bd.length)) 1).1), (mend d f (18 + bd.length + (recs s (f.dat.drop (18 + bd.length)) 1).2)).2) := by
    unfold openD
    rw [hd, hb]
    simp only [hw0, hg, Bool.false_eq_true, if_false]
    by_cases e : s = sum
    · subst e; rfl
    · rw [if_pos e, if_pos e]
  have hSt := fun X wb n (hX : Below w.heap.size w X) (hwb : w.heap.size ≤ wb) (hw : DwAt X wb db sum g n false) => settle_some hg1 hg9 hfm hg0 _ hsz hall X (Nat.le_trans hlo hX.size) (ht.next (hX.mono hlo)) hw (fun e => by have := (hSl _ e).2; omega) (h.later hX)
  obtain ⟨n, hn⟩ : ∃ n, 18 + bd.length + (recs s (f.dat.drop (18 + bd.length)) 1).2 = n := ⟨_, rfl⟩
  obtain ⟨R, hR⟩ : ∃ R, (recs s (f.dat.drop (18 + bd.length)) 1).1 = R := ⟨_, rfl⟩
  obtain ⟨r, hr⟩ : ∃ r, mend d f n = r := ⟨_, rfl⟩
  simp only [hn, hR, hr] at hO hSt
  have hNw : Hid (∀ e X, NwP d.fs w e X → ∃ sa sc ra rc, e = .returned (.tuple #[.int .i64 (g : Int), .agg #[.int .u32 (s : Int), .slice sa bd.length sc, .slice ra R.length rc, .int .i64 (n : Int)]]) ∧ Below w.heap.size w X ∧ X.ownsRow w.heap.size 5 1 (.slice sa bd.length sc) bd.length (bysV bd) ∧ RcO X w.heap.size (.slice ra R.length rc) R) := ⟨fun e X hX => by
    obtain ⟨hb1, hm⟩ := hX
    rw [hbl] at hm
    obtain ⟨s', k', bd', sv, rv, hw', he, ho, hrc⟩ := hm
    rw [hw0] at hw'
    cases hw'
    rw [hn, hg] at he
    rw [hR] at hrc
    obtain ⟨sa, sc, rfl⟩ := own_lenB ho
    obtain ⟨ra, rc, rfl, -, -, -⟩ := hrc.len
    exact ⟨sa, sc, ra, rc, he, hb1, ho, hrc⟩⟩
  have hRl : R.length ≤ 2097152 := by
    rw [← hR]
    have := recs_cnt s (f.dat.drop (18 + bd.length)) 1
    rw [List.length_drop] at this
    omega
  replace hSt := Hid.mk hSt
  replace hO := Hid.mk hO
  clear hn hR hr hsz hfg hfw hg hbl hb hall ht hw0 hwl hdl
  by_cases hss : s = sum
  case neg =>
    have hss' : ((s : Int) != (sum : Int)) = true := by rw [bne_iff_ne]; omega
    have hP : ∀ X, Below w.heap.size w X → Hid (OpP lo db S d sum w (.returned (.tuple #[.pointer none, .slice none 0 0, .slice none 0 0, .int .i64 198])) X) := fun X hX => ⟨S, by rw [hO.out, if_pos hss]; exact h.later hX, .below hX, by rw [hO.out, if_pos hss]; exact ⟨rfl, fun e => by cases e⟩⟩
    clear hss hSt
    go_enter Tryz.func24, Tryz.ntmps24
    go_wp2_with (go_at_call 49; refine hN.mono ?_; intro e w1 hm1; obtain ⟨sa, sc, ra, rc, rfl, hb1, ho1, hr1⟩ := hNw.out _ _ hm1; clear hm1)
    exact op_ret rfl rfl rfl rfl (hP _ (hb1.alloc hb1.size _)).out
  subst hss
  have hss' : ((s : Int) != (s : Int)) = false := by simp
  go_enter Tryz.func24, Tryz.ntmps24
  go_wp2_with (go_at_call 49; refine hN.mono ?_; intro e w1 hm1; obtain ⟨sa, sc, ra, rc, rfl, hb1, ho1, hr1⟩ := hNw.out _ _ hm1; clear hm1)
  have bA := hb1.alloc hb1.size (.cells #[.int .u32 (s : Int), .slice sa bd.length sc, .slice ra R.length rc, .int .i64 (n : Int)] 123)
  have bB := bA.alloc bA.size (.cells #[.pointer (some ⟨db, 0, none⟩), .int .u32 (s : Int), .int .i64 (g : Int), .int .i64 (R.length : Int), .bool false] 80)
  have rj := heap_new w1 (.cells #[.int .u32 (s : Int), .slice sa bd.length sc, .slice ra R.length rc, .int .i64 (n : Int)] 123)
  have rw' := heap_new (w1.alloc (.cells #[.int .u32 (s : Int), .slice sa bd.length sc, .slice ra R.length rc, .int .i64 (n : Int)] 123)) (.cells #[.pointer (some ⟨db, 0, none⟩), .int .u32 (s : Int), .int .i64 (g : Int), .int .i64 (R.length : Int), .bool false] 80)
  rw [World.size_alloc] at rw'
  have rj' := (Below.heap_alloc (w1.alloc (.cells #[.int .u32 (s : Int), .slice sa bd.length sc, .slice ra R.length rc, .int .i64 (n : Int)] 123)) (.cells #[.pointer (some ⟨db, 0, none⟩), .int .u32 (s : Int), .int .i64 (g : Int), .int .i64 (R.length : Int), .bool false] 80) w1.heap.size (by simp)).trans rj
  have b12 : Below w1.heap.size w1 ((w1.alloc (.cells #[.int .u32 (s : Int), .slice sa bd.length sc, .slice ra R.length rc, .int .i64 (n : Int)] 123)).alloc (.cells #[.pointer (some ⟨db, 0, none⟩), .int .u32 (s : Int), .int .i64 (g : Int), .int .i64 (R.length : Int), .bool false] 80)) := ((Below.refl _ _).alloc (Nat.le_refl _) _).alloc (by simp) _
  generalize (w1.alloc (.cells #[.int .u32 (s : Int), .slice sa bd.length sc, .slice ra R.length rc, .int .i64 (n : Int)] 123)).alloc (.cells #[.pointer (some ⟨db, 0, none⟩), .int .u32 (s : Int), .int .i64 (g : Int), .int .i64 (R.length : Int), .bool false] 80) = w2 at *
  have hw1l := hb1.size
  refine (hSt.out w2 (w1.heap.size + 1) R.length bB (by omega) rw').mono ?_
  rintro e w3 ⟨rfl, S3, hD3, hv3⟩
  have hjl : w1.heap.size < w2.heap.size := (Array.getElem?_eq_some_iff.1 rj').1
  have hwl : w1.heap.size + 1 < w2.heap.size := (Array.getElem?_eq_some_iff.1 rw').1
  have hnot : ∀ x, w.heap.size ≤ x → ¬ S x := fun x hx e => by have := (hSl _ e).2; omega
  have rj3 := (hv3.gr.block w1.heap.size hjl (hnot _ hw1l)).trans rj'
  have j1 := cell_of_row _ _ 1 _ _ _ rj3
  have j2 := cell_of_row _ _ 2 _ _ _ rj3
  simp only [List.getElem?_toArray, List.getElem?_cons_zero, List.getElem?_cons_succ] at j1 j2
  have hDv : Dv S w S3 w3 := Dv.trans (.below bB) hv3
  have hnS : ¬ S3 (w1.heap.size + 1) := fun e => by
    rcases hv3.sub _ e with e | e
    · exact hnot _ (by omega) e
    · omega
  have hw3 : DwAt w3 (w1.heap.size + 1) db s g R.length false := (hv3.gr.block _ hwl (hnot _ (by omega))).trans rw'
  have ho3 := hv3.gr.own (own_later ho1 b12) (fun x hx => hnot x (own_rowT ho1 hx).1)
  have hr3 := (hr1.later b12).grS hv3.gr (fun x _ _ hx _ _ => hnot x hx)
  have hO2 := hO.out
  rw [if_neg (fun x => x rfl)] at hO2
  by_cases h0 : r.1 = 0
  · have h0' : ((r.1 : Int) != 0) = false := by rw [h0]; rfl
    rw [if_neg (fun x => x h0)] at hO2
    have hP : ∀ m, Hid (OpP lo db S d s w (.returned (.tuple #[.pointer (some ⟨w1.heap.size + 1, 0, none⟩), .slice sa bd.length sc, .slice ra R.length rc, .int .i64 0])) (w3.drewN m)) := fun m => ⟨S3, by rw [hO2]; exact hD3.later (below_drewN (Below.refl _ _) _), Dv.trans hDv (.below (below_drewN (Below.refl _ _) _)), by
      rw [hO2]
      exact ⟨w1.heap.size + 1, sa, sc, ra, rc, rfl, rfl, by omega, hw3.later (below_drewN (Below.refl _ _) _), hnS, own_later ho3 (below_drewN (Below.refl _ _) _), hr3.later (below_drewN (Below.refl _ _) _)⟩⟩
    clear hw3 hD3 hv3 hDv rj3 rj rj' rw' hN hSt hO hO2 h0 ho3 hr3 ho1 hr1 hNw
    go_wp2_with fail
    go_quiet (fail)
    go_wp2
    exact op_ret rfl rfl rfl rfl (hP _).out
  · have h0' : ((r.1 : Int) != 0) = true := by rw [bne_iff_ne]; omega
    rw [if_pos h0] at hO2
    have hP : Hid (OpP lo db S d s w (.returned (.tuple #[.pointer none, .slice none 0 0, .slice none 0 0, .int .i64 (r.1 : Nat)])) w3) := ⟨S3, by rw [hO2]; exact hD3, hDv, by rw [hO2]; exact ⟨rfl, h0⟩⟩
    clear hw3 hD3 hv3 hDv rj3 rj rj' rw' hN hSt hO hO2 h0 ho3 hr3 ho1 hr1 hNw
    go_wp2
    exact op_ret rfl rfl rfl rfl hP.out

theorem open_any {lo db : Nat} {S : Nat → Prop} {d : Dk} (sum : Nat) (hsum : sum < 4294967296) (hall : ∀ f ∈ d.fs, ∃ k, k ≤ 99999999 ∧ f.nm = Nm k) (w : World) (hlo : lo ≤ w.heap.size) (ht : TabL lo w) (h : DiskAt w lo S db d) :
    Calls Tryz.prog 24 #[.pointer (some ⟨db, 0, none⟩), .int .u32 (sum : Int)] w (OpP lo db S d sum w) := by
  cases hd : d.down with
  | true => exact open_down sum hd w h
  | false =>
    cases hb : best d.fs with
    | none => exact open_new sum hsum hd hb hall w hlo ht h
    | some f => exact open_old sum hsum hd hb hall w hlo ht h
end Go.Proofs.YtakcdgeanbpllaaGreatDoor.DJ


/- The law's world: begin. -/
namespace Go.Proofs.YtakcdgeanbpllaaGreatDoor.DJ
open Go.RowKit

theorem TabL.mono {lo lo' : Nat} {w : World} (h : TabL lo w) (hl : lo ≤ lo') : TabL lo' w := fun X hX => h X (hX.mono hl)
theorem Lay.mono {W : World} {lo lo' : Nat} {S : Nat → Prop} {db : Nat} {d : Dk} {mb : Nat} {D : DataW Nat} {fb : List Nat → Nat} {vv : List Nat → Value} (h : Lay W lo S db d mb D fb vv) (hl : lo' ≤ lo) : Lay W lo' S db d mb D fb vv :=
  { h with
    fil := fun f hf => ⟨(h.fil f hf).row, (h.fil f hf).dat.mono hl⟩
    low := fun k hk => Nat.le_trans hl (h.low k hk) }
theorem DiskAt.mono {W : World} {lo lo' : Nat} {S : Nat → Prop} {db : Nat} {d : Dk} (h : DiskAt W lo S db d) (hl : lo' ≤ lo) : DiskAt W lo' S db d := by
  obtain ⟨mb, D, fb, vv, h⟩ := h
  exact ⟨mb, D, fb, vv, h.mono hl⟩

/-- The law's world. -/
def wdRow (db : Nat) (wp : Option Addr) (sum : Nat) (sv rv lv fv : Value) (soft : Bool) : Obj := .cells #[.pointer (some ⟨db, 0, none⟩), .pointer wp, .int .u32 (sum : Int), sv, rv, lv, fv, .bool soft] 32 (0, 0)

set_option maxRecDepth 4000 in
set_option maxHeartbeats 1000000 in
theorem begin_any (sum : Nat) (w : World) :
    Calls Tryz.prog 8 #[.int .u32 (sum : Int)] w fun e w' => ∃ S db ub, e = .returned (.pointer (some ⟨ub, 0, none⟩)) ∧ DiskAt w' w.heap.size S db dk0 ∧ w'.heap[ub]? = some (wdRow db none sum (.slice none 0 0) (.slice none 0 0) (.slice none 0 0) (.slice none 0 0) false) ∧ ¬ S ub ∧ w.heap.size ≤ ub ∧ Below w.heap.size w w' := by
  have hN := newDisk_nil 0 none w
  have hnil : ∀ (b : Nat) (W : World), (binOp BinOp.eql 27 (.pointer (some ⟨b, 0, none⟩)) (.pointer none)).run Tryz.prog W = .ok (.bool false) W := fun _ _ => rfl
  go_enter Tryz.func8, Tryz.ntmps8
  go_wp2_with (go_at_call 26; refine hN.mono ?_; rintro e w1 ⟨S, db, rfl, hD, hb⟩)
  go_ret
  have hl := hD.low
  exact ⟨S, db, w1.heap.size, rfl, hD.later ((Below.refl _ _).alloc (Nat.le_refl _) _), heap_new w1 _, fun e => by have := (hl _ e).2; omega, hb.size, hb.alloc hb.size _⟩
end Go.Proofs.YtakcdgeanbpllaaGreatDoor.DJ


/- world.open of a fresh world. -/
namespace Go.Proofs.YtakcdgeanbpllaaGreatDoor.DJ
open Go.RowKit

theorem wd_cells {W : World} {ub db : Nat} {wp : Option Addr} {sum : Nat} {sv rv lv fv : Value} {soft : Bool} (h : W.heap[ub]? = some (wdRow db wp sum sv rv lv fv soft)) : W.cell? ⟨ub, 0, none⟩ = some (.pointer (some ⟨db, 0, none⟩)) ∧ W.cell? ⟨ub, 1, none⟩ = some (.pointer wp) ∧ W.cell? ⟨ub, 2, none⟩ = some (.int .u32 (sum : Int)) ∧ W.cell? ⟨ub, 3, none⟩ = some sv ∧ W.cell? ⟨ub, 4, none⟩ = some rv ∧ W.cell? ⟨ub, 5, none⟩ = some lv ∧ W.cell? ⟨ub, 6, none⟩ = some fv ∧ W.cell? ⟨ub, 7, none⟩ = some (.bool soft) :=
  ⟨cell_of_row _ _ 0 _ _ _ h, cell_of_row _ _ 1 _ _ _ h, cell_of_row _ _ 2 _ _ _ h, cell_of_row _ _ 3 _ _ _ h, cell_of_row _ _ 4 _ _ _ h, cell_of_row _ _ 5 _ _ _ h, cell_of_row _ _ 6 _ _ _ h, cell_of_row _ _ 7 _ _ _ h⟩
theorem wd_frozen {W : World} {ub db : Nat} {wp : Option Addr} {sum : Nat} {sv rv lv fv : Value} {soft : Bool} (h : W.heap[ub]? = some (wdRow db wp sum sv rv lv fv soft)) (o : Nat) : W.frozen? ⟨ub, o, none⟩ = false := frozen_of_row _ _ o _ _ h
theorem wd_lt {W : World} {ub db : Nat} {wp : Option Addr} {sum : Nat} {sv rv lv fv : Value} {soft : Bool} (h : W.heap[ub]? = some (wdRow db wp sum sv rv lv fv soft)) : ub < W.heap.size := (Array.getElem?_eq_some_iff.1 h).1

/-- A fresh world that has been opened. -/
structure Fresh (lo : Nat) (S : Nat → Prop) (ub db wb sum : Nat) (d : Dk) (W : World) : Prop where
  disk : DiskAt W lo S db d
  drw : DwAt W wb db sum 1 0 false
  row : ∃ a c, W.heap[ub]? = some (wdRow db (some ⟨wb, 0, none⟩) sum (.slice a 0 c) (.slice none 0 0) (.slice none 0 0) (.slice none 0 0) false)
  nwb : ¬ S wb
  nub : ¬ S ub
  ne : wb ≠ ub
  lwb : lo ≤ wb
  lub : lo ≤ ub

set_option maxRecDepth 4000 in
set_option maxHeartbeats 2000000 in
theorem wopen_fresh {lo db ub sum : Nat} {S : Nat → Prop} {d : Dk} (hsum : sum < 4294967296) (hc : Calm d) (hd : d.fs = []) (w : World) (hlo : lo ≤ w.heap.size) (ht : TabL lo w) (h : DiskAt w lo S db d) (hub : ¬ S ub) (hlu : lo ≤ ub) {wp : Option Addr}
    (hrow : w.heap[ub]? = some (wdRow db wp sum (.slice none 0 0) (.slice none 0 0) (.slice none 0 0) (.slice none 0 0) false)) :
    Calls Tryz.prog 9 #[.pointer (some ⟨ub, 0, none⟩)] w fun e w' => e = .returned (.bool true) ∧ ∃ S' wb, Fresh lo S' ub db wb sum (openD d sum).2.2 w' ∧ Below lo w w' := by
  have hO := open_any sum hsum (d := d) (fun f hf => by rw [hd] at hf; simp at hf) w.drew (Nat.le_trans hlo (Nat.le_refl _)) (ht.next ((Below.refl _ _).drew)) (h.later ((Below.refl _ _).drew))
  have hG := gives_new (d := d) hsum hc hd
  have hSl := h.low
  obtain ⟨r, hr⟩ : ∃ r, openD d sum = r := ⟨_, rfl⟩
  have hul := wd_lt hrow
  have hOp : Hid (∀ e X, OpP lo db S d sum w.drew e X → ∃ S' wb sa sc ra rc, e = .returned (.tuple #[.pointer (some ⟨wb, 0, none⟩), .slice sa 0 sc, .slice ra 0 rc, .int .i64 0]) ∧ DiskAt X lo S' db r.2.2 ∧ Dv S w S' X ∧ w.heap.size ≤ wb ∧ DwAt X wb db sum 1 0 false ∧ ¬ S' wb ∧ (sa = none → sc = 0)) := ⟨fun e X hX => by
    obtain ⟨S', h1, h2, h3⟩ := hX
    obtain ⟨e1, e2, -, -⟩ := hG
    rw [e2] at h3
    obtain ⟨wb, sa, sc, ra, rc, rfl, -, h4, h5, h6, h7, h8⟩ := h3
    rw [hr] at h1
    exact ⟨S', wb, sa, sc, ra, rc, rfl, h1, ⟨⟨h2.gr.os, h2.gr.tape, h2.gr.output, h2.gr.size, h2.gr.block⟩, h2.sub⟩, h4, h5, h6, own_none h7⟩⟩
  rw [hr]
  clear hr hG
  obtain ⟨q0, q1, q2, -⟩ := wd_cells hrow
  have S0 : w.drew.cell? ⟨ub, 0, none⟩ = some (.pointer (some ⟨db, 0, none⟩)) ∧ w.drew.cell? ⟨ub, 2, none⟩ = some (.int .u32 (sum : Int)) := ⟨q0, q2⟩
  have hnil : ∀ (b : Nat) (W : World), (binOp BinOp.eql 28 (.pointer (some ⟨b, 0, none⟩)) (.pointer none)).run Tryz.prog W = .ok (.bool false) W := fun _ _ => rfl
  go_enter Tryz.func9, Tryz.ntmps9
  go_wp2_with fail
  go_region_held3 (fun X => X.cell? ⟨ub, 0, none⟩ = some (.pointer (some ⟨db, 0, none⟩)) ∧ X.cell? ⟨ub, 2, none⟩ = some (.int .u32 (sum : Int))) (with_reducible assumption) ((go_at_call 24; refine hO.mono ?_; intro e w1 hm1; obtain ⟨S1, wb, sa, sc, ra, rc, rfl, hD1, hv1, hwb, hw1, hnS, hsc⟩ := hOp.out _ _ hm1; clear hm1; have hrow1 := (hv1.gr.block ub hul hub).trans hrow; obtain ⟨x0, x1, x2, -⟩ := wd_cells hrow1; have S1' := And.intro x0 x2))
  have hne : wb ≠ ub := by omega
  have hrX : (w1.setCell ⟨ub, 1, none⟩ (.pointer (some ⟨wb, 0, none⟩))).heap[ub]? = some (wdRow db (some ⟨wb, 0, none⟩) sum (.slice none 0 0) (.slice none 0 0) (.slice none 0 0) (.slice none 0 0) false) := heap_setCell_same _ _ 1 _ _ _ hrow1
  have hwX : DwAt (w1.setCell ⟨ub, 1, none⟩ (.pointer (some ⟨wb, 0, none⟩))) wb db sum 1 0 false := hw1.grS (grS_set w1 ub 1 _) hne
  have hnu : ¬ S1 ub := fun e => by
    rcases hv1.sub _ e with e | e
    · exact hub e
    · omega
  have hDX := hD1.grS (grS_set w1 ub 1 (.pointer (some ⟨wb, 0, none⟩))) (fun k hk e => hnu (e ▸ hk))
  have hBX : Below lo w (w1.setCell ⟨ub, 1, none⟩ (.pointer (some ⟨wb, 0, none⟩))) := (hv1.below' hlo hSl).trans ((grS_set w1 ub 1 _).below (Nat.le_trans hlo hv1.gr.size) (fun k e => e ▸ hlu))
  have hszX : (w1.setCell ⟨ub, 1, none⟩ (.pointer (some ⟨wb, 0, none⟩))).heap.size = w1.heap.size := by simp
  have f1 := wd_frozen hrow1 1
  go_upto_region 5 with fail
  obtain ⟨X1, hX1⟩ : ∃ X1, w1.setCell ⟨ub, 1, none⟩ (.pointer (some ⟨wb, 0, none⟩)) = X1 := ⟨_, rfl⟩
  rw [hX1] at hrX hwX hDX hBX hszX ⊢
  have hM : Calls Tryz.prog 27 #[.pointer (some ⟨ub, 0, none⟩), .slice sa 0 sc, .slice ra 0 rc] X1 fun e w' => e = .returned (.bool true) ∧ ∃ m, w' = X1.drewN m := by
    obtain ⟨-, -, -, y3, y4, y5, y6, -⟩ := wd_cells hrX
    exact may_same (w := X1) (b := ub) (s := []) (R := []) (L := []) (F := []) (sa := none) (ra := none) (la := none) (fa := none) (sc := 0) (rc := 0) (lc := 0) (fc := 0) ⟨y3, y4, y5, y6, ⟨fun x hx => by simp at hx, .inl rfl⟩, ⟨fun x hx => by simp at hx, .inl rfl⟩, ⟨fun x hx => by simp at hx, .inl rfl⟩, .inl rfl, by decide⟩ sa ra sc rc ⟨fun x hx => by simp at hx, .inl rfl⟩ ⟨fun x hx => by simp at hx, .inl rfl⟩
  have hLn := fun m => len_any (X1.drewN m) (hwX.later (below_drewN (Below.refl _ _) m))
  clear hX1 hrow1 hw1 hD1 hv1 x0 x1 x2 S1' q0 q1 q2 S0 hO hOp hrow h
  replace hLn := Hid.mk hLn
  replace hM := Hid.mk hM
  go_wp2_with (first | (go_at_call 27; refine hM.out.mono ?_; rintro e w2 ⟨rfl, m2, rfl⟩) | (go_at_call 28; refine (hLn.out m2).mono ?_; rintro e w3 ⟨rfl, rfl⟩) | (at_builtin; refine stopJ ?_))
  unfold StopJ
  have hrD : (X1.drewN m2).heap[ub]? = some (wdRow db (some ⟨wb, 0, none⟩) sum (.slice none 0 0) (.slice none 0 0) (.slice none 0 0) (.slice none 0 0) false) := ((below_drewN (Below.refl X1.heap.size X1) m2).block _ (wd_lt hrX)).trans hrX
  have hwD := hwX.later (below_drewN (Below.refl X1.heap.size X1) m2)
  have hDD := hDX.later (below_drewN (Below.refl X1.heap.size X1) m2)
  have hBD : Below lo w (X1.drewN m2) := below_drewN hBX m2
  clear hrX hwX hDX hBX hLn hM
  generalize X1.drewN m2 = X2 at *
  refine wpList_copyN X2 rfl _ _ rfl X2.heap.size (Nat.le_refl _) (.slice none 0 0) rfl (World.ownsRow_nil _ _ _ _) sa sc [] rfl hsc ⟨fun x hx => by simp at hx, .inl rfl⟩ (by decide) ?_
  intro a5 c5 w5 ho5 hB5 hb5
  have hr5 := (hb5.block _ (wd_lt hrD)).trans hrD
  obtain ⟨y0, y1, y2, y3, y4, y5, y6, y7⟩ := wd_cells hr5
  have g3 := wd_frozen hr5 3
  have g4 := wd_frozen hr5 4
  have g5 := wd_frozen hr5 5
  have g6 := wd_frozen hr5 6
  have g7 := wd_frozen hr5 7
  simp only [List.length_nil]
  have hgs := fun (X : World) (o : Nat) (v : Value) => grS_set X ub o v
  have step : ∀ (X : World) (o : Nat) (v : Value), DiskAt X lo S1 db r.2.2 ∧ DwAt X wb db sum 1 0 false ∧ Below lo w X → DiskAt (X.setCell ⟨ub, o, none⟩ v) lo S1 db r.2.2 ∧ DwAt (X.setCell ⟨ub, o, none⟩ v) wb db sum 1 0 false ∧ Below lo w (X.setCell ⟨ub, o, none⟩ v) := fun X o v hX => ⟨hX.1.grS (hgs X o v) (fun k hk e => hnu (e ▸ hk)), hX.2.1.grS (hgs X o v) hne, hX.2.2.trans ((hgs X o v).below (Nat.le_trans hlo hX.2.2.size) (fun k e => e ▸ hlu))⟩
  have P5 : DiskAt w5 lo S1 db r.2.2 ∧ DwAt w5 wb db sum 1 0 false ∧ Below lo w w5 := ⟨hDD.later hb5, hwD.later hb5, hBD.trans (hb5.mono (Nat.le_trans hlo hBD.size))⟩
  have P6 := step _ 4 (.slice none 0 0) (step _ 3 (.slice a5 0 c5) P5)
  have hr6 : ((w5.setCell ⟨ub, 3, none⟩ (.slice a5 0 c5)).setCell ⟨ub, 4, none⟩ (.slice none 0 0)).heap[ub]? = some (wdRow db (some ⟨wb, 0, none⟩) sum (.slice a5 0 c5) (.slice none 0 0) (.slice none 0 0) (.slice none 0 0) false) := heap_setCell_same _ _ 4 _ _ _ (heap_setCell_same _ _ 3 _ _ _ hr5)
  replace step := Hid.mk step
  replace P6 := Hid.mk P6
  clear P5 hgs
  go_wp2
  generalize (w5.setCell ⟨ub, 3, none⟩ (.slice a5 0 c5)).setCell ⟨ub, 4, none⟩ (.slice none 0 0) = W6 at *
  go_loopw [7] (fun v wr => v = .int .i64 0 ∧ wr = W6) (fun _ _ => 0)
  case atStart => exact ⟨rfl, rfl⟩
  case round =>
    obtain ⟨rfl, rfl⟩ := hrel
    obtain ⟨z0, z1, z2, z3, z4, z5, z6, z7⟩ := wd_cells hr6
    have k5 := wd_frozen hr6 5
    have k6 := wd_frozen hr6 6
    have k7 := wd_frozen hr6 7
    have hfin : Hid (Fresh lo S1 ub db wb sum r.2.2 (((wr.setCell ⟨ub, 5, none⟩ (.slice none 0 0)).setCell ⟨ub, 6, none⟩ (.slice none 0 0)).setCell ⟨ub, 7, none⟩ (.bool false)) ∧ Below lo w (((wr.setCell ⟨ub, 5, none⟩ (.slice none 0 0)).setCell ⟨ub, 6, none⟩ (.slice none 0 0)).setCell ⟨ub, 7, none⟩ (.bool false))) := by
      have P9 := step.out _ 7 (.bool false) (step.out _ 6 (.slice none 0 0) (step.out _ 5 (.slice none 0 0) P6.out))
      exact ⟨⟨P9.1, P9.2.1, ⟨a5, c5, heap_setCell_same _ _ 7 _ _ _ (heap_setCell_same _ _ 6 _ _ _ (heap_setCell_same _ _ 5 _ _ _ hr6))⟩, hnS, hnu, hne, Nat.le_trans hlo hwb, hlu⟩, P9.2.2⟩
    clear hr6 hr5 hrD hwD hDD
    go_wp2
    go_ret
    exact ⟨rfl, S1, wb, hfin.out⟩
end Go.Proofs.YtakcdgeanbpllaaGreatDoor.DJ

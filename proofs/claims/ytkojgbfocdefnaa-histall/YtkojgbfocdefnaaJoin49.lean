import Derived.Test.YtkojgbfocdefnaaJoin48
import Derived.Test.YtkojgbfocdefnaaJoin43
namespace Go.Proofs.Ytkojgbfocdefnaa
open Go.RowKit Go.Shelf
attribute [local go_sem] Oper.semAt_some

set_option maxRecDepth 4000 in
set_option maxHeartbeats 4000000 in
theorem touched1_one (W0 : World) (hb g cap : Nat) (vs : Nat → Nat) (Ls : List Es) (p i j c1 c2 c3 : Nat) (hX : HistX W0 hb g cap vs Ls p) (hi : i < Ls.length) (hj : j < Ls.length) (ta tb : Tr) (hta : MapT W0 (vs i) ta) (htb : MapT W0 (vs j) tb)
    (hc1 : W0.cell? ⟨c1, 0, none⟩ = some (.pointer (some ⟨hb, 0, none⟩))) (hc2 : W0.cell? ⟨c2, 0, none⟩ = some (.int .i64 ((i : Int) - (p : Int)))) (hc3 : W0.cell? ⟨c3, 0, none⟩ = some (.int .i64 ((j : Int) - (p : Int)))) (hcl : c1 < W0.heap.size ∧ c2 < W0.heap.size ∧ c3 < W0.heap.size) (w : World) (hB : Below W0.heap.size W0 w) (hK : K1At w W0.heap.size []) :
    Calls Try.prog 19 #[klV W0.heap.size, .pointer (some ⟨c1, 0, none⟩), .pointer (some ⟨c2, 0, none⟩), .pointer (some ⟨c3, 0, none⟩)] w (tuZ W0 ((ta.dif tb 7 0).map (·.1))) := by
  have ha1 := (Below.refl w.heap.size w).alloc (Nat.le_refl _) (.cells #[klV W0.heap.size] 51)
  have hyb := heap_alloc_last w (.cells #[klV W0.heap.size] 51)
  have hKa := hK.later ha1
  have hBa := below_step hB ha1
  have hV : ∀ q, q < Ls.length → ∀ X, Below W0.heap.size W0 X → Calls Try.prog 20 #[.pointer (some ⟨hb, 0, none⟩), .int .i64 ((q : Int) - (p : Int))] X fun e w' => e = .returned (.pointer (some ⟨vs q, 0, none⟩)) ∧ Below X.heap.size X w' := fun q hq X hBX => version_at hb g cap vs Ls p q hq X (hX.later hBX)
  have hS : ∀ X, Below W0.heap.size W0 X → X.cell? ⟨c1, 0, none⟩ = some (.pointer (some ⟨hb, 0, none⟩)) ∧ X.cell? ⟨c2, 0, none⟩ = some (.int .i64 ((i : Int) - (p : Int))) ∧ X.cell? ⟨c3, 0, none⟩ = some (.int .i64 ((j : Int) - (p : Int))) := fun X hX' => ⟨(hX'.cell (p := ⟨c1, 0, none⟩) hcl.1).trans hc1, (hX'.cell (p := ⟨c2, 0, none⟩) hcl.2.1).trans hc2, (hX'.cell (p := ⟨c3, 0, none⟩) hcl.2.2).trans hc3⟩
  unfold klV at ha1 hyb hKa hBa ⊢
  generalize hbs : (#[.pointer (some ⟨W0.heap.size + 2, 0, none⟩), .pointer (some ⟨W0.heap.size + 3, 0, none⟩), .pointer (some ⟨W0.heap.size + 1, 0, none⟩), .pointer (some ⟨W0.heap.size, 0, none⟩)] : Array Value) = bs at *
  refine (callsIn_wide (n := 6)).1 ?_
  refine callsIn_of_wp_marks Try.func19 rfl trivial ?_ rfl
  simp only [Try.ntmps19, List.size_toArray, List.length_cons, List.length_nil, Nat.reduceAdd, Nat.reduceSub, Array.replicate_succ, Array.replicate_zero, List.push_toArray, List.append_toArray, List.nil_append, List.cons_append]
  refine wpIn_wide.2 ?_
  go_upto_region 1 with fail
  generalize hwa : w.alloc (.cells #[.func (.func 54) #[] bs] 51) = wa at *
  have hBD := hBa.drew
  have hsD := hS _ hBD
  clear hX hc1 hc2 hc3
  go_region_held3 (fun X => X.cell? ⟨c1, 0, none⟩ = some (.pointer (some ⟨hb, 0, none⟩)) ∧ X.cell? ⟨c2, 0, none⟩ = some (.int .i64 ((i : Int) - (p : Int))) ∧ X.cell? ⟨c3, 0, none⟩ = some (.int .i64 ((j : Int) - (p : Int)))) (with_reducible assumption)
    (first | (go_at_call 20; refine (hV _ (by first | exact hi | exact hj) _ (by first | exact hB3 | exact hBD)).mono ?_; rintro e wv ⟨rfl, hbv⟩; first | (have hB4 := below_step hB3 hbv; have s4 := hS _ hB4; have hb34 := hbv) | (have hB3 := below_step hBD hbv; have s3 := hS _ hB3; have hbD3 := hbv)))
  go_wp2_with (go_at_call 21; refine (diff_iter _ _ _).mono ?_; rintro e w5 ⟨rfl, hD5, hb5⟩)
  have hB5 := below_step hB4 hb5
  have hA5 := hta.later hB5
  have hC5 := htb.later hB5
  have hba5 := below_step (below_step (below_step (Below.refl wa.heap.size wa).drew hbD3) hb34) hb5
  have hwl : w.heap.size < wa.heap.size := (Array.getElem?_eq_some_iff.1 hyb).1
  have hw5 := hba5.size
  have hkl : klV W0.heap.size = .func (.func 54) #[] bs := by unfold klV; rw [hbs]
  have hI0 : tIZ W0 w.heap.size [] w5 := ⟨⟨hKa.later hba5, rfl⟩, hB5, by rw [hkl]; exact (hba5.block _ hwl).trans hyb, hKa.offStep (hK.offStep (hK.new (Nat.le_refl _)) (stepB_below 0 ha1)) (stepB_below 0 hba5)⟩
  clear hbD3 hb34 hbv s3 s4 hsD hBD hV hS hB3 hB4 hi hj ha1 hyb hKa hBa hwa hcl hK hB
  refine (wpIn_wide (n := 6)).1 ?_
  refine range_diff wv.heap.size (vs i) (vs j) ta tb _ rfl rfl rfl (tIZ W0 w.heap.size) (tFZ W0) (offK W0.heap.size) (fun pre X Y h hs => tIZ_step hB5.size h hs) (fun pre X Y h hs => tFZ_step hB5.size h hs) (fun pre X k o v h hk hl => tIZ_set hB5.size (by omega) h hk hl) (fun pre X k o v h hk hl => tFZ_set hB5.size h hk hl)
    (fun pre X k h hk => h.1.1.new hk) (fun pre X Y k h hk hs => h.1.1.offStep hk hs) (fun pre X Y k h hk hs => tFZ_off h hk hs) (fun pre X h => ⟨(hta.later h.2.1).2.2.2.1, (htb.later h.2.1).2.2.2.1⟩) (fun pre X h => ⟨(hta.later h.2).2.2.2.1, (htb.later h.2).2.2.2.1⟩) hD5 hA5 hC5 hI0
    (fun x a' X => ∃ vb, a' = { tmps := #[Value.func (.func 54) #[] bs, .pointer (some ⟨c1, 0, none⟩), .pointer (some ⟨c2, 0, none⟩), .pointer (some ⟨c3, 0, none⟩), .pointer (some ⟨w.heap.size, 0, none⟩), .pointer (some ⟨vs i, 0, none⟩), .pointer (some ⟨vs j, 0, none⟩), .pointer (some ⟨vb, 0, none⟩), .pointer (some ⟨hb, 0, none⟩), .int .i64 ((i : Int) - (p : Int)), .pointer (some ⟨vs i, 0, none⟩), .pointer (some ⟨hb, 0, none⟩), .int .i64 ((j : Int) - (p : Int)), .pointer (some ⟨vs j, 0, none⟩), .pointer (some ⟨vs i, 0, none⟩), .bool false, .bool false, .pointer (some ⟨vs j, 0, none⟩), .bool false, .bool false, .pointer (some ⟨vs i, 0, none⟩), .pointer (some ⟨vs j, 0, none⟩), diffV wv.heap.size, chV x, undef, undef, undef, undef, undef], defers := [] } ∧ X.cell? ⟨vb, 0, none⟩ = some (.int .u32 (x.1 : Int)))
    (fun x a' X Y ⟨vb, h1, h2⟩ hs => ⟨vb, h1, cell_stepB h2 hs⟩) ?assign ?body ?done ?stop
  case assign =>
    intro l' pre x W K hIW hK'
    unfold chV
    gi_wp2
    exact hK' _ _ ((Below.refl _ _).alloc (Nat.le_refl _) _) ⟨W.heap.size, rfl, by simp⟩
  case body =>
    rintro l' pre x a' W hIW ⟨vb, rfl, v0⟩
    subst hbs
    have c0 : W.cell? ⟨w.heap.size, 0, none⟩ = some (klV W0.heap.size) := cell_of_row _ _ 0 _ _ _ hIW.2.2.1
    have hyl := (Array.getElem?_eq_some_iff.1 hIW.2.2.1).1
    have hYo : offK W0.heap.size w.heap.size W := hIW.2.2.2
    unfold klV at c0
    clear hI0 hkl hta htb hA5 hC5 hD5
    have hcl := keyList1_one W0.heap.size (pre.map (·.1)) (by simpa using hIW.1.2) x.1 W hIW.1.1
    gi_wp2_with (gi_at_call 54; fail)
    refine ⟨trivial, (CallsIn.inRound l' (callsIn_wide.2 hcl)).mono ?_⟩
    rintro e X ⟨rfl, hK1, hb1, hKO, hoff⟩
    gi_wp2
    exact ⟨hKO.from _, hoff, ⟨by rw [List.map_append]; exact hK1, by have := hIW.1.2; rw [List.length_append]; simp only [List.length_singleton]; omega⟩, hIW.2.1.trans hb1⟩
  case done =>
    intro R W hR hIW hdef
    have hst := stepB_put (B := w5.heap.size) (.deferred none) hR hdef rfl
    have hI2 := tIZ_step hB5.size hIW hst
    have hz := List.eq_nil_of_length_eq_zero hI2.1.2
    have hfin : Hid (tuZ W0 ((ta.dif tb 7 0).map (·.1)) (.returned (.tuple #[])) _) := ⟨rfl, ⟨by have := hI2.1.1.2.1; rw [hz] at this ⊢; exact this, hI2.1.1.2.2.2⟩, hI2.2.1⟩
    clear hI2
    gi_wp2
    refine ⟨by simp, .inl ⟨_, _, rfl, run_takeDeferred hdef, ?_⟩⟩
    exact ⟨.tuple #[], by simp [results, Try.results19, go_sem], hfin.out⟩
  case stop =>
    intro R pre W hR hpre hIW hdef
    have hst := stepB_put (B := w5.heap.size) (.deferred none) hR hdef rfl
    have hI2 := tFZ_step hB5.size hIW hst
    have hz : pre.map (·.1) = ((ta.dif tb 7 0).map (·.1)).take 1 := by
      obtain ⟨r, hr⟩ := hpre
      have := hI2.1.2
      rw [← hr, List.map_append, List.take_left' (by simpa using this)]
    have hfin : Hid (tuZ W0 ((ta.dif tb 7 0).map (·.1)) (.returned (.tuple #[])) _) := ⟨rfl, ⟨by have := hI2.1.1.2.1; rw [hz] at this; exact this, hI2.1.1.2.2.2⟩, hI2.2⟩
    clear hI2
    gi_wp2
    refine ⟨by simp, .inl ⟨_, _, rfl, run_takeDeferred hdef, ?_⟩⟩
    exact ⟨.tuple #[], by simp [results, Try.results19, go_sem], hfin.out⟩

end Go.Proofs.Ytkojgbfocdefnaa


namespace Go.Proofs.Ytkojgbfocdefnaa

theorem filter_lenK {α β γ δ : Type} {f : α → Option β} {g : α → Option γ} {h : α → Option δ} (hh : ∀ a b, f a = some b → g a ≠ none ∨ h a ≠ none) (l : List α) : (l.filterMap f).length ≤ (l.filterMap g).length + (l.filterMap h).length := by
  induction l with
  | nil => simp
  | cons a l ih =>
    rw [List.filterMap_cons, List.filterMap_cons, List.filterMap_cons]
    cases hf : f a with
    | none =>
      cases g a <;> cases h a <;> simp <;> omega
    | some b =>
      rcases hh a b hf with hg | hg
      · obtain ⟨c, hc⟩ := Option.ne_none_iff_exists'.1 hg
        rw [hc]
        cases h a <;> simp <;> omega
      · obtain ⟨c, hc⟩ := Option.ne_none_iff_exists'.1 hg
        rw [hc]
        cases g a <;> simp <;> omega
theorem dif_lenK {a b : Tr} {n : Nat} (ha : a.wf n) (hb : b.wf n) (p : Nat) : (a.dif b n p).length ≤ (a.ents n p).length + (b.ents n p).length := by
  rw [ents_range_eq ha, ents_range_eq hb]
  unfold Tr.dif
  refine filter_lenK (fun r c h => ?_) _
  cases h1 : a.get n r with
  | some v => exact .inl (by simp)
  | none =>
    cases h2 : b.get n r with
    | some v => exact .inr (by simp)
    | none => rw [h1, h2] at h; simp at h

/-- What entries hold at a key. -/
def valE (L : List (Nat × (Int × Int))) (k : Nat) : Option (Int × Int) := (L.find? fun e => e.1 == k).map (·.2)
theorem find_range (f : Nat → Option (Int × Int)) (k : Nat) : ∀ m, (((List.range m).filterMap fun r => (f r).map fun v => (0 + r, v)).find? fun e => e.1 == k) = if k < m then (f k).map (fun v => (k, v)) else none
  | 0 => by simp
  | m + 1 => by
    rw [List.range_succ, List.filterMap_append, List.find?_append, find_range f k m]
    by_cases h1 : k < m
    · rw [if_pos h1, if_pos (by omega)]
      cases hf : f k with
      | some v => simp
      | none =>
        cases hm : f m with
        | none => simp [hm]
        | some u =>
          have : ¬ m = k := by omega
          simp [hm, this]
    · rw [if_neg h1]
      by_cases h2 : k = m
      · subst h2
        rw [if_pos (by omega)]
        cases hf : f k with
        | some v => simp [hf]
        | none => simp [hf]
      · rw [if_neg (by omega)]
        cases hm : f m with
        | none => simp [hm]
        | some u =>
          have : ¬ m = k := by omega
          simp [hm, this]
theorem valE_ents {t : Tr} (hw : t.wf 7) {k : Nat} (hk : k < 16 ^ 8) : valE (t.ents 7 0) k = t.get 7 k := by
  unfold valE
  rw [ents_range_eq hw, find_range, if_pos hk]
  cases t.get 7 k <;> rfl
theorem valE_out {t : Tr} (hw : t.wf 7) {k : Nat} (hk : ¬ k < 16 ^ 8) : valE (t.ents 7 0) k = none := by
  unfold valE
  rw [ents_range_eq hw, find_range, if_neg hk]
  rfl

/-- The keys at which two lists of entries differ, rising. -/
def DifK (A B : List (Nat × (Int × Int))) (ks : List Nat) : Prop := ks.Pairwise (· < ·) ∧ ∀ k, k ∈ ks ↔ valE A k ≠ valE B k
theorem difK_dif {a b : Tr} (ha : a.wf 7) (hb : b.wf 7) : DifK (a.ents 7 0) (b.ents 7 0) ((a.dif b 7 0).map (·.1)) := by
  refine ⟨List.pairwise_map.2 (dif_rises a b 7 0), fun k => ?_⟩
  rw [List.mem_map]
  by_cases hk : k < 16 ^ 8
  · rw [valE_ents ha hk, valE_ents hb hk]
    constructor
    · rintro ⟨c, hc, rfl⟩
      obtain ⟨r, h1, h2, rfl⟩ := mem_dif.1 hc
      simpa using h2
    · intro h
      exact ⟨(0 + k, (a.get 7 k, b.get 7 k)), mem_dif.2 ⟨k, hk, h, rfl⟩, by simp⟩
  · rw [valE_out ha hk, valE_out hb hk]
    constructor
    · rintro ⟨c, hc, rfl⟩
      obtain ⟨r, h1, h2, rfl⟩ := mem_dif.1 hc
      exact absurd (by simpa using h1) hk
    · intro h; exact absurd rfl h
theorem rising_eq : ∀ {x y : List Nat}, x.Pairwise (· < ·) → y.Pairwise (· < ·) → (∀ k, k ∈ x ↔ k ∈ y) → x = y
  | [], [], _, _, _ => rfl
  | [], b :: y, _, _, h => by have := (h b).2 (by simp); simp at this
  | a :: x, [], _, _, h => by have := (h a).1 (by simp); simp at this
  | a :: x, b :: y, hx, hy, h => by
    obtain ⟨hx1, hx2⟩ := List.pairwise_cons.1 hx
    obtain ⟨hy1, hy2⟩ := List.pairwise_cons.1 hy
    have hab : a = b := by
      rcases List.mem_cons.1 ((h a).1 (by simp)) with e | e
      · exact e
      · rcases List.mem_cons.1 ((h b).2 (by simp)) with e2 | e2
        · exact e2.symm
        · have := hx1 b e2
          have := hy1 a e
          omega
    subst hab
    refine congrArg (a :: ·) (rising_eq hx2 hy2 fun k => ⟨fun hk => ?_, fun hk => ?_⟩)
    · rcases List.mem_cons.1 ((h k).1 (List.mem_cons_of_mem _ hk)) with e | e
      · subst e; exact absurd (hx1 k hk) (Nat.lt_irrefl _)
      · exact e
    · rcases List.mem_cons.1 ((h k).2 (List.mem_cons_of_mem _ hk)) with e | e
      · subst e; exact absurd (hy1 k hk) (Nat.lt_irrefl _)
      · exact e
theorem DifK.turn {A B : List (Nat × (Int × Int))} {x y : List Nat} (hx : DifK A B x) (hy : DifK B A y) : x = y :=
  rising_eq hx.1 hy.1 fun k => by rw [hx.2, hy.2]; exact ⟨fun h e => h e.symm, fun h e => h e.symm⟩
theorem DifK.self {A : List (Nat × (Int × Int))} {x : List Nat} (hx : DifK A A x) : x = [] := by
  cases x with
  | nil => rfl
  | cons a x => exact absurd rfl ((hx.2 a).1 (by simp))
theorem DifK.rel {A B C : List (Nat × (Int × Int))} {x w z : List Nat} (hx : DifK A B x) (hw : DifK B C w) (hz : DifK A C z) {k : Nat} (h : k ∈ z) : k ∈ x ∨ k ∈ w := by
  by_cases h1 : valE A k = valE B k
  · refine .inr ((hw.2 k).2 fun e => ?_)
    exact (hz.2 k).1 h (h1.trans e)
  · exact .inl ((hx.2 k).2 h1)
theorem valE_mem {L : List (Nat × (Int × Int))} (h : Rises L) {e : Nat × (Int × Int)} (he : e ∈ L) : valE L e.1 = some e.2 := by
  unfold valE
  induction L with
  | nil => simp at he
  | cons a L ih =>
    obtain ⟨h1, h2⟩ := List.pairwise_cons.1 h
    rw [List.find?_cons]
    rcases List.mem_cons.1 he with rfl | he'
    · simp
    · have : ¬ a.1 = e.1 := fun e2 => by have := h1 e he'; omega
      rw [show (a.1 == e.1) = false by simpa using this]
      exact ih h2 he'

end Go.Proofs.Ytkojgbfocdefnaa


namespace Go.Proofs.Ytkojgbfocdefnaa
open Go.RowKit Go.Shelf

theorem risesK_of {ks : List Nat} (h : ks.Pairwise (· < ·)) : RisesK ks := fun i hi => List.pairwise_iff_getElem.1 h i (i + 1) (by omega) hi (Nat.lt_succ_self _)
def keP (w : World) (A B : Es) (e : Ending) (w' : World) : Prop := ∃ ks, DifK A B ks ∧ ks.length ≤ 400 ∧ ksP w ks e w'

def vaP (w : World) (o : Option (Int × Int)) (e : Ending) (w' : World) : Prop := e = .returned (.tuple #[.agg #[.int .i64 (o.getD (0, 0)).1, .int .i64 (o.getD (0, 0)).2], .bool o.isSome]) ∧ Below w.heap.size w w'
theorem valE_at {L : Es} {j k : Nat} (hj : j < L.length) (hk : L[j].1 = k) (hn : ∀ e ∈ L.take j, e.1 ≠ k) : valE L k = some L[j].2 := by
  have e : L.take j ++ L[j] :: L.drop (j + 1) = L := by rw [List.getElem_cons_drop, List.take_append_drop]
  have h1 : (L.take j).find? (fun e => e.1 == k) = none := by
    rw [List.find?_eq_none]
    intro x hx
    simpa using hn x hx
  have h2 : (L.take j ++ L[j] :: L.drop (j + 1)).find? (fun e => e.1 == k) = some L[j] := by
    rw [List.find?_append, h1, List.find?_cons, hk]
    simp
  rw [e] at h2
  unfold valE
  rw [h2]
  rfl
theorem valE_none {L : Es} {k : Nat} (hn : ∀ e ∈ L, e.1 ≠ k) : valE L k = none := by
  unfold valE
  rw [List.find?_eq_none.2 (by intro x hx; simpa using hn x hx)]
  rfl

end Go.Proofs.Ytkojgbfocdefnaa


namespace Go.Proofs.Ytkojgbfocdefnaa

/-- The differences of two rising lists, as the reference tells them: one step. -/
def rdStep (A B : List (Nat × (Int × Int))) : Bool × Bool := match A, B with
  | [], [] => (false, false)
  | _ :: _, [] => (true, false)
  | [], _ :: _ => (false, true)
  | a :: _, b :: _ => (decide (a.1 ≤ b.1), decide (b.1 ≤ a.1))
def rdif : Nat → List (Nat × (Int × Int)) → List (Nat × (Int × Int)) → List (Nat × (Option (Int × Int) × Option (Int × Int)))
  | 0, _, _ => []
  | _ + 1, [], [] => []
  | n + 1, a :: A, [] => (a.1, (some a.2, none)) :: rdif n A []
  | n + 1, [], b :: B => (b.1, (none, some b.2)) :: rdif n [] B
  | n + 1, a :: A, b :: B =>
    if a.1 < b.1 then (a.1, (some a.2, none)) :: rdif n A (b :: B)
    else if b.1 < a.1 then (b.1, (none, some b.2)) :: rdif n (a :: A) B
    else if a.2 = b.2 then rdif n A B
    else (a.1, (some a.2, some b.2)) :: rdif n A B
theorem valE_nil (k : Nat) : valE [] k = none := rfl
theorem valE_cons (a : Nat × (Int × Int)) (A : List (Nat × (Int × Int))) (k : Nat) : valE (a :: A) k = if a.1 = k then some a.2 else valE A k := by
  unfold valE
  rw [List.find?_cons]
  by_cases h : a.1 = k
  · rw [show (a.1 == k) = true by simpa using h, if_pos h]; rfl
  · rw [show (a.1 == k) = false by simpa using h, if_neg h]
theorem valE_low {A : List (Nat × (Int × Int))} {k : Nat} (h : ∀ e ∈ A, k < e.1) : valE A k = none := by
  unfold valE
  rw [List.find?_eq_none.2 fun e he => by have := h e he; simp; omega]
  rfl
theorem rises_tail {a : Nat × (Int × Int)} {A : List (Nat × (Int × Int))} (h : Rises (a :: A)) : (∀ e ∈ A, a.1 < e.1) ∧ Rises A := List.pairwise_cons.1 h
/-- The keys that are told are those at which the two differ, rising. -/
theorem rdif_keys : ∀ (n : Nat) (A B : List (Nat × (Int × Int))), A.length + B.length ≤ n → Rises A → Rises B → ((rdif n A B).map (·.1)).Pairwise (· < ·) ∧ (∀ k, k ∈ (rdif n A B).map (·.1) ↔ valE A k ≠ valE B k)
  | 0, A, B, h, _, _ => by
    have h1 : A = [] := List.length_eq_zero_iff.1 (by omega)
    have h2 : B = [] := List.length_eq_zero_iff.1 (by omega)
    subst h1 h2
    simp [rdif]
  | n + 1, [], [], _, _, _ => by simp [rdif]
  | n + 1, a :: A, [], h, ha, hb => by
    obtain ⟨h1, h2⟩ := rises_tail ha
    obtain ⟨i1, i2⟩ := rdif_keys n A [] (by simp only [List.length_cons] at h; omega) h2 hb
    rw [rdif, List.map_cons]
    refine ⟨List.pairwise_cons.2 ⟨fun k hk => ?_, i1⟩, fun k => ?_⟩
    · have := (i2 k).1 hk
      rw [valE_nil] at this
      apply Classical.byContradiction
      intro hc
      exact this (valE_low fun e he => by have := h1 e he; omega)
    · rw [List.mem_cons, i2, valE_cons, valE_nil]
      by_cases hk : a.1 = k
      · simp [hk]
      · rw [if_neg hk]
        simp only [show ¬ k = a.1 from fun e => hk e.symm, false_or]
  | n + 1, [], b :: B, h, ha, hb => by
    obtain ⟨h1, h2⟩ := rises_tail hb
    obtain ⟨i1, i2⟩ := rdif_keys n [] B (by simp only [List.length_cons] at h; omega) ha h2
    rw [rdif, List.map_cons]
    refine ⟨List.pairwise_cons.2 ⟨fun k hk => ?_, i1⟩, fun k => ?_⟩
    · have := (i2 k).1 hk
      rw [valE_nil] at this
      apply Classical.byContradiction
      intro hc
      exact this (valE_low fun e he => by have := h1 e he; omega).symm
    · rw [List.mem_cons, i2, valE_cons, valE_nil]
      by_cases hk : b.1 = k
      · simp [hk]
      · rw [if_neg hk]
        simp only [show ¬ k = b.1 from fun e => hk e.symm, false_or]
  | n + 1, a :: A, b :: B, h, ha, hb => by
    obtain ⟨a1, a2⟩ := rises_tail ha
    obtain ⟨b1, b2⟩ := rises_tail hb
    simp only [List.length_cons] at h
    rw [rdif]
    by_cases c1 : a.1 < b.1
    · rw [if_pos c1, List.map_cons]
      obtain ⟨i1, i2⟩ := rdif_keys n A (b :: B) (by simp only [List.length_cons]; omega) a2 hb
      refine ⟨List.pairwise_cons.2 ⟨fun k hk => ?_, i1⟩, fun k => ?_⟩
      · have := (i2 k).1 hk
        apply Classical.byContradiction
        intro hc
        apply this
        rw [valE_low fun e he => by have := a1 e he; simp only at hc; omega, valE_low fun e he => ?_]
        rcases List.mem_cons.1 he with rfl | he
        · simp only at hc; omega
        · have := b1 e he; simp only at hc; omega
      · rw [List.mem_cons, i2, valE_cons a A]
        by_cases hk : a.1 = k
        · rw [if_pos hk, valE_low (A := b :: B) fun e he => ?_]
          · simp [hk]
          · rcases List.mem_cons.1 he with rfl | he
            · omega
            · have := b1 e he; omega
        · rw [if_neg hk]
          simp only [show ¬ k = a.1 from fun e => hk e.symm, false_or]
    · rw [if_neg c1]
      by_cases c2 : b.1 < a.1
      · rw [if_pos c2, List.map_cons]
        obtain ⟨i1, i2⟩ := rdif_keys n (a :: A) B (by simp only [List.length_cons]; omega) ha b2
        refine ⟨List.pairwise_cons.2 ⟨fun k hk => ?_, i1⟩, fun k => ?_⟩
        · have := (i2 k).1 hk
          apply Classical.byContradiction
          intro hc
          apply this
          rw [valE_low (A := B) fun e he => by have := b1 e he; simp only at hc; omega, valE_low fun e he => ?_]
          rcases List.mem_cons.1 he with rfl | he
          · simp only at hc; omega
          · have := a1 e he; simp only at hc; omega
        · rw [List.mem_cons, i2, valE_cons b B]
          by_cases hk : b.1 = k
          · rw [if_pos hk, valE_low (A := a :: A) fun e he => ?_]
            · simp [hk]
            · rcases List.mem_cons.1 he with rfl | he
              · omega
              · have := a1 e he; omega
          · rw [if_neg hk]
            simp only [show ¬ k = b.1 from fun e => hk e.symm, false_or]
      · rw [if_neg c2]
        have hab : a.1 = b.1 := by omega
        obtain ⟨i1, i2⟩ := rdif_keys n A B (by omega) a2 b2
        by_cases c3 : a.2 = b.2
        · rw [if_pos c3]
          refine ⟨i1, fun k => ?_⟩
          rw [i2, valE_cons a A, valE_cons b B]
          by_cases hk : a.1 = k
          · rw [if_pos hk, if_pos (hab ▸ hk), c3, valE_low fun e he => by have := a1 e he; omega, valE_low fun e he => by have := b1 e he; omega]
            simp
          · rw [if_neg hk, if_neg (hab ▸ hk)]
        · rw [if_neg c3, List.map_cons]
          refine ⟨List.pairwise_cons.2 ⟨fun k hk => ?_, i1⟩, fun k => ?_⟩
          · have := (i2 k).1 hk
            apply Classical.byContradiction
            intro hc
            apply this
            rw [valE_low fun e he => by have := a1 e he; simp only at hc; omega, valE_low fun e he => by have := b1 e he; simp only at hc; omega]
          · rw [List.mem_cons, i2, valE_cons a A, valE_cons b B]
            by_cases hk : a.1 = k
            · rw [if_pos hk, if_pos (hab ▸ hk)]
              simp [hk, c3]
            · rw [if_neg hk, if_neg (hab ▸ hk)]
              simp only [show ¬ k = a.1 from fun e => hk e.symm, false_or]
theorem rdif_DifK {A B : List (Nat × (Int × Int))} (ha : Rises A) (hb : Rises B) : DifK A B ((rdif (A.length + B.length) A B).map (·.1)) := rdif_keys _ A B (Nat.le_refl _) ha hb
theorem rdif_len : ∀ (n : Nat) (A B : List (Nat × (Int × Int))), (rdif n A B).length ≤ n
  | 0, _, _ => by simp [rdif]
  | n + 1, [], [] => by simp [rdif]
  | n + 1, a :: A, [] => by rw [rdif, List.length_cons]; have := rdif_len n A []; omega
  | n + 1, [], b :: B => by rw [rdif, List.length_cons]; have := rdif_len n [] B; omega
  | n + 1, a :: A, b :: B => by
    rw [rdif]
    split
    · rw [List.length_cons]; have := rdif_len n A (b :: B); omega
    · split
      · rw [List.length_cons]; have := rdif_len n (a :: A) B; omega
      · split
        · have := rdif_len n A B; omega
        · rw [List.length_cons]; have := rdif_len n A B; omega

theorem rd_next {A B : List (Nat × (Int × Int))} {i k : Nat} {D R : List (Nat × (Option (Int × Int) × Option (Int × Int)))} {had has : Bool}
    (hHad : (¬ k < B.length ∧ had = true) ∨ (k < B.length ∧ ¬ i < A.length ∧ had = false) ∨ (∃ (hi : i < A.length) (hk : k < B.length), had = decide (A[i].1 ≤ B[k].1)))
    (hHas : (¬ i < A.length ∧ has = true) ∨ (i < A.length ∧ ¬ k < B.length ∧ has = false) ∨ (∃ (hi : i < A.length) (hk : k < B.length), has = decide (B[k].1 ≤ A[i].1)))
    (hdn : i < A.length ∨ k < B.length) (hRn : ∃ n, (A.length - i) + (B.length - k) ≤ n ∧ R = D ++ rdif n (A.drop i) (B.drop k)) :
    (had = true ∧ has = false ∧ ∃ hi : i < A.length, ∃ n, (A.length - (i + 1)) + (B.length - k) ≤ n ∧ R = (D ++ [(A[i].1, (some A[i].2, none))]) ++ rdif n (A.drop (i + 1)) (B.drop k)) ∨
    (had = false ∧ has = true ∧ ∃ hk : k < B.length, ∃ n, (A.length - i) + (B.length - (k + 1)) ≤ n ∧ R = (D ++ [(B[k].1, (none, some B[k].2))]) ++ rdif n (A.drop i) (B.drop (k + 1))) ∨
    (had = true ∧ has = true ∧ ∃ (hi : i < A.length) (hk : k < B.length), A[i].1 = B[k].1 ∧
      ((A[i].2 = B[k].2 ∧ ∃ n, (A.length - (i + 1)) + (B.length - (k + 1)) ≤ n ∧ R = D ++ rdif n (A.drop (i + 1)) (B.drop (k + 1))) ∨
       (A[i].2 ≠ B[k].2 ∧ ∃ n, (A.length - (i + 1)) + (B.length - (k + 1)) ≤ n ∧ R = (D ++ [(A[i].1, (some A[i].2, some B[k].2))]) ++ rdif n (A.drop (i + 1)) (B.drop (k + 1))))) := by
  obtain ⟨n, hn, hR⟩ := hRn
  obtain ⟨n, rfl⟩ : ∃ n', n = n' + 1 := ⟨n - 1, by omega⟩
  by_cases hi : i < A.length
  · have eA : A.drop i = A[i] :: A.drop (i + 1) := (List.getElem_cons_drop hi).symm
    by_cases hk : k < B.length
    · have eB : B.drop k = B[k] :: B.drop (k + 1) := (List.getElem_cons_drop hk).symm
      have h1 : had = decide (A[i].1 ≤ B[k].1) := by
        rcases hHad with ⟨h, _⟩ | ⟨_, h, _⟩ | ⟨_, _, h⟩
        · exact absurd hk h
        · exact absurd hi h
        · exact h
      have h2 : has = decide (B[k].1 ≤ A[i].1) := by
        rcases hHas with ⟨h, _⟩ | ⟨_, h, _⟩ | ⟨_, _, h⟩
        · exact absurd hi h
        · exact absurd hk h
        · exact h
      rw [eA, eB, rdif] at hR
      by_cases c1 : A[i].1 < B[k].1
      · rw [if_pos c1] at hR
        refine .inl ⟨by rw [h1]; exact decide_eq_true (by omega), by rw [h2]; exact decide_eq_false (by omega), hi, n, by omega, ?_⟩
        rw [hR, ← eB]
        simp
      · rw [if_neg c1] at hR
        by_cases c2 : B[k].1 < A[i].1
        · rw [if_pos c2] at hR
          refine .inr (.inl ⟨by rw [h1]; exact decide_eq_false (by omega), by rw [h2]; exact decide_eq_true (by omega), hk, n, by omega, ?_⟩)
          rw [hR, ← eA]
          simp
        · rw [if_neg c2] at hR
          refine .inr (.inr ⟨by rw [h1]; exact decide_eq_true (by omega), by rw [h2]; exact decide_eq_true (by omega), hi, hk, by omega, ?_⟩)
          by_cases c3 : A[i].2 = B[k].2
          · rw [if_pos c3] at hR
            exact .inl ⟨c3, n, by omega, hR⟩
          · rw [if_neg c3] at hR
            exact .inr ⟨c3, n, by omega, by rw [hR]; simp⟩
    · have eB : B.drop k = [] := List.drop_eq_nil_of_le (by omega)
      have h1 : had = true := by
        rcases hHad with ⟨_, h⟩ | ⟨h, _, _⟩ | ⟨_, h, _⟩
        · exact h
        · exact absurd h hk
        · exact absurd h hk
      have h2 : has = false := by
        rcases hHas with ⟨h, _⟩ | ⟨_, _, h⟩ | ⟨_, h, _⟩
        · exact absurd hi h
        · exact h
        · exact absurd h hk
      rw [eA, eB, rdif] at hR
      refine .inl ⟨h1, h2, hi, n, by omega, ?_⟩
      rw [hR, eB]
      simp
  · have eA : A.drop i = [] := List.drop_eq_nil_of_le (by omega)
    have hk : k < B.length := hdn.resolve_left hi
    have eB : B.drop k = B[k] :: B.drop (k + 1) := (List.getElem_cons_drop hk).symm
    have h1 : had = false := by
      rcases hHad with ⟨h, _⟩ | ⟨_, _, h⟩ | ⟨h, _, _⟩
      · exact absurd hk h
      · exact h
      · exact absurd h hi
    have h2 : has = true := by
      rcases hHas with ⟨_, h⟩ | ⟨h, _, _⟩ | ⟨h, _, _⟩
      · exact h
      · exact absurd h hi
      · exact absurd h hi
    rw [eA, eB, rdif] at hR
    refine .inr (.inl ⟨h1, h2, hk, n, by omega, ?_⟩)
    rw [hR, eA]
    simp
theorem rd_end {A B : List (Nat × (Int × Int))} {i k : Nat} {D R : List (Nat × (Option (Int × Int) × Option (Int × Int)))} (hi : ¬ i < A.length) (hk : ¬ k < B.length) (hRn : ∃ n, (A.length - i) + (B.length - k) ≤ n ∧ R = D ++ rdif n (A.drop i) (B.drop k)) : R = D := by
  obtain ⟨n, -, hR⟩ := hRn
  rw [List.drop_eq_nil_of_le (by omega), List.drop_eq_nil_of_le (by omega)] at hR
  cases n with
  | zero => rw [hR, rdif]; simp
  | succ n => rw [hR, rdif]; simp

end Go.Proofs.Ytkojgbfocdefnaa

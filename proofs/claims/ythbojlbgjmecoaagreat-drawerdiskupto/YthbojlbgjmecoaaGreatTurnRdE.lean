import Derived.Test.YthbojlbgjmecoaaGreatJoin35
/- levyref19's disk: a file turns; changes, Sync, Read. -/
namespace Go.Proofs.YthbojlbgjmecoaaGreat.DJ
open Go.RowKit
set_option linter.constructorNameAsVariable false

theorem ffV_data : ∀ (L : List (Fl × Value)) (i : Nat) (h : i < L.length) (f : Fl) (x : Value), f.nm = L[i].1.nm → f.sure = L[i].1.sure → ffV (L.set i (f, x)) = (ffV L).set (i * 3 + 1) x
  | y :: L, 0, h, f, x, h1, h2 => by
    have h1 : f.nm = y.1.nm := h1
    have h2 : f.sure = y.1.sure := h2
    show [Value.string (strB f.nm), x, .int .i64 (f.sure : Int)] ++ ffV L = _
    rw [h1, h2]
    rfl
  | y :: L, i + 1, h, f, x, h1, h2 => by
    have := ffV_data L i (by simpa using h) f x h1 h2
    show [Value.string (strB y.1.nm), y.2, .int .i64 (y.1.sure : Int)] ++ ffV (L.set i (f, x)) = _
    rw [this, show (i + 1) * 3 + 1 = (i * 3 + 1) + 3 by omega]
    rfl
theorem ffV_sure : ∀ (L : List (Fl × Value)) (i : Nat) (h : i < L.length) (f : Fl), f.nm = L[i].1.nm → ffV (L.set i (f, L[i].2)) = (ffV L).set (i * 3 + 2) (.int .i64 (f.sure : Int))
  | y :: L, 0, h, f, h1 => by
    have h1 : f.nm = y.1.nm := h1
    show [Value.string (strB f.nm), y.2, .int .i64 (f.sure : Int)] ++ ffV L = _
    rw [h1]
    rfl
  | y :: L, i + 1, h, f, h1 => by
    have := ffV_sure L i (by simpa using h) f h1
    show [Value.string (strB y.1.nm), y.2, .int .i64 (y.1.sure : Int)] ++ ffV (L.set i (f, (L[i]'(by simpa using h)).2)) = _
    rw [this, show (i + 1) * 3 + 2 = (i * 3 + 2) + 3 by omega]
    rfl
theorem FfT.blk {w : World} {T : Nat → Prop} {g n c : Nat} {R : List Fl} (h : FfT w T (.slice (some ⟨g, 0, none⟩) n c) R) : T g := h.own g rfl
theorem FfT.dataF {w : World} {T : Nat → Prop} {g n c : Nat} {R : List Fl} (h : FfT w T (.slice (some ⟨g, 0, none⟩) n c) R) {i : Nat} (hi : i < R.length) {f : Fl} {x : Value} (h1 : f.nm = R[i].nm) (h2 : f.sure = R[i].sure) (hb : ∀ y ∈ f.dat, y < 256) (ho : w.ownsRow 0 5 1 x f.dat.length (bysV f.dat)) (hT : ∀ k, x.ownBlock = some k → T k) : FfT (w.setCell ⟨g, i * 3 + 1, none⟩ x) T (.slice (some ⟨g, 0, none⟩) n c) (R.set i f) := by
  obtain ⟨⟨L, rfl, h3, h4⟩, h5⟩ := h
  have hi' : i < L.length := by simpa using hi
  have hn : n = (L.map Prod.fst).length := by
    obtain ⟨q1, ⟨e, hn⟩ | ⟨g', cap, cur, e, hb, r, -⟩⟩ := h3
    · cases e
    · injection e with _ e _
  subst hn
  obtain ⟨k1, k2⟩ := h3.stored (i * 3 + 1) x
  have hG := GrS.of_grown (S := fun z => z = g) k2 rfl
  have tag : ∀ (z : Nat) (cs : Array Value), w.heap[z]? = some (.cells cs 5 (0, 0)) → ¬ z = g := fun z cs hc e => by
    obtain ⟨-, cs', r⟩ := own_rowT h3 (g := g) rfl
    rw [e, r] at hc
    injection hc with hc
    injection hc with _ hc _
    exact absurd hc (by decide)
  refine ⟨⟨L.set i (f, x), ?_, ?_, fun y hy => ?_⟩, h5⟩
  · rw [List.map_set]
  · rw [List.length_set, ffV_data L i hi' f x (by rw [h1, List.getElem_map]) (by rw [h2, List.getElem_map])]
    exact k1
  · rcases List.mem_or_eq_of_mem_set hy with hy | rfl
    · exact ⟨(h4 y hy).1.grS hG (fun z cs _ hc => tag z cs hc), (h4 y hy).2⟩
    · exact ⟨FfB.grS ⟨hb, ho⟩ hG (fun z cs _ hc => tag z cs hc), hT⟩
theorem FfT.sureF {w : World} {T : Nat → Prop} {g n c : Nat} {R : List Fl} (h : FfT w T (.slice (some ⟨g, 0, none⟩) n c) R) {i : Nat} (hi : i < R.length) {f : Fl} (h1 : f.nm = R[i].nm) (h2 : f.dat = R[i].dat) : FfT (w.setCell ⟨g, i * 3 + 2, none⟩ (.int .i64 (f.sure : Int))) T (.slice (some ⟨g, 0, none⟩) n c) (R.set i f) := by
  obtain ⟨⟨L, rfl, h3, h4⟩, h5⟩ := h
  have hi' : i < L.length := by simpa using hi
  have hn : n = (L.map Prod.fst).length := by
    obtain ⟨q1, ⟨e, hn⟩ | ⟨g', cap, cur, e, hb, r, -⟩⟩ := h3
    · cases e
    · injection e with _ e _
  subst hn
  obtain ⟨k1, k2⟩ := h3.stored (i * 3 + 2) (.int .i64 (f.sure : Int))
  have hG := GrS.of_grown (S := fun z => z = g) k2 rfl
  have tag : ∀ (z : Nat) (cs : Array Value), w.heap[z]? = some (.cells cs 5 (0, 0)) → ¬ z = g := fun z cs hc e => by
    obtain ⟨-, cs', r⟩ := own_rowT h3 (g := g) rfl
    rw [e, r] at hc
    injection hc with hc
    injection hc with _ hc _
    exact absurd hc (by decide)
  have hx := h4 L[i] (List.getElem_mem hi')
  rw [List.getElem_map] at h1 h2
  refine ⟨⟨L.set i (f, L[i].2), ?_, ?_, fun y hy => ?_⟩, h5⟩
  · rw [List.map_set]
  · rw [List.length_set, ffV_sure L i hi' f h1]
    exact k1
  · rcases List.mem_or_eq_of_mem_set hy with hy | rfl
    · exact ⟨(h4 y hy).1.grS hG (fun z cs _ hc => tag z cs hc), (h4 y hy).2⟩
    · refine ⟨FfB.grS ⟨?_, ?_⟩ hG (fun z cs _ hc => tag z cs hc), hx.2⟩
      · show ∀ y ∈ f.dat, y < 256
        rw [h2]
        exact hx.1.byt
      · show w.ownsRow 0 5 1 L[i].2 f.dat.length (bysV f.dat)
        rw [h2]
        exact hx.1.own
/-- The files have turned; the disk's own row is as it was. -/
theorem RdAt.files {T T' : Nat → Prop} {w w' : World} {rb : Nat} {d : Dk} {fs : List Fl} {v : Value} (h : RdAt w T rb d) (hok : Ok { d with fs := fs }) (hrow : w'.heap[rb]? = some (rdRow v d)) (hF : FfT w' T' v fs) (hT : T' rb) (hhi : ∀ k, T' k → k < w'.heap.size) : RdAt w' T' rb { d with fs := fs } :=
  ⟨hok, h.rigs.same rfl rfl rfl rfl, ⟨v, by rw [hrow]; rfl, hF⟩, hT, hhi⟩
theorem FfT.frz {w : World} {T : Nat → Prop} {g n c : Nat} {R : List Fl} (h : FfT w T (.slice (some ⟨g, 0, none⟩) n c) R) : ∀ j, w.frozen? ⟨g, j, none⟩ = false := by
  obtain ⟨⟨L, h1, h2, h3⟩, h4⟩ := h
  obtain ⟨-, cs, r⟩ := own_rowT h2 (g := g) rfl
  exact fun j => frozen_of_row _ _ j _ _ r
/-- The row of the files is not the disk's own. -/
theorem FfT.neR {w : World} {T : Nat → Prop} {g n c rb : Nat} {R : List Fl} {v : Value} {d : Dk} (h : FfT w T (.slice (some ⟨g, 0, none⟩) n c) R) (hr : w.heap[rb]? = some (rdRow v d)) : g ≠ rb := by
  obtain ⟨⟨L, h1, h2, h3⟩, h4⟩ := h
  obtain ⟨-, cs, r⟩ := own_rowT h2 (g := g) rfl
  rintro rfl
  rw [r] at hr
  unfold rdRow at hr
  injection hr with hr
  injection hr with _ hr _
  exact absurd hr (by decide)
/-- What Sync, Trim and Remove have in common: the place and the error. -/
def chgD (d : Dk) (nm : List Nat) : Nat × Nat × Dk :=
  if (first d nm).1 ≠ 0 then (0, (first d nm).1, (first d nm).2)
  else if get d.fs nm = none then (0, 193, (first d nm).2)
  else match pays (first d nm).2 1 with
    | (none, c) => (plc d.fs nm, 0, c)
    | (some _, c) => (0, 190, c)
theorem chgD_fs (d : Dk) (nm : List Nat) : (chgD d nm).2.2.fs = d.fs := by
  unfold chgD
  split
  · exact first_fs d nm
  split
  · exact first_fs d nm
  · have := pays_fs (first d nm).2 1
    cases h : pays (first d nm).2 1 with
    | mk o c =>
      rw [h] at this
      cases o <;> exact this.trans (first_fs d nm)
theorem chgD_changes (d : Dk) (nm : List Nat) (g : List Fl → List Fl) : changes d nm g = if (chgD d nm).2.1 = 0 then (0, { (chgD d nm).2.2 with fs := g d.fs }) else ((chgD d nm).2.1, (chgD d nm).2.2) := by
  unfold changes chgD
  by_cases h1 : (first d nm).1 ≠ 0
  · rw [if_pos h1, if_pos h1, if_neg h1]
  rw [if_neg h1, if_neg h1]
  by_cases h2 : get d.fs nm = none
  · rw [if_pos h2, if_pos h2]
    rfl
  rw [if_neg h2, if_neg h2]
  cases h : pays (first d nm).2 1 with
  | mk o c => cases o <;> rfl
theorem chgD_ok {d : Dk} (hs : Srt d.fs) {nm : List Nat} (h : (chgD d nm).2.1 = 0) : (chgD d nm).1 = plc d.fs nm ∧ ∃ hp : plc d.fs nm < d.fs.length, (d.fs[plc d.fs nm]'hp).nm = nm := by
  unfold chgD at h ⊢
  by_cases h1 : (first d nm).1 ≠ 0
  · rw [if_pos h1] at h
    exact absurd h h1
  rw [if_neg h1] at h ⊢
  by_cases h2 : get d.fs nm = none
  · rw [if_pos h2] at h
    cases h
  rw [if_neg h2] at h ⊢
  cases hg : get d.fs nm with
  | none => exact absurd hg h2
  | some f =>
    obtain ⟨hp, he⟩ := get_plc hs hg
    refine ⟨?_, hp, by rw [he]; exact (get_some hg).2⟩
    cases hq : pays (first d nm).2 1 with
    | mk o c =>
      rw [hq] at h
      cases o with
      | none => rfl
      | some n => cases h
set_option maxRecDepth 4000 in
set_option maxHeartbeats 1000000 in
theorem rchanges_any {T : Nat → Prop} {rb : Nat} {d : Dk} {nm : List Nat} (hl : nm.length ≤ 4294967296) (hb : ∀ x ∈ nm, x < 256) (w : World) (h : RdAt w T rb d) : Calls Tryz.prog 73 #[.pointer (some ⟨rb, 0, none⟩), .string (strB nm)] w fun e w' => e = .returned (.tuple #[.int .i64 ((chgD d nm).1 : Int), .int .i64 ((chgD d nm).2.1 : Int)]) ∧ RdAt w' T rb (chgD d nm).2.2 ∧ GrS (fun k => k = rb) w w' := by
  have hfi := rfirst_any hl hb w h
  obtain ⟨q, hq⟩ : ∃ q, chgD d nm = q := ⟨_, rfl⟩
  rw [hq]
  unfold chgD at hq
  have hfs := first_fs d nm
  obtain ⟨⟨c1, d1⟩, hf⟩ : ∃ r, first d nm = r := ⟨_, rfl⟩
  rw [hf] at hfi hq hfs
  simp only at hfi hq hfs
  by_cases hc : c1 ≠ 0
  · rw [if_pos hc] at hq
    subst hq
    have hc' : ((c1 : Int) != 0) = true := by simp; omega
    clear hc hf
    go_enter Tryz.func73, Tryz.ntmps73
    go_wp2_with (go_at_call 69; refine hfi.mono ?_; rintro e w1 ⟨rfl, h1, g1⟩; replace h1 := Hid.mk h1; replace g1 := Hid.mk g1)
    refine bodyPost_ret (v := .tuple #[.int .i64 0, .int .i64 (c1 : Int)]) (by simp [results, Tryz.results73, go_sem]) rfl ?_
    exact ⟨rfl, h1.out, g1.out⟩
  have hc0 : c1 = 0 := by omega
  subst hc0
  rw [if_neg hc] at hq
  have hsz : d1.fs = d.fs := hfs
  cases hg : get d.fs nm with
  | none =>
    rw [if_pos hg] at hq
    subst hq
    clear hc hf
    go_enter Tryz.func73, Tryz.ntmps73
    go_wp2_with (first | (go_at_call 69; refine hfi.mono ?_; rintro e w1 ⟨rfl, h1, g1⟩; have hpl1 := place_any hb w1 h1; rw [hsz, hg] at hpl1; replace h1 := Hid.mk h1; replace g1 := Hid.mk g1) | (go_at_call 38; refine hpl1.mono ?_; rintro e w2 ⟨rfl, hb2⟩; have h2 := Hid.mk (h1.out.later hb2); have g2 := Hid.mk (g1.out.trans (GrS.of_below hb2))))
    refine bodyPost_ret (v := .tuple #[.int .i64 0, .int .i64 193]) (by simp [results, Tryz.results73, go_sem]) rfl ?_
    exact ⟨rfl, h2.out, g2.out⟩
  | some f =>
    rw [if_neg (by rw [hg]; exact fun h => by cases h)] at hq
    cases hp : pays d1 1 with
    | mk o c =>
      rw [hp] at hq
      clear hc hf
      cases o with
      | none =>
        simp only at hq
        subst hq
        obtain ⟨k, hk⟩ : ∃ k, plc d.fs nm = k := ⟨_, rfl⟩
        rw [hk]
        go_enter Tryz.func73, Tryz.ntmps73
        go_wp2_with (first | (go_at_call 69; refine hfi.mono ?_; rintro e w1 ⟨rfl, h1, g1⟩; have hpl1 := place_any hb w1 h1; rw [hsz, hg, hk] at hpl1; replace h1 := Hid.mk h1; replace g1 := Hid.mk g1) | (go_at_call 38; refine hpl1.mono ?_; rintro e w2 ⟨rfl, hb2⟩; have g2 := Hid.mk (g1.out.trans (GrS.of_below hb2)); have hpy := rpays_any (c := 1) (by decide) w2 (h1.out.later hb2); rw [hp] at hpy; simp only [paysV] at hpy) | (go_at_call 70; refine hpy.mono ?_; rintro e w3 ⟨rfl, h3, g3⟩; replace h3 := Hid.mk h3; replace g3 := Hid.mk (g2.out.trans g3)))
        refine bodyPost_ret (v := .tuple #[.int .i64 (k : Int), .int .i64 0]) (by simp [results, Tryz.results73, go_sem]) rfl ?_
        exact ⟨rfl, h3.out, g3.out⟩
      | some u =>
        simp only at hq
        subst hq
        go_enter Tryz.func73, Tryz.ntmps73
        go_wp2_with (first | (go_at_call 69; refine hfi.mono ?_; rintro e w1 ⟨rfl, h1, g1⟩; have hpl1 := place_any hb w1 h1; rw [hsz, hg] at hpl1; replace h1 := Hid.mk h1; replace g1 := Hid.mk g1) | (go_at_call 38; refine hpl1.mono ?_; rintro e w2 ⟨rfl, hb2⟩; have g2 := Hid.mk (g1.out.trans (GrS.of_below hb2)); have hpy := rpays_any (c := 1) (by decide) w2 (h1.out.later hb2); rw [hp] at hpy; simp only [paysV] at hpy) | (go_at_call 70; refine hpy.mono ?_; rintro e w3 ⟨rfl, h3, g3⟩; replace h3 := Hid.mk h3; replace g3 := Hid.mk (g2.out.trans g3)))
        refine bodyPost_ret (v := .tuple #[.int .i64 0, .int .i64 190]) (by simp [results, Tryz.results73, go_sem]) rfl ?_
        exact ⟨rfl, h3.out, g3.out⟩
end Go.Proofs.YthbojlbgjmecoaaGreat.DJ

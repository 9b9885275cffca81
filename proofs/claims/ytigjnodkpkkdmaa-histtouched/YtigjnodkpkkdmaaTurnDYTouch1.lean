import Derived.Test.YtigjnodkpkkdmaaTurnDYTouch
namespace Go.Proofs.Ytigjnodkpkkdmaa
open Go.RowKit Go.Shelf
attribute [local go_sem] Oper.semAt_some

theorem offK_set {n j k o : Nat} {X : World} {v : Value} (h : offK n j X) (hk : offK n k X) : offK n j (X.setCell ⟨k, o, none⟩ v) := by
  obtain ⟨k0, k1, k2, k3, k4⟩ := h
  refine ⟨k0, k1, k2, k3, fun u hu => k4 u ?_⟩
  rw [World.cell?_setCell_other _ _ _ _ (by simp; exact fun e => absurd e hk.2.1)] at hu
  exact hu
theorem tI_step {W0 : World} {B YB : Nat} (hB : W0.heap.size ≤ B) {pre : List Ch} {X Y : World} (h : tI W0 YB pre X) (hs : StepB B X Y) : tI W0 YB pre Y :=
  ⟨h.1.step hs, (hs.mono hB).below h.2.1 h.2.1.size, block_stepB h.2.2.1 hs, h.2.2.2.1, h.1.offStep h.2.2.2.2 hs⟩
theorem tI_set {W0 : World} {B YB : Nat} (hB : W0.heap.size ≤ B) (hY : YB < B) {pre : List Ch} {X : World} {k o : Nat} {v : Value} (h : tI W0 YB pre X) (hk : offK W0.heap.size k X) (hl : B ≤ k) : tI W0 YB pre (X.setCell ⟨k, o, none⟩ v) :=
  ⟨h.1.set hk o v, h.2.1.setCell (p := ⟨k, o, none⟩) (Nat.le_trans hB hl) v, (Below.heap_setCell _ _ _ YB (by simp; omega)).trans h.2.2.1, h.2.2.2.1, offK_set h.2.2.2.2 hk⟩
theorem tFull_step {W0 : World} {B : Nat} (hB : W0.heap.size ≤ B) {pre : List Ch} {X Y : World} (h : tFull W0 pre X) (hs : StepB B X Y) : tFull W0 pre Y := by
  obtain ⟨h1, h2, uv, h3⟩ := h
  exact ⟨h1, (hs.mono hB).below h2 h2.size, uv, block_stepB h3 hs⟩
theorem tFull_set {W0 : World} {B : Nat} (hB : W0.heap.size ≤ B) {pre : List Ch} {X : World} {k o : Nat} {v : Value} (h : tFull W0 pre X) (hk : offK W0.heap.size k X) (hl : B ≤ k) : tFull W0 pre (X.setCell ⟨k, o, none⟩ v) := by
  obtain ⟨h1, h2, uv, h3⟩ := h
  exact ⟨h1, h2.setCell (p := ⟨k, o, none⟩) (Nat.le_trans hB hl) v, uv, (Below.heap_setCell _ _ _ (W0.heap.size + 1) (Ne.symm hk.2.1)).trans h3⟩
theorem tFull_off {W0 : World} {B : Nat} {pre : List Ch} {X Y : World} {k : Nat} (h : tFull W0 pre X) (hk : offK W0.heap.size k X) (hs : StepB B X Y) : offK W0.heap.size k Y := by
  obtain ⟨h1, h2, uv, h3⟩ := h
  obtain ⟨k0, k1, k2, k3, k4⟩ := hk
  have hc : X.cell? ⟨W0.heap.size + 1, 0, none⟩ = some uv := cell_of_row _ _ 0 _ _ _ h3
  have hc2 : Y.cell? ⟨W0.heap.size + 1, 0, none⟩ = some uv := cell_of_row _ _ 0 _ _ _ (block_stepB h3 hs)
  refine ⟨k0, k1, k2, k3, fun v hv => ?_⟩
  rw [hc2] at hv
  obtain rfl := Option.some.inj hv
  exact k4 _ hc

set_option maxRecDepth 4000 in
set_option maxHeartbeats 4000000 in
theorem touched1_some (W0 : World) (hb g cap : Nat) (vs : Nat → Nat) (Ls : List Es) (p i j c1 c2 c3 : Nat) (hX : HistX W0 hb g cap vs Ls p) (hi : i < Ls.length) (hj : j < Ls.length) (ta tb : Tr) (hta : MapT W0 (vs i) ta) (htb : MapT W0 (vs j) tb) (hlen : (ta.dif tb 7 0).length < 2000)
    (hc1 : W0.cell? ⟨c1, 0, none⟩ = some (.pointer (some ⟨hb, 0, none⟩))) (hc2 : W0.cell? ⟨c2, 0, none⟩ = some (.int .i64 ((i : Int) - (p : Int)))) (hc3 : W0.cell? ⟨c3, 0, none⟩ = some (.int .i64 ((j : Int) - (p : Int)))) (hcl : c1 < W0.heap.size ∧ c2 < W0.heap.size ∧ c3 < W0.heap.size) (w : World) (hB : Below W0.heap.size W0 w) (hK : KAt w W0.heap.size []) :
    Calls Try.prog 33 #[klV W0.heap.size, .pointer (some ⟨c1, 0, none⟩), .pointer (some ⟨c2, 0, none⟩), .pointer (some ⟨c3, 0, none⟩)] w (tuP W0 ((ta.dif tb 7 0).map (·.1))) := by
  have ha1 := (Below.refl w.heap.size w).alloc (Nat.le_refl _) (.cells #[klV W0.heap.size] 81)
  have hyb := heap_alloc_last w (.cells #[klV W0.heap.size] 81)
  have hKa := hK.later ha1
  have hBa := below_step hB ha1
  have hV : ∀ q, q < Ls.length → ∀ X, Below W0.heap.size W0 X → Calls Try.prog 34 #[.pointer (some ⟨hb, 0, none⟩), .int .i64 ((q : Int) - (p : Int))] X fun e w' => e = .returned (.pointer (some ⟨vs q, 0, none⟩)) ∧ Below X.heap.size X w' := fun q hq X hBX => version_at hb g cap vs Ls p q hq X (hX.later hBX)
  have hS : ∀ X, Below W0.heap.size W0 X → X.cell? ⟨c1, 0, none⟩ = some (.pointer (some ⟨hb, 0, none⟩)) ∧ X.cell? ⟨c2, 0, none⟩ = some (.int .i64 ((i : Int) - (p : Int))) ∧ X.cell? ⟨c3, 0, none⟩ = some (.int .i64 ((j : Int) - (p : Int))) := fun X hX' => ⟨(hX'.cell (p := ⟨c1, 0, none⟩) hcl.1).trans hc1, (hX'.cell (p := ⟨c2, 0, none⟩) hcl.2.1).trans hc2, (hX'.cell (p := ⟨c3, 0, none⟩) hcl.2.2).trans hc3⟩
  unfold klV at ha1 hyb hKa hBa ⊢
  generalize hbs : (#[.pointer (some ⟨W0.heap.size + 2, 0, none⟩), .pointer (some ⟨W0.heap.size + 3, 0, none⟩), .pointer (some ⟨W0.heap.size + 1, 0, none⟩), .pointer (some ⟨W0.heap.size, 0, none⟩)] : Array Value) = bs at *
  refine (callsIn_wide (n := 6)).1 ?_
  refine callsIn_of_wp_marks Try.func33 rfl trivial ?_ rfl
  simp only [Try.ntmps33, List.size_toArray, List.length_cons, List.length_nil, Nat.reduceAdd, Nat.reduceSub, Array.replicate_succ, Array.replicate_zero, List.push_toArray, List.append_toArray, List.nil_append, List.cons_append]
  refine wpIn_wide.2 ?_
  go_upto_region 1 with fail
  generalize hwa : w.alloc (.cells #[.func (.func 32) #[] bs] 81) = wa at *
  have hBD := hBa.drew
  have hsD := hS _ hBD
  clear hX hc1 hc2 hc3
  go_region_held3 (fun X => X.cell? ⟨c1, 0, none⟩ = some (.pointer (some ⟨hb, 0, none⟩)) ∧ X.cell? ⟨c2, 0, none⟩ = some (.int .i64 ((i : Int) - (p : Int))) ∧ X.cell? ⟨c3, 0, none⟩ = some (.int .i64 ((j : Int) - (p : Int)))) (with_reducible assumption)
    (first | (go_at_call 34; refine (hV _ (by first | exact hi | exact hj) _ (by first | exact hB3 | exact hBD)).mono ?_; rintro e wv ⟨rfl, hbv⟩; first | (have hB4 := below_step hB3 hbv; have s4 := hS _ hB4; have hb34 := hbv) | (have hB3 := below_step hBD hbv; have s3 := hS _ hB3; have hbD3 := hbv)))
  go_wp2_with (go_at_call 35; refine (diff_iter _ _ _).mono ?_; rintro e w5 ⟨rfl, hD5, hb5⟩)
  have hB5 := below_step hB4 hb5
  have hA5 := hta.later hB5
  have hC5 := htb.later hB5
  have hba5 := below_step (below_step (below_step (Below.refl wa.heap.size wa).drew hbD3) hb34) hb5
  have hwl : w.heap.size < wa.heap.size := (Array.getElem?_eq_some_iff.1 hyb).1
  have hw5 := hba5.size
  have hkl : klV W0.heap.size = .func (.func 32) #[] bs := by unfold klV; rw [hbs]
  have hI0 : tI W0 w.heap.size [] w5 := ⟨hKa.later hba5, hB5, by rw [hkl]; exact (hba5.block _ hwl).trans hyb, by simp, hKa.offStep (hK.offStep (hK.new (Nat.le_refl _)) (stepB_below 0 ha1)) (stepB_below 0 hba5)⟩
  clear hbD3 hb34 hbv s3 s4 hsD hBD hV hS hB3 hB4 hi hj ha1 hyb hKa hBa hwa hcl hK hB
  refine (wpIn_wide (n := 6)).1 ?_
  refine range_diff wv.heap.size (vs i) (vs j) ta tb _ rfl rfl rfl (tI W0 w.heap.size) (tFull W0) (offK W0.heap.size) (fun pre X Y h hs => tI_step hB5.size h hs) (fun pre X Y h hs => tFull_step hB5.size h hs) (fun pre X k o v h hk hl => tI_set hB5.size (by omega) h hk hl) (fun pre X k o v h hk hl => tFull_set hB5.size h hk hl)
    (fun pre X k h hk => h.1.new hk) (fun pre X Y k h hk hs => h.1.offStep hk hs) (fun pre X Y k h hk hs => tFull_off h hk hs) (fun pre X h => ⟨(hta.later h.2.1).2.2.2.1, (htb.later h.2.1).2.2.2.1⟩) (fun pre X h => ⟨(hta.later h.2.1).2.2.2.1, (htb.later h.2.1).2.2.2.1⟩) hD5 hA5 hC5 hI0
    (fun x a' X => ∃ vb, a' = { tmps := #[Value.func (.func 32) #[] bs, .pointer (some ⟨c1, 0, none⟩), .pointer (some ⟨c2, 0, none⟩), .pointer (some ⟨c3, 0, none⟩), .pointer (some ⟨w.heap.size, 0, none⟩), .pointer (some ⟨vs i, 0, none⟩), .pointer (some ⟨vs j, 0, none⟩), .pointer (some ⟨vb, 0, none⟩), .pointer (some ⟨hb, 0, none⟩), .int .i64 ((i : Int) - (p : Int)), .pointer (some ⟨vs i, 0, none⟩), .pointer (some ⟨hb, 0, none⟩), .int .i64 ((j : Int) - (p : Int)), .pointer (some ⟨vs j, 0, none⟩), .pointer (some ⟨vs i, 0, none⟩), .bool false, .bool false, .pointer (some ⟨vs j, 0, none⟩), .bool false, .bool false, .pointer (some ⟨vs i, 0, none⟩), .pointer (some ⟨vs j, 0, none⟩), diffV wv.heap.size, chV x, undef, undef, undef, undef, undef], defers := [] } ∧ X.cell? ⟨vb, 0, none⟩ = some (.int .u32 (x.1 : Int)))
    (fun x a' X Y ⟨vb, h1, h2⟩ hs => ⟨vb, h1, cell_stepB h2 hs⟩) ?assign ?body ?done ?stop
  case assign =>
    intro l' pre x W K hIW hK'
    unfold chV
    gi_wp2
    exact hK' _ _ ((Below.refl _ _).alloc (Nat.le_refl _) _) ⟨W.heap.size, rfl, by simp⟩
  case body =>
    rintro l' pre x a' W hIW ⟨vb, rfl, v0⟩
    subst hbs
    have c0 : W.cell? ⟨w.heap.size, 0, none⟩ = some (klV W0.heap.size) := cell_of_row _ _ 0 _ _ _ hIW.2.2.1
    have hyl := (Array.getElem?_eq_some_iff.1 hIW.2.2.1).1
    have hYo : offK W0.heap.size w.heap.size W := hIW.2.2.2.2
    unfold klV at c0
    clear hI0 hkl hta htb hlen hA5 hC5 hD5
    have hlen := hIW.2.2.2.1
    by_cases hf : pre.length < 3999
    · have hcl := keyList1_any W0.heap.size (pre.map (·.1)) (by simpa using hf) x.1 W hIW.1
      gi_wp2_with (gi_at_call 32; fail)
      refine ⟨trivial, (CallsIn.inRound l' (callsIn_wide.2 hcl)).mono ?_⟩
      rintro e X ⟨rfl, hK1, hb1, hKO, hoff⟩
      obtain ⟨o1, o2⟩ := hoff _ hYo hyl
      gi_wp2
      exact ⟨hKO.from _, hoff, by rw [List.map_append]; exact hK1, hIW.2.1.trans hb1, o1.trans hIW.2.2.1, by simp; omega, o2⟩
    · have hcl := keyList1_full W0.heap.size (pre.map (·.1)) (by simpa using hf) (by simpa using hlen) x.1 W hIW.1
      gi_wp2_with (gi_at_call 32; fail)
      refine ⟨trivial, (CallsIn.inRound l' (callsIn_wide.2 hcl)).mono ?_⟩
      rintro e X ⟨rfl, hK1, hb1, hKO, hoff⟩
      gi_wp2
      exact ⟨hKO.from _, hoff, by simp; omega, hIW.2.1.trans hb1, hK1⟩
  case done =>
    intro R W hR hIW hdef
    have hst := stepB_put (B := w5.heap.size) (.deferred none) hR hdef rfl
    have hI2 := tI_step hB5.size hIW hst
    gi_wp2
    refine ⟨by simp, .inl ⟨_, _, rfl, run_takeDeferred hdef, ?_⟩⟩
    exact ⟨.tuple #[], by simp [results, Try.results33, go_sem], rfl, hI2.1, hI2.2.1⟩
  case stop =>
    intro R pre W hR hpre hIW hdef
    have h1 := hIW.1
    have h2 := hpre.length_le
    omega

end Go.Proofs.Ytigjnodkpkkdmaa

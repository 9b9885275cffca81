import Derived.Test.YtigjnodkpkkdmaaTurnDYTouch1
import Derived.Test.YtigjnodkpkkdmaaHKnown
namespace Go.Proofs.Ytigjnodkpkkdmaa
open Go.RowKit Go.Shelf

def touV (c1 c2 c3 : Nat) : Value := .func (.func 33) #[] #[.pointer (some ⟨c1, 0, none⟩), .pointer (some ⟨c2, 0, none⟩), .pointer (some ⟨c3, 0, none⟩)]
/-- What Touched's closure has caught. -/
def TouAt (W : World) (n hb : Nat) (a b : Int) : Prop := W.cell? ⟨n, 0, none⟩ = some (.pointer (some ⟨hb, 0, none⟩)) ∧ W.cell? ⟨n + 1, 0, none⟩ = some (.int .i64 a) ∧ W.cell? ⟨n + 1 + 1, 0, none⟩ = some (.int .i64 b) ∧ n < W.heap.size ∧ n + 1 < W.heap.size ∧ n + 1 + 1 < W.heap.size
theorem TouAt.later {W W' : World} {n hb : Nat} {a b : Int} (h : TouAt W n hb a b) (hB : Below W.heap.size W W') : TouAt W' n hb a b :=
  ⟨(hB.cell (p := ⟨n, 0, none⟩) h.2.2.2.1).trans h.1, (hB.cell (p := ⟨n + 1, 0, none⟩) h.2.2.2.2.1).trans h.2.1, (hB.cell (p := ⟨n + 1 + 1, 0, none⟩) h.2.2.2.2.2).trans h.2.2.1, Nat.lt_of_lt_of_le h.2.2.2.1 hB.size, Nat.lt_of_lt_of_le h.2.2.2.2.1 hB.size, Nat.lt_of_lt_of_le h.2.2.2.2.2 hB.size⟩

set_option maxRecDepth 4000 in
set_option maxHeartbeats 2000000 in
theorem touched_any (hb : Nat) (a b : Int) (w : World) : Calls Try.prog 23 #[.pointer (some ⟨hb, 0, none⟩), .int .i64 a, .int .i64 b] w fun e w' => e = .returned (touV w.heap.size (w.heap.size + 1) (w.heap.size + 1 + 1)) ∧ TouAt w' w.heap.size hb a b ∧ Below w.heap.size w w' := by
  go_enter Try.func23, Try.ntmps23
  go_wp2
  go_ret
  have r1 := heap_alloc_last w (.cells #[.pointer (some ⟨hb, 0, none⟩)] 24)
  have r2 := heap_alloc_last (w.alloc (.cells #[.pointer (some ⟨hb, 0, none⟩)] 24)) (.cells #[.int .i64 a] 3)
  have r3 := heap_alloc_last ((w.alloc (.cells #[.pointer (some ⟨hb, 0, none⟩)] 24)).alloc (.cells #[.int .i64 a] 3)) (.cells #[.int .i64 b] 3)
  rw [World.size_alloc] at r2
  rw [World.size_alloc, World.size_alloc] at r3
  have q2 := (Below.heap_alloc ((w.alloc (.cells #[.pointer (some ⟨hb, 0, none⟩)] 24)).alloc (.cells #[.int .i64 a] 3)) (.cells #[.int .i64 b] 3) (w.heap.size + 1) (by simp)).trans r2
  have q1 := (Below.heap_alloc ((w.alloc (.cells #[.pointer (some ⟨hb, 0, none⟩)] 24)).alloc (.cells #[.int .i64 a] 3)) (.cells #[.int .i64 b] 3) w.heap.size (by simp; omega)).trans ((Below.heap_alloc _ _ _ (by simp)).trans r1)
  refine ⟨rfl, ⟨cell_of_row _ _ 0 _ _ _ q1, cell_of_row _ _ 0 _ _ _ q2, cell_of_row _ _ 0 _ _ _ r3, by simp; omega, by simp, by simp⟩, (((Below.refl _ _).alloc (Nat.le_refl _) _).alloc (by simp) _).alloc (by simp; omega) _⟩

/-- A row of keys. -/
def KsAt (W : World) (v : Value) (ks : List Nat) : Prop := ∃ a cap, v = .slice a ks.length cap ∧ (ks = [] ∨ ∃ g, a = some ⟨g, 0, none⟩ ∧ g < W.heap.size ∧ ∀ i (h : i < ks.length), W.cell? ⟨g, i, none⟩ = some (.int .u32 (ks[i] : Int)))
theorem KsAt.later {W W' : World} {v : Value} {ks : List Nat} (h : KsAt W v ks) (hb : Below W.heap.size W W') : KsAt W' v ks := by
  obtain ⟨a, cap, rfl, h | ⟨g, rfl, hg, hc⟩⟩ := h
  · exact ⟨a, cap, rfl, .inl h⟩
  · exact ⟨_, cap, rfl, .inr ⟨g, rfl, Nat.lt_of_lt_of_le hg hb.size, fun i hi => (hb.cell (p := ⟨g, i, none⟩) hg).trans (hc i hi)⟩⟩
theorem ks_of_own {W : World} {base : Nat} {uv : Value} {ks : List Nat} (h : W.ownsRow base 41 1 uv ks.length (keysV ks)) : KsAt W uv ks := by
  have h' := h
  obtain ⟨_, ⟨e, h0⟩ | ⟨g, cap, cur, rfl, _⟩⟩ := h
  · exact ⟨none, 0, by rw [e, h0], .inl (List.length_eq_zero_iff.1 h0)⟩
  · refine ⟨_, cap, rfl, .inr ⟨g, rfl, (h'.lt g rfl).2, fun i hi => ?_⟩⟩
    rw [h'.cellAt i (by omega)]
    unfold keysV
    rw [List.getElem?_map, List.getElem?_eq_getElem hi]
    rfl
def ksP (w : World) (ks : List Nat) (e : Ending) (w' : World) : Prop := ∃ ea ec, e = .returned (.tuple #[.slice ea ks.length ec, .bool true]) ∧ KsAt w' (.slice ea ks.length ec) ks ∧ Below w.heap.size w w'

set_option maxRecDepth 4000 in
set_option maxHeartbeats 2000000 in
theorem keyList_of (c1 c2 c3 : Nat) (ks : List Nat) (w : World) (hcall : ∀ w1, Below w.heap.size w w1 → KAt w1 w.heap.size [] → Calls Try.prog 33 #[klV w.heap.size, .pointer (some ⟨c1, 0, none⟩), .pointer (some ⟨c2, 0, none⟩), .pointer (some ⟨c3, 0, none⟩)] w1 (tuP w ks)) :
    Calls Try.prog 22 #[touV c1 c2 c3, .int .i64 0] w (ksP w ks) := by
  unfold touV
  unfold klV at hcall
  have hnil : ∀ W : World, (binOp BinOp.eql 68 (.func (.func 33) #[] #[.pointer (some ⟨c1, 0, none⟩), .pointer (some ⟨c2, 0, none⟩), .pointer (some ⟨c3, 0, none⟩)]) .nilFunc).run Try.prog W = .ok (.bool false) W := fun _ => rfl
  go_enter Try.func22, Try.ntmps22
  go_wp2_with (go_at_call 33; fail)
  have r0 := heap_alloc_last w (.cells #[.int .i64 0] 3)
  have r1 := heap_alloc_last (w.alloc (.cells #[.int .i64 0] 3)) (.cells #[.slice none 0 0] 33)
  have r2 := heap_alloc_last ((w.alloc (.cells #[.int .i64 0] 3)).alloc (.cells #[.slice none 0 0] 33)) (.cells #[.bool false] 4)
  have r3 := heap_alloc_last (((w.alloc (.cells #[.int .i64 0] 3)).alloc (.cells #[.slice none 0 0] 33)).alloc (.cells #[.bool false] 4)) (.cells #[.bool true] 4)
  simp only [World.size_alloc] at r1 r2 r3
  have hB4 : Below w.heap.size w ((((w.alloc (.cells #[.int .i64 0] 3)).alloc (.cells #[.slice none 0 0] 33)).alloc (.cells #[.bool false] 4)).alloc (.cells #[.bool true] 4)) := ((((Below.refl _ _).alloc (Nat.le_refl _) _).alloc (by simp) _).alloc (by simp; omega) _).alloc (by simp; omega) _
  have q0 := (Below.heap_alloc (((w.alloc (.cells #[.int .i64 0] 3)).alloc (.cells #[.slice none 0 0] 33)).alloc (.cells #[.bool false] 4)) (.cells #[.bool true] 4) w.heap.size (by simp; omega)).trans ((Below.heap_alloc _ _ _ (by simp; omega)).trans ((Below.heap_alloc _ _ _ (by simp)).trans r0))
  have q1 := (Below.heap_alloc (((w.alloc (.cells #[.int .i64 0] 3)).alloc (.cells #[.slice none 0 0] 33)).alloc (.cells #[.bool false] 4)) (.cells #[.bool true] 4) (w.heap.size + 1) (by simp)).trans ((Below.heap_alloc _ _ _ (by simp)).trans r1)
  have q2 := (Below.heap_alloc (((w.alloc (.cells #[.int .i64 0] 3)).alloc (.cells #[.slice none 0 0] 33)).alloc (.cells #[.bool false] 4)) (.cells #[.bool true] 4) (w.heap.size + 1 + 1) (by simp)).trans r2
  refine (hcall _ hB4 ⟨q0, ⟨_, q1, World.ownsRow_nil _ _ _ _⟩, q2, r3⟩).mono ?_
  clear hcall q0 q1 q2 r0 r1 r2 r3 hB4 hnil
  rintro e w1 ⟨rfl, ⟨h0, ⟨uv, h1, hown⟩, h2, h3⟩, hb1⟩
  obtain ⟨ea, ec, e1⟩ := own_lenH hown
  subst e1
  have c1 : w1.cell? ⟨w.heap.size + 1, 0, none⟩ = some (.slice ea ks.length ec) := cell_of_row _ _ 0 _ _ _ h1
  have c3 : w1.cell? ⟨w.heap.size + 1 + 1 + 1, 0, none⟩ = some (.bool true) := cell_of_row _ _ 0 _ _ _ h3
  have hks := ks_of_own hown
  clear h0 h1 h2 h3 hown
  go_wp2
  go_quiet (fail)
  go_wp2
  go_ret2
  have hbn := below_drewN (Below.refl w1.heap.size w1) nq
  exact ⟨_, _, rfl, hks.later hbn, below_step hb1 hbn⟩

set_option maxRecDepth 4000 in
set_option maxHeartbeats 2000000 in
/-- Is the key among them? -/
theorem in_any (v : Value) (ks : List Nat) (hl : ks.length < 1000000) (k : Nat) (w : World) (h : KsAt w v ks) : Calls Try.prog 12 #[v, .int .u32 (k : Int)] w fun e w' => e = .returned (.bool (decide (k ∈ ks))) ∧ Below w.heap.size w w' := by
  obtain ⟨a, cap, rfl, hd⟩ := h
  go_enter Try.func12, Try.ntmps12
  go_wp2
  go_loopw [5] (fun i wr => ∃ j : Nat, j ≤ ks.length ∧ i = .int .i64 j ∧ k ∉ ks.take j ∧ Below w.heap.size w wr) (fun i _ => ks.length - (intOf i).toNat)
  case atStart => exact ⟨0, by omega, rfl, by simp, Below.refl _ _⟩
  case round =>
    obtain ⟨j, hj, rfl, hn, hB⟩ := hrel
    by_cases hlt : j < ks.length
    · have hlt' : (j : Int) < ks.length := by omega
      have hj0 : (0 : Int) ≤ (j : Int) := by omega
      rcases hd with h0 | ⟨g, rfl, hg, hc⟩
      · rw [h0] at hlt; simp at hlt
      have a0 := (hB.cell (p := ⟨g, j, none⟩) hg).trans (hc j hlt)
      clear hc
      by_cases hk : ks[j] = k
      · have hin : k ∈ ks := hk ▸ List.getElem_mem hlt
        rw [hk] at a0
        go_wp2
        go_ret
        exact ⟨by first | rfl | (rw [decide_eq_true hin]; rfl), by assumption⟩
      · have hk' : ¬ ((ks[j] : Nat) : Int) = (k : Int) := by omega
        have hn2 : k ∉ ks.take (j + 1) := by
          rw [List.take_succ_eq_append_getElem hlt, List.mem_append, List.mem_singleton]
          rintro (h | h)
          · exact hn h
          · exact hk h.symm
        generalize ks[j] = x at *
        go_wp2
        go_roundw
        case rel => exact ⟨j + 1, by omega, by go_num, hn2, by assumption⟩
        case measure => simp [intOf]; omega
    · have hlt' : ¬ (j : Int) < ks.length := by omega
      have hn3 : k ∉ ks := by rwa [List.take_of_length_le (by omega)] at hn
      go_wp2
      go_ret
      exact ⟨by first | rfl | (rw [decide_eq_false hn3]; rfl), hB⟩

end Go.Proofs.Ytigjnodkpkkdmaa


namespace Go.Proofs.Ytigjnodkpkkdmaa
open Go.RowKit Go.Shelf

def RisesK (ks : List Nat) : Prop := ∀ i (h : i + 1 < ks.length), ks[i]'(by omega) < ks[i + 1]

set_option maxRecDepth 4000 in
set_option maxHeartbeats 2000000 in
theorem keys_of (hb : Nat) (a b : Int) (ks : List Nat) (hl : ks.length < 4000) (hr : RisesK ks) (w : World) (hk : ∀ w1, Below w.heap.size w w1 → ∀ n, TouAt w1 n hb a b → Calls Try.prog 22 #[touV n (n + 1) (n + 1 + 1), .int .i64 0] w1 (ksP w1 ks)) :
    Calls Try.prog 10 #[.pointer (some ⟨hb, 0, none⟩), .int .i64 a, .int .i64 b] w (ksP w ks) := by
  have ht := touched_any hb a b w
  go_enter Try.func10, Try.ntmps10
  go_wp2_with (first | (go_at_call 23; refine ht.mono ?_; rintro e w1 ⟨rfl, hT1, hb1⟩) | (go_at_call 22; refine (hk _ hb1 _ hT1).mono ?_; rintro e w2 ⟨ea, ec, rfl, hks, hb2⟩))
  have hb12 := below_step hb1 hb2
  obtain ⟨a', cap', ev, hd⟩ := hks
  have hks' : KsAt w2 (.slice ea ks.length ec) ks := ⟨a', cap', ev, hd⟩
  obtain ⟨rfl, rfl⟩ : a' = ea ∧ cap' = ec := by injection ev with h1 h2 h3; exact ⟨h1.symm, h3.symm⟩
  clear hk hT1 hb1 hb2 ev
  go_loopw [9, 10] (fun o i wr => o = .bool true ∧ ∃ q : Nat, (q = 0 ∨ q + 1 ≤ ks.length) ∧ i = .int .i64 ((q : Int) + 1) ∧ Below w2.heap.size w2 wr) (fun _ i _ => ks.length - (intOf i).toNat)
  case atStart => exact ⟨rfl, 0, .inl rfl, rfl, Below.refl _ _⟩
  case round =>
    obtain ⟨rfl, q, hq, rfl, hB⟩ := hrel
    by_cases hlt : q + 1 < ks.length
    · have hlt' : (q : Int) + 1 < ks.length := by omega
      have hq0 : (0 : Int) ≤ (q : Int) := by omega
      have hq1 : (0 : Int) ≤ (q : Int) + 1 := by omega
      have hq2 : (q : Int) < ks.length := by omega
      have hqt : ((q : Int) + 1).toNat = q + 1 := by omega
      have hqw : wrap64 ((q : Int) + 1 - 1) = (q : Int) := by unfold wrap64; omega
      rcases hd with h0 | ⟨g, rfl, hg, hc⟩
      · rw [h0] at hlt; simp at hlt
      have a0 := (hB.cell (p := ⟨g, q, none⟩) hg).trans (hc q (by omega))
      have a1 := (hB.cell (p := ⟨g, q + 1, none⟩) hg).trans (hc (q + 1) hlt)
      have hgt : ((ks[q]'(by omega) : Nat) : Int) < (ks[q + 1] : Int) := by have := hr q hlt; omega
      generalize (ks[q]'(by omega)) = x at *
      generalize ks[q + 1] = y at *
      clear hc
      go_wp2
      go_quiet (fail)
      go_wp2
      go_roundw
      case rel => exact ⟨rfl, q + 1, .inr (by omega), by go_num, below_drewN hB nq⟩
      case measure => simp [intOf]; omega
    · have hlt' : ¬ (q : Int) + 1 < ks.length := by omega
      go_wp2
      go_ret2
      exact ⟨_, _, rfl, hks'.later hB, below_step hb12 hB⟩

set_option maxRecDepth 4000 in
set_option maxHeartbeats 2000000 in
theorem touched1_none (W0 : World) (hb : Nat) (Ls : List Es) (p : Nat) (c1 c2 c3 : Nat) (a b : Int) (hX : HistAt W0 hb Ls p) (hab : (a < -(p : Int) ∨ (Ls.length : Int) - 1 - p < a) ∨ ((∃ i : Nat, i < Ls.length ∧ a = (i : Int) - p) ∧ (b < -(p : Int) ∨ (Ls.length : Int) - 1 - p < b))) (hbb : (b < -(p : Int) ∨ (Ls.length : Int) - 1 - p < b) ∨ (∃ i : Nat, i < Ls.length ∧ b = (i : Int) - p))
    (hc1 : W0.cell? ⟨c1, 0, none⟩ = some (.pointer (some ⟨hb, 0, none⟩))) (hc2 : W0.cell? ⟨c2, 0, none⟩ = some (.int .i64 a)) (hc3 : W0.cell? ⟨c3, 0, none⟩ = some (.int .i64 b)) (hcl : c1 < W0.heap.size ∧ c2 < W0.heap.size ∧ c3 < W0.heap.size) (w : World) (hB : Below W0.heap.size W0 w) (hK : KAt w W0.heap.size []) :
    Calls Try.prog 33 #[klV W0.heap.size, .pointer (some ⟨c1, 0, none⟩), .pointer (some ⟨c2, 0, none⟩), .pointer (some ⟨c3, 0, none⟩)] w (tuP W0 []) := by
  have ha1 := (Below.refl w.heap.size w).alloc (Nat.le_refl _) (.cells #[klV W0.heap.size] 81)
  have hKa := hK.later ha1
  have hBa := below_step hB ha1
  have hv : ∀ m : Int, ((m < -(p : Int) ∨ (Ls.length : Int) - 1 - p < m) ∨ (∃ i : Nat, i < Ls.length ∧ m = (i : Int) - p)) → ∃ v : Option Addr, ((m < -(p : Int) ∨ (Ls.length : Int) - 1 - p < m) → v = none) ∧ (¬ (m < -(p : Int) ∨ (Ls.length : Int) - 1 - p < m) → v ≠ none) ∧ ∀ X, Below W0.heap.size W0 X → Calls Try.prog 34 #[.pointer (some ⟨hb, 0, none⟩), .int .i64 m] X fun e w' => e = .returned (.pointer v) ∧ Below X.heap.size X w' := by
    intro m hm
    by_cases h : m < -(p : Int) ∨ (Ls.length : Int) - 1 - p < m
    · exact ⟨none, fun _ => rfl, fun h' => absurd h h', fun X hBX => version_none hb Ls p m h X (hX.later hBX)⟩
    · obtain ⟨i, hi, rfl⟩ := hm.resolve_left h
      obtain ⟨g, cap, vs, hx⟩ := hX.x
      exact ⟨some ⟨vs i, 0, none⟩, fun h' => absurd h' h, fun _ => by simp, fun X hBX => version_at hb g cap vs Ls p i hi X (hx.later hBX)⟩
  obtain ⟨va, hva, -, hVa⟩ := hv a (by rcases hab with h | h; exact .inl h; exact .inr h.1)
  obtain ⟨vb, hvb, -, hVb⟩ := hv b hbb
  have hnn : va = none ∨ vb = none := by
    rcases hab with h | h
    · exact .inl (hva h)
    · exact .inr (hvb h.2)
  clear hv hva hvb hab hbb
  have hS : ∀ X, Below W0.heap.size W0 X → X.cell? ⟨c1, 0, none⟩ = some (.pointer (some ⟨hb, 0, none⟩)) ∧ X.cell? ⟨c2, 0, none⟩ = some (.int .i64 a) ∧ X.cell? ⟨c3, 0, none⟩ = some (.int .i64 b) := fun X hX' => ⟨(hX'.cell (p := ⟨c1, 0, none⟩) hcl.1).trans hc1, (hX'.cell (p := ⟨c2, 0, none⟩) hcl.2.1).trans hc2, (hX'.cell (p := ⟨c3, 0, none⟩) hcl.2.2).trans hc3⟩
  unfold klV at ha1 hKa hBa ⊢
  generalize hbs : (#[.pointer (some ⟨W0.heap.size + 2, 0, none⟩), .pointer (some ⟨W0.heap.size + 3, 0, none⟩), .pointer (some ⟨W0.heap.size + 1, 0, none⟩), .pointer (some ⟨W0.heap.size, 0, none⟩)] : Array Value) = bs at *
  go_enter Try.func33, Try.ntmps33
  go_upto_region 1 with fail
  generalize hwa : w.alloc (.cells #[.func (.func 32) #[] bs] 81) = wa at *
  have hBD := hBa.drew
  have hsD := hS _ hBD
  clear hX hc1 hc2 hc3
  have tok : True := trivial
  go_region_held3 (fun X => X.cell? ⟨c1, 0, none⟩ = some (.pointer (some ⟨hb, 0, none⟩)) ∧ X.cell? ⟨c2, 0, none⟩ = some (.int .i64 a) ∧ X.cell? ⟨c3, 0, none⟩ = some (.int .i64 b)) (with_reducible assumption)
    (first | (go_at_call 34; have _t := tok; refine (hVa _ hBD).mono ?_; rintro e wv ⟨rfl, hbv⟩; have hB3 := below_step hBD hbv; have s3 := hS _ hB3; have hbD3 := hbv; clear tok hbv) | (go_at_call 34; refine (hVb _ hB3).mono ?_; rintro e wv ⟨rfl, hbv⟩; have hB4 := below_step hB3 hbv; have s4 := hS _ hB4; have hb34 := hbv; clear hbv))
  have hba5 := below_step (below_step (Below.refl wa.heap.size wa).drew hbD3) hb34
  have hfin : tuP W0 [] (.returned (.tuple #[])) wv := ⟨rfl, hKa.later hba5, hB4⟩
  rcases hnn with h | h
  · subst h
    go_wp2
    go_end0
    exact hfin
  · subst h
    cases va with
    | none =>
      go_wp2
      go_end0
      exact hfin
    | some va =>
      go_wp2
      go_end0
      exact hfin

end Go.Proofs.Ytigjnodkpkkdmaa

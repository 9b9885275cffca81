import Derived.Test.YtmbjfpmplmebcaaCwC
import Derived.Laws.AppendOwnNone
import Derived.Laws.Rows
namespace Go.Proofs.Ytmbjfpmplmebcaa.CF
open Go.RowKit

theorem infoI : (Try.prog.info? 2).map (fun i => (i.zero, i.size, i.bytes)) = some (some (.int .i64 0), 1, 8) := by kernel_rfl
theorem own_len {w : World} {base n size : Nat} {e : TypeId} {v : Value} {xs : List Value} (h : w.ownsRow base e size v n xs) : ∃ p cap, v = .slice p n cap := by
  obtain ⟨_, ⟨rfl, rfl⟩ | ⟨g, cap, cur, rfl, _⟩⟩ := h
  · exact ⟨_, _, rfl⟩
  · exact ⟨_, _, rfl⟩
def StopA (p : Prop) : Prop := p
theorem stopA {p : Prop} (h : StopA p) : p := h
theorem heap_new (w : World) (o : Obj) : (w.alloc o).heap[w.heap.size]? = some o := by
  show (w.heap.push o)[w.heap.size]? = some o
  simp
theorem heap_set_gen {w : World} {b i : Nat} {cs : Array Value} {T : TypeId} {fr : Nat × Nat} (hb : w.heap[b]? = some (.cells cs T fr)) (v : Value) : (w.setCell ⟨b, i, none⟩ v).heap[b]? = some (.cells (cs.setIfInBounds i v) T fr) := by
  simp [World.setCell, Array.getElem?_modify, hb]
theorem Below.tr' {n m : Nat} {W X Y : World} (h : Below n W X) (k : Below m X Y) (hm : n ≤ m) : Below n W Y := h.trans (k.mono hm)
theorem set_id {X : World} {b i : Nat} {v : Value} (h : X.cell? ⟨b, i, none⟩ = some v) : X.setCell ⟨b, i, none⟩ v = X := by
  have hb := World.block_lt_of_cell? _ _ h
  have hm : X.heap.modify b (fun | .cells c elem frozen => .cells (if (⟨b, i, none⟩ : Addr).spot.isSome then c else c.setIfInBounds i v) elem frozen | o => o) = X.heap := by
    apply Array.ext
    · simp
    · intro k h1 h2
      rw [Array.getElem_modify]
      split
      · rename_i e
        subst e
        unfold World.cell? at h
        simp only [Array.getElem?_eq_getElem h2] at h
        generalize X.heap[b] = o at h ⊢
        cases o with
        | cells c e f =>
          simp only at h ⊢
          congr 1
          simp at h
          apply Array.ext
          · simp
          · intro j hj1 hj2
            simp only [Option.isSome_none, Bool.false_eq_true, if_false] at hj1 ⊢
            rw [Array.getElem_setIfInBounds (by simpa using hj2)]
            split
            · rename_i e
              subst e
              rw [Array.getElem?_eq_getElem hj2] at h
              exact (Option.some.inj h).symm
            · rfl
        | _ => rfl
      · rfl
  exact congrArg (fun hh => { X with heap := hh }) hm
/-- What may have changed while f was asked: its list of numbers alone. -/
structure FrA (A : Nat) (w w' : World) : Prop where
  size : w.heap.size ≤ w'.heap.size
  block : ∀ b, b < w.heap.size → b ≠ A → (∀ cur fz, w.heap[b]? ≠ some (.cells cur 2 fz)) → w'.heap[b]? = w.heap[b]?
/-- Values that came in. -/
def VsAt (w : World) (a : Option Addr) (vs : List (Int × Int)) : Prop := vs = [] ∨ ∃ b off, a = some ⟨b, off, none⟩ ∧ b < w.heap.size ∧ ∀ i (h : i < vs.length), w.cell? ⟨b, off + i * 2, none⟩ = some (.int .i64 vs[i].1) ∧ w.cell? ⟨b, off + i * 2 + 1, none⟩ = some (.int .i64 vs[i].2)
theorem VsAt.later {w w' : World} {n : Nat} {a : Option Addr} {vs : List (Int × Int)} (h : VsAt w a vs) (hb : Below n w w') (hn : w.heap.size ≤ n) : VsAt w' a vs := by
  rcases h with h | ⟨b, off, ha, hlt, hc⟩
  · exact .inl h
  · exact .inr ⟨b, off, ha, Nat.lt_of_lt_of_le hlt hb.size, fun i hi => ⟨(hb.cell (p := ⟨b, off + i * 2, none⟩) (Nat.lt_of_lt_of_le hlt hn)).trans (hc i hi).1, (hb.cell (p := ⟨b, off + i * 2 + 1, none⟩) (Nat.lt_of_lt_of_le hlt hn)).trans (hc i hi).2⟩⟩
/-- The i-th answer. -/
def pickV (vs : List (Int × Int)) (i : Nat) : Int × Int := if vs.length = 0 then (0, 0) else vs.getD (i % vs.length) (0, 0)
def AskP (W : World) (A : Nat) (L : List Int) (x : Int) (p : Int × Int) (w : World) (e : Ending) (w' : World) : Prop := ∃ v', e = .returned (.agg #[.int .i64 p.1, .int .i64 p.2]) ∧ w'.heap[A]? = some (.cells #[v'] 23 (0, 0)) ∧ w'.ownsRow W.heap.size 2 1 v' (L.length + 1) ((L ++ [x]).map (Value.int .i64)) ∧ Below W.heap.size W w' ∧ FrA A w w'
set_option maxRecDepth 8000 in
set_option maxHeartbeats 2000000 in
theorem ask_any (W : World) (A V : Nat) (L : List Int) (hL : L.length ≤ 100) (v : Value) (vs : List (Int × Int)) (hvl : vs.length ≤ 9223372036854775806) (av : Option Addr) (cv : Nat) (x : Int) (w : World) (hB : Below W.heap.size W w) (hAge : W.heap.size ≤ A)
    (hA : w.heap[A]? = some (.cells #[v] 23 (0, 0))) (ho : w.ownsRow W.heap.size 2 1 v L.length (L.map (Value.int .i64)))
    (hV : w.heap[V]? = some (.cells #[.slice av vs.length cv] 22 (0, 0))) (hvs : VsAt W av vs) :
    Calls Try.prog 10 #[.int .i64 x, .pointer (some ⟨A, 0, none⟩), .pointer (some ⟨V, 0, none⟩)] w (AskP W A L x (pickV vs L.length) w) := by
  obtain ⟨i0, hi, hz0, hz1, hz2⟩ := info_parts infoI
  have hAl : A < w.heap.size := (Array.getElem?_eq_some_iff.1 hA).1
  have hVl : V < w.heap.size := (Array.getElem?_eq_some_iff.1 hV).1
  have hAV : A ≠ V := fun e => by rw [e, hV] at hA; injection hA with h; injection h with h1 h2 h3; cases h2
  obtain ⟨p, cap, rfl⟩ := own_len ho
  have hAown : ∀ j, (Value.slice p L.length cap).ownBlock = some j → j ≠ A := fun j hj e => by
    subst e
    obtain ⟨-, ⟨h1, -⟩ | ⟨g, cp, cur, h1, -, hc, -⟩⟩ := ho
    · injection h1 with h1 h2 h3; subst h1; cases hj
    · injection h1 with h1 h2 h3
      subst h1
      cases hj
      rw [hc] at hA
      injection hA with h; injection h with h1 h2 h3; cases h2
  have hVown : ∀ j, (Value.slice p L.length cap).ownBlock = some j → j ≠ V := fun j hj e => by
    subst e
    obtain ⟨-, ⟨h1, -⟩ | ⟨g, cp, cur, h1, -, hc, -⟩⟩ := ho
    · injection h1 with h1 h2 h3; subst h1; cases hj
    · injection h1 with h1 h2 h3
      subst h1
      cases hj
      rw [hc] at hV
      injection hV with h; injection h with h1 h2 h3; cases h2
  have hIown : ∀ j, (Value.slice p L.length cap).ownBlock = some j → ∃ cur, w.heap[j]? = some (.cells cur 2 (0, 0)) := fun j hj => by
    obtain ⟨-, ⟨h1, -⟩ | ⟨g, cp, cur, h1, -, hc, -⟩⟩ := ho
    · injection h1 with h1 h2 h3; subst h1; cases hj
    · injection h1 with h1 h2 h3
      subst h1
      cases hj
      exact ⟨cur, hc⟩
  obtain ⟨X0, hX0⟩ : ∃ X, w.alloc (.cells #[.int .i64 0, .int .i64 0] 28) = X := ⟨_, rfl⟩
  have hBX0 : Below w.heap.size w X0 := by rw [← hX0]; exact (Below.refl _ _).alloc (Nat.le_refl _) _
  have hs0 : X0.heap.size = w.heap.size + 1 := by rw [← hX0]; simp
  have hr0 : X0.heap[w.heap.size]? = some (.cells #[.int .i64 0, .int .i64 0] 28 (0, 0)) := by rw [← hX0]; exact heap_new w _
  have ca0 : X0.cell? ⟨A, 0, none⟩ = some (.slice p L.length cap) := by rw [cell_of_row _ _ 0 _ _ _ ((hBX0.block A hAl).trans hA)]; rfl
  have hoX : (X0.alloc (.cells #[.int .i64 x] 2)).ownsRow W.heap.size 2 1 (.slice p L.length cap) L.length (L.map (Value.int .i64)) := by rw [← hX0]; exact (ho.alloc _).alloc _
  have hBX1 : Below w.heap.size w (X0.alloc (.cells #[.int .i64 x] 2)) := hBX0.alloc (by omega) _
  have hWw := hB.size
  have hlen2 : (L.length : Int) < 200 := by omega
  replace hs0 := Hid.mk hs0
  go_enter Try.func10, Try.ntmps10
  go_wp2_with (at_builtin; refine wpList_append_own _ rfl _ _ 23 rfl W.heap.size 2 i0 (.int .i64 0) 1 8 Try.underlying23 hi hz0 hz1 hz2 rfl (by decide) _ L.length (L.map (Value.int .i64)) rfl hoX ⟨X0.heap.size, 0, none⟩ 1 1 [.int .i64 x] rfl rfl (lit_at X0 _ _) (by simp [Value.oneCell']) (by unfold maxLen; omega) (by omega) (Nat.le_trans hWw hBX1.size) ?_; intro v' w2 hown' hgrow _; refine stopA ?_)
  unfold StopA
  have hg1 := hBX1.size
  have hA1 : (X0.alloc (.cells #[.int .i64 x] 2)).heap[A]? = some (.cells #[.slice p L.length cap] 23 (0, 0)) := (hBX1.block A hAl).trans hA
  have hA2 : w2.heap[A]? = some (.cells #[.slice p L.length cap] 23 (0, 0)) := (hgrow.block A (by omega) (fun e => hAown A e.symm rfl)).trans hA1
  have hV2 : w2.heap[V]? = some (.cells #[.slice av vs.length cv] 22 (0, 0)) := (hgrow.block V (by omega) (fun e => hVown V e.symm rfl)).trans ((hBX1.block V hVl).trans hV)
  have hRown : ∀ j, (Value.slice p L.length cap).ownBlock = some j → j < w.heap.size := fun j hj => (ho.lt j hj).2
  have hRB1 : (X0.alloc (.cells #[.int .i64 x] 2)).heap[w.heap.size]? = some (.cells #[.int .i64 0, .int .i64 0] 28 (0, 0)) := ((Below.refl X0.heap.size X0).alloc (Nat.le_refl _) _).block w.heap.size (by have := hs0.out; omega) |>.trans hr0
  have hRB2 : w2.heap[w.heap.size]? = some (.cells #[.int .i64 0, .int .i64 0] 28 (0, 0)) := (hgrow.block w.heap.size (by have := (Array.getElem?_eq_some_iff.1 hRB1).1; omega) (fun e => by have := hRown _ e.symm; omega)).trans hRB1
  have hB2 : Below W.heap.size W w2 := (Below.tr' hB hBX1 hWw).grown hgrow (Nat.le_trans hWw hg1) (fun j hj => (ho.lt j hj).1)
  have hFr2 : FrA A w w2 := ⟨Nat.le_trans hg1 hgrow.size, fun b hb hbA hbt => (hgrow.block b (by omega) (fun e => by obtain ⟨cur, hc⟩ := hIown b e.symm; exact hbt cur _ hc)).trans (hBX1.block b hb)⟩
  obtain ⟨w3, hw3⟩ : ∃ X, w2.setCell ⟨A, 0, none⟩ v' = X := ⟨_, rfl⟩
  have ca2 : w2.cell? ⟨A, 0, none⟩ = some (.slice p L.length cap) := by rw [cell_of_row _ _ 0 _ _ _ hA2]; rfl
  have fa2 : w2.frozen? ⟨A, 0, none⟩ = false := by simp [World.frozen?, hA2]
  have hA3 : w3.heap[A]? = some (.cells #[v'] 23 (0, 0)) := by rw [← hw3, heap_set_gen hA2]; rfl
  have ob3 : ∀ b, b ≠ A → w3.heap[b]? = w2.heap[b]? := fun b hb => by rw [← hw3]; exact Below.heap_setCell _ _ _ b (fun e => hb e)
  have hB3 : Below W.heap.size W w3 := by rw [← hw3]; exact hB2.setCell (p := ⟨A, 0, none⟩) hAge _
  have hs3 : w3.heap.size = w2.heap.size := by rw [← hw3]; exact World.size_setCell _ _ _
  have hFr3 : FrA A w w3 := ⟨by have := hFr2.size; omega, fun b hb hbA hbt => (ob3 b hbA).trans (hFr2.block b hb hbA hbt)⟩
  have hV3 : w3.heap[V]? = some (.cells #[.slice av vs.length cv] 22 (0, 0)) := (ob3 V (fun e => hAV e.symm)).trans hV2
  have hRB3 : w3.heap[w.heap.size]? = some (.cells #[.int .i64 0, .int .i64 0] 28 (0, 0)) := (ob3 _ (by omega)).trans hRB2
  have hown3 : w3.ownsRow W.heap.size 2 1 v' (L.length + 1) ((L ++ [x]).map (Value.int .i64)) := by
    rw [← hw3, List.map_append]
    refine ownsRow_setCell_other hown' (fun e => ?_) _
    obtain ⟨-, ⟨h1, h2⟩ | ⟨g, cp, cur, h1, -, hc, -⟩⟩ := hown'
    · omega
    · subst h1
      cases e
      rw [hc] at hA2
      injection hA2 with h; injection h with h1 h2 h3; cases h2
  have ca3 : w3.cell? ⟨A, 0, none⟩ = some v' := by rw [cell_of_row _ _ 0 _ _ _ hA3]; rfl
  have cv3 : w3.cell? ⟨V, 0, none⟩ = some (.slice av vs.length cv) := by rw [cell_of_row _ _ 0 _ _ _ hV3]; rfl
  have cr0 : w3.cell? ⟨w.heap.size, 0, none⟩ = some (.int .i64 0) := by rw [cell_of_row _ _ 0 _ _ _ hRB3]; rfl
  have cr1 : w3.cell? ⟨w.heap.size, 1, none⟩ = some (.int .i64 0) := by rw [cell_of_row _ _ 1 _ _ _ hRB3]; rfl
  have fr0 : w3.frozen? ⟨w.heap.size, 0, none⟩ = false := by simp [World.frozen?, hRB3]
  have fr1 : w3.frozen? ⟨w.heap.size, 1, none⟩ = false := by simp [World.frozen?, hRB3]
  obtain ⟨p', cap', rfl⟩ := own_len hown3
  have hvs3 := hvs.later hB3 (Nat.le_refl _)
  clear hown' hgrow hB2 hFr2 hA1 hA2 hV2 hRB1 hRB2 hBX1 hBX0 hr0 hoX ca0 hIown hVown hAown hRown ho hA hV hs3 ob3 hV3
  by_cases hv0 : vs.length = 0
  · have hz : ((vs.length : Int) == 0) = true := by rw [hv0]; rfl
    have z0 := set_id cr0
    have z1 := set_id cr1
    have hpk : Hid (pickV vs L.length = (0, 0)) := ⟨by unfold pickV; rw [if_pos hv0]⟩
    have hAn : Hid (w3.heap[A]? = some (.cells #[.slice p' (L.length + 1) cap'] 23 (0, 0))) := ⟨hA3⟩
    clear hv0 hA3 hvs hvs3
    go_wp2
    refine bodyPost_ret (v := .agg #[.int .i64 0, .int .i64 0]) (by simp [results, Try.results10, go_sem, cr0, cr1]) rfl ?_
    rw [hpk.out]
    exact ⟨_, rfl, hAn.out, hown3, hB3, hFr3⟩
  · have hz : ((vs.length : Int) == 0) = false := beq_eq_false_iff_ne.2 (by omega)
    obtain ⟨b, off, rfl, hbl, hc⟩ := hvs3.resolve_left (fun e => by rw [e] at hv0; simp at hv0)
    obtain ⟨j, hj⟩ : ∃ j, j = L.length % vs.length := ⟨_, rfl⟩
    have hjl : j < vs.length := by rw [hj]; exact Nat.mod_lt _ (by omega)
    obtain ⟨k0, k1⟩ := hc j hjl
    have hpk : Hid (pickV vs L.length = (vs[j].1, vs[j].2)) := ⟨by unfold pickV; rw [if_neg hv0, ← hj]; simp [List.getD, hjl]⟩
    generalize vs[j].1 = m1 at *
    generalize vs[j].2 = m2 at *
    have hrem : IntKind.i64.wrap ((L.length : Int).tmod (vs.length : Int)) = (j : Int) := by
      rw [Int.tmod_eq_emod_of_nonneg (by omega), ← Int.natCast_emod, ← hj, IntKind.wrap_i64]
      omega
    have hrem2 : (L.length : Int).tmod (vs.length : Int) = (j : Int) := by rw [Int.tmod_eq_emod_of_nonneg (by omega), ← Int.natCast_emod, ← hj]
    have hrem3 : (L.length : Int) % (vs.length : Int) = (j : Int) := by rw [← Int.natCast_emod, ← hj]
    have hwl : IntKind.i64.wrap (L.length : Int) = (L.length : Int) := by rw [IntKind.wrap_i64]; omega
    have hj0 : (0 : Int) ≤ (j : Int) := by omega
    have hj1 : (j : Int) < (vs.length : Int) := by omega
    have hvn : (vs.length : Int) ≠ 0 := by omega
    have hbne : b ≠ w.heap.size := fun e => by
      rcases hvs with h1 | ⟨b', off', h1, h2, -⟩
      · rw [h1] at hv0; simp at hv0
      · cases h1; omega
    obtain ⟨w4, hw4⟩ : ∃ X, w3.setCell ⟨w.heap.size, 0, none⟩ (.int .i64 m1) = X := ⟨_, rfl⟩
    obtain ⟨w5, hw5⟩ : ∃ X, w4.setCell ⟨w.heap.size, 1, none⟩ (.int .i64 m2) = X := ⟨_, rfl⟩
    have hAl2 : A ≠ w.heap.size := by omega
    have ob : ∀ b, b ≠ w.heap.size → w5.heap[b]? = w3.heap[b]? := fun b hb => by rw [← hw5, ← hw4]; exact (Below.heap_setCell _ _ _ b (fun e => hb e)).trans (Below.heap_setCell _ _ _ b (fun e => hb e))
    have hR5 : w5.heap[w.heap.size]? = some (.cells #[.int .i64 m1, .int .i64 m2] 28 (0, 0)) := by rw [← hw5, heap_set_gen (cs := #[.int .i64 m1, .int .i64 0]) (T := 28) (fr := (0, 0)) (by rw [← hw4, heap_set_gen hRB3]; rfl)]; rfl
    have c50 : w5.cell? ⟨w.heap.size, 0, none⟩ = some (.int .i64 m1) := by rw [cell_of_row _ _ 0 _ _ _ hR5]; rfl
    have c51 : w5.cell? ⟨w.heap.size, 1, none⟩ = some (.int .i64 m2) := by rw [cell_of_row _ _ 1 _ _ _ hR5]; rfl
    have f41 : w4.frozen? ⟨w.heap.size, 1, none⟩ = false := by rw [← hw4, World.frozen?_setCell]; exact fr1
    have c41 : w4.cell? ⟨w.heap.size, 1, none⟩ = some (.int .i64 0) := by rw [← hw4, World.cell?_setCell_other _ _ _ _ (fun e => by cases e)]; exact cr1
    have hs5 : w5.heap.size = w3.heap.size := by rw [← hw5, ← hw4]; exact (World.size_setCell _ _ _).trans (World.size_setCell _ _ _)
    have hB5 : Below W.heap.size W w5 := by rw [← hw5, ← hw4]; exact (hB3.setCell (p := ⟨w.heap.size, 0, none⟩) hWw _).setCell (p := ⟨w.heap.size, 1, none⟩) hWw _
    have hFr5 : FrA A w w5 := ⟨by have := hFr3.size; omega, fun b hb hbA hbt => (ob b (by omega)).trans (hFr3.block b hb hbA hbt)⟩
    have hA5 : w5.heap[A]? = some (.cells #[.slice p' (L.length + 1) cap'] 23 (0, 0)) := (ob A hAl2).trans hA3
    have hown5 : w5.ownsRow W.heap.size 2 1 (.slice p' (L.length + 1) cap') (L.length + 1) ((L ++ [x]).map (Value.int .i64)) := by
      have hne : ∀ j, (Value.slice p' (L.length + 1) cap').ownBlock = some j → j ≠ w.heap.size := fun j hj e => by
        subst e
        obtain ⟨-, ⟨h1, h2⟩ | ⟨g, cp, cur, h1, -, hc, -⟩⟩ := hown3
        · omega
        · injection h1 with h1 h2 h3
          subst h1
          injection hj with hj
          subst hj
          rw [hc] at hRB3
          injection hRB3 with h; injection h with h1 h2 h3; cases h2
      rw [← hw5, ← hw4]
      exact ownsRow_setCell_other (ownsRow_setCell_other hown3 (fun e => hne _ e rfl) _) (fun e => hne _ e rfl) _
    clear hc hj hvs hvs3 hown3 hA3 hB3 hFr3 hRB3 hR5 ob hs5
    have hE5 : Hid (AskP W A L x (pickV vs L.length) w (.returned (.agg #[.int .i64 m1, .int .i64 m2])) w5.drew) := ⟨by rw [hpk.out]; exact ⟨_, rfl, hA5, hown5.drew, hB5.drew, ⟨hFr5.size, hFr5.block⟩⟩⟩
    clear hA5 hown5 hB5 hFr5
    go_upto_region 5 with fail
    go_region
    have d0 : w5.drew.cell? ⟨w.heap.size, 0, none⟩ = some (.int .i64 m1) := c50
    have d1 : w5.drew.cell? ⟨w.heap.size, 1, none⟩ = some (.int .i64 m2) := c51
    go_wp2
    exact bodyPost_ret (v := .agg #[.int .i64 m1, .int .i64 m2]) (by simp [results, Try.results10, go_sem, d0, d1]) rfl hE5.out
end Go.Proofs.Ytmbjfpmplmebcaa.CF

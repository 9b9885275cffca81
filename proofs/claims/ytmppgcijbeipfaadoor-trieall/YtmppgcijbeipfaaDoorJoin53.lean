import Derived.Test.YtmppgcijbeipfaaDoorJoin52
import Derived.Test.YtmppgcijbeipfaaDoorRsPut
import Derived.Test.YtmppgcijbeipfaaDoorJoin49
import Derived.Deep.RegionHeld3
import Derived.Test.YtmppgcijbeipfaaDoorRfStamp
import Derived.Test.YtmppgcijbeipfaaDoorRfPlace
import Derived.BigQuiet
import Derived.Deep.DeepCutAuto
import Derived.Deep.RegionLaw
import Derived.Maps.AppendAt
import Derived.Test.YtmppgcijbeipfaaDoorTVer2
/- Put and Drop: a version joins. -/
namespace Go.Proofs.YtmppgcijbeipfaaDoor
open Go.RowKit

/-- What a Put makes, with its tree and its block. -/
theorem mput_j (mb id : Nat) (hi : id < 4294967296) (v : Int × Int) (t : Tr) (w : World) (h : MapT w mb t) : Calls Tryd.prog 9 #[.pointer (some ⟨mb, 0, none⟩), .int .u32 (id : Int), .agg #[.int .i64 v.1, .int .i64 v.2]] w fun e w' => ∃ mb' t', e = .returned (.pointer (some ⟨mb', 0, none⟩)) ∧ (mb' = mb ∨ w.heap.size ≤ mb') ∧ MapT w' mb' t' ∧ t'.ents 7 0 = ins (t.ents 7 0) id v ∧ ((t.get 7 id = some v ∧ t' = t) ∨ (t.get 7 id ≠ some v ∧ PutR w.heap.size id v 7 t' t)) ∧ Below w.heap.size w w' := by
  have hw := h.2.2.2.2
  have hlen := length_ins (t.ents 7 0) id v
  cases hg : t.get 7 id with
  | none =>
    refine (put_none mb id v t w h hg).mono ?_
    rintro e w' ⟨mb', t', rfl, h0, h1, h2, h3, h4, h5, h6⟩
    have he := ents_put h5 hw hi
    have hf : (t.ents 7 0).filter (fun e => decide (e.1 = id)) = [] := filter_none fun x hx => by rw [mem_of_get hw hi, hg] at hx; cases hx
    rw [hf] at hlen
    refine ⟨mb', t', rfl, .inr h0, ⟨h1, h2, ?_, h4, put_wf 7 h5 hw⟩, he, .inr ⟨by simp, h5⟩, h6⟩
    rw [h3, he, ← hlen]
    simp
  | some x =>
    have hf := filter_one (ents_rises 7 hw 0) ((mem_of_get hw hi).2 hg)
    by_cases hx : x = v
    · subst hx
      refine (put_same mb id x t w h hg).mono ?_
      rintro e w' ⟨rfl, hb⟩
      exact ⟨mb, t, rfl, .inl rfl, h.later hb, (ins_same (ents_rises 7 hw 0) ((mem_of_get hw hi).2 hg)).symm, .inl ⟨rfl, rfl⟩, hb⟩
    · refine (put_other mb id v t w h x hx hg).mono ?_
      rintro e w' ⟨mb', t', rfl, h0, h1, h2, h3, h4, h5, h6⟩
      have he := ents_put h5 hw hi
      refine ⟨mb', t', rfl, .inr h0, ⟨h1, h2, ?_, h4, put_wf 7 h5 hw⟩, he, .inr ⟨fun e => hx (Option.some.inj e), h5⟩, h6⟩
      rw [h3, he]
      congr 3
      omega
/-- What a Drop makes, with its tree and its block. -/
theorem mdrop_j (mb id : Nat) (hi : id < 4294967296) (t : Tr) (w : World) (h : MapT w mb t) : Calls Tryd.prog 16 #[.pointer (some ⟨mb, 0, none⟩), .int .u32 (id : Int)] w fun e w' => ∃ mb' t', e = .returned (.pointer (some ⟨mb', 0, none⟩)) ∧ (mb' = mb ∨ w.heap.size ≤ mb') ∧ MapT w' mb' t' ∧ t'.ents 7 0 = del (t.ents 7 0) id ∧ ((t.get 7 id = none ∧ t' = t) ∨ (t.get 7 id ≠ none ∧ DropR w.heap.size id 7 t' t)) ∧ Below w.heap.size w w' := by
  have hw := h.2.2.2.2
  have hlen := length_del (t.ents 7 0) id
  cases hg : t.get 7 id with
  | none =>
    refine (drop_none mb id t w h hg).mono ?_
    rintro e w' ⟨rfl, hb⟩
    exact ⟨mb, t, rfl, .inl rfl, h.later hb, (del_none fun x hx => by rw [mem_of_get hw hi, hg] at hx; cases hx).symm, .inl ⟨rfl, rfl⟩, hb⟩
  | some x =>
    have hf := filter_one (ents_rises 7 hw 0) ((mem_of_get hw hi).2 hg)
    refine (drop_some mb id (del (t.ents 7 0) id).length t w h x hg (by omega)).mono ?_
    rintro e w' ⟨mb', t', rfl, h0, h1, h2, h3, h4, h5, h6⟩
    have he := ents_drop h5 hw hi
    refine ⟨mb', t', rfl, .inr h0, ⟨h1, h2, ?_, h4, drop_wf 7 h5 hw⟩, he, .inr ⟨by simp, h5⟩, h6⟩
    rw [h3, he]
/-- Put decides as the reference does. -/
theorem put_like {t : Tr} (hw : t.wf 7) {id : Nat} (hi : id < 4294967296) (v : Int × Int) : (∃ h : rfPl (t.ents 7 0) id < (t.ents 7 0).length, (t.ents 7 0)[rfPl (t.ents 7 0) id] = (id, v)) ↔ t.get 7 id = some v := by
  rw [← rfPl_mem (ents_rises 7 hw 0), mem_of_get hw hi]
theorem drop_like {t : Tr} (hw : t.wf 7) {id : Nat} (hi : id < 4294967296) : rfHas (t.ents 7 0) id = true ↔ t.get 7 id ≠ none := by
  rw [rfHas_mem (ents_rises 7 hw 0)]
  constructor
  · rintro ⟨v, hv⟩ e
    rw [mem_of_get hw hi, e] at hv
    cases hv
  · intro h
    cases hg : t.get 7 id with
    | none => exact absurd hg h
    | some v => exact ⟨v, (mem_of_get hw hi).2 hg⟩
/-- What a step leaves. -/
def StepQ (lo pb : Nat) (vs : List Pv) (a : Int) (w w' : World) : Prop := ∃ vg' vw' vs', PlayO w' lo pb vg' vw' vs' ∧ Pvs w' (a + 1) vs' ∧ vs.length ≤ vs'.length ∧ vs'.length ≤ vs.length + 1 ∧ Below lo w w'
theorem stepQ_read {lo pb : Nat} {vg vw : Value} {vs : List Pv} {a : Int} {w w' : World} (hO : PlayO w lo pb vg vw vs) (hV : Pvs w a vs) (hlo : lo ≤ w.heap.size) (hb : Below w.heap.size w w') : StepQ lo pb vs a w w' :=
  ⟨vg, vw, vs, hO.later hb, hV.later hb (by omega), Nat.le_refl _, Nat.le_succ _, hb.mono hlo⟩
/-- The new version, where Put or Drop was called at X. -/
theorem join_at {lo pb : Nat} {vg vw : Value} {vs : List Pv} {a : Int} {w X Y : World} (hO : PlayO w lo pb vg vw vs) (hV : Pvs w a vs) (hlo : lo ≤ w.heap.size) (hX : Below w.heap.size w X) (hY : Below X.heap.size X Y) {u : Pv} (hu : u ∈ vs) {x : Pv} (hx : PvAt Y x) {id : Nat} (hid : id < 4294967296)
    (hs : (x.2.1 = u.2.1 ∧ x.2.2.2 = u.2.2.2) ∨ (((∃ v, PutR X.heap.size id v 7 x.2.1 u.2.1) ∨ DropR X.heap.size id 7 x.2.1 u.2.1) ∧ x.2.2.2 = updS u.2.2.2 id a)) (hb : x.1 = u.1 ∨ X.heap.size ≤ x.1) :
    PlayO Y lo pb vg vw vs ∧ lo ≤ Y.heap.size ∧ (∀ y ∈ vs ++ [x], y.1 < Y.heap.size) ∧ (x.1 ≠ pb ∧ vg.ownBlock ≠ some x.1 ∧ vw.ownBlock ≠ some x.1) ∧ (∀ Z, JoinP lo pb vg vw vs x Y Z → StepQ lo pb vs a w Z) := by
  have hB := below_step hX hY
  have hP := (hV.later hX (Int.le_refl _)).join hY hu hx hid hs
  have hoff : x.1 ≠ pb ∧ vg.ownBlock ≠ some x.1 ∧ vw.ownBlock ≠ some x.1 := by
    rcases hb with e | e
    · rw [e]; exact hO.off u hu
    · have hXw := hX.size
      refine ⟨by have := hO.lt; omega, fun e' => ?_, fun e' => ?_⟩
      · have := (hO.got.lt _ e').2; omega
      · have := (hO.want.lt _ e').2; omega
  refine ⟨hO.later hB, Nat.le_trans hlo hB.size, fun y hy => (hP.at' y hy).1.1, hoff, ?_⟩
  rintro Z ⟨⟨vg', vw', hO'⟩, hk, -, hbl⟩
  refine ⟨vg', vw', vs ++ [x], hO', ⟨fun y hy => ?_, hP.low, hP.keyed⟩, by simp, by simp, (hB.mono hlo).trans hbl⟩
  have ho : y.1 ≠ pb ∧ vg.ownBlock ≠ some y.1 ∧ vw.ownBlock ≠ some y.1 := by
    rcases List.mem_append.1 hy with h | h
    · exact hO.off y h
    · rw [List.mem_singleton.1 h]; exact hoff
  exact hk y (hP.at' y hy) ho.1 ho.2.1 ho.2.2
/-- A block that the play does not own stays where a version joins. -/
theorem join_cell {lo pb : Nat} {vg vw : Value} {vs vs' : List Pv} {x : Pv} {w Y Z : World} (hO : PlayO w lo pb vg vw vs) (hJ : JoinP lo pb vg vw vs' x Y Z) {P o : Nat} (h1 : w.heap.size ≤ P) (h2 : P < Y.heap.size) : Z.cell? ⟨P, o, none⟩ = Y.cell? ⟨P, o, none⟩ :=
  World.cell?_of_block (hJ.2.2.1 P h2 (by have := hO.lt; omega) (fun e => by have := (hO.got.lt _ e).2; omega) (fun e => by have := (hO.want.lt _ e).2; omega))
theorem made_put {w5 w6 : World} {n id : Nat} {u : Pv} {x y a : Int} {mb nb : Nat} {t : Tr} (hw : u.2.1.wf 7) (hid : id < 4294967296) (hM : MapT w5 mb t) (hE : t.ents 7 0 = ins (u.2.1.ents 7 0) id (x, y))
    (hc : (u.2.1.get 7 id = some (x, y) ∧ t = u.2.1) ∨ (u.2.1.get 7 id ≠ some (x, y) ∧ PutR n id (x, y) 7 t u.2.1))
    (hr : (nb = u.2.2.1 ∧ ins (u.2.1.ents 7 0) id (x, y) = u.2.1.ents 7 0 ∧ (∃ h : rfPl (u.2.1.ents 7 0) id < (u.2.1.ents 7 0).length, (u.2.1.ents 7 0)[rfPl (u.2.1.ents 7 0) id] = (id, (x, y))) ∧ RsAt w6 u.2.2.1 (u.2.1.ents 7 0) u.2.2.2) ∨ ((¬ ∃ h : rfPl (u.2.1.ents 7 0) id < (u.2.1.ents 7 0).length, (u.2.1.ents 7 0)[rfPl (u.2.1.ents 7 0) id] = (id, (x, y))) ∧ w5.heap.size ≤ nb ∧ RsAt w6 nb (ins (u.2.1.ents 7 0) id (x, y)) (updS u.2.2.2 id a)))
    (hb : Below w5.heap.size w5 w6) : ∃ σ, PvAt w6 (mb, t, nb, σ) ∧ ((t = u.2.1 ∧ σ = u.2.2.2) ∨ (((∃ v, PutR n id v 7 t u.2.1) ∨ DropR n id 7 t u.2.1) ∧ σ = updS u.2.2.2 id a)) := by
  rcases hr with ⟨rfl, he, hex, hR⟩ | ⟨hex, -, hR⟩
  · rcases hc with ⟨-, e⟩ | ⟨e, -⟩
    · exact ⟨_, ⟨hM.later hb, by show RsAt w6 u.2.2.1 (t.ents 7 0) u.2.2.2; rw [hE, he]; exact hR⟩, .inl ⟨e, rfl⟩⟩
    · exact absurd ((put_like hw hid (x, y)).1 hex) e
  · rcases hc with ⟨e, -⟩ | ⟨-, e⟩
    · exact absurd ((put_like hw hid (x, y)).2 e) hex
    · exact ⟨_, ⟨hM.later hb, by show RsAt w6 nb (t.ents 7 0) (updS u.2.2.2 id a); rw [hE]; exact hR⟩, .inr ⟨.inl ⟨_, e⟩, rfl⟩⟩
theorem made_drop {w5 w6 : World} {n id : Nat} {u : Pv} {a : Int} {mb nb : Nat} {t : Tr} (hw : u.2.1.wf 7) (hid : id < 4294967296) (hM : MapT w5 mb t) (hE : t.ents 7 0 = del (u.2.1.ents 7 0) id)
    (hc : (u.2.1.get 7 id = none ∧ t = u.2.1) ∨ (u.2.1.get 7 id ≠ none ∧ DropR n id 7 t u.2.1))
    (hr : (nb = u.2.2.1 ∧ rfHas (u.2.1.ents 7 0) id = false ∧ del (u.2.1.ents 7 0) id = u.2.1.ents 7 0 ∧ RsAt w6 u.2.2.1 (u.2.1.ents 7 0) u.2.2.2) ∨ (rfHas (u.2.1.ents 7 0) id = true ∧ w5.heap.size ≤ nb ∧ RsAt w6 nb (del (u.2.1.ents 7 0) id) (updS u.2.2.2 id a)))
    (hb : Below w5.heap.size w5 w6) : ∃ σ, PvAt w6 (mb, t, nb, σ) ∧ ((t = u.2.1 ∧ σ = u.2.2.2) ∨ (((∃ v, PutR n id v 7 t u.2.1) ∨ DropR n id 7 t u.2.1) ∧ σ = updS u.2.2.2 id a)) := by
  rcases hr with ⟨rfl, hf, he, hR⟩ | ⟨hf, -, hR⟩
  · rcases hc with ⟨-, e⟩ | ⟨e, -⟩
    · exact ⟨_, ⟨hM.later hb, by show RsAt w6 u.2.2.1 (t.ents 7 0) u.2.2.2; rw [hE, he]; exact hR⟩, .inl ⟨e, rfl⟩⟩
    · rw [(drop_like hw hid).2 e] at hf
      cases hf
  · rcases hc with ⟨e, -⟩ | ⟨-, e⟩
    · exact absurd e ((drop_like hw hid).1 hf)
    · exact ⟨_, ⟨hM.later hb, by show RsAt w6 nb (t.ents 7 0) (updS u.2.2.2 id a); rw [hE]; exact hR⟩, .inr ⟨.inr e, rfl⟩⟩

end Go.Proofs.YtmppgcijbeipfaaDoor


namespace Go.Proofs.YtmppgcijbeipfaaDoor
open Go.RowKit

set_option maxRecDepth 4000 in
set_option maxHeartbeats 4000000 in
/-- Drop. -/
theorem step_drop (lo pb : Nat) (vg vw : Value) (vs : List Pv) (i : Nat) (hi : i < vs.length) (n : Int) (id : Nat) (hid : id < 4294967296) (x y a : Int) (w : World) (hO : PlayO w lo pb vg vw vs) (hV : Pvs w a vs) (hlo : lo ≤ w.heap.size) (hl : (vs.length + 1) * 8 ≤ 140737488355328) : Calls Tryd.prog 6 #[.pointer (some ⟨pb, 0, none⟩), opV 2 (i : Int) n id x y, .int .i64 a] w fun e w' => e = .returned (.bool true) ∧ StepQ lo pb vs a w w' := by
  obtain ⟨w1, hw1⟩ : ∃ w1, w1 = w.alloc (.cells #[.int .i64 2, .int .i64 (i : Int), .int .i64 n, .int .u32 (id : Int), .int .i64 x, .int .i64 y] 31) := ⟨_, rfl⟩
  have hb0 : Below w.heap.size w w1 := by rw [hw1]; exact (Below.refl w.heap.size w).alloc (Nat.le_refl _) _
  have hrow : w1.heap[w.heap.size]? = some (.cells #[.int .i64 2, .int .i64 (i : Int), .int .i64 n, .int .u32 (id : Int), .int .i64 x, .int .i64 y] 31 (0, 0)) := by rw [hw1]; exact heap_alloc_last w _
  obtain ⟨P, hPe⟩ : ∃ P, P = w.heap.size := ⟨_, rfl⟩
  rw [← hPe] at hrow
  obtain ⟨h0, gg, gw, cg, cw, h1, h2, c0, c1, hc⟩ := (hO.read (by omega)).later hb0
  obtain ⟨c2, c3⟩ := hc i hi
  have hi0 : (0 : Int) ≤ (i : Int) := Int.natCast_nonneg _
  have hi1 : (i : Int) < (vs.length : Int) := Int.ofNat_lt.2 hi
  have hi2 : ¬ (i : Int) < 0 := by omega
  have hi3 : ¬ (i : Int) ≥ (vs.length : Int) := by omega
  have hlt : P < w1.heap.size := (Array.getElem?_eq_some_iff.1 hrow).1
  have hS0 : Hid (∀ X, Below w1.heap.size w1 X → X.cell? ⟨P, 3, none⟩ = some (.int .u32 (id : Int))) := fun X hX => (hX.cell (p := ⟨P, 3, none⟩) hlt).trans (cell_of_row _ _ 3 _ _ _ hrow)
  have r0 : w1.cell? ⟨P, 0, none⟩ = some (.int .i64 2) := cell_of_row _ _ 0 _ _ _ hrow
  have r1 : w1.cell? ⟨P, 1, none⟩ = some (.int .i64 (i : Int)) := cell_of_row _ _ 1 _ _ _ hrow
  have hu := List.getElem_mem hi
  have hVi := hV.at' _ hu
  have hw := hVi.1.2.2.2.2
  have hkeys := pv_keys hVi
  have hlen := Nat.le_trans (pv_len hVi) (show 4294967296 ≤ 5000000000 by decide)
  generalize vs[i] = u at *
  have hput : Hid (∀ X, Below w1.heap.size w1 X → Calls Tryd.prog 16 #[.pointer (some ⟨u.1, 0, none⟩), .int .u32 (id : Int)] X fun e w' => ∃ mb' t', e = .returned (.pointer (some ⟨mb', 0, none⟩)) ∧ (mb' = u.1 ∨ X.heap.size ≤ mb') ∧ MapT w' mb' t' ∧ t'.ents 7 0 = del (u.2.1.ents 7 0) id ∧ ((u.2.1.get 7 id = none ∧ t' = u.2.1) ∨ (u.2.1.get 7 id ≠ none ∧ DropR X.heap.size id 7 t' u.2.1)) ∧ Below X.heap.size X w') := fun X hX => mdrop_j u.1 id hid u.2.1 X (hVi.later (below_step hb0 hX)).1
  have hputAs : Hid (∀ X, Below w1.heap.size w1 X → Calls Tryd.prog 17 #[.pointer (some ⟨u.2.2.1, 0, none⟩), .int .u32 (id : Int), .int .i64 a] X fun e w' => ∃ nb, e = .returned (.pointer (some ⟨nb, 0, none⟩)) ∧ ((nb = u.2.2.1 ∧ rfHas (u.2.1.ents 7 0) id = false ∧ del (u.2.1.ents 7 0) id = u.2.1.ents 7 0 ∧ RsAt w' u.2.2.1 (u.2.1.ents 7 0) u.2.2.2) ∨ (rfHas (u.2.1.ents 7 0) id = true ∧ X.heap.size ≤ nb ∧ RsAt w' nb (del (u.2.1.ents 7 0) id) (updS u.2.2.2 id a))) ∧ Below X.heap.size X w') := fun X hX => dropAs_rs u.2.2.2 u.2.2.1 id hid a (u.2.1.ents 7 0) hkeys hlen X (hVi.later (below_step hb0 hX)).2
  have hwH : Hid (u.2.1.wf 7) := hw
  have hOH : Hid (PlayO w lo pb vg vw vs) := hO
  have hVH : Hid (Pvs w a vs) := hV
  clear hc hrow hkeys hlen hw hVi hO hV
  unfold opV
  go_enter Tryd.func6, Tryd.ntmps6
  go_wp2_with fail
  rw [← hw1, ← hPe]
  have hPH : Hid (P = w.heap.size) := hPe
  clear hw1 hPe
  go_quiet (fail)
  go_wp2_with fail
  go_quiet (fail)
  go_wp2_with fail
  go_quiet (fail)
  go_wp2_with fail
  generalize hVe : w1.drewN _ = V
  have hbV : Below w1.heap.size w1 V := by rw [← hVe]; exact below_drewN (Below.refl _ _) _
  clear hVe c0 c1 c2 c3 r0 r1
  have hD := hbV.drew
  have hS := hS0.out _ hD
  go_region_held3 (fun X => X.cell? ⟨P, 3, none⟩ = some (.int .u32 (id : Int))) (with_reducible assumption)
    (first
      | (go_at_call 16; refine (hput.out _ hD).mono ?_; rintro e w5 ⟨mb5, t5, rfl, hm5, hM5, hE5, hc5, hb5⟩; have hm5H : Hid (_ ∨ _) := hm5; have hE5H : Hid (_ = _) := hE5; have hc5H : Hid (_ ∨ _) := hc5; clear hE5 hc5 hm5; have hB5 := below_step hD hb5; have hS5 := hS0.out _ hB5)
      | (go_at_call 17; refine (hputAs.out _ hB5).mono ?_; rintro e w6 ⟨nb6, rfl, hc6, hb6⟩; obtain ⟨s6, hx6, hs6⟩ := made_drop hwH.out hid hM5 hE5H.out hc5H.out hc6 hb6; clear hc6; have hB6 := below_step hB5 hb6; have hS6 := hS0.out _ hB6; obtain ⟨j1, j2, j3, j4, j5⟩ := join_at hOH.out hVH.out hlo (below_step hb0 hD) (below_step hb5 hb6) hu hx6 hid hs6 hm5H.out; have j5H : Hid _ := j5; have hj := joins_any lo pb vg vw vs (mb5, t5, nb6, s6) hl w6 j1 j2 j3 j4; clear j1 j2 j3 j4 j5 hs6 hx6)
      | (go_at_call 14; refine hj.mono ?_; rintro e w7 ⟨rfl, hq⟩; have hst := j5H.out _ hq; have hPl6 := Nat.lt_of_lt_of_le hlt hB6.size; have hS7 := (join_cell (o := 3) hOH.out hq (Nat.le_of_eq hPH.out.symm) hPl6).trans hS6; clear hq))
  go_wp2
  go_ret
  exact ⟨rfl, hst⟩

end Go.Proofs.YtmppgcijbeipfaaDoor


namespace Go.Proofs.YtmppgcijbeipfaaDoor
open Go.RowKit

set_option maxRecDepth 4000 in
set_option maxHeartbeats 4000000 in
/-- Put. -/
theorem step_put (lo pb : Nat) (vg vw : Value) (vs : List Pv) (i : Nat) (hi : i < vs.length) (n : Int) (id : Nat) (hid : id < 4294967296) (x y a : Int) (w : World) (hO : PlayO w lo pb vg vw vs) (hV : Pvs w a vs) (hlo : lo ≤ w.heap.size) (hl : (vs.length + 1) * 8 ≤ 140737488355328) : Calls Tryd.prog 6 #[.pointer (some ⟨pb, 0, none⟩), opV 1 (i : Int) n id x y, .int .i64 a] w fun e w' => e = .returned (.bool true) ∧ StepQ lo pb vs a w w' := by
  obtain ⟨w1, hw1⟩ : ∃ w1, w1 = w.alloc (.cells #[.int .i64 1, .int .i64 (i : Int), .int .i64 n, .int .u32 (id : Int), .int .i64 x, .int .i64 y] 31) := ⟨_, rfl⟩
  have hb0 : Below w.heap.size w w1 := by rw [hw1]; exact (Below.refl w.heap.size w).alloc (Nat.le_refl _) _
  have hrow : w1.heap[w.heap.size]? = some (.cells #[.int .i64 1, .int .i64 (i : Int), .int .i64 n, .int .u32 (id : Int), .int .i64 x, .int .i64 y] 31 (0, 0)) := by rw [hw1]; exact heap_alloc_last w _
  obtain ⟨P, hPe⟩ : ∃ P, P = w.heap.size := ⟨_, rfl⟩
  rw [← hPe] at hrow
  obtain ⟨h0, gg, gw, cg, cw, h1, h2, c0, c1, hc⟩ := (hO.read (by omega)).later hb0
  obtain ⟨c2, c3⟩ := hc i hi
  have hi0 : (0 : Int) ≤ (i : Int) := Int.natCast_nonneg _
  have hi1 : (i : Int) < (vs.length : Int) := Int.ofNat_lt.2 hi
  have hi2 : ¬ (i : Int) < 0 := by omega
  have hi3 : ¬ (i : Int) ≥ (vs.length : Int) := by omega
  have hlt : P < w1.heap.size := (Array.getElem?_eq_some_iff.1 hrow).1
  have hS0 : Hid (∀ X, Below w1.heap.size w1 X → X.cell? ⟨P, 3, none⟩ = some (.int .u32 (id : Int)) ∧ X.cell? ⟨P, 4, none⟩ = some (.int .i64 x) ∧ X.cell? ⟨P, 5, none⟩ = some (.int .i64 y)) := fun X hX => ⟨(hX.cell (p := ⟨P, 3, none⟩) hlt).trans (cell_of_row _ _ 3 _ _ _ hrow), (hX.cell (p := ⟨P, 4, none⟩) hlt).trans (cell_of_row _ _ 4 _ _ _ hrow), (hX.cell (p := ⟨P, 5, none⟩) hlt).trans (cell_of_row _ _ 5 _ _ _ hrow)⟩
  have r0 : w1.cell? ⟨P, 0, none⟩ = some (.int .i64 1) := cell_of_row _ _ 0 _ _ _ hrow
  have r1 : w1.cell? ⟨P, 1, none⟩ = some (.int .i64 (i : Int)) := cell_of_row _ _ 1 _ _ _ hrow
  have hu := List.getElem_mem hi
  have hVi := hV.at' _ hu
  have hw := hVi.1.2.2.2.2
  have hkeys := pv_keys hVi
  have hlen := Nat.le_trans (pv_len hVi) (show 4294967296 ≤ 5000000000 by decide)
  generalize vs[i] = u at *
  have hput : Hid (∀ X, Below w1.heap.size w1 X → Calls Tryd.prog 9 #[.pointer (some ⟨u.1, 0, none⟩), .int .u32 (id : Int), .agg #[.int .i64 x, .int .i64 y]] X fun e w' => ∃ mb' t', e = .returned (.pointer (some ⟨mb', 0, none⟩)) ∧ (mb' = u.1 ∨ X.heap.size ≤ mb') ∧ MapT w' mb' t' ∧ t'.ents 7 0 = ins (u.2.1.ents 7 0) id (x, y) ∧ ((u.2.1.get 7 id = some (x, y) ∧ t' = u.2.1) ∨ (u.2.1.get 7 id ≠ some (x, y) ∧ PutR X.heap.size id (x, y) 7 t' u.2.1)) ∧ Below X.heap.size X w') := fun X hX => mput_j u.1 id hid (x, y) u.2.1 X (hVi.later (below_step hb0 hX)).1
  have hputAs : Hid (∀ X, Below w1.heap.size w1 X → Calls Tryd.prog 15 #[.pointer (some ⟨u.2.2.1, 0, none⟩), .int .u32 (id : Int), .agg #[.int .i64 x, .int .i64 y], .int .i64 a] X fun e w' => ∃ nb, e = .returned (.pointer (some ⟨nb, 0, none⟩)) ∧ ((nb = u.2.2.1 ∧ ins (u.2.1.ents 7 0) id (x, y) = u.2.1.ents 7 0 ∧ (∃ h : rfPl (u.2.1.ents 7 0) id < (u.2.1.ents 7 0).length, (u.2.1.ents 7 0)[rfPl (u.2.1.ents 7 0) id] = (id, (x, y))) ∧ RsAt w' u.2.2.1 (u.2.1.ents 7 0) u.2.2.2) ∨ ((¬ ∃ h : rfPl (u.2.1.ents 7 0) id < (u.2.1.ents 7 0).length, (u.2.1.ents 7 0)[rfPl (u.2.1.ents 7 0) id] = (id, (x, y))) ∧ X.heap.size ≤ nb ∧ RsAt w' nb (ins (u.2.1.ents 7 0) id (x, y)) (updS u.2.2.2 id a))) ∧ Below X.heap.size X w') := fun X hX => putAs_rs u.2.2.2 u.2.2.1 id hid x y a (u.2.1.ents 7 0) hkeys hlen X (hVi.later (below_step hb0 hX)).2
  have hwH : Hid (u.2.1.wf 7) := hw
  have hOH : Hid (PlayO w lo pb vg vw vs) := hO
  have hVH : Hid (Pvs w a vs) := hV
  clear hc hrow hkeys hlen hw hVi hO hV
  unfold opV
  go_enter Tryd.func6, Tryd.ntmps6
  go_wp2_with fail
  rw [← hw1, ← hPe]
  have hPH : Hid (P = w.heap.size) := hPe
  clear hw1 hPe
  go_quiet (fail)
  go_wp2_with fail
  go_quiet (fail)
  go_wp2_with fail
  go_quiet (fail)
  go_wp2_with fail
  generalize hVe : w1.drewN _ = V
  have hbV : Below w1.heap.size w1 V := by rw [← hVe]; exact below_drewN (Below.refl _ _) _
  clear hVe c0 c1 c2 c3 r0 r1
  have hD := hbV.drew
  have hS := hS0.out _ hD
  go_region_held3 (fun X => X.cell? ⟨P, 3, none⟩ = some (.int .u32 (id : Int)) ∧ X.cell? ⟨P, 4, none⟩ = some (.int .i64 x) ∧ X.cell? ⟨P, 5, none⟩ = some (.int .i64 y)) (with_reducible assumption)
    (first
      | (go_at_call 9; refine (hput.out _ hD).mono ?_; rintro e w5 ⟨mb5, t5, rfl, hm5, hM5, hE5, hc5, hb5⟩; have hm5H : Hid (_ ∨ _) := hm5; have hE5H : Hid (_ = _) := hE5; have hc5H : Hid (_ ∨ _) := hc5; clear hE5 hc5 hm5; have hB5 := below_step hD hb5; have hS5 := hS0.out _ hB5)
      | (go_at_call 15; refine (hputAs.out _ hB5).mono ?_; rintro e w6 ⟨nb6, rfl, hc6, hb6⟩; obtain ⟨s6, hx6, hs6⟩ := made_put hwH.out hid hM5 hE5H.out hc5H.out hc6 hb6; clear hc6; have hB6 := below_step hB5 hb6; have hS6 := hS0.out _ hB6; obtain ⟨j1, j2, j3, j4, j5⟩ := join_at hOH.out hVH.out hlo (below_step hb0 hD) (below_step hb5 hb6) hu hx6 hid hs6 hm5H.out; have j5H : Hid _ := j5; have hj := joins_any lo pb vg vw vs (mb5, t5, nb6, s6) hl w6 j1 j2 j3 j4; clear j1 j2 j3 j4 j5 hs6 hx6)
      | (go_at_call 14; refine hj.mono ?_; rintro e w7 ⟨rfl, hq⟩; have hst := j5H.out _ hq; have hPl6 := Nat.lt_of_lt_of_le hlt hB6.size; have hS7 := And.intro ((join_cell (o := 3) hOH.out hq (Nat.le_of_eq hPH.out.symm) hPl6).trans hS6.1) (And.intro ((join_cell (o := 4) hOH.out hq (Nat.le_of_eq hPH.out.symm) hPl6).trans hS6.2.1) ((join_cell (o := 5) hOH.out hq (Nat.le_of_eq hPH.out.symm) hPl6).trans hS6.2.2)); clear hq))
  go_wp2
  go_ret
  exact ⟨rfl, hst⟩

end Go.Proofs.YtmppgcijbeipfaaDoor


namespace Go.Proofs.YtmppgcijbeipfaaDoor
open Go.RowKit

set_option maxRecDepth 4000 in
set_option maxHeartbeats 4000000 in
/-- A second version that isn't there. -/
theorem step_nout (pb : Nat) (vs : List Pv) (i : Nat) (hi : i < vs.length) (k n : Int) (hk : k < 1 ∨ 6 < k) (hn : n < 0 ∨ (vs.length : Int) ≤ n) (id : Nat) (x y a : Int) (w : World) (hP : PlayR w pb vs) : Calls Tryd.prog 6 #[.pointer (some ⟨pb, 0, none⟩), opV k (i : Int) n id x y, .int .i64 a] w fun e w' => e = .returned (.bool true) ∧ Below w.heap.size w w' := by
  have hb0 := (Below.refl w.heap.size w).alloc (Nat.le_refl _) (.cells #[.int .i64 k, .int .i64 (i : Int), .int .i64 n, .int .u32 (id : Int), .int .i64 x, .int .i64 y] 31)
  obtain ⟨h0, gg, gw, cg, cw, h1, h2, c0, c1, hc⟩ := hP.later hb0
  obtain ⟨c2, c3⟩ := hc i hi
  have hi0 : (0 : Int) ≤ (i : Int) := Int.natCast_nonneg _
  have hi1 : (i : Int) < (vs.length : Int) := Int.ofNat_lt.2 hi
  have hi2 : ¬ (i : Int) < 0 := by omega
  have hi3 : ¬ (i : Int) ≥ (vs.length : Int) := by omega
  have k1 : (k == 1) = false := by simp; omega
  have k2 : (k == 2) = false := by simp; omega
  have k3 : (k == 3) = false := by simp; omega
  have k4 : (k == 4) = false := by simp; omega
  have k5 : (k == 5) = false := by simp; omega
  have k6 : (k == 6) = false := by simp; omega
  clear hc hP hk
  generalize vs[i] = v at *
  unfold opV
  go_enter Tryd.func6, Tryd.ntmps6
  by_cases hneg : n < 0
  · clear hn
    go_wp2_with fail
    go_quiet (fail)
    go_wp2_with fail
    go_quiet (fail)
    go_wp2_with fail
    go_quiet (fail)
    go_wp2_with fail
    go_quiet (fail)
    go_wp2
    go_ret
    exact ⟨rfl, by repeat (first | exact hb0 | refine below_drewN ?_ _)⟩
  · have hge : n ≥ (vs.length : Int) := by omega
    clear hn
    go_wp2_with fail
    go_quiet (fail)
    go_wp2_with fail
    go_quiet (fail)
    go_wp2_with fail
    go_quiet (fail)
    go_wp2_with fail
    go_quiet (fail)
    go_wp2
    go_ret
    exact ⟨rfl, by repeat (first | exact hb0 | refine below_drewN ?_ _)⟩

set_option maxRecDepth 4000 in
set_option maxHeartbeats 4000000 in
/-- No kind of a step. -/
theorem step_else (pb : Nat) (vs : List Pv) (i j : Nat) (hi : i < vs.length) (hj : j < vs.length) (k : Int) (hk : k < 1 ∨ 9 < k) (id : Nat) (x y a : Int) (w : World) (hP : PlayR w pb vs) : Calls Tryd.prog 6 #[.pointer (some ⟨pb, 0, none⟩), opV k (i : Int) (j : Int) id x y, .int .i64 a] w fun e w' => e = .returned (.bool true) ∧ Below w.heap.size w w' := by
  have hb0 := (Below.refl w.heap.size w).alloc (Nat.le_refl _) (.cells #[.int .i64 k, .int .i64 (i : Int), .int .i64 (j : Int), .int .u32 (id : Int), .int .i64 x, .int .i64 y] 31)
  obtain ⟨h0, gg, gw, cg, cw, h1, h2, c0, c1, hc⟩ := hP.later hb0
  obtain ⟨c2, c3⟩ := hc i hi
  obtain ⟨c4, c5⟩ := hc j hj
  have hi0 : (0 : Int) ≤ (i : Int) := Int.natCast_nonneg _
  have hi1 : (i : Int) < (vs.length : Int) := Int.ofNat_lt.2 hi
  have hi2 : ¬ (i : Int) < 0 := by omega
  have hi3 : ¬ (i : Int) ≥ (vs.length : Int) := by omega
  have hj0 : (0 : Int) ≤ (j : Int) := Int.natCast_nonneg _
  have hj1 : (j : Int) < (vs.length : Int) := Int.ofNat_lt.2 hj
  have hj2 : ¬ (j : Int) < 0 := by omega
  have hj3 : ¬ (j : Int) ≥ (vs.length : Int) := by omega
  have k1 : (k == 1) = false := by simp; omega
  have k2 : (k == 2) = false := by simp; omega
  have k3 : (k == 3) = false := by simp; omega
  have k4 : (k == 4) = false := by simp; omega
  have k5 : (k == 5) = false := by simp; omega
  have k6 : (k == 6) = false := by simp; omega
  have k7 : (k == 7) = false := by simp; omega
  have k8 : (k == 8) = false := by simp; omega
  have k9 : (k == 9) = false := by simp; omega
  clear hc hP hk
  generalize vs[i] = u at *
  generalize vs[j] = v at *
  unfold opV
  go_enter Tryd.func6, Tryd.ntmps6
  go_wp2_with fail
  go_quiet (fail)
  go_wp2_with fail
  go_quiet (fail)
  go_wp2_with fail
  go_quiet (fail)
  go_wp2_with fail
  go_quiet (fail)
  go_wp2_with fail
  go_quiet (fail)
  go_wp2_with fail
  go_quiet (fail)
  go_wp2
  go_ret
  exact ⟨rfl, by repeat (first | exact hb0 | refine below_drewN ?_ _)⟩

end Go.Proofs.YtmppgcijbeipfaaDoor


namespace Go.Proofs.YtmppgcijbeipfaaDoor
open Go.RowKit

/-- A list of entries whose capacity holds them. -/
def EntsC (W : World) (v : Value) (L : Es) : Prop := ∃ a c, v = .slice a L.length c ∧ L.length ≤ c ∧ EntsAt W (.slice a L.length c) L
theorem EntsC.ents {W : World} {v : Value} {L : Es} (h : EntsC W v L) : EntsAt W v L := by
  obtain ⟨a, c, rfl, -, h⟩ := h
  exact h
theorem EntsC.later {W W' : World} {v : Value} {L : Es} (h : EntsC W v L) (hb : Below W.heap.size W W') : EntsC W' v L := by
  obtain ⟨a, c, rfl, h0, h⟩ := h
  exact ⟨a, c, rfl, h0, h.later hb⟩
theorem own_le {W : World} {b t k n : Nat} {a : Option Addr} {c : Nat} {xs : List Value} (ho : W.ownsRow b t k (.slice a n c) n xs) : n ≤ c := by
  obtain ⟨_, ⟨e, h0⟩ | ⟨g, cap, cur, e, _, _, h, _⟩⟩ := ho
  · omega
  · have : c = cap := by injection e
    omega

set_option maxRecDepth 4000 in
set_option maxHeartbeats 4000000 in
theorem list_rfc (b : Nat) (L : Es) (hl : L.length ≤ 5000000000) (w : World) (h : RfAt w b L) : Calls Tryd.prog 24 #[.pointer (some ⟨b, 0, none⟩)] w fun e w' => ∃ v, e = .returned v ∧ EntsC w' v L ∧ Below w.heap.size w w' := by
  have hbV : Hid (b < w.heap.size) := h.lt
  obtain ⟨ai, av, az, ci, cv, cs, c0, c1, c2, hc⟩ := h.cells
  obtain ⟨ik, hik, hz0, hz1, hz2⟩ := info_parts infoE
  go_enter Tryd.func24, Tryd.ntmps24
  go_wp2
  go_loopw [3, 4] (fun lv iv X => ∃ t : Nat, Hid (t ≤ L.length) ∧ iv = .int .i64 (t : Int) ∧ X.ownsRow w.heap.size 49 3 lv t (flat3 (L.take t)) ∧ Below w.heap.size w X) (fun _ iv _ => L.length - (intOf iv).toNat)
  case atStart => exact ⟨0, Nat.zero_le _, rfl, World.ownsRow_nil _ _ _ _, Below.refl _ _⟩
  case round =>
    obtain ⟨t, ht, rfl, hown, hB⟩ := hrel
    obtain ⟨ea, ec, rfl, -⟩ := own_sl hown
    have d0 := (hB.cell (p := ⟨b, 0, none⟩) hbV.out).trans c0
    have d1 := (hB.cell (p := ⟨b, 1, none⟩) hbV.out).trans c1
    by_cases hlt : t < L.length
    · have hlt' : (t : Int) < (L.length : Int) := Int.ofNat_lt.2 hlt
      have ht0 : (0 : Int) ≤ (t : Int) := Int.natCast_nonneg _
      obtain ⟨gi, gv, gs, rfl, rfl, rfl, hgi, hgv, -, hcc, -⟩ := hc (Nat.lt_of_le_of_lt (Nat.zero_le _) hlt)
      obtain ⟨a0, a1, a2⟩ := hcc t hlt
      have b0 := (hB.cell (p := ⟨gi, t, none⟩) hgi).trans a0
      have b1 := (hB.cell (p := ⟨gv, t * 2, none⟩) hgv).trans a1
      have b2 := (hB.cell (p := ⟨gv, t * 2 + 1, none⟩) hgv).trans a2
      have htk : Hid (flat3 (L.take (t + 1)) = flat3 (L.take t) ++ [.int .u32 (L[t].1 : Int), .int .i64 L[t].2.1, .int .i64 L[t].2.2]) := by
        show flat3 _ = _
        rw [List.take_succ_eq_append_getElem hlt]
        exact flat3_snoc _ L[t].1 L[t].2.1 L[t].2.2
      generalize L[t].1 = key at *
      generalize L[t].2.1 = kx at *
      generalize L[t].2.2 = ky at *
      have hlt2 : Hid (t < L.length ∧ L.length ≤ 5000000000) := ⟨hlt, hl⟩
      have hbA : Below wr.heap.size wr (wr.alloc (.cells #[.int .u32 (key : Int), .int .i64 kx, .int .i64 ky] 49)).drew := ((Below.refl wr.heap.size wr).alloc (Nat.le_refl _) _).drew
      have hA := own_laterB hown hbA
      have hBA := below_step hB hbA
      have hnl : t + 1 ≤ maxLen ∧ (t + 1) * 24 ≤ 140737488355328 := by have := hlt2.out; unfold maxLen; omega
      have hlo : ∀ j, (Value.slice ea t ec).ownBlock = some j → w.heap.size ≤ j := fun j e => (hown.lt j e).1
      clear hcc hc a0 a1 a2 hlt ht c0 c1 c2
      go_wp2_with fail
      go_region_law (refine step_append_own _ rfl _ _ 44 rfl w.heap.size 49 ik _ 3 24 Tryd.underlying44 hik hz0 hz1 hz2 rfl (by decide) _ t (flat3 (L.take t)) rfl hA ⟨wr.heap.size, 0, none⟩ 1 1 [.int .u32 (key : Int), .int .i64 kx, .int .i64 ky] rfl rfl (cells3_at wr _ rfl _ _ _ _) (fun u hu => by { simp at hu; rcases hu with rfl | rfl | rfl <;> rfl }) hnl.1 hnl.2 hBA.size ?_; intro v2 w2 hown2 hgrow2; obtain ⟨g2, cap2, rfl⟩ := own_some hown2 (by omega))
      all_goals
        have hB2 := hBA.grown hgrow2 hBA.size hlo
        rw [← htk.out] at hown2
        clear hA hBA hbA hgrow2 hnl htk hlo
        obtain ⟨hn5, hn4⟩ := hlt2.out
        go_wp2
        exact ⟨⟨t + 1, hn5, by go_num, hown2, hB2⟩, by simp [intOf]; omega⟩
    · have hlt' : ¬ (t : Int) < (L.length : Int) := fun h => hlt (Int.ofNat_lt.1 h)
      obtain rfl : t = L.length := by have := ht.out; omega
      rw [List.take_length] at hown
      have hE := ents_of_own hown
      have hle := own_le hown
      clear hc c0 c1 c2
      go_wp2
      go_ret
      exact ⟨_, rfl, ⟨_, _, rfl, hle, hE⟩, hB⟩

theorem ents_drop_at {W : World} {g off n c c' : Nat} {L : Es} (h : EntsAt W (.slice (some ⟨g, off, none⟩) L.length c) L) (hn : n < L.length) : EntsAt W (.slice (some ⟨g, off + n * 3, none⟩) (L.length - n) c') (L.drop n) := by
  obtain ⟨a, cap, e, h⟩ := h
  injection e with e1 _ _
  subst e1
  refine ⟨_, c', by rw [List.length_drop], .inr ⟨g, off + n * 3, rfl, ?_⟩⟩
  rcases h with rfl | ⟨g', off', e, hg, hc⟩
  · exact absurd hn (by simp)
  · obtain ⟨rfl, rfl⟩ : g = g' ∧ off = off' := by
      injection e with e
      injection e with e1 e2 _
      exact ⟨e1, e2⟩
    refine ⟨hg, fun i hi => ?_⟩
    rw [List.length_drop] at hi
    have := hc (n + i) (by omega)
    rw [List.getElem_drop, show off + n * 3 + i * 3 = off + (n + i) * 3 from by omega]
    exact this
theorem ents_take_at {W : World} {a : Option Addr} {n c c' : Nat} {L : Es} (h : EntsAt W (.slice a L.length c) L) (hn : n ≤ L.length) : EntsAt W (.slice a n c') (L.take n) := by
  obtain ⟨a', cap, e, h⟩ := h
  injection e with e1 _ _
  subst e1
  refine ⟨_, c', by rw [List.length_take, Nat.min_eq_left hn], ?_⟩
  rcases h with rfl | ⟨g, off, e, hg, hc⟩
  · exact .inl (by simp)
  · refine .inr ⟨g, off, e, hg, fun i hi => ?_⟩
    rw [List.length_take] at hi
    rw [List.getElem_take]
    exact hc i (by omega)

set_option maxHeartbeats 1000000 in
theorem cut_rf (v : Value) (L : Es) (n : Int) (hl : L.length ≤ 5000000000) (w : World) (h : EntsC w v L) : Calls Tryd.prog 23 #[v, .int .i64 n] w fun e w' => ∃ v', e = .returned v' ∧ EntsAt w' v' (if n < 0 then L else L.take n.toNat) ∧ w' = w := by
  obtain ⟨a, c, rfl, hlc, hE⟩ := h
  go_enter Tryd.func23, Tryd.ntmps23
  by_cases h0 : n < 0
  · rw [if_pos h0]
    go_wp2
    go_ret
    exact ⟨_, rfl, hE, rfl⟩
  · rw [if_neg h0]
    by_cases h1 : n > (L.length : Int)
    · rw [List.take_of_length_le (by omega)]
      go_wp2
      go_ret
      exact ⟨_, rfl, hE, rfl⟩
    · have hn0 : 0 ≤ n := by omega
      have hnl : n ≤ (L.length : Int) := by omega
      obtain ⟨k, rfl⟩ := Int.eq_ofNat_of_zero_le hn0
      have hk : k ≤ L.length := Int.ofNat_le.1 hnl
      have hkc : k ≤ c := Nat.le_trans hk hlc
      have hR := ents_take_at (c' := c) hE hk
      rw [Int.toNat_natCast]
      go_wp2
      go_ret
      exact ⟨_, rfl, hR, rfl⟩

end Go.Proofs.YtmppgcijbeipfaaDoor


namespace Go.Proofs.YtmppgcijbeipfaaDoor
open Go.RowKit

/-- What a script of puts and drops makes of a list of entries. -/
def scr (E : List (Nat × (Int × Int))) (L : List (Nat × (Int × (Int × Bool)))) : List (Nat × (Int × Int)) := L.foldl (fun E p => stepL E p.1 (p.2.1, p.2.2.1) p.2.2.2) E
theorem scr_snoc (E : List (Nat × (Int × Int))) (L : List (Nat × (Int × (Int × Bool)))) (p : Nat × (Int × (Int × Bool))) : scr E (L ++ [p]) = stepL (scr E L) p.1 (p.2.1, p.2.2.1) p.2.2.2 := by simp [scr]
theorem stepL_len (E : List (Nat × (Int × Int))) (id : Nat) (v : Int × Int) (gone : Bool) : (stepL E id v gone).length ≤ E.length + 1 := by
  have h1 := length_ins E id v
  have h2 := length_del E id
  unfold stepL
  split <;> omega
theorem scr_len (E : List (Nat × (Int × Int))) : ∀ (L : List (Nat × (Int × (Int × Bool)))), (scr E L).length ≤ E.length + L.length
  | [] => by simp [scr]
  | p :: L => by
    have h := scr_len (stepL E p.1 (p.2.1, p.2.2.1) p.2.2.2) L
    have h1 := stepL_len E p.1 (p.2.1, p.2.2.1) p.2.2.2
    show (scr (stepL E p.1 (p.2.1, p.2.2.1) p.2.2.2) L).length ≤ _
    rw [List.length_cons]
    omega
theorem take_step {α : Type} {L : List α} {j : Nat} (h : j < L.length) : L.take (j + 1) = L.take j ++ [L[j]] := List.take_succ_eq_append_getElem h

/-- The place that made hands out as the second. -/
def atN (n : Int) (k : Nat) : Nat := if 1 ≤ n ∧ n ≤ k then n.toNat else 0

/-- What made answers. -/
def MadeP (w : World) (L : List (Nat × (Int × (Int × Bool)))) (n : Int) (e : Ending) (w' : World) : Prop := ∃ (mb : Nat) (t : Tr) (ab : Nat) (ta : Tr), e = .returned (.tuple #[.pointer (some ⟨mb, 0, none⟩), .pointer (some ⟨ab, 0, none⟩)]) ∧ MapT w' mb t ∧ t.ents 7 0 = scr [] (L.take 200) ∧ MapT w' ab ta ∧ ta.ents 7 0 = scr [] (L.take (atN n (min L.length 200))) ∧ Below w.heap.size w w'

end Go.Proofs.YtmppgcijbeipfaaDoor

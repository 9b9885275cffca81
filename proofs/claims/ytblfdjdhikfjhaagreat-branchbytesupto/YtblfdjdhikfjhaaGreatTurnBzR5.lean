import Derived.Test.YtblfdjdhikfjhaaGreatJoin24
namespace Go.Proofs.YtblfdjdhikfjhaaGreat.BZ
open Go.RowKit

/-- A block that is no part of a map, a history, a branch. -/
def Rw (W : World) (r : Nat) : Prop := (∀ u, W.cell? ⟨r, 0, none⟩ ≠ some (.pointer u)) ∧ (∀ b, W.cell? ⟨r, 0, none⟩ ≠ some (.bool b)) ∧ ∀ cs m, W.heap[r]? ≠ some (.cells cs 114 m)
theorem RAt.rw {W : World} {rb : Nat} {t : List UInt8} {bad : Bool} (h : RAt W rb t bad) : Rw W rb := by
  obtain ⟨-, a, cap, h1, -⟩ := h
  have c0 := cell_of_row _ _ 0 _ _ _ h1
  refine ⟨fun u e => ?_, fun b e => ?_, fun cs m e => ?_⟩
  · rw [c0] at e; simp at e
  · rw [c0] at e; simp at e
  · rw [h1] at e
    injection e with e
    injection e with _ e
    revert e
    decide
theorem rw_map {H : Type} {P : Program} {k : TypeId} {R : Value → Option (DataW H × List MemPlace)} {b n : Nat} {D : DataW H} {W : World} (h : W.ownsMap P k R b n D) : Rw W b := by
  obtain ⟨es, clock, hb, -⟩ := h
  exact ⟨fun u e => by simp [World.cell?, hb] at e, fun u e => by simp [World.cell?, hb] at e, fun cs m e => by rw [hb] at e; cases e⟩
theorem Rw.neP {W : World} {r b : Nat} {u : Option Addr} (h : Rw W r) (hc : W.cell? ⟨b, 0, none⟩ = some (.pointer u)) : r ≠ b := by
  rintro rfl
  exact h.1 u hc
theorem Rw.neB {W : World} {r b : Nat} {u : Bool} (h : Rw W r) (hc : W.cell? ⟨b, 0, none⟩ = some (.bool u)) : r ≠ b := by
  rintro rfl
  exact h.2.1 u hc
theorem lies_rw {W W' : World} {r : Nat} (hO : Rw W r) (hg : W.grownBy W' (some r)) : ∀ {t : Tr}, Lies W t → Lies W' t := by
  intro t
  induction t with
  | nil => intro _; trivial
  | node b kids ih =>
    intro h
    obtain ⟨u, hu⟩ := ptr_pointer (kids 0)
    have h0 := h.1.kid (i := 0) (by decide)
    rw [hu] at h0
    refine ⟨(hg.block b h.1.lt (fun e => ?_)).trans h.1, fun i hi => ih i (h.2 i hi)⟩
    exact hO.neP h0 (Option.some.inj e).symm
  | leaf b s th vk vn =>
    intro h
    have h0 := h.1.shelf
    have h1 := h.2.th (i := 0) (by decide)
    have h2 := h.1.kid (i := 0) (by decide)
    exact ⟨(hg.block b h.1.lt (fun e => hO.neP h2 (Option.some.inj e).symm)).trans h.1, (hg.block s h.2.lt (fun e => hO.neB h1 (Option.some.inj e).symm)).trans h.2⟩
theorem mapE_rw {W W' : World} {b r : Nat} {L : Es} (h : MapE W b L) (hO : Rw W r) (hg : W.grownBy W' (some r)) : MapE W' b L := by
  obtain ⟨t, h, h2⟩ := h
  have hne : some r ≠ some b := fun e => by
    obtain ⟨u, hu⟩ := ptr_pointer t
    have h0 := h.2.1
    rw [hu] at h0
    exact hO.neP h0 (Option.some.inj e)
  exact ⟨t, ⟨Nat.lt_of_lt_of_le h.1 hg.size, (grown_cell hg h.1 hne).trans h.2.1, (grown_cell hg h.1 hne).trans h.2.2.1, lies_rw hO hg h.2.2.2.1, h.2.2.2.2⟩, h2⟩
theorem hist_rw {W W' : World} {hb r : Nat} {Ls : List Es} {p : Nat} (h : HistAt W hb Ls p) (hO : Rw W r) (hg : W.grownBy W' (some r)) : HistAt W' hb Ls p := by
  obtain ⟨h1, h2, g, cap, vs, h3, h4, h5, h6⟩ := h
  have hne : some r ≠ some hb := fun e => by
    obtain rfl := Option.some.inj e
    exact hO.2.2 _ _ h3
  have hne2 : some r ≠ some g := fun e => by
    have := (h6.2 0 (by omega)).1
    exact hO.neP this (Option.some.inj e)
  refine ⟨h1, h2, g, cap, vs, (hg.block hb h3.lt hne.symm).trans h3, h4, h5, Nat.lt_of_lt_of_le h6.1 hg.size, fun i hi => ?_⟩
  obtain ⟨k1, k2, k3⟩ := h6.2 i hi
  exact ⟨(grown_cell hg h6.1 hne2).trans k1, mapE_rw k2 hO hg, k3⟩
theorem br_rw {W W' : World} {b : Br} {r : Nat} (h : BrAt W b) (hO : Rw W r) (hg : W.grownBy W' (some r)) : BrAt W' b := by
  have hl := h.lt
  obtain ⟨⟨g, h1, h2⟩, h3, h4⟩ := h
  have c0 : W.cell? ⟨b.xb, 0, none⟩ = some (.pointer (some ⟨b.hb, 0, none⟩)) := cell_of_row _ _ 0 _ _ _ h1
  exact ⟨⟨g, (hg.block _ hl (fun e => hO.neP c0 (Option.some.inj e).symm)).trans h1, mapE_rw h2 hO hg⟩, hist_rw h3 hO hg, h4⟩
/-- Something behind the reader turns: the reader stays. -/
theorem RAt.far {W W' : World} {rb r : Nat} {t : List UInt8} {bad : Bool} (h : RAt W rb t bad) (hr : rb < r) (hg : W.grownBy W' (some r)) : RAt W' rb t bad := by
  have hl := h.lt
  obtain ⟨h0, a, cap, h1, h2, h3, h4⟩ := h
  refine ⟨h0, a, cap, (hg.block _ hl (fun e => by have := Option.some.inj e; omega)).trans h1, h2, h3, h4.other hg (fun ht b off e e2 => ?_)⟩
  rcases h4 with h4 | ⟨b', off', e', -, h5, -⟩
  · exact ht h4
  · rw [e] at e'
    cases e'
    cases e2
    omega

theorem mem_of_valE {L : Es} (h : Rises L) {id : Nat} {v : Int × Int} : ins L id v = L ↔ (id, v) ∈ L := ⟨fun e => by rw [← e]; exact mem_ins.2 (.inl rfl), fun e => ins_same h e⟩
theorem del_eq {L : Es} {id : Nat} : del L id = L ↔ ∀ v, (id, v) ∉ L := ⟨fun e v hv => by rw [← e] at hv; exact (mem_del.1 hv).1 rfl, del_none⟩

/-- What a Put makes, and when it makes nothing. -/
theorem mput_e (mb id : Nat) (hi : id < 4294967296) (v : Int × Int) (L : Es) (w : World) (h : MapE w mb L) : Calls Tryz.prog 34 #[.pointer (some ⟨mb, 0, none⟩), .int .u32 (id : Int), .agg #[.int .i64 v.1, .int .i64 v.2]] w fun e w' => ∃ mb', e = .returned (.pointer (some ⟨mb', 0, none⟩)) ∧ MapE w' mb' (ins L id v) ∧ ((mb' = mb ∧ ins L id v = L) ∨ (mb' ≠ mb ∧ (∃ cs, w'.heap[mb']? = some (.cells cs 83 (0, 0))) ∧ ins L id v ≠ L)) ∧ Below w.heap.size w w' := by
  obtain ⟨t, h, rfl⟩ := h
  have hw := h.2.2.2.2
  have hlt := h.1
  have hr := ents_rises 7 hw 0
  have hlen := length_ins (t.ents 7 0) id v
  cases hg : t.get 7 id with
  | none =>
    refine (put_none mb id v t w h hg).mono ?_
    rintro e w' ⟨mb', t', rfl, h0, h1, h2, h3, h4, h5, h6⟩
    have he := ents_put h5 hw hi
    have hf : (t.ents 7 0).filter (fun e => decide (e.1 = id)) = [] := filter_none fun x hx => by rw [mem_of_get hw hi, hg] at hx; cases hx
    rw [hf] at hlen
    refine ⟨mb', rfl, ⟨t', ⟨h1, h2, ?_, h4, put_wf 7 h5 hw⟩, he⟩, .inr ⟨by have := h0.1; omega, h0.2, fun e => ?_⟩, h6⟩
    · rw [h3, he, ← hlen]
      simp
    · have := (mem_of_get hw hi).1 ((mem_of_valE hr).1 e)
      rw [hg] at this
      cases this
  | some x =>
    have hf := filter_one (ents_rises 7 hw 0) ((mem_of_get hw hi).2 hg)
    by_cases hx : x = v
    · subst hx
      have e := ins_same hr ((mem_of_get hw hi).2 hg)
      refine (put_same mb id x t w h hg).mono ?_
      rintro _ w' ⟨rfl, hb⟩
      exact ⟨mb, rfl, ⟨t, h.later hb, e.symm⟩, .inl ⟨rfl, e⟩, hb⟩
    · refine (put_other mb id v t w h x hx hg).mono ?_
      rintro e w' ⟨mb', t', rfl, h0, h1, h2, h3, h4, h5, h6⟩
      have he := ents_put h5 hw hi
      refine ⟨mb', rfl, ⟨t', ⟨h1, h2, ?_, h4, put_wf 7 h5 hw⟩, he⟩, .inr ⟨by have := h0.1; omega, h0.2, fun e => ?_⟩, h6⟩
      · rw [h3, he]
        congr 3
        omega
      · have := (mem_of_get hw hi).1 ((mem_of_valE hr).1 e)
        rw [hg] at this
        exact hx (Option.some.inj this)
/-- What a Drop makes, and when it makes nothing. -/
theorem mdrop_e (mb id : Nat) (hi : id < 4294967296) (L : Es) (w : World) (h : MapE w mb L) : Calls Tryz.prog 107 #[.pointer (some ⟨mb, 0, none⟩), .int .u32 (id : Int)] w fun e w' => ∃ mb', e = .returned (.pointer (some ⟨mb', 0, none⟩)) ∧ MapE w' mb' (del L id) ∧ ((mb' = mb ∧ del L id = L) ∨ (mb' ≠ mb ∧ (∃ cs, w'.heap[mb']? = some (.cells cs 83 (0, 0))) ∧ del L id ≠ L)) ∧ Below w.heap.size w w' := by
  obtain ⟨t, h, rfl⟩ := h
  have hw := h.2.2.2.2
  have hlt := h.1
  have hlen := length_del (t.ents 7 0) id
  cases hg : t.get 7 id with
  | none =>
    have e : del (t.ents 7 0) id = t.ents 7 0 := del_none fun x hx => by rw [mem_of_get hw hi, hg] at hx; cases hx
    refine (drop_none mb id t w h hg).mono ?_
    rintro _ w' ⟨rfl, hb⟩
    exact ⟨mb, rfl, ⟨t, h.later hb, e.symm⟩, .inl ⟨rfl, e⟩, hb⟩
  | some x =>
    have hf := filter_one (ents_rises 7 hw 0) ((mem_of_get hw hi).2 hg)
    refine (drop_some mb id (del (t.ents 7 0) id).length t w h x hg (by omega)).mono ?_
    rintro e w' ⟨mb', t', rfl, h0, h1, h2, h3, h4, h5, h6⟩
    have he := ents_drop h5 hw hi
    refine ⟨mb', rfl, ⟨t', ⟨h1, h2, ?_, h4, drop_wf 7 h5 hw⟩, he⟩, .inr ⟨by have := h0.1; omega, h0.2, fun e => ?_⟩, h6⟩
    · rw [h3, he]
    · exact del_eq.1 e x ((mem_of_get hw hi).2 hg)

/-- A map, another one than mb if it tells something else. -/
def VM (mb : Nat) (L : Es) (_ W' : World) (L2 : Es) (v : Value) : Prop := ∃ mb2, v = .pointer (some ⟨mb2, 0, none⟩) ∧ MapE W' mb2 L2 ∧ ((mb2 = mb ∧ L2 = L) ∨ (mb2 ≠ mb ∧ (∃ cs, W'.heap[mb2]? = some (.cells cs 83 (0, 0))) ∧ L2 ≠ L))

theorem wrap32 {id : Nat} (h : id < 4294967296) : IntKind.u32.wrap (id : Int) = (id : Int) := by rw [IntKind.wrap_u32]; omega
set_option maxRecDepth 4000 in
set_option maxHeartbeats 2000000 in
theorem rchange_any (rb mb id : Nat) (hi : id < 4294967296) (L : Es) (W : World) {t : List UInt8} {bad : Bool} (hl : t.length ≤ 9223372036854775806) (h : RAt W rb t bad) (hm : MapE W mb L) : Calls Tryz.prog 88 #[.pointer (some ⟨rb, 0, none⟩), .pointer (some ⟨mb, 0, none⟩), .int .u32 (id : Int)] W (Xc (rCh L id) (VM mb L) rb t bad W) := by
  have hk := rbet_any rb 0 1 W hl h
  have hrw := h.rw
  go_enter Tryz.func88, Tryz.ntmps88
  go_wp2_with (go_at_call 51; fail)
  refine hk.mono ?_
  intro e w1 hx
  obtain ⟨k, t1, b1, rfl, hk1, hR1, hG1, hX1⟩ := hx.outB
  have hm1 := mapE_rw hm hrw hG1
  have hl1 := hX1.short (sh_B 0 1) hR1
  clear hx hk h hm
  by_cases hz : k = 0
  · subst hz
    have hd := mdrop_e mb id hi L w1 hm1
    go_wp2_with (go_at_call 107; fail)
    refine hd.mono ?_
    rintro e w2 ⟨mb2, rfl, hm2, hne, hb2⟩
    have hfin : Xc (rCh L id) (VM mb L) rb t bad W (.returned (.pointer (some ⟨mb2, 0, none⟩))) w2 := ⟨del L id, _, t1, b1, rfl, ⟨mb2, rfl, hm2, hne⟩, hR1.later hb2, hG1.trans (Gr.of_below hb2), hX1.bd Xq.pure⟩
    clear hR1 hG1 hX1 hm1 hm2 hd
    go_wp2
    exact bodyPost_ret (v := .pointer (some ⟨mb2, 0, none⟩)) (by simp [results, Tryz.results88, go_sem]) rfl hfin
  · have hz' : ((k : Int) == 0) = false := by rw [beq_eq_false_iff_ne]; omega
    have hs1 := rint_any rb w1 (by omega) hR1
    have hrw1 := hR1.rw
    go_wp2_with (go_at_call 108; fail)
    refine hs1.mono ?_
    rintro e w2 ⟨x, v2, t2, b2, rfl, ⟨rfl, hx2⟩, hR2, hG2, hX2⟩
    have hm2 := mapE_rw hm1 hrw1 hG2
    have hl2 := hX2.short sh_I hR2
    have hs2 := rint_any rb w2 (by omega) hR2
    have hrw2 := hR2.rw
    clear hs1 hm1
    go_wp2_with (go_at_call 108; fail)
    refine hs2.mono ?_
    rintro e w3 ⟨y, v3, t3, b3, rfl, ⟨rfl, hy3⟩, hR3, hG3, hX3⟩
    have hm3 := mapE_rw hm2 hrw2 hG3
    have hp := mput_e mb id hi (x, y) L w3 hm3
    clear hs2 hm2
    go_wp2_with (go_at_call 34; fail)
    refine hp.mono ?_
    rintro e w4 ⟨mb4, rfl, hm4, hne, hb4⟩
    have hfin : Xc (rCh L id) (VM mb L) rb t bad W (.returned (.pointer (some ⟨mb4, 0, none⟩))) w4 := ⟨ins L id (x, y), _, t3, b3, rfl, ⟨mb4, rfl, hm4, hne⟩, hR3.later hb4, ((hG1.trans hG2).trans hG3).trans (Gr.of_below hb4), hX1.bd (by rw [if_neg hz]; exact hX2.bd (hX3.bd Xq.pure))⟩
    clear hR1 hG1 hX1 hm3 hm4 hp hR2 hR3 hX2 hX3 hG2 hG3
    go_wp2
    exact bodyPost_ret (v := .pointer (some ⟨mb4, 0, none⟩)) (by simp [results, Tryz.results88, go_sem]) rfl hfin

end Go.Proofs.YtblfdjdhikfjhaaGreat.BZ

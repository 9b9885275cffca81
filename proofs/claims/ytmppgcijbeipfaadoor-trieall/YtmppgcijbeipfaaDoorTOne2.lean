import Derived.Test.YtmppgcijbeipfaaDoorTLaid
namespace Go.Proofs.YtmppgcijbeipfaaDoor
open Go.RowKit

/-- A map of the world w that goes through no block that an elder one didn't go through. -/
def Fresh (w : World) (mb : Nat) (t : Tr) (mb' : Nat) (t' : Tr) : Prop := ∀ b, b < w.heap.size → b ≠ mb → t.avoid b → mb' ≠ b ∧ t'.avoid b

theorem mput_fresh (mb id : Nat) (hi : id < 4294967296) (v : Int × Int) (t : Tr) (w : World) (h : MapT w mb t) : Calls Tryd.prog 9 #[.pointer (some ⟨mb, 0, none⟩), .int .u32 (id : Int), .agg #[.int .i64 v.1, .int .i64 v.2]] w fun e w' => ∃ mb' t', e = .returned (.pointer (some ⟨mb', 0, none⟩)) ∧ MapT w' mb' t' ∧ t'.ents 7 0 = ins (t.ents 7 0) id v ∧ Below w.heap.size w w' ∧ Fresh w mb t mb' t' := by
  have hw := h.2.2.2.2
  have hlen := length_ins (t.ents 7 0) id v
  cases hg : t.get 7 id with
  | none =>
    refine (put_none mb id v t w h hg).mono ?_
    rintro e w' ⟨mb', t', rfl, h0, h1, h2, h3, h4, h5, h6⟩
    have he := ents_put h5 hw hi
    have hf : (t.ents 7 0).filter (fun e => decide (e.1 = id)) = [] := filter_none fun x hx => by rw [mem_of_get hw hi, hg] at hx; cases hx
    rw [hf] at hlen
    refine ⟨mb', t', rfl, ⟨h1, h2, ?_, h4, put_wf 7 h5 hw⟩, he, h6, fun b hb _ ha => ⟨by omega, put_avoid hb 7 h5 ha⟩⟩
    rw [h3, he, ← hlen]
    simp
  | some x =>
    have hf := filter_one (ents_rises 7 hw 0) ((mem_of_get hw hi).2 hg)
    by_cases hx : x = v
    · subst hx
      refine (put_same mb id x t w h hg).mono ?_
      rintro e w' ⟨rfl, hb⟩
      exact ⟨mb, t, rfl, h.later hb, (ins_same (ents_rises 7 hw 0) ((mem_of_get hw hi).2 hg)).symm, hb, fun b _ hn ha => ⟨Ne.symm hn, ha⟩⟩
    · refine (put_other mb id v t w h x hx hg).mono ?_
      rintro e w' ⟨mb', t', rfl, h0, h1, h2, h3, h4, h5, h6⟩
      have he := ents_put h5 hw hi
      refine ⟨mb', t', rfl, ⟨h1, h2, ?_, h4, put_wf 7 h5 hw⟩, he, h6, fun b hb _ ha => ⟨by omega, put_avoid hb 7 h5 ha⟩⟩
      rw [h3, he]
      congr 3
      omega

theorem mdrop_fresh (mb id : Nat) (hi : id < 4294967296) (t : Tr) (w : World) (h : MapT w mb t) : Calls Tryd.prog 16 #[.pointer (some ⟨mb, 0, none⟩), .int .u32 (id : Int)] w fun e w' => ∃ mb' t', e = .returned (.pointer (some ⟨mb', 0, none⟩)) ∧ MapT w' mb' t' ∧ t'.ents 7 0 = del (t.ents 7 0) id ∧ Below w.heap.size w w' ∧ Fresh w mb t mb' t' := by
  have hw := h.2.2.2.2
  have hlen := length_del (t.ents 7 0) id
  cases hg : t.get 7 id with
  | none =>
    refine (drop_none mb id t w h hg).mono ?_
    rintro e w' ⟨rfl, hb⟩
    exact ⟨mb, t, rfl, h.later hb, (del_none fun x hx => by rw [mem_of_get hw hi, hg] at hx; cases hx).symm, hb, fun b _ hn ha => ⟨Ne.symm hn, ha⟩⟩
  | some x =>
    have hf := filter_one (ents_rises 7 hw 0) ((mem_of_get hw hi).2 hg)
    refine (drop_some mb id (del (t.ents 7 0) id).length t w h x hg (by omega)).mono ?_
    rintro e w' ⟨mb', t', rfl, h0, h1, h2, h3, h4, h5, h6⟩
    have he := ents_drop h5 hw hi
    refine ⟨mb', t', rfl, ⟨h1, h2, ?_, h4, drop_wf 7 h5 hw⟩, he, h6, fun b hb _ ha => ⟨by omega, drop_avoid hb 7 h5 ha⟩⟩
    rw [h3, he]

theorem lies_grown {w w' : World} {row : Option Nat} (hg : w.grownBy w' row) : ∀ {t : Tr}, Lies w t → (∀ r, row = some r → t.avoid r) → Lies w' t := by
  intro t
  induction t with
  | nil => intro _ _; trivial
  | node c kids ih => intro h ha; exact ⟨(hg.block c h.1.lt (fun e => (ha c e.symm).1 rfl)).trans h.1, fun i hi => ih i (h.2 i hi) (fun r hr => (ha r hr).2 i hi)⟩
  | leaf c s th vk vn => intro h ha; exact ⟨(hg.block c h.1.lt (fun e => (ha c e.symm).1 rfl)).trans h.1, (hg.block s h.2.lt (fun e => (ha s e.symm).2 rfl)).trans h.2⟩
theorem map_grown {w w' : World} {row : Option Nat} {mb : Nat} {t : Tr} (hg : w.grownBy w' row) (h : MapT w mb t) (ha : ∀ r, row = some r → mb ≠ r ∧ t.avoid r) : MapT w' mb t := by
  have hb : w'.heap[mb]? = w.heap[mb]? := hg.block mb h.1 (fun e => (ha mb e.symm).1 rfl)
  exact ⟨Nat.lt_of_lt_of_le h.1 hg.size, (World.cell?_of_block hb).trans h.2.1, (World.cell?_of_block hb).trans h.2.2.1, lies_grown hg h.2.2.2.1 (fun r hr => (ha r hr).2), h.2.2.2.2⟩

end Go.Proofs.YtmppgcijbeipfaaDoor

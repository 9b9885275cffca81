import Derived.Test.YtakcdgeanbpllaaGreatDoorDnD
/- RECORDS IN MEMORY OF THEIR OWN. -/
namespace Go.Proofs.YtakcdgeanbpllaaGreatDoor.DJ
open Go.RowKit

theorem own_rowT {W : World} {base n size : Nat} {e : TypeId} {v : Value} {xs : List Value} {g : Nat} (h : W.ownsRow base e size v n xs) (hg : v.ownBlock = some g) : base ≤ g ∧ ∃ cs, W.heap[g]? = some (.cells cs e (0, 0)) := by
  obtain ⟨q1, ⟨rfl, -⟩ | ⟨g', cap, cur, rfl, hb, r, rest⟩⟩ := h
  · cases hg
  · obtain rfl : g' = g := by simpa [Value.ownBlock] using hg
    exact ⟨hb, _, r⟩

/-- The cells of records whose bodies are these slices. -/
def rcV (L : List (Rec × Value)) : List Value := L.flatMap fun x => [.int .u8 (x.1.1 : Int), x.2]
theorem rcV_snoc (L : List (Rec × Value)) (r : Rec) (v : Value) : rcV (L ++ [(r, v)]) = rcV L ++ [.int .u8 (r.1 : Int), v] := by unfold rcV; rw [List.flatMap_append]; rfl
theorem rcV_get : ∀ (L : List (Rec × Value)) (i : Nat) (h : i < L.length), (rcV L)[i * 2]? = some (.int .u8 (L[i].1.1 : Int)) ∧ (rcV L)[i * 2 + 1]? = some L[i].2
  | d :: D, 0, _ => ⟨rfl, rfl⟩
  | d :: D, i + 1, h => by
    have := rcV_get D i (by simpa using h)
    rw [show (i + 1) * 2 = i * 2 + 2 by omega]
    exact this

/-- One record and its body. -/
structure RcB (w : World) (base : Nat) (x : Rec × Value) : Prop where
  kd : x.1.1 < 256
  byt : ∀ y ∈ x.1.2, y < 256
  own : w.ownsRow base 5 1 x.2 x.1.2.length (bysV x.1.2)
def RcO (w : World) (base : Nat) (v : Value) (R : List Rec) : Prop := ∃ L : List (Rec × Value), L.map Prod.fst = R ∧ w.ownsRow base 38 2 v R.length (rcV L) ∧ ∀ x ∈ L, RcB w base x
theorem RcO.nil (w : World) (base : Nat) : RcO w base (.slice none 0 0) [] := ⟨[], rfl, World.ownsRow_nil _ _ _ _, fun x hx => by simp at hx⟩
theorem RcB.grS {S : Nat → Prop} {w w' : World} {base : Nat} {x : Rec × Value} (h : RcB w base x) (hg : GrS S w w') (hS : ∀ g cs, base ≤ g → w.heap[g]? = some (.cells cs 5 (0, 0)) → ¬ S g) : RcB w' base x :=
  ⟨h.kd, h.byt, hg.own h.own (fun g e => by obtain ⟨q, cs, r⟩ := own_rowT h.own e; exact hS g cs q r)⟩
theorem RcO.grS {S : Nat → Prop} {w w' : World} {base : Nat} {v : Value} {R : List Rec} (h : RcO w base v R) (hg : GrS S w w') (hS : ∀ g cs t, base ≤ g → w.heap[g]? = some (.cells cs t (0, 0)) → (t = 38 ∨ t = 5) → ¬ S g) : RcO w' base v R := by
  obtain ⟨L, h1, h2, h3⟩ := h
  refine ⟨L, h1, hg.own h2 (fun g e => ?_), fun x hx => (h3 x hx).grS hg (fun g cs q r => hS g cs _ q r (.inr rfl))⟩
  obtain ⟨q, cs, r⟩ := own_rowT h2 e
  exact hS g cs _ q r (.inl rfl)
theorem RcO.later {w w' : World} {base : Nat} {v : Value} {R : List Rec} (h : RcO w base v R) (hb : Below w.heap.size w w') : RcO w' base v R := h.grS (S := fun _ => False) (.of_below hb) (fun _ _ _ _ _ _ h => h)
theorem RcO.mono {w : World} {base base' : Nat} {v : Value} {R : List Rec} (h : RcO w base v R) (hb : base' ≤ base) : RcO w base' v R := by
  obtain ⟨L, h1, h2, h3⟩ := h
  exact ⟨L, h1, h2.mono hb, fun x hx => ⟨(h3 x hx).kd, (h3 x hx).byt, (h3 x hx).own.mono hb⟩⟩
theorem rc_snoc {w w' : World} {base : Nat} {v v' bv : Value} {L : List (Rec × Value)} {r : Rec} (ho : w.ownsRow base 38 2 v L.length (rcV L)) (hL : ∀ x ∈ L, RcB w base x) (hr : RcB w base (r, bv)) (hg : w.grownBy w' v.ownBlock) (ho' : w'.ownsRow base 38 2 v' (L.length + 1) (rcV L ++ [.int .u8 (r.1 : Int), bv])) : RcO w' base v' (L.map Prod.fst ++ [r]) := by
  have hG : GrS (fun k => v.ownBlock = some k) w w' := .of_grown' hg (fun k e => e)
  have hS : ∀ g cs, base ≤ g → w.heap[g]? = some (.cells cs 5 (0, 0)) → ¬ v.ownBlock = some g := fun g cs _ hc e => by
    obtain ⟨-, cs', r'⟩ := own_rowT ho e
    rw [hc] at r'
    simp at r'
  refine ⟨L ++ [(r, bv)], by simp, ?_, fun x hx => ?_⟩
  · rw [rcV_snoc, List.length_append, List.length_map]
    exact ho'
  · rcases List.mem_append.1 hx with hx | hx
    · exact (hL x hx).grS hG hS
    · rw [List.mem_singleton.1 hx]
      exact hr.grS hG hS
theorem RcO.len {w : World} {base : Nat} {v : Value} {R : List Rec} (h : RcO w base v R) : ∃ a c, v = .slice a R.length c ∧ (a = none → c = 0) ∧ R.length ≤ c ∧ ∀ p, a = some p → base ≤ p.block := by
  obtain ⟨L, h1, h2, h3⟩ := h
  obtain ⟨q1, ⟨rfl, h0⟩ | ⟨g, cap, cur, rfl, hb, r, h4, -⟩⟩ := h2
  · rw [h0]
    exact ⟨none, 0, rfl, fun _ => rfl, Nat.le_refl _, fun p e => by cases e⟩
  · exact ⟨_, _, rfl, fun e => (by cases e), by omega, fun p e => by cases e; exact hb⟩
theorem RcO.at_ {w : World} {base : Nat} {a : Option Addr} {n c : Nat} {R : List Rec} (h : RcO w base (.slice a n c) R) : RcAt w a R := by
  obtain ⟨L, rfl, h2, h3⟩ := h
  refine ⟨fun r hr => ?_, ?_⟩
  · obtain ⟨x, hx, rfl⟩ := List.mem_map.1 hr
    exact (h3 x hx).kd
  · have h0 := h2
    obtain ⟨q1, ⟨e, hn⟩ | ⟨g, cap, cur, e, hb, r, -⟩⟩ := h0
    · exact .inl (List.length_eq_zero_iff.1 hn)
    · injection e with e1 e2 e3
      subst e1
      rw [e2] at h2
      refine .inr ⟨g, 0, rfl, (h2.lt g rfl).2, fun i hi => ?_⟩
      rw [List.length_map] at hi
      obtain ⟨g1, g2⟩ := rcV_get L i hi
      have hl : (rcV L).length = (L.map Prod.fst).length * 2 := h2.1
      rw [List.length_map] at hl
      have hx := h3 L[i] (List.getElem_mem hi)
      obtain ⟨p, cc, hp⟩ := own_lenB hx.own
      have k1 := h2.cellAt (i * 2) (by rw [List.length_map]; omega)
      have k2 := h2.cellAt (i * 2 + 1) (by rw [List.length_map]; omega)
      rw [Nat.zero_add, List.getElem_map]
      refine ⟨k1.trans g1, p, cc, ?_, byts_of_own (n := L[i].1.2.length) hx.byt (by rw [← hp]; exact hx.own)⟩
      rw [← hp]
      exact k2.trans g2
theorem byts_drop {W : World} {a : Option Addr} {bs : List Nat} (h : Byts W a bs) (k : Nat) (hk : k < bs.length) : ∃ b off, a = some ⟨b, off, none⟩ ∧ Byts W (some ⟨b, off + k, none⟩) (bs.drop k) := by
  obtain ⟨h0, rfl | ⟨b, off, rfl, hlt, hc⟩⟩ := h
  · simp at hk
  · refine ⟨b, off, rfl, fun x hx => h0 x (List.mem_of_mem_drop hx), .inr ⟨b, off + k, rfl, hlt, fun i hi => ?_⟩⟩
    rw [List.length_drop] at hi
    have := hc (k + i) (by omega)
    rw [List.getElem_drop, Nat.add_assoc]
    exact this
end Go.Proofs.YtakcdgeanbpllaaGreatDoor.DJ

import Derived.Test.YtpmfgffhkklfeaaDoorTLies
import Derived.Test.YtpmfgffhkklfeaaDoorTShM
namespace Go.Proofs.YtpmfgffhkklfeaaDoor

theorem ptr_blk {t a : Tr} (h : t.ptr = a.ptr) : t.blk = a.blk := by
  cases t <;> cases a <;> simp [Tr.ptr, Tr.blk] at h ⊢ <;> exact h
theorem lies_old {W : World} : ∀ {t : Tr}, Lies W t → t.old W.heap.size
  | .nil, _ => trivial
  | .node _ _, h => ⟨h.1.lt, fun i hi => lies_old (h.2 i hi)⟩
  | .leaf _ _ _ _ _, h => h.1.lt
/-- What lies at any block of a tree that is no nil: its children's pointers. -/
theorem lies_at {W : World} {t : Tr} {b : Nat} (h : Lies W t) (hb : t.blk = some b) {i : Nat} (hi : i < 16) : W.cell? ⟨b, i, none⟩ = some (t.kid i).ptr := by
  cases t with
  | nil => cases hb
  | node c kids => obtain rfl : c = b := Option.some.inj hb; exact h.1.kid hi
  | leaf c s th vk vn => obtain rfl : c = b := Option.some.inj hb; exact h.1.kid hi
theorem lies_eqv {W : World} : ∀ (t a : Tr), Lies W t → Lies W a → t.blk = a.blk → t.Eqv a
  | .nil, a, _, _, h => blk_none h.symm
  | .node b kids, a, h1, h2, h => ⟨h.symm, fun i hi => by
      have e1 := lies_at h1 (b := b) rfl hi
      have e2 := lies_at h2 (b := b) h.symm hi
      exact lies_eqv (kids i) (a.kid i) (h1.2 i hi) (h2.kid hi) (ptr_blk (Option.some.inj (e1.symm.trans e2)))⟩
  | .leaf b s th vk vn, a, h1, h2, h => ⟨h.symm, fun i hi => by
      have e1 := lies_at h1 (b := b) rfl hi
      have e2 := lies_at h2 (b := b) h.symm hi
      exact blk_none (ptr_blk (Option.some.inj (e2.symm.trans e1)))⟩
/-- Three trees of one world. -/
theorem frs_lies {W : World} (c b a : Tr) (hc : Lies W c) (hb : Lies W b) (ha : Lies W a) : c.frs a ≤ c.frs b + b.frs a :=
  frs_way (R := fun t a => Lies W t ∧ Lies W a) (fun h _ hi => ⟨h.1.kid hi, h.2.kid hi⟩) (fun h e => lies_eqv _ _ h.1 h.2 e) c b a ⟨hc, hb⟩ ⟨hb, ha⟩

end Go.Proofs.YtpmfgffhkklfeaaDoor

import Derived.Test.YthnmjafoplfikaaGreatDoorTurnYN2
import Derived.Deep.RegionLaw
namespace Go.Proofs.YthnmjafoplfikaaGreatDoor
open Go.RowKit

def kdC (ks : List Kd) : List Value := ks.flatMap (fun k => [.int .i64 k.1, .int .i64 k.2])
theorem kdC_snoc (ks : List Kd) (k : Kd) : kdC ks ++ [.int .i64 k.1, .int .i64 k.2] = kdC (ks ++ [k]) := by unfold kdC; rw [List.flatMap_append]; rfl
theorem own_fr {lb base : Nat} {X X' : World} {p q v : Value} {t : TypeId} {k n : Nat} {xs : List Value} (hb : lb + 1 ≤ base) (h : X.ownsRow base t k v n xs) (hF : Fr lb X p X' q) (hne : ∀ b, v.ownBlock = some b → some b ≠ p.ownBlock) : X'.ownsRow base t k v n xs := by
  have hlt := h.lt
  obtain ⟨hl, hv | ⟨g, cap, cur, rfl, hg, hc, h1⟩⟩ := h
  · exact ⟨hl, .inl hv⟩
  · have hg2 := hlt g rfl
    exact ⟨hl, .inr ⟨g, cap, cur, rfl, hg, by rw [hF.blk g hg2.2 (by omega) (hne g rfl)]; exact hc, h1⟩⟩
theorem elems_kd (W : World) (S : Nat → Prop) : ∀ ks : List Kd, Elems eKd W S ks (kdC ks)
  | [] => Elems.nil _ _ _
  | k :: ks => Elems.cons' (D := eKd) (cx := [.int .i64 k.1, .int .i64 k.2]) rfl (elems_kd W S ks)
/-- The kinds so far are a row. -/
theorem kd_row {W : World} {base : Nat} {v : Value} {ks : List Kd} (h : W.ownsRow base 163 2 v ks.length (kdC ks)) : ∃ ak ck, v = .slice ak ks.length ck ∧ RowR eKd W AnyB ks ak := by
  have hlt := h.lt
  have h' := h
  obtain ⟨hl, ⟨rfl, h0⟩ | ⟨g, cap, cur, rfl, hg, hc, h1⟩⟩ := h
  · have : ks = [] := List.eq_nil_of_length_eq_zero h0
    subst this
    exact ⟨none, 0, rfl, .inl rfl⟩
  · refine ⟨_, cap, rfl, .inr ⟨g, 0, kdC ks, rfl, trivial, (hlt g rfl).2, fun j hj => ?_, elems_kd _ _ _⟩⟩
    rw [Nat.zero_add]
    exact h'.cellAt j (by rw [← hl]; exact hj)
/-- What is asked of node, so deep. -/
def NodeIs (p : Pk) (g : Int) (a3 a4 a5 a6 a7 : Option Addr) (c3 c4 c5 c6 c7 : Nat) (lb s : Nat) (d : Nat) : Prop := ∀ (x : Ex) (ax : Option Addr) (cx : Nat) (W : World) (n : Nat) (path : List Nat) (pv : Value), LkS p (scG p a3 a4 a5 a6 a7 c3 c4 c5 c6 c7 g) lb s W n path pv → n ≤ 60 → path.length + d = 8 → SzE x → FoAt W (fun b => b < lb) x.args ax → Calls Tryz.prog 83 #[.pointer (some ⟨lb, 0, none⟩), .agg #[.int .i64 x.op, .int .i64 x.num, .int .i64 x.den, .int .i64 x.mode, .slice ax x.args.len cx]] W (NdP p (scG p a3 a4 a5 a6 a7 c3 c4 c5 c6 c7 g) lb s path pv (tN p g d x n).1 (tN p g d x n).2 W)
theorem fold_step (f : Ex → Nat → Nat × Except Ft Kd) (l : List Ex) {i : Nat} (h : i < l.length) (n : Nat) (acc : List Kd) : tFold f (l.drop i) i n acc = match f l[i] n with
    | (m, .error e) => (m, .error (i :: e.1, e.2))
    | (m, .ok k) => tFold f (l.drop (i + 1)) (i + 1) m (acc ++ [k]) := by
  rw [List.drop_eq_getElem_cons h]
  rfl
theorem tN_le (p : Pk) (g : Int) : ∀ (d : Nat) (x : Ex) (n m : Nat) (k : Kd), tN p g d x n = (m, .ok k) → m ≤ 60
  | 0, x, n, m, k, h => by
    unfold tN at h
    injection h with _ h
    cases h
  | d + 1, x, n, m, k, h => by
    have ih := tN_le p g d
    unfold tN at h
    split at h
    · injection h with _ h; cases h
    rename_i h0
    split at h
    · injection h with _ h; cases h
    split at h
    · injection h with _ h; cases h
    split at h
    · injection h with _ h; cases h
    rcases hf : tFold (tN p g d) (toL x.args) 0 (n + 1) [] with ⟨m1, e | ks⟩
    · rw [hf] at h; injection h with _ h; cases h
    · rw [hf] at h
      injection h with h1 h
      subst h1
      have key : ∀ (l : List Ex) (i n : Nat) (acc : List Kd) (m : Nat) (ks : List Kd), n ≤ 60 → tFold (tN p g d) l i n acc = (m, .ok ks) → m ≤ 60 := fun l => by
        induction l with
        | nil =>
          intro i n acc m ks hn h
          unfold tFold at h
          injection h with h _
          omega
        | cons x l ihl =>
          intro i n acc m ks hn h
          unfold tFold at h
          rcases hx : tN p g d x n with ⟨m2, e | k⟩
          · rw [hx] at h; injection h with _ h; cases h
          · rw [hx] at h
            exact ihl (i + 1) m2 (acc ++ [k]) m ks (ih x n m2 k hx) h
      exact key _ _ _ _ _ _ (by omega) hf
end Go.Proofs.YthnmjafoplfikaaGreatDoor

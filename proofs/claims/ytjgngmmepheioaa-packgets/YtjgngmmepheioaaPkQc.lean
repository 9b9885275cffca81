import Derived.Test.YtjgngmmepheioaaPkQb
namespace Go.Proofs.Ytjgngmmepheioaa
open Go.RowKit

theorem Wr.ok {a0 a1 x : List UInt8} {b0 b1 : Bool} {p q : Prop} (h : Wr a0 b0 a1 b1 x p) (f : q ↔ p) : Wr a0 b0 a1 b1 x q := ⟨fun h0 => ⟨(h.1 h0).1, (h.1 h0).2.1, f.2 (h.1 h0).2.2⟩, fun h0 hl hq => h.2 h0 hl (f.1 hq)⟩
def toL : Fo → List Ex
  | .nil => []
  | .cons a b c d x r => ⟨a, b, c, d, x⟩ :: toL r
theorem toL_len : ∀ f, (toL f).length = f.len
  | .nil => rfl
  | .cons a b c d x r => by show (toL r).length + 1 = r.len + 1; rw [toL_len r]
theorem encF_toL : ∀ f, encF f = (toL f).flatMap encE
  | .nil => rfl
  | .cons a b c d x r => by
    show _ = (_ :: toL r).flatMap encE
    rw [List.flatMap_cons, ← encF_toL r]
    rfl
theorem deepF_toL : ∀ (f : Fo) (x : Ex), x ∈ toL f → deepE x ≤ deepF f
  | .cons a b c d y r, x, h => by
    show deepE x ≤ max (1 + deepF y) (deepF r)
    rcases List.mem_cons.1 h with rfl | h
    · show 1 + deepF y ≤ _; omega
    · have := deepF_toL r x h; omega
theorem ofL_toL : ∀ f : Fo, ofL (toL f) = f
  | .nil => rfl
  | .cons a b c d x r => by show Fo.cons a b c d x (ofL (toL r)) = _; rw [ofL_toL r]
theorem deep_all {n : Nat} (f : Fo) (h : ∀ y ∈ toL f, deepE y ≤ n) : deepF f ≤ n := by
  have := deepF_ofL (toL f) h
  rwa [ofL_toL] at this
theorem Elems.cons' {α : Type} {D : Elt α} {W : World} {S : Nat → Prop} {x : α} {xs : List α} {cx cs : List Value} (hx : D.E W S x cx) (h : Elems D W S xs cs) : Elems D W S (x :: xs) (cx ++ cs) := by
  have hl := D.len hx
  refine ⟨by rw [List.length_append, h.1, hl, List.length_cons, Nat.add_mul, Nat.one_mul, Nat.add_comm], fun i hi => ?_⟩
  cases i with
  | zero =>
    rw [Nat.zero_mul, List.drop_zero, ← hl, List.take_left]
    exact hx
  | succ i =>
    have h2 := h.2 i (by simpa using hi)
    have e : List.drop ((i + 1) * D.k) (cx ++ cs) = List.drop (i * D.k) cs := by
      rw [Nat.succ_mul, Nat.add_comm, ← hl, ← List.drop_drop, List.drop_left]
    rw [e]
    exact h2
theorem elems_of_fo {W : World} {S : Nat → Prop} {g : Nat} : ∀ (f : Fo) (o : Nat), FoAt W S f (some ⟨g, o, none⟩) → ∃ cs, (∀ j, j < cs.length → W.cell? ⟨g, o + j, none⟩ = cs[j]?) ∧ Elems eE W S (toL f) cs
  | .nil, _, _ => ⟨[], fun j hj => by simp at hj, Elems.nil _ _ _⟩
  | .cons op num den mode args rest, o, ⟨g2, o2, a2, cap2, ha, hS, hg, ⟨k0, k1, k2, k3, k4⟩, hr, hA, hR⟩ => by
    injection ha with ha
    injection ha with h1 h2
    subst h1 h2
    obtain ⟨cs, hc, hE⟩ := elems_of_fo rest (o + 5) hR
    refine ⟨[.int .i64 op, .int .i64 num, .int .i64 den, .int .i64 mode, .slice a2 args.len cap2] ++ cs, fun j hj => ?_, Elems.cons' (D := eE) (x := ⟨op, num, den, mode, args⟩) ⟨a2, cap2, rfl, hr, hA⟩ hE⟩
    match j, hj with
    | 0, _ => exact k0
    | 1, _ => exact k1
    | 2, _ => exact k2
    | 3, _ => exact k3
    | 4, _ => exact k4
    | j + 5, hj =>
      have := hc j (by simp at hj; omega)
      rw [show o + (j + 5) = o + 5 + j by omega, this]
      rfl
theorem row_of_fo {W : World} {S : Nat → Prop} {f : Fo} {a : Option Addr} (h : FoAt W S f a) : RowR eE W S (toL f) a := by
  cases f with
  | nil => exact .inl rfl
  | cons op num den mode args rest =>
    have h0 := h
    obtain ⟨g, o, a2, cap2, rfl, hS, hg, -⟩ := h0
    obtain ⟨cs, hc, hE⟩ := elems_of_fo _ o h
    exact .inr ⟨g, o, cs, rfl, hS, hg, hc, hE⟩
theorem encE_pos (x : Ex) : 0 < (encE x).length := by unfold encE; have := encI_pos x.op; rw [List.length_append]; omega

def SzF : Fo → Prop
  | .nil => True
  | .cons _ _ _ _ args rest => args.len ≤ 9223372036854775807 ∧ SzF args ∧ SzF rest
def SzE (x : Ex) : Prop := x.args.len ≤ 9223372036854775807 ∧ SzF x.args
theorem toL_sz : ∀ f : Fo, SzF f → ∀ x ∈ toL f, SzE x
  | .nil, _, x, hx => by cases hx
  | .cons a b c d y r, h, x, hx => by
    rcases List.mem_cons.1 hx with rfl | hx
    · exact ⟨h.1, h.2.1⟩
    · exact toL_sz r h.2.2 x hx
/-- What is asked of the writer's expr, so deep. -/
def WExpr (F : Nat) (d : Nat) (wv : List Value) (dv : List Value) (lo wb : Nat) (W : World) : Prop := ∀ (x : Ex) (a : Option Addr) (cap : Nat) (acc : List UInt8) (b : Bool), WS lo wb W acc b → SzE x → (Rg x.op ∧ Rg x.num ∧ Rg x.den ∧ Rg x.mode) → FoAt W (fun b => b < lo) x.args a → Calls Try.prog F (wv ++ (.agg #[.int .i64 x.op, .int .i64 x.num, .int .i64 x.den, .int .i64 x.mode, .slice a x.args.len cap]) :: dv).toArray W (Wp lo wb acc b (encE x) (deepE x + d ≤ 65) W)
end Go.Proofs.Ytjgngmmepheioaa

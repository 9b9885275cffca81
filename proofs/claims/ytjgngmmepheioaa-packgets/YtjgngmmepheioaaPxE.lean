import Derived.Test.YtjgngmmepheioaaPxP
namespace Go.Proofs.Ytjgngmmepheioaa
open Go.RowKit

/-- Expressions in a row of memory. -/
def FoAt (W : World) (S : Nat → Prop) : Fo → Option Addr → Prop
  | .nil, _ => True
  | .cons op num den mode args rest, a => ∃ (g o : Nat) (a2 : Option Addr) (cap2 : Nat), a = some ⟨g, o, none⟩ ∧ S g ∧ g < W.heap.size ∧ (W.cell? ⟨g, o, none⟩ = some (.int .i64 op) ∧ W.cell? ⟨g, o + 1, none⟩ = some (.int .i64 num) ∧ W.cell? ⟨g, o + 2, none⟩ = some (.int .i64 den) ∧ W.cell? ⟨g, o + 3, none⟩ = some (.int .i64 mode) ∧ W.cell? ⟨g, o + 4, none⟩ = some (.slice a2 args.len cap2)) ∧ (Rg op ∧ Rg num ∧ Rg den ∧ Rg mode) ∧ FoAt W S args a2 ∧ FoAt W S rest (some ⟨g, o + 5, none⟩)
theorem FoAt.fr {W W' : World} {S : Nat → Prop} (hs : W.heap.size ≤ W'.heap.size) (hb : ∀ b, S b → b < W.heap.size → W'.heap[b]? = W.heap[b]?) : ∀ (f : Fo) (a : Option Addr), FoAt W S f a → FoAt W' S f a
  | .nil, _, _ => trivial
  | .cons op num den mode args rest, a, ⟨g, o, a2, cap2, ha, hS, hg, ⟨h0, h1, h2, h3, h4⟩, hr, hA, hR⟩ => by
    have k : ∀ i, W'.cell? ⟨g, i, none⟩ = W.cell? ⟨g, i, none⟩ := fun i => World.cell?_of_block (a := ⟨g, i, none⟩) (hb g hS hg)
    exact ⟨g, o, a2, cap2, ha, hS, Nat.lt_of_lt_of_le hg hs, ⟨(k _).trans h0, (k _).trans h1, (k _).trans h2, (k _).trans h3, (k _).trans h4⟩, hr, FoAt.fr hs hb args a2 hA, FoAt.fr hs hb rest _ hR⟩
theorem FoAt.mo {W : World} {S S' : Nat → Prop} (hb : ∀ b, b < W.heap.size → S b → S' b) : ∀ (f : Fo) (a : Option Addr), FoAt W S f a → FoAt W S' f a
  | .nil, _, _ => trivial
  | .cons _ _ _ _ args rest, _, ⟨g, o, a2, cap2, ha, hS, hg, hc, hr, hA, hR⟩ => ⟨g, o, a2, cap2, ha, hb g hg hS, hg, hc, hr, FoAt.mo hb args a2 hA, FoAt.mo hb rest _ hR⟩
def eE : Elt Ex where
  k := 5
  E := fun W S e cs => ∃ a cap, cs = [.int .i64 e.op, .int .i64 e.num, .int .i64 e.den, .int .i64 e.mode, .slice a e.args.len cap] ∧ (Rg e.op ∧ Rg e.num ∧ Rg e.den ∧ Rg e.mode) ∧ FoAt W S e.args a
  len := fun ⟨_, _, h, _⟩ => by rw [h]; rfl
  fr := fun ⟨a, cap, h, hr, hF⟩ hs hb => ⟨a, cap, h, hr, FoAt.fr hs hb _ _ hF⟩
  mo := fun ⟨a, cap, h, hr, hF⟩ hb => ⟨a, cap, h, hr, FoAt.mo hb _ _ hF⟩
theorem ofL_len : ∀ l, (ofL l).len = l.length
  | [] => rfl
  | e :: l => by show (ofL l).len + 1 = _; rw [ofL_len l]; rfl
theorem encF_ofL : ∀ l, encF (ofL l) = l.flatMap encE
  | [] => rfl
  | e :: l => by
    rw [List.flatMap_cons, ← encF_ofL l]
    rfl
theorem deepF_ofL {n : Nat} : ∀ l, (∀ e ∈ l, deepE e ≤ n) → deepF (ofL l) ≤ n
  | [], _ => Nat.zero_le _
  | e :: l, h => by
    have h1 := h e (by simp)
    have h2 := deepF_ofL l (fun x hx => h x (List.mem_cons_of_mem _ hx))
    show max (1 + deepF e.args) (deepF (ofL l)) ≤ n
    unfold deepE at h1
    omega
theorem Elems.cons {α : Type} {D : Elt α} {W : World} {S : Nat → Prop} {x : α} {xs : List α} {cs : List Value} (h : Elems D W S (x :: xs) cs) : D.E W S x (cs.take D.k) ∧ Elems D W S xs (cs.drop D.k) := by
  refine ⟨?_, ?_, fun i hi => ?_⟩
  · have := h.2 0 (by simp)
    simpa using this
  · rw [List.length_drop, h.1, List.length_cons, Nat.add_mul, Nat.one_mul]
    omega
  · have := h.2 (i + 1) (by simpa using hi)
    rw [Nat.add_mul, Nat.one_mul] at this
    rw [List.drop_drop, Nat.add_comm D.k]
    simpa using this
theorem fo_of_elems {W : World} {S : Nat → Prop} {g : Nat} (hS : S g) (hg : g < W.heap.size) : ∀ (l : List Ex) (o : Nat) (cs : List Value), (∀ j, j < cs.length → W.cell? ⟨g, o + j, none⟩ = cs[j]?) → Elems eE W S l cs → FoAt W S (ofL l) (some ⟨g, o, none⟩)
  | [], _, _, _, _ => trivial
  | e :: l, o, cs, hc, hE => by
    obtain ⟨h1, h2⟩ := hE.cons
    have hl := hE.1
    have hl5 : 5 ≤ cs.length := by
      rw [hl, List.length_cons]
      show 5 ≤ (l.length + 1) * 5
      omega
    obtain ⟨a, cap, hcs, hr, hF⟩ := h1
    have k : ∀ j (h : j < 5), W.cell? ⟨g, o + j, none⟩ = (cs.take 5)[j]? := fun j h => by
      rw [hc j (by omega), List.getElem?_take, if_pos h]
    rw [show cs.take eE.k = cs.take 5 from rfl] at hcs
    rw [hcs] at k
    refine ⟨g, o, a, cap, rfl, hS, hg, ⟨k 0 (by omega), k 1 (by omega), k 2 (by omega), k 3 (by omega), k 4 (by omega)⟩, hr, hF, ?_⟩
    refine fo_of_elems hS hg l (o + 5) (cs.drop 5) (fun j hj => ?_) h2
    rw [List.length_drop] at hj
    rw [List.getElem?_drop, Nat.add_assoc]
    exact hc (5 + j) (by omega)
theorem fo_of_row {W : World} {S : Nat → Prop} {l : List Ex} {a : Option Addr} (h : RowR eE W S l a) : FoAt W S (ofL l) a := by
  rcases h with rfl | ⟨g, o, cs, rfl, hS, hg, hc, hE⟩
  · trivial
  · exact fo_of_elems hS hg l o cs hc hE
theorem fo_gr {w w' : World} {lo k : Nat} {f : Fo} {a : Option Addr} (h : FoAt w (fun b => lo ≤ b) f a) (hg : w.grownBy w' (some k)) (hk : k < lo) : FoAt w' (fun b => lo ≤ b) f a := FoAt.fr hg.size (fun b hb hlt => hg.block b hlt (fun e => by injection e with e; omega)) f a h

end Go.Proofs.Ytjgngmmepheioaa

import Derived.Test.YthmjkmdbggfiiaaGreatDoorKbA
import Derived.Maps.AppendAt
import Derived.Laws.OwnMore
import Derived.OwnWalk
import Derived.Deep.Onto
import Derived.Below
import Derived.Laws.StructEq
/- Lists of any kind. -/
namespace Go.Proofs.YthmjkmdbggfiiaaGreatDoor.KB
open Go.RowKit
set_option linter.constructorNameAsVariable false

/-- A fact that the walk does not see. -/
structure Hid (p : Prop) : Prop where
  out : p
def StopJ (P : Prop) : Prop := P
theorem stopJ {P : Prop} (h : StopJ P) : P := h
/-- An append leaves what the old slice shows. -/
theorem append_keeps {P : Program} (w : World) (base : Nat) (t ty e : TypeId) (i : TypeInfo) (z : Value) (size bytes : Nat) (ht : P.underlying t = some (.slice e)) (hi : P.info? e = some i) (hz : i.zero = some z)
    (hsize : i.size = size) (hby : i.bytes = bytes) (hzs : z.cells.size = size) (hsz : 0 < size)
    (v : Value) (n : Nat) (xs : List Value) (hown : w.ownsRow base e size v n xs)
    (a : Addr) (m c : Nat) (news : List Value) (hl : news.length = m * size) (hnews : ∀ j u, news[j]? = some u → w.cell? (a.add j) = some u) (h1 : ∀ u ∈ news, u.oneCell' = true)
    (h63 : n + m ≤ maxLen) (hbytes : (n + m) * bytes ≤ 140737488355328) (hbase : base ≤ w.heap.size) :
    ∃ v' w', (Builtin.append_ #[t, t] ty #[v, .slice (some a) m c]).run P w = .ok v' w' ∧ w'.ownsRow base e size v' (n + m) (xs ++ news) ∧ w.grownBy w' v.ownBlock ∧ (v'.ownBlock = v.ownBlock ∨ v'.ownBlock = some w.heap.size) ∧ ∀ g j u, v.ownBlock = some g → xs[j]? = some u → w'.cell? ⟨g, j, none⟩ = some u := by
  obtain ⟨v', w', hr, h2, h3, -, h5⟩ := run_append_own_at (P := P) w base t ty e i z size bytes ht hi hz hsize hby hzs hsz v n xs hown a m c news hl hnews h1 h63 hbytes hbase
  refine ⟨v', w', hr, h2, h3, h5, fun g j u hg hu => ?_⟩
  have hj := (List.getElem?_eq_some_iff.1 hu).1
  have hxl := hown.1
  rcases hown.2 with ⟨rfl, -⟩ | ⟨g', cap, cur, rfl, hbg, hrow, hnc, hcm, hcs, htake⟩
  · cases hg
  · obtain rfl : g' = g := by simpa [Value.ownBlock] using hg
    subst hsize
    by_cases hroom : n + m ≤ cap
    · have hfit : n * i.size + news.length ≤ cur.size := by rw [hl, hcs, ← Nat.add_mul]; exact Nat.mul_le_mul_right _ hroom
      have hr2 := run_append_room (P := P) w t ty e i ht hi g' n cap cur hrow a m c news hl hnews h1 hroom hfit
      rw [hr] at hr2
      injection hr2 with e1 e2
      subst e1
      rw [h2.cellAt j (by rw [Nat.add_mul]; omega), List.getElem?_append_left hj]
      exact hu
    · have holds : ∀ j u, xs[j]? = some u → w.cell? ((⟨g', 0, none⟩ : Addr).add j) = some u := hown.cells (g := g') rfl
      have hsm : n + m ≤ 9223372036854775807 := by simp only [maxLen] at h63; omega
      subst hby
      have hr2 := run_append_grow (P := P) w t ty e i z ht hi hz ⟨g', 0, none⟩ n cap xs hown.1 holds a m c news hl hnews (by omega) (by omega) (growslice_fits (by omega) hbytes)
      rw [hr] at hr2
      injection hr2 with e1 e2
      subst e2
      have hlt := (Array.getElem?_eq_some_iff.1 hrow).1
      have hc := (hown.cellAt j (by omega)).trans hu
      have hb : (w.drew.alloc (.cells (xs.toArray ++ news.toArray ++ Builtin.zeroCells z.cells (grownCap w (n + m) cap e - (n + m))) e)).heap[g']? = w.drew.heap[g']? := heap_alloc_old _ _ hlt
      simp only [World.cell?, hb] at hc ⊢
      exact hc

/-- Only blocks of S may have changed. -/
structure GrS (S : Nat → Prop) (W W' : World) : Prop where
  os : W'.os = W.os
  tape : W'.tape = W.tape
  output : W'.output = W.output
  size : W.heap.size ≤ W'.heap.size
  block : ∀ k, k < W.heap.size → ¬ S k → W'.heap[k]? = W.heap[k]?
theorem GrS.of_grown {S : Nat → Prop} {W W' : World} {b : Option Nat} (h : W.grownBy W' b) (hb : ∀ k, b = some k → S k) : GrS S W W' := ⟨h.os, h.tape, h.output, h.size, fun k hk hn => h.block k hk (fun e => hn (hb k e.symm))⟩
theorem GrS.of_below {S : Nat → Prop} {W W' : World} (h : Below W.heap.size W W') : GrS S W W' := ⟨h.os, h.tape, h.output, h.size, fun k hk _ => h.block k hk⟩
theorem GrS.trans {S : Nat → Prop} {W X Y : World} (h : GrS S W X) (h' : GrS S X Y) : GrS S W Y := ⟨h'.os.trans h.os, h'.tape.trans h.tape, h'.output.trans h.output, Nat.le_trans h.size h'.size, fun k hk hn => (h'.block k (Nat.lt_of_lt_of_le hk h.size) hn).trans (h.block k hk hn)⟩
theorem GrS.mono {S T : Nat → Prop} {W W' : World} (h : GrS S W W') (hs : ∀ k, k < W.heap.size → S k → T k) : GrS T W W' := ⟨h.os, h.tape, h.output, h.size, fun k hk hn => h.block k hk (fun e => hn (hs k hk e))⟩
theorem GrS.cell {S : Nat → Prop} {W W' : World} (h : GrS S W W') {b o : Nat} (hl : b < W.heap.size) (hn : ¬ S b) : W'.cell? ⟨b, o, none⟩ = W.cell? ⟨b, o, none⟩ := by
  have := h.block b hl hn
  simp only [World.cell?, this]
theorem GrS.below {S : Nat → Prop} {W W' : World} (h : GrS S W W') {lo : Nat} (hl : lo ≤ W.heap.size) (hs : ∀ k, S k → lo ≤ k) : Below lo W W' := ⟨h.os, h.tape, h.output, h.size, fun k hk => h.block k (Nat.lt_of_lt_of_le hk hl) (fun e => absurd (hs k e) (by omega))⟩
theorem GrS.own {S : Nat → Prop} {W W' : World} (h : GrS S W W') {base n size : Nat} {e : TypeId} {v : Value} {xs : List Value} (ho : W.ownsRow base e size v n xs) (hn : ∀ g, v.ownBlock = some g → ¬ S g) : W'.ownsRow base e size v n xs := by
  obtain ⟨q1, q2 | ⟨g, cap, cur, rfl, hb, r, rest⟩⟩ := ho
  · exact ⟨q1, .inl q2⟩
  · exact ⟨q1, .inr ⟨g, cap, cur, rfl, hb, (h.block g (Array.getElem?_eq_some_iff.1 r).1 (hn g rfl)).trans r, rest⟩⟩
theorem grS_set (W : World) (b o : Nat) (v : Value) : GrS (fun k => k = b) W (W.setCell ⟨b, o, none⟩ v) := ⟨rfl, rfl, rfl, by simp, fun k _ hn => heap_setCell_other W ⟨b, o, none⟩ k v hn⟩

/-- What a slice shows (n things, their cells), in blocks that nobody writes into. -/
def RwZ (W : World) (Z : Nat → Prop) (v : Value) (n : Nat) (xs : List Value) : Prop := ∃ a c, v = .slice a n c ∧ (n = 0 ∨ ∃ b, a = some ⟨b, 0, none⟩ ∧ Z b ∧ b < W.heap.size ∧ ∀ j u, xs[j]? = some u → W.cell? ⟨b, j, none⟩ = some u)
theorem RwZ.grS {W W' : World} {Z U : Nat → Prop} {v : Value} {n : Nat} {xs : List Value} (h : RwZ W Z v n xs) (hg : GrS U W W') (hU : ∀ b, Z b → ¬ U b) : RwZ W' Z v n xs := by
  obtain ⟨a, c, rfl, h | ⟨b, rfl, hz, hb, hc⟩⟩ := h
  · exact ⟨a, c, rfl, .inl h⟩
  · exact ⟨_, c, rfl, .inr ⟨b, rfl, hz, Nat.lt_of_lt_of_le hb hg.size, fun j u hu => (hg.cell hb (hU b hz)).trans (hc j u hu)⟩⟩
theorem RwZ.more {W : World} {Z Z' : Nat → Prop} {v : Value} {n : Nat} {xs : List Value} (h : RwZ W Z v n xs) (hZ : ∀ b, Z b → Z' b) : RwZ W Z' v n xs := by
  obtain ⟨a, c, rfl, h | ⟨b, rfl, hz, hb, hc⟩⟩ := h
  · exact ⟨a, c, rfl, .inl h⟩
  · exact ⟨_, c, rfl, .inr ⟨b, rfl, hZ b hz, hb, hc⟩⟩
theorem RwZ.of_own {W : World} {base n size : Nat} {e : TypeId} {v : Value} {xs : List Value} (h : W.ownsRow base e size v n xs) : RwZ W (fun b => v.ownBlock = some b) v n xs := by
  have h0 := h
  obtain ⟨q, ⟨rfl, hn⟩ | ⟨g, cap, cur, rfl, hb, r, -⟩⟩ := h0
  · exact ⟨none, 0, by rw [hn], .inl hn⟩
  · exact ⟨_, cap, rfl, .inr ⟨g, rfl, rfl, (Array.getElem?_eq_some_iff.1 r).1, fun j u hu => (h.cellAt j (by have := (List.getElem?_eq_some_iff.1 hu).1; omega)).trans hu⟩⟩
theorem RwZ.sl {W : World} {Z : Nat → Prop} {v : Value} {n : Nat} {xs : List Value} (h : RwZ W Z v n xs) : ∃ a c, v = .slice a n c := by
  obtain ⟨a, c, e, -⟩ := h
  exact ⟨a, c, e⟩
end Go.Proofs.YthmjkmdbggfiiaaGreatDoor.KB

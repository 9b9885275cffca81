import Derived.Test.YtekapipfaahhcaaGreatDoorWRng
import Derived.BigRegionIn
import Derived.Stop.RegionWithIn
import Derived.Deep.RegionHeld3
namespace Go.Proofs.YtekapipfaahhcaaGreatDoor.Q
open Go.RowKit Go.Shelf
attribute [local go_sem] Oper.semAt_some

theorem infoT : (Tryz.prog.info? 66).map (fun i => (i.zero, i.size, i.bytes)) = some (some (.agg #[.int .i64 0, .int .i64 0, .string ⟨#[]⟩, .int .i64 0, .int .i64 0]), 5, 48) := by kernel_rfl
/-- A token's five cells. -/
def tokL (x : Itm) : List Value := [.int .i64 (x.1.1 : Int), .int .i64 (x.2.1 : Int), .string ⟨x.1.2.1.toArray⟩, .int .i64 (x.1.2.2.1 : Int), .int .i64 (x.1.2.2.2 : Int)]
def tokLs (L : List Itm) : List Value := L.flatMap tokL
theorem tokLs_snoc (L : List Itm) (x : Itm) : tokLs (L ++ [x]) = tokLs L ++ tokL x := by simp [tokLs]
theorem tok_one (x : Itm) : ∀ u ∈ tokL x, u.oneCell' = true := by
  intro u hu
  simp only [tokL, List.mem_cons, List.not_mem_nil, or_false] at hu
  rcases hu with rfl | rfl | rfl | rfl | rfl <;> rfl
theorem foundP_len (l : List UInt8) : ∀ (f p : Nat) (bg : Bool), (foundP l f p bg).length ≤ 2 * f
  | 0, _, _ => by simp [foundP]
  | f + 1, p, bg => by
    unfold foundP
    split
    · split
      · simp; omega
      · have := foundP_len l f (nx l ‹Nat›) true
        simp
        omega
    · rw [List.length_append]
      have h1 : (if bg = true then [(((8, [], 0, 0), p, 0) : Itm)] else []).length ≤ 1 := by split <;> simp
      have h2 : (if p = l.length then [] else foundP l f (nx l (p + 1)) false).length ≤ 2 * f := by
        split
        · simp
        · exact foundP_len l f _ _
      omega
theorem foundL_len (l : List UInt8) : (foundL l).length ≤ 16002 := by
  unfold foundL
  split
  · simp
  · have := foundP_len l (l.length + 1) (nx l 0) false
    omega

def sI (w : World) (s : ByteArray) (pre : List Itm) (X : World) : Prop :=
  X.heap[w.heap.size]? = some (.cells #[.slice none 0 0] 51 (0, 0)) ∧ X.heap[w.heap.size + 1]? = some (.cells #[.int .i64 0] 3 (0, 0)) ∧ X.heap[w.heap.size + 2]? = some (.cells #[.int .i64 0] 54 (0, 0)) ∧
  (∃ v, X.heap[w.heap.size + 3]? = some (.cells #[v] 51 (0, 0)) ∧ X.ownsRow (w.heap.size + 5) 66 5 v pre.length (tokLs pre)) ∧ X.cell? ⟨w.heap.size + 4, 0, none⟩ = some (.string s) ∧ (∀ x ∈ pre, x.2.2 = 0) ∧ w.heap.size + 5 ≤ X.heap.size ∧ Below w.heap.size w X
def sX (w : World) (pre : List Itm) (X : World) : Prop :=
  ∃ pre' x, pre = pre' ++ [x] ∧ x.2.2 ≠ 0 ∧ X.heap[w.heap.size]? = some (.cells #[.slice none 0 0] 51 (0, 0)) ∧ X.heap[w.heap.size + 1]? = some (.cells #[.int .i64 (x.2.1 : Int)] 3 (0, 0)) ∧ X.heap[w.heap.size + 2]? = some (.cells #[.int .i64 (x.2.2 : Int)] 54 (0, 0)) ∧ w.heap.size + 5 ≤ X.heap.size ∧ Below w.heap.size w X
theorem size_stepB {B : Nat} {X Y : World} (h : StepB B X Y) : X.heap.size ≤ Y.heap.size := by
  obtain ⟨row, hg, -⟩ := h
  exact hg.size
theorem sI_step {w : World} {s : ByteArray} {pre : List Itm} {X Y : World} (h : sI w s pre X) (hs : StepB (w.heap.size + 5) X Y) : sI w s pre Y := by
  obtain ⟨h0, h1, h2, ⟨v, h3, ho⟩, h4, h5, h6, h7⟩ := h
  exact ⟨block_stepB h0 hs, block_stepB h1 hs, block_stepB h2 hs, ⟨v, block_stepB h3 hs, own_stepB ho hs⟩, cell_stepB h4 hs, h5, Nat.le_trans h6 (size_stepB hs), (hs.mono (by omega)).below h7 h7.size⟩
theorem sX_step {w : World} {pre : List Itm} {X Y : World} (h : sX w pre X) (hs : StepB (w.heap.size + 5) X Y) : sX w pre Y := by
  obtain ⟨pre', x, he, hx, h0, h1, h2, h6, h7⟩ := h
  exact ⟨pre', x, he, hx, block_stepB h0 hs, block_stepB h1 hs, block_stepB h2 hs, Nat.le_trans h6 (size_stepB hs), (hs.mono (by omega)).below h7 h7.size⟩
theorem sI_new (w : World) (s : ByteArray) : sI w s [] (((((w.alloc (.cells #[.slice none 0 0] 51)).alloc (.cells #[.int .i64 0] 3)).alloc (.cells #[.int .i64 0] 54)).alloc (.cells #[.slice none 0 0] 51)).alloc (.cells #[.string s] 9)) := by
  have e0 : ∀ (X : World) (o : Obj), (X.alloc o).heap[X.heap.size]? = some o := fun X o => World.alloc_heap_new X o
  have e1 : ∀ (X : World) (o : Obj) (k : Nat), k < X.heap.size → (X.alloc o).heap[k]? = X.heap[k]? := fun X o k h => Below.heap_alloc _ _ _ h
  refine ⟨?_, ?_, ?_, ⟨.slice none 0 0, ?_, World.ownsRow_nil _ _ _ _⟩, ?_, fun x hx => (by simp at hx), by simp, ?_⟩
  · rw [e1 _ _ _ (by simp <;> omega), e1 _ _ _ (by simp <;> omega), e1 _ _ _ (by simp <;> omega), e1 _ _ _ (by simp)]; exact e0 _ _
  · rw [e1 _ _ _ (by simp <;> omega), e1 _ _ _ (by simp <;> omega), e1 _ _ _ (by simp)]; have := e0 (w.alloc (.cells #[.slice none 0 0] 51)) (.cells #[.int .i64 0] 3); rwa [World.size_alloc] at this
  · rw [e1 _ _ _ (by simp <;> omega), e1 _ _ _ (by simp)]; have := e0 ((w.alloc (.cells #[.slice none 0 0] 51)).alloc (.cells #[.int .i64 0] 3)) (.cells #[.int .i64 0] 54); rwa [World.size_alloc, World.size_alloc] at this
  · rw [e1 _ _ _ (by simp)]; have := e0 (((w.alloc (.cells #[.slice none 0 0] 51)).alloc (.cells #[.int .i64 0] 3)).alloc (.cells #[.int .i64 0] 54)) (.cells #[.slice none 0 0] 51); rwa [World.size_alloc, World.size_alloc, World.size_alloc] at this
  · have := e0 ((((w.alloc (.cells #[.slice none 0 0] 51)).alloc (.cells #[.int .i64 0] 3)).alloc (.cells #[.int .i64 0] 54)).alloc (.cells #[.slice none 0 0] 51)) (.cells #[.string s] 9)
    rw [World.size_alloc, World.size_alloc, World.size_alloc, World.size_alloc] at this
    exact cell_of_row _ _ 0 _ _ _ this
  · exact (((((Below.refl _ _).alloc (Nat.le_refl _) _).alloc (by simp) _).alloc (by simp <;> omega) _).alloc (by simp <;> omega) _).alloc (by simp <;> omega) _

theorem found_iter (s : ByteArray) (w : World) : Calls Tryz.prog 11 #[.string s] w fun e w' => e = .returned (.func (.func 39) #[] #[.pointer (some ⟨w.heap.size, 0, none⟩)]) ∧ w' = w.alloc (.cells #[.string s] 9) := by
  go_enter Tryz.func11, Tryz.ntmps11
  go_wp2
  go_ret
  exact ⟨rfl, rfl⟩

theorem own_set {X : World} {base n size : Nat} {e : TypeId} {v : Value} {xs : List Value} (h : X.ownsRow base e size v n xs) (g o : Nat) (u : Value) (hg : g < base) : (X.setCell ⟨g, o, none⟩ u).ownsRow base e size v n xs := by
  obtain ⟨h1, h2⟩ := h
  refine ⟨h1, ?_⟩
  rcases h2 with h2 | ⟨k, cap, cur, a, b, c, d⟩
  · exact .inl h2
  · exact .inr ⟨k, cap, cur, a, b, (Below.heap_setCell _ _ _ k (by simp; omega)).trans c, d⟩
theorem sI_app {w W w3 : World} {s : ByteArray} {pre : List Itm} {x : Itm} {v v3 : Value} {o : Obj} (hx : x.2.2 = 0) (h0 : W.heap[w.heap.size]? = some (.cells #[.slice none 0 0] 51 (0, 0))) (h1 : W.heap[w.heap.size + 1]? = some (.cells #[.int .i64 0] 3 (0, 0))) (h2 : W.heap[w.heap.size + 2]? = some (.cells #[.int .i64 0] 54 (0, 0)))
    (h3 : W.heap[w.heap.size + 3]? = some (.cells #[v] 51 (0, 0))) (ho : W.ownsRow (w.heap.size + 5) 66 5 v pre.length (tokLs pre)) (h4 : W.cell? ⟨w.heap.size + 4, 0, none⟩ = some (.string s)) (h5 : ∀ x ∈ pre, x.2.2 = 0) (h6 : w.heap.size + 5 ≤ W.heap.size) (h7 : Below w.heap.size w W)
    (hown : w3.ownsRow (w.heap.size + 5) 66 5 v3 (pre.length + 1) (tokLs pre ++ tokL x)) (hg : (W.alloc o).grownBy w3 v.ownBlock) : KeepsOthers W (w3.setCell ⟨w.heap.size + 3, 0, none⟩ v3) ∧ sI w s (pre ++ [x]) (w3.setCell ⟨w.heap.size + 3, 0, none⟩ v3) := by
  have hob : ∀ j, v.ownBlock = some j → w.heap.size + 5 ≤ j := fun j hj => (ho.lt j hj).1
  have blk : ∀ k, k < w.heap.size + 5 → w3.heap[k]? = W.heap[k]? := fun k hk => by
    rw [hg.block k (by simp; omega) (fun e => by have := hob k e.symm; omega)]
    exact Below.heap_alloc _ _ _ (by omega)
  have hs3 : W.heap.size < w3.heap.size := by have := hg.size; simp at this; omega
  have oth : ∀ k, k ≠ w.heap.size + 3 → (w3.setCell ⟨w.heap.size + 3, 0, none⟩ v3).heap[k]? = w3.heap[k]? := fun k hk => Below.heap_setCell _ _ _ k (by simpa using hk)
  refine ⟨((KeepsOthers.alloc W o).trans (KeepsOthers.of_grownBy hg (fun j o' hj ho' => own_cells (ho.alloc o) j o' hj ho'))).trans (KeepsOthers.setCell _ _ _), (oth _ (by omega)).trans ((blk _ (by omega)).trans h0), (oth _ (by omega)).trans ((blk _ (by omega)).trans h1), (oth _ (by omega)).trans ((blk _ (by omega)).trans h2), ⟨v3, ?_, ?_⟩, ?_, ?_, ?_, ?_⟩
  · have := Go.heap_setCell_same w3 (w.heap.size + 3) 0 _ _ v3 ((blk _ (by omega)).trans h3)
    simpa using this
  · rw [tokLs_snoc, List.length_append]
    exact own_set hown _ _ _ (by omega)
  · have e1 : (w3.setCell ⟨w.heap.size + 3, 0, none⟩ v3).cell? ⟨w.heap.size + 4, 0, none⟩ = w3.cell? ⟨w.heap.size + 4, 0, none⟩ := World.cell?_setCell_other _ _ _ _ (fun e => by injection e with e1; omega)
    rw [e1]
    have e2 : w3.cell? ⟨w.heap.size + 4, 0, none⟩ = W.cell? ⟨w.heap.size + 4, 0, none⟩ := by simp only [World.cell?, blk (w.heap.size + 4) (by omega)]
    rw [e2]
    exact h4
  · intro y hy
    rcases List.mem_append.1 hy with hy | hy
    · exact h5 y hy
    · rw [List.mem_singleton.1 hy]; exact hx
  · rw [World.size_setCell]; omega
  · exact ((h7.alloc h7.size o).grown hg (by simp; omega) (fun j hj => by have := hob j hj; omega)).setCell (by simp) v3

theorem own_lit {w : World} {base n size : Nat} {e : TypeId} {v : Value} {xs : List Value} (h : w.ownsRow base e size v n xs) (hn : 0 < n) : ∃ g cap, v = .slice (some ⟨g, 0, none⟩) n cap := by
  obtain ⟨_, h | ⟨g, cap, cur, rfl, _⟩⟩ := h
  · omega
  · exact ⟨g, cap, rfl⟩
theorem new5 (W : World) (x : Itm) (t : TypeId) : ∀ j u, (tokL x)[j]? = some u → (W.alloc (.cells #[.int .i64 (x.1.1 : Int), .int .i64 (x.2.1 : Int), .string ⟨x.1.2.1.toArray⟩, .int .i64 (x.1.2.2.1 : Int), .int .i64 (x.1.2.2.2 : Int)] t)).cell? ((⟨W.heap.size, 0, none⟩ : Addr).add j) = some u := by
  intro j u hu
  rw [Lib.add_plain, Nat.zero_add, World.cell?_alloc_new, ← hu]
  simp [tokL]
theorem own_keep {w W w3 : World} {pre : List Itm} {v : Value} {o : Obj} (h6 : w.heap.size + 5 ≤ W.heap.size) (ho : W.ownsRow (w.heap.size + 5) 66 5 v pre.length (tokLs pre)) (hg : (W.alloc o).grownBy w3 v.ownBlock) (h3 : W.heap[w.heap.size + 3]? = some (.cells #[v] 51 (0, 0))) : w3.cell? ⟨w.heap.size + 3, 0, none⟩ = some v ∧ w3.frozen? ⟨w.heap.size + 3, 0, none⟩ = false := by
  have hb : w3.heap[w.heap.size + 3]? = some (.cells #[v] 51 (0, 0)) := by
    rw [hg.block _ (by simp; omega) (fun e => by have := (ho.lt _ e.symm).1; omega), Below.heap_alloc _ _ _ (by omega)]
    exact h3
  exact ⟨cell_of_row _ _ 0 _ _ _ hb, Go.frozen_of_row _ _ 0 _ _ hb⟩

theorem own_slice {w : World} {base n size : Nat} {e : TypeId} {v : Value} {xs : List Value} (h : w.ownsRow base e size v n xs) : ∃ p m cap, v = .slice p m cap := by
  obtain ⟨_, ⟨rfl, -⟩ | ⟨g, cap, cur, rfl, _⟩⟩ := h
  · exact ⟨_, _, _, rfl⟩
  · exact ⟨_, _, _, rfl⟩
theorem own_base {w : World} {base base' n size : Nat} {e : TypeId} {v : Value} {xs : List Value} (h : w.ownsRow base e size v n xs) (hb : base' ≤ base) : w.ownsRow base' e size v n xs := by
  obtain ⟨h1, h2⟩ := h
  refine ⟨h1, ?_⟩
  rcases h2 with h2 | ⟨g, cap, cur, a, b, c⟩
  · exact .inl h2
  · exact .inr ⟨g, cap, cur, a, Nat.le_trans hb b, c⟩
def set3 (W : World) (b : Nat) (x y z : Value) : World := ((W.setCell ⟨b, 0, none⟩ x).setCell ⟨b + 1, 0, none⟩ y).setCell ⟨b + 2, 0, none⟩ z
theorem set3_blocks {W : World} {b : Nat} {x0 y0 z0 x y z : Value} {tx ty tz : TypeId} (h0 : W.heap[b]? = some (.cells #[x0] tx (0, 0))) (h1 : W.heap[b + 1]? = some (.cells #[y0] ty (0, 0))) (h2 : W.heap[b + 2]? = some (.cells #[z0] tz (0, 0))) :
    (set3 W b x y z).heap[b]? = some (.cells #[x] tx (0, 0)) ∧ (set3 W b x y z).heap[b + 1]? = some (.cells #[y] ty (0, 0)) ∧ (set3 W b x y z).heap[b + 2]? = some (.cells #[z] tz (0, 0)) ∧ (∀ k, k ≠ b → k ≠ b + 1 → k ≠ b + 2 → (set3 W b x y z).heap[k]? = W.heap[k]?) ∧ KeepsOthers W (set3 W b x y z) ∧ (set3 W b x y z).heap.size = W.heap.size := by
  have oth : ∀ (X : World) (g k : Nat) (v : Value), k ≠ g → (X.setCell ⟨g, 0, none⟩ v).heap[k]? = X.heap[k]? := fun X g k v hk => Below.heap_setCell _ _ _ k (by simpa using hk)
  unfold set3
  refine ⟨?_, ?_, ?_, fun k k0 k1 k2 => ?_, ((KeepsOthers.setCell _ _ _).trans (KeepsOthers.setCell _ _ _)).trans (KeepsOthers.setCell _ _ _), by rw [World.size_setCell, World.size_setCell, World.size_setCell]⟩
  · rw [oth _ _ _ _ (by omega), oth _ _ _ _ (by omega)]
    have := Go.heap_setCell_same W b 0 _ _ x h0
    simpa using this
  · rw [oth _ _ _ _ (by omega)]
    have := Go.heap_setCell_same (W.setCell ⟨b, 0, none⟩ x) (b + 1) 0 _ _ y ((oth _ _ _ _ (by omega)).trans h1)
    simpa using this
  · have := Go.heap_setCell_same ((W.setCell ⟨b, 0, none⟩ x).setCell ⟨b + 1, 0, none⟩ y) (b + 2) 0 _ _ z ((oth _ _ _ _ (by omega)).trans ((oth _ _ _ _ (by omega)).trans h2))
    simpa using this
  · rw [oth _ _ _ _ k2, oth _ _ _ _ k1, oth _ _ _ _ k0]
theorem set3_below {w W : World} (h : Below w.heap.size w W) (x y z : Value) : Below w.heap.size w (set3 W w.heap.size x y z) := ((h.setCell (by simp) x).setCell (by simp) y).setCell (by simp) z
theorem below_drew1 {n : Nat} {w W : World} (h : Below n w W) : Below n w W.drew := h.drew

/-- What Scan answers. -/
def ScanP (s : ByteArray) (w : World) (e : Ending) (w' : World) : Prop := Below w.heap.size w w' ∧
  ((∃ pre x, foundL s.data.toList = pre ++ [x] ∧ x.2.2 ≠ 0 ∧ e = .returned (.tuple #[.slice none 0 0, .int .i64 (x.2.1 : Int), .int .i64 (x.2.2 : Int)])) ∨
  ((∀ x ∈ foundL s.data.toList, x.2.2 = 0) ∧ ∃ v, e = .returned (.tuple #[v, .int .i64 0, .int .i64 0]) ∧ w'.ownsRow w.heap.size 66 5 v (foundL s.data.toList).length (tokLs (foundL s.data.toList))))

set_option maxRecDepth 10000 in
set_option maxHeartbeats 4000000 in
theorem scan_any (s : ByteArray) (w : World) (hC : Cls w) (hE : ErrR w) (hM : Mon w) (hS : Sgn w) : Calls Tryz.prog 5 #[.string s] w (ScanP s w) := by
  refine (callsIn_wide (n := 5)).1 ?_
  obtain ⟨i0, hi, hz0, hz1, hz2⟩ := info_parts infoT
  have hI0 := sI_new w s
  have hfi := fun W => (callsIn_wide (n := 4)).2 (found_iter s W)
  refine callsIn_of_wp_marks Tryz.func5 rfl trivial ?_ rfl
  simp only [Tryz.ntmps5, List.size_toArray, List.length_cons, List.length_nil, Nat.reduceAdd, Nat.reduceSub, Array.replicate_succ, Array.replicate_zero, List.push_toArray, List.append_toArray, List.nil_append, List.cons_append]
  gi_wp2_with (refine ⟨trivial, ?_⟩; gi_at_call 11; refine (hfi _).mono ?_; rintro e w1 ⟨rfl, hw1⟩; subst w1)
  have hsz : (((((w.alloc (.cells #[.slice none 0 0] 51)).alloc (.cells #[.int .i64 0] 3)).alloc (.cells #[.int .i64 0] 54)).alloc (.cells #[.slice none 0 0] 51)).alloc (.cells #[.string s] 9)).heap.size = w.heap.size + 5 := by simp
  generalize (((((w.alloc (.cells #[.slice none 0 0] 51)).alloc (.cells #[.int .i64 0] 3)).alloc (.cells #[.int .i64 0] 54)).alloc (.cells #[.slice none 0 0] 51)).alloc (.cells #[.string s] 9)) = wb at *
  refine range_found (w.heap.size + 4) s rfl rfl (sI w s) (sX w) (fun pre X Y h hs => sI_step h (hsz ▸ hs)) (fun pre X Y h hs => sX_step h (hsz ▸ hs)) (fun pre X h => ⟨hC.later h.2.2.2.2.2.2.2, hE.later h.2.2.2.2.2.2.2, hM.later h.2.2.2.2.2.2.2, hS.later h.2.2.2.2.2.2.2, h.2.2.2.2.1⟩) hI0
    (fun x a' X => ∃ vb, w.heap.size + 5 ≤ vb ∧ a' = { tmps := #[Value.string s, undef, .pointer (some ⟨w.heap.size, 0, none⟩), .pointer (some ⟨w.heap.size + 1, 0, none⟩), .pointer (some ⟨w.heap.size + 2, 0, none⟩), .pointer (some ⟨w.heap.size + 3, 0, none⟩), .pointer (some ⟨vb, 0, none⟩), .int .i64 (x.2.2 : Int), Value.string s, Value.func (.func 39) #[] #[.pointer (some ⟨w.heap.size + 4, 0, none⟩)], .agg #[.int .i64 (x.1.1 : Int), .int .i64 (x.2.1 : Int), .string ⟨x.1.2.1.toArray⟩, .int .i64 (x.1.2.2.1 : Int), .int .i64 (x.1.2.2.2 : Int)], .int .i64 (x.2.2 : Int), undef, undef, undef, undef, undef, undef, undef, undef, undef, undef], defers := [] } ∧ X.heap[vb]? = some (.cells #[.int .i64 (x.1.1 : Int), .int .i64 (x.2.1 : Int), .string ⟨x.1.2.1.toArray⟩, .int .i64 (x.1.2.2.1 : Int), .int .i64 (x.1.2.2.2 : Int)] 66 (0, 0)))
    (fun x a' X Y ⟨vb, h1, h2, h3⟩ hs => ⟨vb, h1, h2, block_stepB h3 hs⟩) ?assign ?body ?done ?stop
  case assign =>
    intro l' pre x W K hIW hK'
    have hWs := hIW.2.2.2.2.2.2.1
    dsimp only [encI, tokC]
    gi_wp2
    refine hK' _ _ ((KeepsOthers.alloc W _).from _) (sI_step hIW (stepB_alloc _ _ _)) ⟨W.heap.size, hWs, rfl, World.alloc_heap_new W _⟩
  case body =>
    rintro l' pre x a' W hpre hIW ⟨vb, hvb, rfl, hv⟩
    obtain ⟨h0, h1, h2, ⟨v, h3, ho⟩, h4, h5, h6, h7⟩ := hIW
    have t0 : W.cell? ⟨vb, 0, none⟩ = some (.int .i64 (x.1.1 : Int)) := cell_of_row _ _ 0 _ _ _ hv
    have t1 : W.cell? ⟨vb, 1, none⟩ = some (.int .i64 (x.2.1 : Int)) := cell_of_row _ _ 1 _ _ _ hv
    have t2 : W.cell? ⟨vb, 2, none⟩ = some (.string ⟨x.1.2.1.toArray⟩) := cell_of_row _ _ 2 _ _ _ hv
    have t3 : W.cell? ⟨vb, 3, none⟩ = some (.int .i64 (x.1.2.2.1 : Int)) := cell_of_row _ _ 3 _ _ _ hv
    have t4 : W.cell? ⟨vb, 4, none⟩ = some (.int .i64 (x.1.2.2.2 : Int)) := cell_of_row _ _ 4 _ _ _ hv
    have c0 : W.cell? ⟨w.heap.size, 0, none⟩ = some (.slice none 0 0) := cell_of_row _ _ 0 _ _ _ h0
    have f0 := Go.frozen_of_row _ _ 0 _ _ h0
    have c1 : W.cell? ⟨w.heap.size + 1, 0, none⟩ = some (.int .i64 0) := cell_of_row _ _ 0 _ _ _ h1
    have f1 := Go.frozen_of_row _ _ 0 _ _ h1
    have c2 : W.cell? ⟨w.heap.size + 2, 0, none⟩ = some (.int .i64 0) := cell_of_row _ _ 0 _ _ _ h2
    have f2 := Go.frozen_of_row _ _ 0 _ _ h2
    have c3 : W.cell? ⟨w.heap.size + 3, 0, none⟩ = some v := cell_of_row _ _ 0 _ _ _ h3
    have f3 := Go.frozen_of_row _ _ 0 _ _ h3
    have hlen : pre.length ≤ 16002 := by
      have := hpre.length_le
      rw [List.length_append] at this
      have := foundL_len s.data.toList
      omega
    by_cases herr : x.2.2 = 0
    · have he' : ((x.2.2 : Int) != 0) = false := by rw [herr]; rfl
      have herr' : x.2.2 = 0 := herr
      clear c0 f0 c1 f1 c2 f2
      gi_wp2_with (gi_at_builtin; refine wpListIn_append_own _ rfl _ _ 51 rfl (w.heap.size + 5) 66 i0 _ 5 48 Tryz.underlying51 hi hz0 hz1 hz2 rfl (by decide) _ pre.length (tokLs pre) rfl (ho.alloc _) ⟨W.heap.size, 0, none⟩ 1 1 (tokL x) rfl rfl (new5 W x _) (tok_one x) (by unfold maxLen; omega) (by omega) (by simp; omega) ?_; intro v3 w3 hown3 hgrow3 _; have hfin := sI_app herr' h0 h1 h2 h3 ho h4 h5 h6 h7 hown3 hgrow3; obtain ⟨k3, k4⟩ := own_keep h6 ho hgrow3 h3; obtain ⟨g3, cap3, rfl⟩ := own_lit hown3 (by omega); clear hown3 hgrow3)
      exact ⟨hfin.1.from _, hfin.2⟩
    · have he' : ((x.2.2 : Int) != 0) = true := by simp; omega
      have n0 : ¬ vb = w.heap.size := by omega
      have n1 : ¬ vb = w.heap.size + 1 := by omega
      have n2 : ¬ vb = w.heap.size + 2 := by omega
      obtain ⟨b0, b1, b2, -, hKO, hsz3⟩ := set3_blocks (x := .slice none 0 0) (y := .int .i64 (x.2.1 : Int)) (z := .int .i64 (x.2.2 : Int)) h0 h1 h2
      have hfin : Hid (KeepsOthers W (set3 W w.heap.size (.slice none 0 0) (.int .i64 (x.2.1 : Int)) (.int .i64 (x.2.2 : Int))).drew ∧ sX w (pre ++ [x]) (set3 W w.heap.size (.slice none 0 0) (.int .i64 (x.2.1 : Int)) (.int .i64 (x.2.2 : Int))).drew) :=
        ⟨hKO.trans (KeepsOthers.drew _), pre, x, rfl, herr, b0, b1, b2, by show _ ≤ (set3 _ _ _ _ _).heap.size; rw [hsz3]; exact h6, below_drew1 (set3_below h7 _ _ _)⟩
      clear b0 b1 b2 hKO hsz3
      unfold set3 at hfin
      gi_wp2
      gi_region
      all_goals
        gi_wp2
        exact ⟨hfin.out.1.from _, hfin.out.2⟩
  case done =>
    intro D W hD hIW hdef
    obtain ⟨h0, h1, h2, ⟨v, h3, ho⟩, h4, h5, h6, h7⟩ := hIW
    obtain ⟨p, m, cap, rfl⟩ := own_slice ho
    have c0 : W.cell? ⟨w.heap.size, 0, none⟩ = some (.slice none 0 0) := cell_of_row _ _ 0 _ _ _ h0
    have f0 := Go.frozen_of_row _ _ 0 _ _ h0
    have c1 : W.cell? ⟨w.heap.size + 1, 0, none⟩ = some (.int .i64 0) := cell_of_row _ _ 0 _ _ _ h1
    have f1 := Go.frozen_of_row _ _ 0 _ _ h1
    have c2 : W.cell? ⟨w.heap.size + 2, 0, none⟩ = some (.int .i64 0) := cell_of_row _ _ 0 _ _ _ h2
    have f2 := Go.frozen_of_row _ _ 0 _ _ h2
    have c3 : W.cell? ⟨w.heap.size + 3, 0, none⟩ = some (.slice p m cap) := cell_of_row _ _ 0 _ _ _ h3
    obtain ⟨b0, b1, b2, both, hKO, hsz3⟩ := set3_blocks (x := .slice p m cap) (y := .int .i64 0) (z := .int .i64 0) h0 h1 h2
    have hdef2 := (both D (by omega) (by omega) (by omega)).trans hdef
    have hst := stepB_put (B := w.heap.size + 5) (.deferred none) (by omega) hdef2 rfl
    have q0 := block_stepB b0 hst
    have q1 := block_stepB b1 hst
    have q2 := block_stepB b2 hst
    have r0 := cell_of_row _ _ 0 _ _ _ q0
    have r1 := cell_of_row _ _ 0 _ _ _ q1
    have r2 := cell_of_row _ _ 0 _ _ _ q2
    have ho2 : (set3 W w.heap.size (.slice p m cap) (.int .i64 0) (.int .i64 0)).ownsRow (w.heap.size + 5) 66 5 (.slice p m cap) (foundL s.data.toList).length (tokLs (foundL s.data.toList)) := own_set (own_set (own_set ho _ _ _ (by omega)) _ _ _ (by omega)) _ _ _ (by omega)
    have ho3 := own_stepB ho2 hst
    have hB3 := (hst.mono (B' := w.heap.size) (by omega)).below (set3_below h7 (.slice p m cap) (.int .i64 0) (.int .i64 0)) (by rw [hsz3]; omega)
    unfold set3 at hdef2 r0 r1 r2 ho3 hB3
    clear b0 b1 b2 both hKO hsz3 q0 q1 q2 hst ho2 ho
    gi_wp2
    refine ⟨by simp, .inl ⟨_, _, rfl, run_takeDeferred hdef2, ?_⟩⟩
    exact ⟨.tuple #[.slice p m cap, .int .i64 0, .int .i64 0], by simp [results, Tryz.results5, go_sem, r0, r1, r2], hB3, .inr ⟨h5, _, rfl, own_base ho3 (by omega)⟩⟩
  case stop =>
    intro D pre W hD hpre hIW hdef
    obtain ⟨pre', x, rfl, hx, b0, b1, b2, h6, h7⟩ := hIW
    have hL := foundL_last _ _ _ hx hpre
    have hst := stepB_put (B := w.heap.size + 5) (.deferred none) (by omega) hdef rfl
    have r0 := cell_of_row _ _ 0 _ _ _ (block_stepB b0 hst)
    have r1 := cell_of_row _ _ 0 _ _ _ (block_stepB b1 hst)
    have r2 := cell_of_row _ _ 0 _ _ _ (block_stepB b2 hst)
    have hB3 := (hst.mono (B' := w.heap.size) (by omega)).below h7 h7.size
    gi_wp2
    refine ⟨by simp, .inl ⟨_, _, rfl, run_takeDeferred hdef, ?_⟩⟩
    exact ⟨.tuple #[.slice none 0 0, .int .i64 (x.2.1 : Int), .int .i64 (x.2.2 : Int)], by simp [results, Tryz.results5, go_sem, r0, r1, r2], hB3, .inl ⟨pre', x, hL.symm, hx, rfl⟩⟩

end Go.Proofs.YtekapipfaahhcaaGreatDoor.Q

import Derived.Test.YtdlbfoiiaedicaaDoorTurnWTk2
import Derived.Test.YtdlbfoiiaedicaaDoorTurnWTk3
import Derived.Deep.RegionWith
namespace Go.Proofs.YtdlbfoiiaedicaaDoor.Q
open Go.RowKit Go.Shelf

/-- What stands ahead of the first error. -/
def okL (L : List Itm) : List Itm := L.takeWhile (fun x => x.2.2 == 0)
theorem okL_of {L pre : List Itm} (h : L = pre ∨ ∃ x : Itm, L = pre ++ [x] ∧ x.2.2 ≠ 0) (hp : ∀ y ∈ pre, y.2.2 = 0) : okL L = pre := by
  unfold okL
  have h0 : ∀ R : List Itm, (pre ++ R).takeWhile (fun x => x.2.2 == 0) = pre ++ R.takeWhile (fun x => x.2.2 == 0) := fun R => by
    rw [List.takeWhile_append_of_pos (fun y hy => by simp [hp y hy])]
  rcases h with rfl | ⟨x, rfl, hx⟩
  · have := h0 []
    simpa using this
  · rw [h0]
    simp [hx]
theorem okL_pre {L pre : List Itm} (h : pre <+: L) (hp : ∀ y ∈ pre, y.2.2 = 0) : pre = (okL L).take pre.length := by
  obtain ⟨R, rfl⟩ := h
  unfold okL
  rw [List.takeWhile_append_of_pos (fun y hy => by simp [hp y hy])]
  simp
def goneL (L : List Itm) (stop : Nat) : List Itm := if stop = 0 then okL L else (okL L).take stop

theorem tokens_iter (s : ByteArray) (w : World) : Calls Tryd.prog 12 #[.string s] w fun e w' => e = .returned (.func (.func 24) #[] #[.pointer (some ⟨w.heap.size, 0, none⟩)]) ∧ w' = w.alloc (.cells #[.string s] 9) := by
  go_enter Tryd.func12, Tryd.ntmps12
  go_wp2
  go_ret
  exact ⟨rfl, rfl⟩

theorem fnil (fn : Fn) (a b : Array Value) (w : World) : Sem.run Tryd.prog (binOp .eql 39 (.func fn a b) .nilFunc) w = .ok (.bool false) w := by kernel_rfl
theorem own_same {X Y : World} {base n size : Nat} {e : TypeId} {v : Value} {xs : List Value} (h : X.ownsRow base e size v n xs) (hk : ∀ k, v.ownBlock = some k → Y.heap[k]? = X.heap[k]?) : Y.ownsRow base e size v n xs := by
  obtain ⟨h1, h2⟩ := h
  refine ⟨h1, ?_⟩
  rcases h2 with h2 | ⟨k, cap, cur, rfl, b, c, d⟩
  · exact .inl h2
  · exact .inr ⟨k, cap, cur, rfl, b, (hk k rfl).trans c, d⟩

/-- What stands between two rounds of gone. -/
def gR (w : World) (s : ByteArray) (stop i : Nat) (L : List Itm) (W : World) : Prop :=
  Below w.heap.size w W ∧ W.heap[w.heap.size]? = some (.cells #[.int .i64 (stop : Int)] 3 (0, 0)) ∧ W.heap[w.heap.size + 1]? = some (.cells #[.string s] 9 (0, 0)) ∧ W.heap[w.heap.size + 2]? = some (.cells #[.string ⟨#[120, 32, 50]⟩] 9 (0, 0)) ∧
  (∃ v, W.heap[w.heap.size + 3]? = some (.cells #[v] 22 (0, 0)) ∧ (0 < i → W.ownsRow (w.heap.size + 5) 35 5 v L.length (tokLs L))) ∧ W.heap[w.heap.size + 4]? = some (.cells #[.bool true] 4 (0, 0)) ∧ w.heap.size + 5 ≤ W.heap.size
theorem gR_new (w : World) (s : ByteArray) (stop : Nat) (L : List Itm) : gR w s stop 0 L (((((w.alloc (.cells #[.int .i64 (stop : Int)] 3)).alloc (.cells #[.string s] 9)).alloc (.cells #[.string ⟨#[120, 32, 50]⟩] 9)).alloc (.cells #[.slice none 0 0] 22)).alloc (.cells #[.bool true] 4)) := by
  have e0 : ∀ (X : World) (o : Obj), (X.alloc o).heap[X.heap.size]? = some o := fun X o => World.alloc_heap_new X o
  have e1 : ∀ (X : World) (o : Obj) (k : Nat), k < X.heap.size → (X.alloc o).heap[k]? = X.heap[k]? := fun X o k h => Below.heap_alloc _ _ _ h
  refine ⟨?_, ?_, ?_, ?_, ⟨.slice none 0 0, ?_, fun h => (by omega)⟩, ?_, by simp⟩
  · exact (((((Below.refl _ _).alloc (Nat.le_refl _) _).alloc (by simp) _).alloc (by simp <;> omega) _).alloc (by simp <;> omega) _).alloc (by simp <;> omega) _
  · rw [e1 _ _ _ (by simp <;> omega), e1 _ _ _ (by simp <;> omega), e1 _ _ _ (by simp <;> omega), e1 _ _ _ (by simp)]; exact e0 _ _
  · rw [e1 _ _ _ (by simp <;> omega), e1 _ _ _ (by simp <;> omega), e1 _ _ _ (by simp)]; have := e0 (w.alloc (.cells #[.int .i64 (stop : Int)] 3)) (.cells #[.string s] 9); rwa [World.size_alloc] at this
  · rw [e1 _ _ _ (by simp <;> omega), e1 _ _ _ (by simp)]; have := e0 ((w.alloc (.cells #[.int .i64 (stop : Int)] 3)).alloc (.cells #[.string s] 9)) (.cells #[.string ⟨#[120, 32, 50]⟩] 9); rwa [World.size_alloc, World.size_alloc] at this
  · rw [e1 _ _ _ (by simp)]; have := e0 (((w.alloc (.cells #[.int .i64 (stop : Int)] 3)).alloc (.cells #[.string s] 9)).alloc (.cells #[.string ⟨#[120, 32, 50]⟩] 9)) (.cells #[.slice none 0 0] 22); rwa [World.size_alloc, World.size_alloc, World.size_alloc] at this
  · have := e0 ((((w.alloc (.cells #[.int .i64 (stop : Int)] 3)).alloc (.cells #[.string s] 9)).alloc (.cells #[.string ⟨#[120, 32, 50]⟩] 9)).alloc (.cells #[.slice none 0 0] 22)) (.cells #[.bool true] 4)
    rwa [World.size_alloc, World.size_alloc, World.size_alloc, World.size_alloc] at this

/-- One round of gone. -/
theorem round_any (s : ByteArray) (stop i : Nat) (w W : World) (hC : Cls w) (hE : ErrR w) (hM : Mon w) (hS : Sgn w) (hst : stop ≤ (okL (foundL s.data.toList)).length) (h : gR w s stop i (goneL (foundL s.data.toList) stop) W) :
    Calls Tryd.prog 24 #[.func (.func 13) #[] #[.pointer (some ⟨W.heap.size, 0, none⟩), .pointer (some ⟨w.heap.size + 3, 0, none⟩), .pointer (some ⟨w.heap.size + 4, 0, none⟩), .pointer (some ⟨w.heap.size, 0, none⟩)], .pointer (some ⟨w.heap.size + 1, 0, none⟩)] ((W.setCell ⟨w.heap.size + 3, 0, none⟩ (.slice none 0 0)).alloc (.cells #[.bool false] 4)) fun e w' => e = .returned (.tuple #[]) ∧ gR w s stop (i + 1) (goneL (foundL s.data.toList) stop) w' := by
  obtain ⟨h1, h2, h3, h4, ⟨v, h5, -⟩, h6, h7⟩ := h
  obtain ⟨W2, hW2⟩ : ∃ W2, (W.setCell ⟨w.heap.size + 3, 0, none⟩ (.slice none 0 0)).alloc (.cells #[.bool false] 4) = W2 := ⟨_, rfl⟩
  have hsz : W2.heap.size = W.heap.size + 1 := by rw [← hW2, World.size_alloc, World.size_setCell]
  have old : ∀ k, k < W.heap.size → k ≠ w.heap.size + 3 → W2.heap[k]? = W.heap[k]? := fun k hk hn => by
    rw [← hW2]
    exact (Below.heap_alloc _ _ _ (by rw [World.size_setCell]; exact hk)).trans (Below.heap_setCell _ _ _ k (by simpa using hn))
  have hB2 : Below w.heap.size w W2 := by
    rw [← hW2]
    exact (h1.setCell (by simp) _).alloc (by rw [World.size_setCell]; omega) _
  have q3 : W2.heap[w.heap.size + 3]? = some (.cells #[.slice none 0 0] 22 (0, 0)) := by
    rw [← hW2]
    refine (Below.heap_alloc _ _ _ (by rw [World.size_setCell]; omega)).trans ?_
    have := Go.heap_setCell_same W (w.heap.size + 3) 0 _ _ (.slice none 0 0) h5
    simpa using this
  have qe : W2.heap[W.heap.size]? = some (.cells #[.bool false] 4 (0, 0)) := by
    rw [← hW2]
    have := World.alloc_heap_new (W.setCell ⟨w.heap.size + 3, 0, none⟩ (.slice none 0 0)) (.cells #[.bool false] 4)
    rwa [World.size_setCell] at this
  rw [hW2]
  clear hW2
  have q2 := (old w.heap.size (by omega) (by omega)).trans h2
  have qt := (old (w.heap.size + 1) (by omega) (by omega)).trans h3
  have qo := (old (w.heap.size + 2) (by omega) (by omega)).trans h4
  have qk := (old (w.heap.size + 4) (by omega) (by omega)).trans h6
  have hA : At1 w W2 W.heap.size (w.heap.size + 3) (w.heap.size + 4) w.heap.size := ⟨by omega, by omega, by omega, by omega, by omega, by omega, by omega, by omega, by omega, by omega, by omega⟩
  have hl := foundL_len s.data.toList
  have hl2 : (okL (foundL s.data.toList)).length ≤ (foundL s.data.toList).length := (List.takeWhile_prefix _).length_le
  have hT := takes1 w W2 (by omega) hC hE hM hS W.heap.size (w.heap.size + 3) (w.heap.size + 4) w.heap.size stop hA (by omega) s.data.toList
  have hJ0 : J1 w W2 W.heap.size (w.heap.size + 3) (w.heap.size + 4) w.heap.size stop [] W2 := ⟨⟨hB2, Nat.le_refl _, fun k _ _ _ => rfl, qe, ⟨_, q3, World.ownsRow_nil _ _ _ _⟩, qk, q2⟩, by simp; omega⟩
  refine (tokens1_any _ _ (w.heap.size + 1) s W2 _ _ hT (cell_of_row _ _ 0 _ _ _ qt) hJ0).mono ?_
  rintro e w' ⟨rfl, hc⟩
  refine ⟨rfl, ?_⟩
  have key : ∀ b, j1 w W2 W.heap.size (w.heap.size + 3) (w.heap.size + 4) w.heap.size stop b (goneL (foundL s.data.toList) stop) w' → gR w s stop (i + 1) (goneL (foundL s.data.toList) stop) w' := fun b hj => by
    obtain ⟨g1, g2, g3, g4, ⟨v', g5, go⟩, g6, g7⟩ := hj
    exact ⟨g1, g7, (g3 _ (by omega) (by omega) (by omega)).trans qt, (g3 _ (by omega) (by omega) (by omega)).trans qo, ⟨v', g5, fun _ => own_base go (by omega)⟩, g6, by omega⟩
  rcases hc with ⟨pre, hL, hall, hj, hs⟩ | ⟨pre, hp, hall, hj, h0, hs⟩
  · have he := okL_of hL hall
    rw [he] at hst
    have h0 : stop = 0 := by omega
    refine key false ?_
    unfold goneL
    rw [if_pos h0, he]
    exact hj
  · have he := okL_pre hp hall
    refine key true ?_
    unfold goneL
    rw [if_neg (by omega), ← hs, ← he]
    rw [hs]
    exact hj

theorem lit_row (W : World) : TokRow (W.alloc (.cells #[.int .i64 1, .int .i64 0, .string ⟨#[120]⟩, .int .i64 0, .int .i64 0, .int .i64 3, .int .i64 2, .string ⟨#[]⟩, .int .i64 2, .int .i64 0, .int .i64 8, .int .i64 3, .string ⟨#[]⟩, .int .i64 0, .int .i64 0] 35)) (.slice (some ⟨W.heap.size, 0, none⟩) 3 3) x2 := by
  refine ⟨_, 3, rfl, .inr ⟨W.heap.size, 0, rfl, by simp, fun j hj => ?_⟩⟩
  have hj3 : j < 3 := hj
  rcases (show j = 0 ∨ j = 1 ∨ j = 2 by omega) with rfl | rfl | rfl
  all_goals
    simp only [World.cell?_alloc_new]
    exact ⟨rfl, rfl, rfl, rfl, rfl⟩

/-- The other iterator, gone through behind the rounds. -/
theorem other_any (s : ByteArray) (stop : Nat) (L : List Itm) (w W : World) (hC : Cls w) (hE : ErrR w) (hM : Mon w) (hS : Sgn w) (h : gR w s stop 2 L W) :
    Calls Tryd.prog 24 #[.func (.func 14) #[] #[.pointer (some ⟨W.heap.size, 0, none⟩)], .pointer (some ⟨w.heap.size + 1 + 1, 0, none⟩)] (W.alloc (.cells #[.slice none 0 0] 22)) fun e w' => e = .returned (.tuple #[]) ∧ Below w.heap.size w w' ∧ ∃ v vm, w'.heap[w.heap.size + 3]? = some (.cells #[v] 22 (0, 0)) ∧ w'.ownsRow (w.heap.size + 5) 35 5 v L.length (tokLs L) ∧ w'.heap[w.heap.size + 4]? = some (.cells #[.bool true] 4 (0, 0)) ∧ w'.heap[W.heap.size]? = some (.cells #[vm] 22 (0, 0)) ∧ w'.ownsRow (w.heap.size + 5) 35 5 vm 3 (tokLs x2) := by
  obtain ⟨h1, h2, h3, h4, ⟨v, h5, ho⟩, h6, h7⟩ := h
  have ho := ho (by omega)
  obtain ⟨W2, hW2⟩ : ∃ W2, W.alloc (.cells #[.slice none 0 0] 22) = W2 := ⟨_, rfl⟩
  have hsz : W2.heap.size = W.heap.size + 1 := by rw [← hW2, World.size_alloc]
  have old : ∀ k, k < W.heap.size → W2.heap[k]? = W.heap[k]? := fun k hk => by
    rw [← hW2]
    exact Below.heap_alloc _ _ _ hk
  have hB2 : Below w.heap.size w W2 := by
    rw [← hW2]
    exact h1.alloc h1.size _
  have qe : W2.heap[W.heap.size]? = some (.cells #[.slice none 0 0] 22 (0, 0)) := by
    rw [← hW2]
    exact World.alloc_heap_new W _
  rw [hW2]
  clear hW2
  have q3 := (old (w.heap.size + 3) (by omega)).trans h5
  have qo := (old (w.heap.size + 2) (by omega)).trans h4
  have qk := (old (w.heap.size + 4) (by omega)).trans h6
  have hf : foundL ([120, 32, 50] : List UInt8) = x2 := found_x2
  have hT := takes2 w W2 (by omega) hC hE hM hS W.heap.size (by omega) (by omega) [120, 32, 50] (by rw [hf]; decide)
  have hJ0 : J2 w W2 W.heap.size [] W2 := ⟨hB2, Nat.le_refl _, fun k _ _ => rfl, ⟨_, qe, World.ownsRow_nil _ _ _ _⟩⟩
  refine (tokens1_any _ _ (w.heap.size + 2) ⟨#[120, 32, 50]⟩ W2 _ _ hT (cell_of_row _ _ 0 _ _ _ qo) hJ0).mono ?_
  rintro e w' ⟨rfl, hc⟩
  refine ⟨rfl, ?_⟩
  rcases hc with ⟨pre, hL, hall, hj⟩ | ⟨pre, hp, hall, hj⟩
  · have hL' : x2 = pre ∨ ∃ x : Itm, x2 = pre ++ [x] ∧ x.2.2 ≠ 0 := by rw [← hf]; exact hL
    have hpre : pre = x2 := by
      have h1 := okL_of hL' hall
      rw [← h1]
      rfl
    subst hpre
    obtain ⟨g1, g2, g3, ⟨vm, g5, go⟩⟩ := hj
    refine ⟨g1, v, vm, (g3 _ (by omega) (by omega)).trans q3, ?_, (g3 _ (by omega) (by omega)).trans qk, g5, own_base go (by omega)⟩
    refine own_same ho (fun k hk => ?_)
    have hlt := (ho.lt k hk).2
    exact (g3 k (by omega) (by omega)).trans (old k hlt)
  · exact hj.elim

set_option maxRecDepth 8000 in
set_option maxHeartbeats 4000000 in
theorem gone_any (s : ByteArray) (stop : Nat) (w : World) (hC : Cls w) (hE : ErrR w) (hM : Mon w) (hS : Sgn w) (hst : stop ≤ (okL (foundL s.data.toList)).length) :
    Calls Tryd.prog 6 #[.string s, .int .i64 (stop : Int), .int .i64 2] w fun e w' => Below w.heap.size w w' ∧ ∃ v, e = .returned (.tuple #[v, .bool true]) ∧ w'.ownsRow w.heap.size 35 5 v (goneL (foundL s.data.toList) stop).length (tokLs (goneL (foundL s.data.toList) stop)) := by
  have hti := fun (t : ByteArray) W => tokens_iter t W
  have hnil := fnil
  have hR0 := gR_new w s stop (goneL (foundL s.data.toList) stop)
  have hround := fun i W h => round_any s stop i w W hC hE hM hS hst h
  obtain ⟨L, hL⟩ : ∃ L, goneL (foundL s.data.toList) stop = L := ⟨_, rfl⟩
  rw [hL] at hR0 hround ⊢
  clear hL hst
  go_enter Tryd.func6, Tryd.ntmps6
  go_wp2_with (first | (go_at_call 12; refine (hti _ _).mono ?_; rintro e w9 ⟨rfl, hw9⟩; subst w9))
  generalize (((((w.alloc (.cells #[.int .i64 (stop : Int)] 3)).alloc (.cells #[.string s] 9)).alloc (.cells #[.string ⟨#[120, 32, 50]⟩] 9)).alloc (.cells #[.slice none 0 0] 22)).alloc (.cells #[.bool true] 4)) = wb at *
  go_loopw [12] (fun iv W => ∃ i : Nat, i ≤ 2 ∧ iv = .int .i64 (i : Int) ∧ gR w s stop i L W) (fun iv _ => 2 - (intOf iv).toNat)
  case atStart => exact ⟨0, by omega, rfl, hR0⟩
  case round =>
    obtain ⟨i, hi, rfl, hg⟩ := hrel
    clear hR0
    by_cases hlt : i < 2
    · have hlt' : (i : Int) < 2 := by omega
      have hr := hround i wr hg
      obtain ⟨v, h5, -⟩ := hg.2.2.2.2.1
      have c5 : wr.cell? ⟨w.heap.size + 3, 0, none⟩ = some v := cell_of_row _ _ 0 _ _ _ h5
      have f5 := Go.frozen_of_row _ _ 0 _ _ h5
      clear hg hround h5
      go_wp2_with (first | (go_at_call 24; refine hr.mono ?_; rintro e w5 ⟨rfl, hg5⟩))
      go_roundw
      case rel => exact ⟨i + 1, by omega, by go_num, hg5⟩
      case measure => simp [intOf]; omega
    · obtain rfl : i = 2 := by omega
      have hot := other_any s stop L w wr hC hE hM hS hg
      clear hround hg
      go_wp2_with (first | (go_at_call 24; refine hot.mono ?_; rintro e w5 ⟨rfl, hB5, v, vm, b3, ho, b4, bm, hom⟩))
      obtain ⟨lp, lm, lc, rfl⟩ := own_slice ho
      obtain ⟨mg, mc, rfl⟩ := own_lit hom (by omega)
      have c3 : w5.cell? ⟨w.heap.size + 3, 0, none⟩ = some (.slice lp lm lc) := cell_of_row _ _ 0 _ _ _ b3
      have c4 : w5.cell? ⟨w.heap.size + 4, 0, none⟩ = some (.bool true) := cell_of_row _ _ 0 _ _ _ b4
      have cm : w5.cell? ⟨wr.heap.size, 0, none⟩ = some (.slice (some ⟨mg, 0, none⟩) 3 mc) := cell_of_row _ _ 0 _ _ _ bm
      have hl5 : w.heap.size + 5 ≤ w5.heap.size := by have := (Array.getElem?_eq_some_iff.1 b4).1; omega
      have hmlt := (Array.getElem?_eq_some_iff.1 bm).1
      have hba := (Below.refl w5.heap.size w5).alloc (Nat.le_refl _) (.cells #[.int .i64 1, .int .i64 0, .string ⟨#[120]⟩, .int .i64 0, .int .i64 0, .int .i64 3, .int .i64 2, .string ⟨#[]⟩, .int .i64 2, .int .i64 0, .int .i64 8, .int .i64 3, .string ⟨#[]⟩, .int .i64 0, .int .i64 0] 35)
      have c3a : (w5.alloc (.cells #[.int .i64 1, .int .i64 0, .string ⟨#[120]⟩, .int .i64 0, .int .i64 0, .int .i64 3, .int .i64 2, .string ⟨#[]⟩, .int .i64 2, .int .i64 0, .int .i64 8, .int .i64 3, .string ⟨#[]⟩, .int .i64 0, .int .i64 0] 35)).cell? ⟨w.heap.size + 3, 0, none⟩ = some (.slice lp lm lc) := (hba.cell (p := ⟨w.heap.size + 3, 0, none⟩) (by show w.heap.size + 3 < _; omega)).trans c3
      have c4a : (w5.alloc (.cells #[.int .i64 1, .int .i64 0, .string ⟨#[120]⟩, .int .i64 0, .int .i64 0, .int .i64 3, .int .i64 2, .string ⟨#[]⟩, .int .i64 2, .int .i64 0, .int .i64 8, .int .i64 3, .string ⟨#[]⟩, .int .i64 0, .int .i64 0] 35)).cell? ⟨w.heap.size + 4, 0, none⟩ = some (.bool true) := (hba.cell (p := ⟨w.heap.size + 4, 0, none⟩) (by show w.heap.size + 4 < _; omega)).trans c4
      have cma : (w5.alloc (.cells #[.int .i64 1, .int .i64 0, .string ⟨#[120]⟩, .int .i64 0, .int .i64 0, .int .i64 3, .int .i64 2, .string ⟨#[]⟩, .int .i64 2, .int .i64 0, .int .i64 8, .int .i64 3, .string ⟨#[]⟩, .int .i64 0, .int .i64 0] 35)).cell? ⟨wr.heap.size, 0, none⟩ = some (.slice (some ⟨mg, 0, none⟩) 3 mc) := (hba.cell (p := ⟨wr.heap.size, 0, none⟩) hmlt).trans cm
      have hl3 : w.heap.size + 3 < (w5.alloc (.cells #[.int .i64 1, .int .i64 0, .string ⟨#[120]⟩, .int .i64 0, .int .i64 0, .int .i64 3, .int .i64 2, .string ⟨#[]⟩, .int .i64 2, .int .i64 0, .int .i64 8, .int .i64 3, .string ⟨#[]⟩, .int .i64 0, .int .i64 0] 35)).drew.heap.size := by show _ < (w5.alloc (.cells #[.int .i64 1, .int .i64 0, .string ⟨#[120]⟩, .int .i64 0, .int .i64 0, .int .i64 3, .int .i64 2, .string ⟨#[]⟩, .int .i64 2, .int .i64 0, .int .i64 8, .int .i64 3, .string ⟨#[]⟩, .int .i64 0, .int .i64 0] 35)).heap.size; rw [World.size_alloc]; omega
      have hsm := same_toks (.slice (some ⟨mg, 0, none⟩) 3 mc) (.slice (some ⟨w5.heap.size, 0, none⟩) 3 3) x2 (by decide) (w5.alloc (.cells #[.int .i64 1, .int .i64 0, .string ⟨#[120]⟩, .int .i64 0, .int .i64 0, .int .i64 3, .int .i64 2, .string ⟨#[]⟩, .int .i64 2, .int .i64 0, .int .i64 8, .int .i64 3, .string ⟨#[]⟩, .int .i64 0, .int .i64 0] 35)).drew ((tokrow_of_own (L := x2) hom).later hba.drew) ((lit_row w5).later (Below.refl _ _).drew)
      have hend : ∀ w7, Below (w5.alloc (.cells #[.int .i64 1, .int .i64 0, .string ⟨#[120]⟩, .int .i64 0, .int .i64 0, .int .i64 3, .int .i64 2, .string ⟨#[]⟩, .int .i64 2, .int .i64 0, .int .i64 8, .int .i64 3, .string ⟨#[]⟩, .int .i64 0, .int .i64 0] 35)).drew.heap.size (w5.alloc (.cells #[.int .i64 1, .int .i64 0, .string ⟨#[120]⟩, .int .i64 0, .int .i64 0, .int .i64 3, .int .i64 2, .string ⟨#[]⟩, .int .i64 2, .int .i64 0, .int .i64 8, .int .i64 3, .string ⟨#[]⟩, .int .i64 0, .int .i64 0] 35)).drew w7 → Below w.heap.size w w7 ∧ w7.ownsRow w.heap.size 35 5 (.slice lp lm lc) L.length (tokLs L) := fun w7 h7 =>
        ⟨below_step (below_step hB5 hba.drew) h7, own_base (own_laterB (own_laterB ho hba.drew) h7) (by omega)⟩
      clear hot b3 b4 bm ho hom hba hB5
      go_wp2_with fail
      go_region_with (go_at_call 7; refine hsm.mono ?_; rintro e w7 ⟨rfl, hb7⟩; have c3b := (hb7.cell (p := ⟨w.heap.size + 3, 0, none⟩) hl3).trans c3a; have hfin := hend w7 hb7)
      all_goals
        go_wp2_with fail
        exact bodyPost_ret (v := .tuple #[.slice lp lm lc, .bool true]) (by simp [results, Tryd.results6, go_sem]) rfl ⟨hfin.1, _, rfl, hfin.2⟩

end Go.Proofs.YtdlbfoiiaedicaaDoor.Q

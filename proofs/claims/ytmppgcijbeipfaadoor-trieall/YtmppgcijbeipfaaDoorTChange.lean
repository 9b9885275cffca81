import Derived.Test.YtmppgcijbeipfaaDoorTVer2
import Derived.Test.YtmppgcijbeipfaaDoorTDifM
import Derived.RangeFuncCalls
import Derived.RangeFuncWrites
import Derived.Deep.RegionLaw
namespace Go.Proofs.YtmppgcijbeipfaaDoor
open Go.RowKit

/-- A change as it lies in memory. -/
def chL (c : Ch) : List Value := [.int .u32 (c.1 : Int), .bool c.2.1.isSome, .bool c.2.2.isSome, .int .i64 (c.2.1.getD (0, 0)).1, .int .i64 (c.2.1.getD (0, 0)).2, .int .i64 (c.2.2.getD (0, 0)).1, .int .i64 (c.2.2.getD (0, 0)).2]
def flat7 (L : List Ch) : List Value := L.flatMap chL
theorem flat7_snoc (L : List Ch) (c : Ch) : flat7 (L ++ [c]) = flat7 L ++ chL c := by simp [flat7]
theorem infoC : (Tryd.prog.info? 99).map (fun i => (i.zero, i.size, i.bytes)) = some (some (.agg #[.int .u32 0, .bool false, .bool false, .int .i64 0, .int .i64 0, .int .i64 0, .int .i64 0]), 7, 40) := by kernel_rfl

def takerRowC (cv : Value) (stop most n : Int) (over deaf : Bool) : Array Value := #[.slice none 0 0, cv, .int .i64 stop, .int .i64 most, .int .i64 n, .bool over, .bool deaf]
/-- What a taker of changes holds. -/
def TakerC (W : World) (T : Nat) (L : List Ch) (stop most n : Int) (over deaf : Bool) : Prop :=
  ∃ cv, W.heap[T]? = some (.cells (takerRowC cv stop most n over deaf) 92 (0, 0)) ∧ W.ownsRow (T + 1) 99 7 cv L.length (flat7 L)

/-- The block k is none of a taker's. -/
def offT (T k : Nat) (X : World) : Prop := k ≠ T ∧ ∀ cv : Value, X.cell? ⟨T, 1, none⟩ = some cv → cv.ownBlock ≠ some k

theorem cells7_at (W : World) (n : Nat) (hn : n = W.heap.size) (a b c d e f g : Value) (t : TypeId) : ∀ j u, ([a, b, c, d, e, f, g] : List Value)[j]? = some u → (W.alloc (.cells #[a, b, c, d, e, f, g] t)).cell? ((⟨n, 0, none⟩ : Addr).add j) = some u := by
  subst hn
  intro j u h
  match j, h with
  | 0, h => simpa [Addr.add] using h
  | 1, h => simpa [Addr.add] using h
  | 2, h => simpa [Addr.add] using h
  | 3, h => simpa [Addr.add] using h
  | 4, h => simpa [Addr.add] using h
  | 5, h => simpa [Addr.add] using h
  | 6, h => simpa [Addr.add] using h
  | j + 7, h => simp at h
theorem own_cells {w : World} {base n size : Nat} {e : TypeId} {v : Value} {xs : List Value} (h : w.ownsRow base e size v n xs) (j : Nat) (o : Obj) (hj : v.ownBlock = some j) (ho : w.heap[j]? = some o) : o.isCells = true := by
  obtain ⟨-, h | ⟨g, cap, cur, rfl, -, hb, -⟩⟩ := h
  · rw [h.1] at hj; cases hj
  · obtain rfl := Option.some.inj hj
    rw [hb] at ho
    rw [← Option.some.inj ho]
    rfl
theorem row_cells {w : World} {T : Nat} {cs : Array Value} {t : TypeId} {z : Nat × Nat} {o : Obj} (h : w.heap[T]? = some (.cells cs t z)) (ho : w.heap[T]? = some o) : o.isCells = true := by
  rw [h] at ho
  rw [← Option.some.inj ho]
  rfl

set_option maxHeartbeats 1000000 in
theorem more_anyC (T : Nat) (cv : Value) (stop most n : Int) (hn : -9223372036854775808 ≤ n + 1 ∧ n + 1 ≤ 9223372036854775807) (deaf o : Bool) (ho : o = ((n + 1 == stop) || decide (most < n + 1))) (w : World) (h : w.heap[T]? = some (.cells (takerRowC cv stop most n false deaf) 92 (0, 0))) :
    Calls Tryd.prog 48 #[.pointer (some ⟨T, 0, none⟩)] w fun e w' => e = .returned (.bool (!o)) ∧ w'.heap[T]? = some (.cells (takerRowC cv stop most (n + 1) o deaf) 92 (0, 0)) ∧ w.grownBy w' (some T) := by
  have c2 : w.cell? ⟨T, 2, none⟩ = some (.int .i64 stop) := cell_of_row _ _ 2 _ _ _ h
  have c3 : w.cell? ⟨T, 3, none⟩ = some (.int .i64 most) := cell_of_row _ _ 3 _ _ _ h
  have c4 : w.cell? ⟨T, 4, none⟩ = some (.int .i64 n) := cell_of_row _ _ 4 _ _ _ h
  have c5 : w.cell? ⟨T, 5, none⟩ = some (.bool false) := cell_of_row _ _ 5 _ _ _ h
  have f4 := frozen_of_row h 4
  have f5 := frozen_of_row h 5
  have hw : wrap64 (n + 1) = n + 1 := by unfold wrap64; omega
  have h1 := heap_setCell_same w T 4 _ _ (.int .i64 (n + 1)) h
  have h2 := heap_setCell_same _ T 5 _ _ (.bool o) h1
  have hgr1 : w.grownBy (w.setCell ⟨T, 4, none⟩ (.int .i64 (n + 1))) (some T) := grown_set w T 4 _
  go_enter Tryd.func48, Tryd.ntmps48
  go_wp2
  generalize w.setCell ⟨T, 4, none⟩ (.int .i64 (n + 1)) = X at *
  clear c2 c3 c4 c5 f4 f5 h2
  have c2 : X.cell? ⟨T, 2, none⟩ = some (.int .i64 stop) := cell_of_row _ _ 2 _ _ _ h1
  have c3 : X.cell? ⟨T, 3, none⟩ = some (.int .i64 most) := cell_of_row _ _ 3 _ _ _ h1
  have c4 : X.cell? ⟨T, 4, none⟩ = some (.int .i64 (n + 1)) := cell_of_row _ _ 4 _ _ _ h1
  have c5 : X.cell? ⟨T, 5, none⟩ = some (.bool false) := cell_of_row _ _ 5 _ _ _ h1
  have f5 := frozen_of_row h1 5
  have h2 := heap_setCell_same X T 5 _ _ (.bool o) h1
  have hgr2 : w.grownBy (X.setCell ⟨T, 5, none⟩ (.bool o)) (some T) := hgr1.trans (grown_set X T 5 _)
  have hS : X.drew.cell? ⟨T, 2, none⟩ = some (.int .i64 stop) ∧ X.drew.cell? ⟨T, 3, none⟩ = some (.int .i64 most) ∧ X.drew.cell? ⟨T, 4, none⟩ = some (.int .i64 (n + 1)) := ⟨c2, c3, c4⟩
  have hS2 : ∀ v, (X.setCell ⟨T, 5, none⟩ v).drew.cell? ⟨T, 2, none⟩ = some (.int .i64 stop) ∧ (X.setCell ⟨T, 5, none⟩ v).drew.cell? ⟨T, 3, none⟩ = some (.int .i64 most) ∧ (X.setCell ⟨T, 5, none⟩ v).drew.cell? ⟨T, 4, none⟩ = some (.int .i64 (n + 1)) := fun v => ⟨(cell_o5 (by omega) v).trans c2, (cell_o5 (by omega) v).trans c3, (cell_o5 (by omega) v).trans c4⟩
  cases hb1 : (n + 1 == stop) with
  | true =>
    rw [hb1] at ho
    simp only [Bool.true_or] at ho
    subst ho
    go_region
    all_goals
      go_wp2
      go_ret
      exact ⟨rfl, h2, hgr2.trans (grown_drew _ _)⟩
  | false =>
    rw [hb1] at ho
    simp only [Bool.false_or] at ho
    subst ho
    by_cases hm : most < n + 1
    · have hmd : decide (most < n + 1) = true := decide_eq_true hm
      go_region_held3 (fun Y => Y.cell? ⟨T, 2, none⟩ = some (.int .i64 stop) ∧ Y.cell? ⟨T, 3, none⟩ = some (.int .i64 most) ∧ Y.cell? ⟨T, 4, none⟩ = some (.int .i64 (n + 1))) (first | (with_reducible assumption) | (exact hS2 _)) (fail)
      go_wp2
      go_ret
      rw [decide_eq_true hm] at h2 hgr2 ⊢
      exact ⟨rfl, h2, hgr2.trans (grown_drew _ _)⟩
    · have hmd : decide (most < n + 1) = false := decide_eq_false hm
      go_region_held3 (fun Y => Y.cell? ⟨T, 2, none⟩ = some (.int .i64 stop) ∧ Y.cell? ⟨T, 3, none⟩ = some (.int .i64 most) ∧ Y.cell? ⟨T, 4, none⟩ = some (.int .i64 (n + 1))) (first | (with_reducible assumption) | (exact hS2 _)) (fail)
      go_wp2
      go_ret
      have e : decide (most < n + 1) = false := decide_eq_false (show ¬ most < n + 1 by omega)
      rw [e] at h2 hgr2
      first | exact ⟨rfl, h2, hgr2.trans (grown_drew _ _)⟩ | (rw [e]; exact ⟨rfl, h2, hgr2.trans (grown_drew _ _)⟩)


set_option maxRecDepth 4000 in
set_option maxHeartbeats 1000000 in
theorem change_any (T : Nat) (L : List Ch) (stop most : Int) (hL : L.length ≤ 9000000000) (deaf o : Bool) (ch : Ch) (k : Nat) (p q : Bool) (a b c d : Int) (hch : chL ch = [.int .u32 (k : Int), .bool p, .bool q, .int .i64 a, .int .i64 b, .int .i64 c, .int .i64 d]) (ho : o = (((L.length : Int) + 1 == stop) || decide (most < (L.length : Int) + 1))) (w : World) (h : TakerC w T L stop most L.length false deaf) :
    Calls Tryd.prog 41 #[.pointer (some ⟨T, 0, none⟩), .agg #[.int .u32 (k : Int), .bool p, .bool q, .int .i64 a, .int .i64 b, .int .i64 c, .int .i64 d]] w fun e w' => e = .returned (.bool (!o)) ∧ TakerC w' T (L ++ [ch]) stop most ((L.length : Int) + 1) o deaf ∧ Below T w w' ∧ KeepsOthers w w' ∧ (∀ j, offT T j w → j < w.heap.size → w'.heap[j]? = w.heap[j]? ∧ offT T j w') := by
  obtain ⟨ev, hT, hown⟩ := h
  obtain ⟨ea, el, ec, rfl⟩ := own_slice hown
  have hTl : T < w.heap.size := (Array.getElem?_eq_some_iff.1 hT).1
  have c00 : w.cell? ⟨T, 1, none⟩ = some (.slice ea el ec) := cell_of_row _ _ 1 _ _ _ hT
  have hb1 := (Below.refl w.heap.size w).alloc (Nat.le_refl _) (.cells #[.int .u32 (k : Int), .bool p, .bool q, .int .i64 a, .int .i64 b, .int .i64 c, .int .i64 d] 99)
  have hrow := heap_alloc_last w (.cells #[.int .u32 (k : Int), .bool p, .bool q, .int .i64 a, .int .i64 b, .int .i64 c, .int .i64 d] 99)
  have hT1 := (hb1.block T hTl).trans hT
  have hown1 := own_laterB hown hb1
  have hs1 : (w.alloc (.cells #[.int .u32 (k : Int), .bool p, .bool q, .int .i64 a, .int .i64 b, .int .i64 c, .int .i64 d] 99)).heap.size = w.heap.size + 1 := by simp
  have hKV := KeepsOthers.alloc w (.cells #[.int .u32 (k : Int), .bool p, .bool q, .int .i64 a, .int .i64 b, .int .i64 c, .int .i64 d] 99)
  go_enter Tryd.func41, Tryd.ntmps41
  have c5 : (w.alloc (.cells #[.int .u32 (k : Int), .bool p, .bool q, .int .i64 a, .int .i64 b, .int .i64 c, .int .i64 d] 99)).cell? ⟨T, 5, none⟩ = some (.bool false) := cell_of_row _ _ 5 _ _ _ hT1
  go_wp2
  generalize w.alloc (.cells #[.int .u32 (k : Int), .bool p, .bool q, .int .i64 a, .int .i64 b, .int .i64 c, .int .i64 d] 99) = V at *
  have hTV : T < V.heap.size := by omega
  have hba : ∀ o, Below V.heap.size V (V.alloc o) := fun o => (Below.refl _ _).alloc (Nat.le_refl _) o
  have c0 : V.cell? ⟨T, 1, none⟩ = some (.slice ea el ec) := cell_of_row _ _ 1 _ _ _ hT1
  have c0' : ∀ o, (V.alloc o).cell? ⟨T, 1, none⟩ = some (.slice ea el ec) := fun o => ((hba o).cell (p := ⟨T, 1, none⟩) hTV).trans c0
  have v0 : V.cell? ⟨w.heap.size, 0, none⟩ = some (.int .u32 (k : Int)) := cell_of_row _ _ 0 _ _ _ hrow
  have v0' : ∀ o, (V.alloc o).cell? ⟨w.heap.size, 0, none⟩ = some (.int .u32 (k : Int)) := fun o => ((hba o).cell (p := ⟨w.heap.size, 0, none⟩) (by simp; omega)).trans v0
  have v1 : V.cell? ⟨w.heap.size, 1, none⟩ = some (.bool p) := cell_of_row _ _ 1 _ _ _ hrow
  have v1' : ∀ o, (V.alloc o).cell? ⟨w.heap.size, 1, none⟩ = some (.bool p) := fun o => ((hba o).cell (p := ⟨w.heap.size, 1, none⟩) (by simp; omega)).trans v1
  have v2 : V.cell? ⟨w.heap.size, 2, none⟩ = some (.bool q) := cell_of_row _ _ 2 _ _ _ hrow
  have v2' : ∀ o, (V.alloc o).cell? ⟨w.heap.size, 2, none⟩ = some (.bool q) := fun o => ((hba o).cell (p := ⟨w.heap.size, 2, none⟩) (by simp; omega)).trans v2
  have v3 : V.cell? ⟨w.heap.size, 3, none⟩ = some (.int .i64 a) := cell_of_row _ _ 3 _ _ _ hrow
  have v3' : ∀ o, (V.alloc o).cell? ⟨w.heap.size, 3, none⟩ = some (.int .i64 a) := fun o => ((hba o).cell (p := ⟨w.heap.size, 3, none⟩) (by simp; omega)).trans v3
  have v4 : V.cell? ⟨w.heap.size, 4, none⟩ = some (.int .i64 b) := cell_of_row _ _ 4 _ _ _ hrow
  have v4' : ∀ o, (V.alloc o).cell? ⟨w.heap.size, 4, none⟩ = some (.int .i64 b) := fun o => ((hba o).cell (p := ⟨w.heap.size, 4, none⟩) (by simp; omega)).trans v4
  have v5 : V.cell? ⟨w.heap.size, 5, none⟩ = some (.int .i64 c) := cell_of_row _ _ 5 _ _ _ hrow
  have v5' : ∀ o, (V.alloc o).cell? ⟨w.heap.size, 5, none⟩ = some (.int .i64 c) := fun o => ((hba o).cell (p := ⟨w.heap.size, 5, none⟩) (by simp; omega)).trans v5
  have v6 : V.cell? ⟨w.heap.size, 6, none⟩ = some (.int .i64 d) := cell_of_row _ _ 6 _ _ _ hrow
  have v6' : ∀ o, (V.alloc o).cell? ⟨w.heap.size, 6, none⟩ = some (.int .i64 d) := fun o => ((hba o).cell (p := ⟨w.heap.size, 6, none⟩) (by simp; omega)).trans v6
  clear hrow
  have hne : (Value.slice ea el ec).ownBlock ≠ some T := fun e => by have := (hown1.lt T e).1; omega
  obtain ⟨i0, hi, hz0, hz1, hz2⟩ := info_parts infoC
  have hbd := (hba (.cells #[.int .u32 (k : Int), .bool p, .bool q, .int .i64 a, .int .i64 b, .int .i64 c, .int .i64 d] 99)).drew
  have hownA := own_laterB hown1 hbd
  have hTA := (hbd.block T hTV).trans hT1
  have hsz : T + 1 ≤ (V.alloc (.cells #[.int .u32 (k : Int), .bool p, .bool q, .int .i64 a, .int .i64 b, .int .i64 c, .int .i64 d] 99)).drew.heap.size := by have := hbd.size; omega
  have hbW := below_step hb1 hbd
  clear c5
  have hK0 : KeepsOthers w (V.alloc (.cells #[.int .u32 (k : Int), .bool p, .bool q, .int .i64 a, .int .i64 b, .int .i64 c, .int .i64 d] 99)).drew := (hKV.trans (KeepsOthers.alloc _ _)).trans (KeepsOthers.drew _)
  go_region_law (refine step_append_at _ rfl _ _ 63 rfl (T + 1) 99 i0 _ 7 40 Tryd.underlying63 hi hz0 hz1 hz2 rfl (by decide) _ L.length (flat7 L) rfl hownA ⟨w.heap.size + 1, 0, none⟩ 1 1 [.int .u32 (k : Int), .bool p, .bool q, .int .i64 a, .int .i64 b, .int .i64 c, .int .i64 d] rfl rfl (fun j u h => cells7_at V _ hs1.symm _ _ _ _ _ _ _ _ j u h) (fun u hu => by { simp at hu; rcases hu with rfl | rfl | rfl | rfl | rfl | rfl | rfl <;> rfl }) (by unfold maxLen; omega) (by omega) hsz ?_; intro v2 w2 hown2 hgrow2 hnew2; obtain ⟨g2, cap2, rfl⟩ := own_some hown2 (by omega); have hT2 := (hgrow2.block T (by omega) hne.symm).trans hTA; have c2 : w2.cell? ⟨T, 1, none⟩ = some (.slice ea el ec) := cell_of_row _ _ 1 _ _ _ hT2; have f2 := frozen_of_row hT2 1)
  all_goals
    have hne2 : (Value.slice (some ⟨g2, 0, none⟩) (L.length + 1) cap2).ownBlock = none ∨ (Value.slice (some ⟨g2, 0, none⟩) (L.length + 1) cap2).ownBlock ≠ some T := .inr (fun e => by have := (hown2.lt T e).1; omega)
    have hT4 := heap_setCell_same w2 T 1 _ _ (.slice (some ⟨g2, 0, none⟩) (L.length + 1) cap2) hT2
    have hown4 := hown2.kept (grown_set w2 T 1 (.slice (some ⟨g2, 0, none⟩) (L.length + 1) cap2)) hne2
    have hB2 := ((hbW.mono (Nat.le_of_lt hTl)).grown hgrow2 (by omega) (fun k hk => by have := (hownA.lt k hk).1; omega)).setCell (p := ⟨T, 1, none⟩) (Nat.le_refl _) (.slice (some ⟨g2, 0, none⟩) (L.length + 1) cap2)
    have hK2 : KeepsOthers w (w2.setCell ⟨T, 1, none⟩ (.slice (some ⟨g2, 0, none⟩) (L.length + 1) cap2)) := (hK0.trans (KeepsOthers.of_grownBy hgrow2 (fun j o hj ho => own_cells hownA j o hj ho))).trans (KeepsOthers.setCell _ _ _)
    have hmo := more_anyC T (.slice (some ⟨g2, 0, none⟩) (L.length + 1) cap2) stop most L.length (by omega) deaf o ho _ hT4
    have hF2 : ∀ j, offT T j w → j < w.heap.size → (w2.setCell ⟨T, 1, none⟩ (.slice (some ⟨g2, 0, none⟩) (L.length + 1) cap2)).heap[j]? = w.heap[j]? ∧ g2 ≠ j := by
      rintro j ⟨j1, j2⟩ hj
      have j3 := j2 _ c00
      refine ⟨(Below.heap_setCell _ _ _ j j1).trans ((hgrow2.block j (Nat.lt_of_lt_of_le hj hbW.size) (fun e => j3 e.symm)).trans (hbW.block j hj)), fun e => ?_⟩
      subst e
      rcases hnew2 with e | e
      · exact j3 e.symm
      · have e2 : g2 = _ := Option.some.inj e
        rw [e2] at hj
        exact absurd hj (Nat.not_lt.2 hbW.size)
    clear hown2 hgrow2 hT2 c2 f2 ho hnew2
    generalize w2.setCell ⟨T, 1, none⟩ (.slice (some ⟨g2, 0, none⟩) (L.length + 1) cap2) = X at *
    go_wp2_with (go_at_call 48; refine hmo.mono ?_; rintro e w3 ⟨rfl, hT5, hgr5⟩)
    go_ret
    refine ⟨rfl, ⟨_, hT5, ?_⟩, hB2.grown hgr5 (by have := hB2.size; omega) (fun k hk => by cases hk; exact Nat.le_refl _), hK2.trans (KeepsOthers.of_grownBy hgr5 (fun j o hj ho => by cases hj; exact row_cells hT4 ho)), fun j hj hjl => ?_⟩
    case refine_2 =>
      obtain ⟨f1, f2⟩ := hF2 j hj hjl
      refine ⟨(hgr5.block j (by have := hB2.size; omega) (fun e => hj.1 (Option.some.inj e))).trans f1, hj.1, fun cv hcv => ?_⟩
      have e5 : w3.cell? ⟨T, 1, none⟩ = some (.slice (some ⟨g2, 0, none⟩) (L.length + 1) cap2) := cell_of_row _ _ 1 _ _ _ hT5
      rw [e5] at hcv
      rw [← Option.some.inj hcv]
      exact fun e => f2 (Option.some.inj e)
    have := hown4.kept hgr5 hne2
    rw [List.length_append, flat7_snoc, hch]
    exact this

end Go.Proofs.YtmppgcijbeipfaaDoor

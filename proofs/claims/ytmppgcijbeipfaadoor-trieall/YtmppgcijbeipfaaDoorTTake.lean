import Derived.Test.YtmppgcijbeipfaaDoorTSearch2
import Derived.Deep.RegionLaw
import Derived.Maps.AppendAt
namespace Go.Proofs.YtmppgcijbeipfaaDoor
open Go.RowKit

theorem step_append_own {P : Program} {ops : Array Oper} {o : Oper} {a : Act} (w : World) {K : Act → World → Prop} {Q : Exit → Act → World → Prop} {E : Prop}
    (hg : o.guard = none) (s x : Operand) (t : TypeId) (ho : o.op = .call { callee := .builtin .append, args := #[s, x], argTypes := #[t, t] })
    (base : Nat) (e : TypeId) (i : TypeInfo) (z : Value) (size bytes : Nat) (ht : P.underlying t = some (.slice e)) (hi : P.info? e = some i) (hz : i.zero = some z)
    (hsize : i.size = size) (hby : i.bytes = bytes) (hzs : z.cells.size = size) (hsz : 0 < size)
    (v : Value) (n : Nat) (xs : List Value) (hs : a.eval s = v) (hown : w.ownsRow base e size v n xs)
    (ad : Addr) (m c : Nat) (news : List Value) (hx : a.eval x = .slice (some ad) m c) (hl : news.length = m * size) (hnews : ∀ j u, news[j]? = some u → w.cell? (ad.add j) = some u) (h1 : ∀ u ∈ news, u.oneCell' = true)
    (h63 : n + m ≤ maxLen) (hbytes : (n + m) * bytes ≤ 140737488355328) (hbase : base ≤ w.heap.size)
    (h : ∀ v' w', w'.ownsRow base e size v' (n + m) (xs ++ news) → w.grownBy w' v.ownBlock → K (a.put o.dst v') w') : if Region.wanted o (yielded ops a.tmps) = true then Oper.wp P o a w K Q else E := by
  rw [if_pos (by simp [Region.wanted, hg])]
  exact wp_append_own w s x t ho base e i z size bytes ht hi hz hsize hby hzs hsz v n xs hs hown ad m c news hx hl hnews h1 h63 hbytes hbase (fun v' w' h1 h2 _ => h v' w' h1 h2)

theorem grown_set (X : World) (G o : Nat) (v : Value) : X.grownBy (X.setCell ⟨G, o, none⟩ v) (some G) := ⟨rfl, rfl, rfl, by simp, fun k _ hk => Below.heap_setCell _ _ _ k (fun e => hk (by rw [e]))⟩
theorem grown_drew (X : World) (r : Option Nat) : X.grownBy X.drew r := ⟨rfl, rfl, rfl, Nat.le_refl _, fun _ _ _ => rfl⟩
theorem cell_o5 {X : World} {T i j : Nat} (h : i ≠ j) (v : Value) : (X.setCell ⟨T, j, none⟩ v).cell? ⟨T, i, none⟩ = X.cell? ⟨T, i, none⟩ := World.cell?_setCell_other _ _ _ _ (fun e => h (congrArg Addr.off e).symm)

def flat3 (L : List (Nat × (Int × Int))) : List Value := L.flatMap fun e => [.int .u32 (e.1 : Int), .int .i64 e.2.1, .int .i64 e.2.2]
theorem flat3_snoc (L : List (Nat × (Int × Int))) (k : Nat) (x y : Int) : flat3 (L ++ [(k, (x, y))]) = flat3 L ++ [.int .u32 (k : Int), .int .i64 x, .int .i64 y] := by simp [flat3]
theorem infoE : (Tryd.prog.info? 49).map (fun i => (i.zero, i.size, i.bytes)) = some (some (.agg #[.int .u32 0, .int .i64 0, .int .i64 0]), 3, 24) := by kernel_rfl

def takerRow (ev : Value) (stop most n : Int) (over deaf : Bool) : Array Value := #[ev, .slice none 0 0, .int .i64 stop, .int .i64 most, .int .i64 n, .bool over, .bool deaf]
/-- What a taker holds. -/
def TakerAt (W : World) (T : Nat) (L : List (Nat × (Int × Int))) (stop most n : Int) (over deaf : Bool) : Prop :=
  ∃ ev, W.heap[T]? = some (.cells (takerRow ev stop most n over deaf) 92 (0, 0)) ∧ W.ownsRow (T + 1) 49 3 ev L.length (flat3 L)

set_option maxHeartbeats 1000000 in
theorem more_any (T : Nat) (ev : Value) (stop most n : Int) (hn : -9223372036854775808 ≤ n + 1 ∧ n + 1 ≤ 9223372036854775807) (deaf o : Bool) (ho : o = ((n + 1 == stop) || decide (most < n + 1))) (w : World) (h : w.heap[T]? = some (.cells (takerRow ev stop most n false deaf) 92 (0, 0))) :
    Calls Tryd.prog 48 #[.pointer (some ⟨T, 0, none⟩)] w fun e w' => e = .returned (.bool (!o)) ∧ w'.heap[T]? = some (.cells (takerRow ev stop most (n + 1) o deaf) 92 (0, 0)) ∧ w.grownBy w' (some T) := by
  have c2 : w.cell? ⟨T, 2, none⟩ = some (.int .i64 stop) := cell_of_row _ _ 2 _ _ _ h
  have c3 : w.cell? ⟨T, 3, none⟩ = some (.int .i64 most) := cell_of_row _ _ 3 _ _ _ h
  have c4 : w.cell? ⟨T, 4, none⟩ = some (.int .i64 n) := cell_of_row _ _ 4 _ _ _ h
  have c5 : w.cell? ⟨T, 5, none⟩ = some (.bool false) := cell_of_row _ _ 5 _ _ _ h
  have f4 := frozen_of_row h 4
  have f5 := frozen_of_row h 5
  have hw : wrap64 (n + 1) = n + 1 := by unfold wrap64; omega
  have h1 := heap_setCell_same w T 4 _ _ (.int .i64 (n + 1)) h
  have h2 := heap_setCell_same _ T 5 _ _ (.bool o) h1
  have hgr1 : w.grownBy (w.setCell ⟨T, 4, none⟩ (.int .i64 (n + 1))) (some T) := grown_set w T 4 _
  go_enter Tryd.func48, Tryd.ntmps48
  go_wp2
  generalize w.setCell ⟨T, 4, none⟩ (.int .i64 (n + 1)) = X at *
  clear c2 c3 c4 c5 f4 f5 h2
  have c2 : X.cell? ⟨T, 2, none⟩ = some (.int .i64 stop) := cell_of_row _ _ 2 _ _ _ h1
  have c3 : X.cell? ⟨T, 3, none⟩ = some (.int .i64 most) := cell_of_row _ _ 3 _ _ _ h1
  have c4 : X.cell? ⟨T, 4, none⟩ = some (.int .i64 (n + 1)) := cell_of_row _ _ 4 _ _ _ h1
  have c5 : X.cell? ⟨T, 5, none⟩ = some (.bool false) := cell_of_row _ _ 5 _ _ _ h1
  have f5 := frozen_of_row h1 5
  have h2 := heap_setCell_same X T 5 _ _ (.bool o) h1
  have hgr2 : w.grownBy (X.setCell ⟨T, 5, none⟩ (.bool o)) (some T) := hgr1.trans (grown_set X T 5 _)
  have hS : X.drew.cell? ⟨T, 2, none⟩ = some (.int .i64 stop) ∧ X.drew.cell? ⟨T, 3, none⟩ = some (.int .i64 most) ∧ X.drew.cell? ⟨T, 4, none⟩ = some (.int .i64 (n + 1)) := ⟨c2, c3, c4⟩
  have hS2 : ∀ v, (X.setCell ⟨T, 5, none⟩ v).drew.cell? ⟨T, 2, none⟩ = some (.int .i64 stop) ∧ (X.setCell ⟨T, 5, none⟩ v).drew.cell? ⟨T, 3, none⟩ = some (.int .i64 most) ∧ (X.setCell ⟨T, 5, none⟩ v).drew.cell? ⟨T, 4, none⟩ = some (.int .i64 (n + 1)) := fun v => ⟨(cell_o5 (by omega) v).trans c2, (cell_o5 (by omega) v).trans c3, (cell_o5 (by omega) v).trans c4⟩
  cases hb1 : (n + 1 == stop) with
  | true =>
    rw [hb1] at ho
    simp only [Bool.true_or] at ho
    subst ho
    go_region
    all_goals
      go_wp2
      go_ret
      exact ⟨rfl, h2, hgr2.trans (grown_drew _ _)⟩
  | false =>
    rw [hb1] at ho
    simp only [Bool.false_or] at ho
    subst ho
    by_cases hm : most < n + 1
    · have hmd : decide (most < n + 1) = true := decide_eq_true hm
      go_region_held3 (fun Y => Y.cell? ⟨T, 2, none⟩ = some (.int .i64 stop) ∧ Y.cell? ⟨T, 3, none⟩ = some (.int .i64 most) ∧ Y.cell? ⟨T, 4, none⟩ = some (.int .i64 (n + 1))) (first | (with_reducible assumption) | (exact hS2 _)) (fail)
      go_wp2
      go_ret
      rw [decide_eq_true hm] at h2 hgr2 ⊢
      exact ⟨rfl, h2, hgr2.trans (grown_drew _ _)⟩
    · have hmd : decide (most < n + 1) = false := decide_eq_false hm
      go_region_held3 (fun Y => Y.cell? ⟨T, 2, none⟩ = some (.int .i64 stop) ∧ Y.cell? ⟨T, 3, none⟩ = some (.int .i64 most) ∧ Y.cell? ⟨T, 4, none⟩ = some (.int .i64 (n + 1))) (first | (with_reducible assumption) | (exact hS2 _)) (fail)
      go_wp2
      go_ret
      have e : decide (most < n + 1) = false := decide_eq_false (show ¬ most < n + 1 by omega)
      rw [e] at h2 hgr2
      first | exact ⟨rfl, h2, hgr2.trans (grown_drew _ _)⟩ | (rw [e]; exact ⟨rfl, h2, hgr2.trans (grown_drew _ _)⟩)

theorem own_some {w : World} {base n size : Nat} {e : TypeId} {v : Value} {xs : List Value} (h : w.ownsRow base e size v n xs) (hn : 0 < n) : ∃ g cap, v = .slice (some ⟨g, 0, none⟩) n cap := by
  obtain ⟨_, h | ⟨g, cap, cur, rfl, _⟩⟩ := h
  · omega
  · exact ⟨g, cap, rfl⟩
theorem grown_of_belowB {W W' : World} (h : Below W.heap.size W W') : W.grownBy W' none := ⟨h.os, h.tape, h.output, h.size, fun k hk _ => h.block k hk⟩
theorem own_laterB {w w' : World} {base n size : Nat} {e : TypeId} {v : Value} {xs : List Value} (h : w.ownsRow base e size v n xs) (hb : Below w.heap.size w w') : w'.ownsRow base e size v n xs := h.kept (grown_of_belowB hb) (by cases v.ownBlock <;> simp)
theorem own_slice {w : World} {base n size : Nat} {e : TypeId} {v : Value} {xs : List Value} (h : w.ownsRow base e size v n xs) : ∃ a len cap, v = .slice a len cap := by
  obtain ⟨_, h | ⟨g, cap, cur, rfl, _⟩⟩ := h
  · exact ⟨none, 0, 0, h.1⟩
  · exact ⟨_, _, _, rfl⟩
theorem cells3_at (W : World) (n : Nat) (hn : n = W.heap.size) (a b c : Value) (t : TypeId) : ∀ j u, ([a, b, c] : List Value)[j]? = some u → (W.alloc (.cells #[a, b, c] t)).cell? ((⟨n, 0, none⟩ : Addr).add j) = some u := by
  subst hn
  intro j u h
  match j, h with
  | 0, h => simpa [Addr.add] using h
  | 1, h => simpa [Addr.add] using h
  | 2, h => simpa [Addr.add] using h
  | j + 3, h => simp at h

set_option maxRecDepth 4000 in
set_option maxHeartbeats 1000000 in
theorem entry_any (T : Nat) (L : List (Nat × (Int × Int))) (stop most : Int) (hL : L.length ≤ 5000000000) (deaf o : Bool) (k : Nat) (x y : Int) (ho : o = (((L.length : Int) + 1 == stop) || decide (most < (L.length : Int) + 1))) (w : World) (h : TakerAt w T L stop most L.length false deaf) :
    Calls Tryd.prog 38 #[.pointer (some ⟨T, 0, none⟩), .int .u32 (k : Int), .agg #[.int .i64 x, .int .i64 y]] w fun e w' => e = .returned (.bool (!o)) ∧ TakerAt w' T (L ++ [(k, (x, y))]) stop most ((L.length : Int) + 1) o deaf ∧ Below T w w' := by
  obtain ⟨ev, hT, hown⟩ := h
  obtain ⟨ea, el, ec, rfl⟩ := own_slice hown
  have hTl : T < w.heap.size := (Array.getElem?_eq_some_iff.1 hT).1
  have hb1 := (Below.refl w.heap.size w).alloc (Nat.le_refl _) (.cells #[.int .i64 x, .int .i64 y] 29)
  have hv := Box2.new w (.int .i64 x) (.int .i64 y) 29
  have hT1 := (hb1.block T hTl).trans hT
  have hown1 := own_laterB hown hb1
  have hs1 : (w.alloc (.cells #[.int .i64 x, .int .i64 y] 29)).heap.size = w.heap.size + 1 := by simp
  go_enter Tryd.func38, Tryd.ntmps38
  have c5 : (w.alloc (.cells #[.int .i64 x, .int .i64 y] 29)).cell? ⟨T, 5, none⟩ = some (.bool false) := cell_of_row _ _ 5 _ _ _ hT1
  go_wp2
  generalize w.alloc (.cells #[.int .i64 x, .int .i64 y] 29) = V at *
  have hTV : T < V.heap.size := by omega
  have hba : ∀ o, Below V.heap.size V (V.alloc o) := fun o => (Below.refl _ _).alloc (Nat.le_refl _) o
  have c0 : V.cell? ⟨T, 0, none⟩ = some (.slice ea el ec) := cell_of_row _ _ 0 _ _ _ hT1
  have c0' : ∀ o, (V.alloc o).cell? ⟨T, 0, none⟩ = some (.slice ea el ec) := fun o => ((hba o).cell (p := ⟨T, 0, none⟩) hTV).trans c0
  obtain ⟨v0, v1, -, -⟩ := hv
  have v0' : ∀ o, (V.alloc o).cell? ⟨w.heap.size, 0, none⟩ = some (.int .i64 x) := fun o => ((hba o).cell (p := ⟨w.heap.size, 0, none⟩) (by simp; omega)).trans v0
  have v1' : ∀ o, (V.alloc o).cell? ⟨w.heap.size, 1, none⟩ = some (.int .i64 y) := fun o => ((hba o).cell (p := ⟨w.heap.size, 1, none⟩) (by simp; omega)).trans v1
  have hne : (Value.slice ea el ec).ownBlock ≠ some T := fun e => by have := (hown1.lt T e).1; omega
  obtain ⟨i0, hi, hz0, hz1, hz2⟩ := info_parts infoE
  have hbd := (hba (.cells #[.int .u32 (k : Int), .int .i64 x, .int .i64 y] 49)).drew
  have hownA := own_laterB hown1 hbd
  have hTA := (hbd.block T hTV).trans hT1
  have hsz : T + 1 ≤ (V.alloc (.cells #[.int .u32 (k : Int), .int .i64 x, .int .i64 y] 49)).drew.heap.size := by have := hbd.size; omega
  have hbW := below_step hb1 hbd
  clear c5
  go_region_law (refine step_append_own _ rfl _ _ 44 rfl (T + 1) 49 i0 _ 3 24 Tryd.underlying44 hi hz0 hz1 hz2 rfl (by decide) _ L.length (flat3 L) rfl hownA ⟨w.heap.size + 1, 0, none⟩ 1 1 [.int .u32 (k : Int), .int .i64 x, .int .i64 y] rfl rfl (fun j u h => cells3_at V _ hs1.symm _ _ _ _ j u h) (fun u hu => by { simp at hu; rcases hu with rfl | rfl | rfl <;> rfl }) (by unfold maxLen; omega) (by omega) hsz ?_; intro v2 w2 hown2 hgrow2; obtain ⟨g2, cap2, rfl⟩ := own_some hown2 (by omega); have hT2 := (hgrow2.block T (by omega) hne.symm).trans hTA; have c2 : w2.cell? ⟨T, 0, none⟩ = some (.slice ea el ec) := cell_of_row _ _ 0 _ _ _ hT2; have f2 := frozen_of_row hT2 0)
  all_goals
    have hne2 : (Value.slice (some ⟨g2, 0, none⟩) (L.length + 1) cap2).ownBlock = none ∨ (Value.slice (some ⟨g2, 0, none⟩) (L.length + 1) cap2).ownBlock ≠ some T := .inr (fun e => by have := (hown2.lt T e).1; omega)
    have hT4 := heap_setCell_same w2 T 0 _ _ (.slice (some ⟨g2, 0, none⟩) (L.length + 1) cap2) hT2
    have hown4 := hown2.kept (grown_set w2 T 0 (.slice (some ⟨g2, 0, none⟩) (L.length + 1) cap2)) hne2
    have hB2 := ((hbW.mono (Nat.le_of_lt hTl)).grown hgrow2 (by omega) (fun k hk => by have := (hownA.lt k hk).1; omega)).setCell (p := ⟨T, 0, none⟩) (Nat.le_refl _) (.slice (some ⟨g2, 0, none⟩) (L.length + 1) cap2)
    have hmo := more_any T (.slice (some ⟨g2, 0, none⟩) (L.length + 1) cap2) stop most L.length (by omega) deaf o ho _ hT4
    clear hown2 hgrow2 hT2 c2 f2 hT4 ho
    generalize w2.setCell ⟨T, 0, none⟩ (.slice (some ⟨g2, 0, none⟩) (L.length + 1) cap2) = X at *
    go_wp2_with (go_at_call 48; refine hmo.mono ?_; rintro e w3 ⟨rfl, hT5, hgr5⟩)
    go_ret
    refine ⟨rfl, ⟨_, hT5, ?_⟩, hB2.grown hgr5 (by have := hB2.size; omega) (fun k hk => by cases hk; exact Nat.le_refl _)⟩
    have := hown4.kept hgr5 hne2
    rw [List.length_append, flat3_snoc]
    exact this

end Go.Proofs.YtmppgcijbeipfaaDoor

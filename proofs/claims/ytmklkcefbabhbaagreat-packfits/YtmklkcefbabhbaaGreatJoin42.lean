import Derived.Test.YtmklkcefbabhbaaGreatJoin41
import Derived.Test.YtmklkcefbabhbaaGreatTurnYrK5
import Derived.Test.YtmklkcefbabhbaaGreatJoin39
import Derived.Test.YtmklkcefbabhbaaGreatJoin38
import Derived.Test.YtmklkcefbabhbaaGreatJoin37
import Derived.Test.YtmklkcefbabhbaaGreatJoin32
import Derived.Test.YtmklkcefbabhbaaGreatJoin28
import Derived.Laws.AppendOwnNone
/- A leaf. -/
namespace Go.Proofs.YtmklkcefbabhbaaGreat.R6
open Go.RowKit

theorem leaf_any (p : Pk) (a3 a4 a5 a6 a7 : Option Addr) (c3 c4 c5 c6 c7 : Nat) (g : Int) (n wb : Nat) (x : Ex) (a : Option Addr) (c : Nat) (W : World) (hw : WkAt W wb p a3 a4 a5 a6 a7 c3 c4 c5 c6 c7 g n) (hL : RowR eL W AnyB p.lns a6) : Calls Tryz.prog 99 #[.pointer (some ⟨wb, 0, none⟩), .agg #[.int .i64 x.op, .int .i64 x.num, .int .i64 x.den, .int .i64 x.mode, .slice a x.args.len c]] W (Lk (.tuple #[.agg #[.int .i64 (lfK p x).1.1, .int .i64 (lfK p x).1.2], .bool (lfK p x).2]) W) := by
  by_cases o1 : x.op = 1
  · exact lf_1 p a3 a4 a5 a6 a7 c3 c4 c5 c6 c7 g n wb x a c o1 W hw hL
  by_cases o2 : x.op = 2
  · exact lf_2 p a3 a4 a5 a6 a7 c3 c4 c5 c6 c7 g n wb x a c o2 W hw hL
  by_cases o3 : x.op = 3
  · exact lf_3 p a3 a4 a5 a6 a7 c3 c4 c5 c6 c7 g n wb x a c o3 W hw hL
  by_cases o4 : x.op = 4
  · exact lf_4 p a3 a4 a5 a6 a7 c3 c4 c5 c6 c7 g n wb x a c o4 W hw hL
  by_cases o5 : x.op = 5
  · exact lf_5 p a3 a4 a5 a6 a7 c3 c4 c5 c6 c7 g n wb x a c o5 W hw hL
  by_cases o6 : x.op = 6
  · exact lf_6 p a3 a4 a5 a6 a7 c3 c4 c5 c6 c7 g n wb x a c o6 W hw hL
  by_cases o7 : x.op = 7
  · exact lf_7 p a3 a4 a5 a6 a7 c3 c4 c5 c6 c7 g n wb x a c o7 W hw hL
  by_cases o8 : x.op = 8
  · exact lf_8 p a3 a4 a5 a6 a7 c3 c4 c5 c6 c7 g n wb x a c o8 W hw hL
  by_cases o9 : x.op = 9
  · exact lf_9 p a3 a4 a5 a6 a7 c3 c4 c5 c6 c7 g n wb x a c o9 W hw hL
  by_cases o10 : x.op = 10
  · exact lf_10 p a3 a4 a5 a6 a7 c3 c4 c5 c6 c7 g n wb x a c o10 W hw hL
  exact lf_x p a3 a4 a5 a6 a7 c3 c4 c5 c6 c7 g n wb x a c o1 o2 o3 o4 o5 o6 o7 o8 o9 o10 W hw hL
end Go.Proofs.YtmklkcefbabhbaaGreat.R6


/- Paths: ahead. -/
namespace Go.Proofs.YtmklkcefbabhbaaGreat.R6
open Go.RowKit

def ptC (path : List Nat) : List Value := path.map (fun (i : Nat) => Value.int .i64 (i : Int))
theorem ptC_len (l : List Nat) : (ptC l).length = l.length := by unfold ptC; exact List.length_map _
theorem ptC_one : ∀ (l : List Nat), ∀ u ∈ ptC l, u.oneCell' = true := fun l u h => by
  obtain ⟨i, -, rfl⟩ := List.mem_map.1 h
  rfl
theorem infoI : (Tryz.prog.info? 3).map (fun i => (i.zero, i.size, i.bytes)) = some (some (.int .i64 0), 1, 8) := by kernel_rfl
theorem infoK : (Tryz.prog.info? 88).map (fun i => (i.zero, i.size, i.bytes)) = some (some (.agg #[.int .i64 0, .int .i64 0]), 2, 16) := by kernel_rfl
theorem info_ps {P : Program} {t : TypeId} {z : Value} {s b : Nat} (h : (P.info? t).map (fun i => (i.zero, i.size, i.bytes)) = some (some z, s, b)) : ∃ i, P.info? t = some i ∧ i.zero = some z ∧ i.size = s ∧ i.bytes = b := by
  cases hi : P.info? t with
  | none => rw [hi] at h; cases h
  | some i =>
    rw [hi] at h
    simp only [Option.map_some, Option.some.injEq, Prod.mk.injEq] at h
    exact ⟨i, rfl, h.1, h.2.1, h.2.2⟩
/-- A path in memory, in a row of its own. -/
def PtAt (W : World) (base : Nat) (pv : Value) (l : List Nat) : Prop := W.ownsRow base 3 1 pv l.length (ptC l)
theorem pt_nil (W : World) (base : Nat) : PtAt W base (.slice none 0 0) [] := World.ownsRow_nil _ _ _ _
theorem PtAt.bel {W W' : World} {base : Nat} {pv : Value} {l : List Nat} (h : PtAt W base pv l) {n : Nat} (hb : Below n W W') (hn : W.heap.size ≤ n) : PtAt W' base pv l := by
  have hlt := World.ownsRow.lt h
  obtain ⟨hl, hv | ⟨g, cap, cur, rfl, hg, hc, h1⟩⟩ := h
  · exact ⟨hl, .inl hv⟩
  · have hg2 := hlt g rfl
    exact ⟨hl, .inr ⟨g, cap, cur, rfl, hg, by rw [hb.block g (by omega)]; exact hc, h1⟩⟩
theorem PtAt.mono {W : World} {base base' : Nat} {pv : Value} {l : List Nat} (h : PtAt W base pv l) (hb : base' ≤ base) : PtAt W base' pv l := by
  obtain ⟨hl, hv | ⟨g, cap, cur, rfl, hg, hc, h1⟩⟩ := h
  · exact ⟨hl, .inl hv⟩
  · exact ⟨hl, .inr ⟨g, cap, cur, rfl, Nat.le_trans hb hg, hc, h1⟩⟩
theorem PtAt.slice {W : World} {base : Nat} {pv : Value} {l : List Nat} (h : PtAt W base pv l) : ∃ a c, pv = .slice a l.length c := by
  obtain ⟨hl, ⟨rfl, h0⟩ | ⟨g, cap, cur, rfl, hg, hc, h1⟩⟩ := h
  · exact ⟨none, 0, by rw [h0]⟩
  · exact ⟨_, _, rfl⟩
theorem own_lit (W : World) (n : Nat) : PtAt (W.alloc (.cells #[.int .i64 (n : Int)] 3)) W.heap.size (.slice (some ⟨W.heap.size, 0, none⟩) 1 1) [n] :=
  ⟨rfl, .inr ⟨W.heap.size, 1, #[.int .i64 (n : Int)], rfl, Nat.le_refl _, heap_alloc_new _ _, Nat.le_refl _, by decide, rfl, rfl⟩⟩
def AhP (W : World) (l : List Nat) (e : Ending) (W' : World) : Prop := ∃ v, e = .returned v ∧ PtAt W' W.heap.size v l ∧ Below W.heap.size W W'
set_option maxRecDepth 20000 in
set_option maxHeartbeats 1000000 in
theorem ahead_any (n : Nat) (l : List Nat) (pv : Value) (base : Nat) (W : World) (h : PtAt W base pv l) (hl : l.length ≤ 1000) : Calls Tryz.prog 31 #[.int .i64 (n : Int), pv] W (AhP W (n :: l)) := by
  obtain ⟨i0, hi1, hz0, hz1, hz2⟩ := info_ps infoI
  have hX : (W.alloc (.cells #[.int .i64 (n : Int)] 3)).ownsRow W.heap.size 3 1 (.slice (some ⟨W.heap.size, 0, none⟩) 1 1) 1 [.int .i64 (n : Int)] := own_lit W n
  have hB : Below W.heap.size W (W.alloc (.cells #[.int .i64 (n : Int)] 3)) := (Below.refl _ _).alloc (Nat.le_refl _) _
  have h' := h
  obtain ⟨hl2, ⟨rfl, h0⟩ | ⟨g, cap, cur, rfl, hg, hc, hcap, hcm, hcs, ht⟩⟩ := h
  · obtain rfl : l = [] := List.eq_nil_of_length_eq_zero h0
    go_enter Tryz.func31, Tryz.ntmps31
    go_wp2_with (at_builtin; refine wpList_append_own_none rfl _ _ 31 rfl W.heap.size 3 i0 1 Tryz.underlying31 hi1 _ 1 _ rfl hX rfl ?_)
    go_ret
    exact ⟨_, rfl, hX, hB⟩
  · have hgl := World.ownsRow.lt h' g rfl
    have hnews : ∀ j u, (ptC l)[j]? = some u → (W.alloc (.cells #[.int .i64 (n : Int)] 3)).cell? ((⟨g, 0, none⟩ : Addr).add j) = some u := fun j u hj => by
      rw [Go.WideShapes.add_plain, Nat.zero_add, bel_cell hB hgl.2 j]
      have hjl : j < l.length := by
        have := (List.getElem?_eq_some_iff.1 hj).1
        rwa [ptC_len] at this
      rw [World.ownsRow.cellAt h' j (by omega)]
      exact hj
    have hlen : 1 + l.length = l.length + 1 := Nat.add_comm _ _
    have hm : 1 + l.length ≤ maxLen := by unfold maxLen; omega
    have hby : (1 + l.length) * 8 ≤ 140737488355328 := by omega
    have hll : (ptC l).length = l.length * 1 := by rw [ptC_len, Nat.mul_one]
    go_enter Tryz.func31, Tryz.ntmps31
    go_wp2_with (at_builtin; refine wpList_append_own_at _ rfl _ _ 31 rfl W.heap.size 3 i0 (.int .i64 0) 1 8 Tryz.underlying31 hi1 hz0 hz1 hz2 rfl (by decide) _ 1 _ rfl hX ⟨g, 0, none⟩ l.length cap (ptC l) rfl hll hnews (ptC_one l) hm hby hB.size ?_; intro v8 w8 hown8 hgrow8 _ hat8)
    go_ret
    rw [hlen] at hown8
    exact ⟨_, rfl, hown8, ⟨hgrow8.os, hgrow8.tape, hgrow8.output, Nat.le_trans hB.size hgrow8.size, fun k hk => (hgrow8.block k (Nat.lt_of_lt_of_le hk hB.size) (fun e => by injection e with e; have e2 : k = W.heap.size := e; omega)).trans (hB.block k hk)⟩⟩
end Go.Proofs.YtmklkcefbabhbaaGreat.R6


/- The kind of an expression: the walk's state. -/
namespace Go.Proofs.YtmklkcefbabhbaaGreat.R6
open Go.RowKit

/-- The walk's block, and that it may be written. -/
def WkB (w : World) (p : Pk) (a3 a4 a5 a6 a7 : Option Addr) (c3 c4 c5 c6 c7 : Nat) (g : Int) (wb : Nat) (n : Nat) : Prop := Bx w wb [.string ⟨p.name.toArray⟩, .int .i64 p.year, .slice a3 p.opts.length c3, .slice a4 p.tabs.length c4, .slice a5 p.grps.length c5, .slice a6 p.lns.length c6, .slice a7 p.cks.length c7, .int .i64 g, .int .i64 (n : Int)]
theorem WkB.at_ {w : World} {p : Pk} {a3 a4 a5 a6 a7 : Option Addr} {c3 c4 c5 c6 c7 : Nat} {g : Int} {wb : Nat} {n : Nat} (h : WkB w p a3 a4 a5 a6 a7 c3 c4 c5 c6 c7 g wb n) : WkAt w wb p a3 a4 a5 a6 a7 c3 c4 c5 c6 c7 g n :=
  ⟨h.1, h.2.1 0 (by simp), h.2.1 1 (by simp), h.2.1 2 (by simp), h.2.1 3 (by simp), h.2.1 4 (by simp), h.2.1 5 (by simp), h.2.1 6 (by simp), h.2.1 7 (by simp), h.2.1 8 (by simp)⟩
theorem WkB.set8 {w : World} {p : Pk} {a3 a4 a5 a6 a7 : Option Addr} {c3 c4 c5 c6 c7 : Nat} {g : Int} {wb : Nat} {n : Nat} (h : WkB w p a3 a4 a5 a6 a7 c3 c4 c5 c6 c7 g wb n) (m : Nat) : WkB (w.setCell ⟨wb, 8, none⟩ (.int .i64 (m : Int))) p a3 a4 a5 a6 a7 c3 c4 c5 c6 c7 g wb m := Bx.set h 8 _
def kdC (ks : List Kd) : List Value := ks.flatMap (fun k => [.int .i64 k.1, .int .i64 k.2])
theorem kdC_snoc (ks : List Kd) (k : Kd) : kdC ks ++ [.int .i64 k.1, .int .i64 k.2] = kdC (ks ++ [k]) := by unfold kdC; rw [List.flatMap_append]; rfl
theorem elems_kd (W : World) (S : Nat → Prop) : ∀ ks : List Kd, Elems eKd W S ks (kdC ks)
  | [] => Elems.nil _ _ _
  | k :: ks => Elems.cons' (D := eKd) (cx := [.int .i64 k.1, .int .i64 k.2]) rfl (elems_kd W S ks)
/-- The kinds so far are a row. -/
theorem kd_row {W : World} {base : Nat} {v : Value} {ks : List Kd} (h : W.ownsRow base 88 2 v ks.length (kdC ks)) : ∃ ak ck, v = .slice ak ks.length ck ∧ RowR eKd W AnyB ks ak := by
  have hlt := h.lt
  have h' := h
  obtain ⟨hl, ⟨rfl, h0⟩ | ⟨g, cap, cur, rfl, hg, hc, h1⟩⟩ := h
  · have : ks = [] := List.eq_nil_of_length_eq_zero h0
    subst this
    exact ⟨none, 0, rfl, .inl rfl⟩
  · refine ⟨_, cap, rfl, .inr ⟨g, 0, kdC ks, rfl, trivial, (hlt g rfl).2, fun j hj => ?_, elems_kd _ _ _⟩⟩
    rw [Nat.zero_add]
    exact h'.cellAt j (by rw [← hl]; exact hj)
theorem fo_step (f : Ex → Nat → Nat × Except Ft Kd) (l : List Ex) {i : Nat} (h : i < l.length) (n : Nat) (acc : List Kd) : kFo f (l.drop i) i n acc = match f l[i] n with
    | (m, .error e) => (m, .error (i :: e.1, e.2))
    | (m, .ok k) => kFo f (l.drop (i + 1)) (i + 1) m (acc ++ [k]) := by
  rw [List.drop_eq_getElem_cons h]
  rfl
theorem fo_le (f : Ex → Nat → Nat × Except Ft Kd) (hf : ∀ x n m k, f x n = (m, .ok k) → m ≤ 60) : ∀ (l : List Ex) (i n : Nat) (acc : List Kd) (m : Nat) (ks : List Kd), n ≤ 60 → kFo f l i n acc = (m, .ok ks) → m ≤ 60
  | [], i, n, acc, m, ks, hn, h => by
    unfold kFo at h
    injection h with h1 h2
    omega
  | x :: l, i, n, acc, m, ks, hn, h => by
    unfold kFo at h
    cases hx : f x n with
    | mk m1 r1 =>
      rw [hx] at h
      cases r1 with
      | error e => injection h with h1 h2; cases h2
      | ok k => exact fo_le f hf l (i + 1) m1 (acc ++ [k]) m ks (hf x n m1 k hx) h
theorem ki_le (p : Pk) (g : Int) : ∀ (d : Nat) (x : Ex) (n m : Nat) (k : Kd), kiF p g d x n = (m, .ok k) → m ≤ 60
  | 0, x, n, m, k, h => by
    unfold kiF at h
    injection h with _ h
    cases h
  | d + 1, x, n, m, k, h => by
    unfold kiF at h
    split at h
    · injection h with _ h; cases h
    · split at h
      · injection h with _ h; cases h
      · split at h
        · injection h with _ h; cases h
        · cases hx : kFo (kiF p g d) (toL x.args) 0 (n + 1) [] with
          | mk m1 r1 =>
            rw [hx] at h
            cases r1 with
            | error e => injection h with _ h; cases h
            | ok ks =>
              injection h with h1 _
              have := fo_le _ (ki_le p g d) _ _ _ _ _ _ (by omega) hx
              omega
/-- A fault has a number, and its path is no longer than it may go deep. -/
theorem fo_er (f : Ex → Nat → Nat × Except Ft Kd) (d : Nat) (hf : ∀ x n m e, f x n = (m, .error e) → 0 < e.2 ∧ e.1.length ≤ d) : ∀ (l : List Ex) (i n : Nat) (acc : List Kd) (m : Nat) (e : Ft), kFo f l i n acc = (m, .error e) → 0 < e.2 ∧ e.1.length ≤ d + 1
  | [], i, n, acc, m, e, h => by
    unfold kFo at h
    injection h with _ h
    cases h
  | x :: l, i, n, acc, m, e, h => by
    unfold kFo at h
    cases hx : f x n with
    | mk m1 r1 =>
      rw [hx] at h
      cases r1 with
      | error e1 =>
        injection h with h1 h2
        cases h2
        have := hf x n m1 e1 hx
        exact ⟨this.1, by show e1.1.length + 1 ≤ d + 1; omega⟩
      | ok k => exact fo_er f d hf l (i + 1) m1 (acc ++ [k]) m e h
theorem wr_er (p : Pk) (x : Ex) (ks : List Kd) (e : Ft) (h : wrK p x ks = .error e) : 0 < e.2 ∧ e.1.length ≤ 1 := by
  unfold wrK at h
  split at h
  · split at h
    · cases h
    · cases h; exact ⟨by decide, by decide⟩
  · split at h
    · cases h; exact ⟨Nat.zero_lt_succ _, Nat.le_refl 1⟩
    · cases h
theorem ki_er (p : Pk) (g : Int) : ∀ (d : Nat) (x : Ex) (n m : Nat) (e : Ft), kiF p g d x n = (m, .error e) → 0 < e.2 ∧ e.1.length ≤ d
  | 0, x, n, m, e, h => by
    unfold kiF at h
    injection h with _ h
    cases h
    exact ⟨by decide, by decide⟩
  | d + 1, x, n, m, e, h => by
    unfold kiF at h
    split at h
    · injection h with _ h; cases h; exact ⟨by decide, Nat.zero_le _⟩
    · split at h
      · injection h with _ h; cases h; exact ⟨by decide, Nat.zero_le _⟩
      · split at h
        · injection h with _ h; cases h; exact ⟨by decide, Nat.zero_le _⟩
        · cases hx : kFo (kiF p g d) (toL x.args) 0 (n + 1) [] with
          | mk m1 r1 =>
            rw [hx] at h
            cases r1 with
            | error e1 =>
              injection h with _ h
              cases h
              exact fo_er _ d (ki_er p g d) _ _ _ _ _ _ hx
            | ok ks =>
              injection h with _ h
              have := wr_er p x ks e h
              exact ⟨this.1, by omega⟩
/-- What kind answers. -/
def KiP (p : Pk) (a3 a4 a5 a6 a7 : Option Addr) (c3 c4 c5 c6 c7 : Nat) (g : Int) (wb : Nat) (W : World) (R : Nat × Except Ft Kd) (e : Ending) (W' : World) : Prop := W.grownBy W' (some wb) ∧ WkB W' p a3 a4 a5 a6 a7 c3 c4 c5 c6 c7 g wb R.1 ∧ match R.2 with
  | .ok k => e = .returned (.tuple #[.agg #[.int .i64 k.1, .int .i64 k.2], .slice none 0 0, .int .i64 0])
  | .error er => ∃ pv, e = .returned (.tuple #[.agg #[.int .i64 0, .int .i64 0], pv, .int .i64 (er.2 : Int)]) ∧ PtAt W' W.heap.size pv er.1
/-- The walk's state within kind: the box of the expression, the block of the result. -/
structure KdS (p : Pk) (a3 a4 a5 a6 a7 : Option Addr) (c3 c4 c5 c6 c7 : Nat) (g : Int) (wb : Nat) (x : Ex) (ax : Option Addr) (cx : Nat) (W w : World) (m : Nat) : Prop where
  gr : W.grownBy w (some wb)
  wk : WkB w p a3 a4 a5 a6 a7 c3 c4 c5 c6 c7 g wb m
  bx : Bx w W.heap.size (#[.int .i64 x.op, .int .i64 x.num, .int .i64 x.den, .int .i64 x.mode, .slice ax x.args.len cx] : Array Value).toList
  kr : w.heap[W.heap.size + 1]? = some (.cells #[.int .i64 0, .int .i64 0] 88 (0, 0))
  lt : wb < W.heap.size
  hL : RowR eL w (fun b => b < wb) p.lns a6
  hO : RowR eO w (fun b => b < wb) p.opts a3
  hF : FoAt w (fun b => b < wb) x.args ax
theorem KdS.sz {p : Pk} {a3 a4 a5 a6 a7 : Option Addr} {c3 c4 c5 c6 c7 : Nat} {g : Int} {wb : Nat} {x : Ex} {ax : Option Addr} {cx : Nat} {W w : World} {m : Nat} (h : KdS p a3 a4 a5 a6 a7 c3 c4 c5 c6 c7 g wb x ax cx W w m) : W.heap.size + 1 < w.heap.size := by
  have := h.kr
  exact (Array.getElem?_eq_some_iff.1 this).1
theorem KdS.mv {p : Pk} {a3 a4 a5 a6 a7 : Option Addr} {c3 c4 c5 c6 c7 : Nat} {g : Int} {wb : Nat} {x : Ex} {ax : Option Addr} {cx : Nat} {W w w' : World} {m m' : Nat} {r : Option Nat} (h : KdS p a3 a4 a5 a6 a7 c3 c4 c5 c6 c7 g wb x ax cx W w m) (hg : w.grownBy w' r) (hr : ∀ b, r = some b → b = wb ∨ W.heap.size + 2 ≤ b) (hw : WkB w' p a3 a4 a5 a6 a7 c3 c4 c5 c6 c7 g wb m') : KdS p a3 a4 a5 a6 a7 c3 c4 c5 c6 c7 g wb x ax cx W w' m' := by
  have hlt := h.lt
  have hs := h.sz
  have n1 : ∀ b, b < wb → some b ≠ r := fun b hb e => by
    rcases hr b e.symm with h | h <;> omega
  have n2 : ∀ b, wb < b → b < W.heap.size + 2 → some b ≠ r := fun b hb hb2 e => by
    rcases hr b e.symm with h | h <;> omega
  exact ⟨h.gr.andThen hg (fun j hj => by
      rcases hr j hj with e | e
      · exact .inr (by rw [e])
      · exact .inl (by omega)), hw, h.bx.kept hg (n2 _ hlt (by omega)), (hg.block _ hs (n2 _ (by omega) (by omega))).trans h.kr, hlt, h.hL.fr hg.size (fun b hb hbl => hg.block b hbl (n1 b hb)), h.hO.fr hg.size (fun b hb hbl => hg.block b hbl (n1 b hb)), FoAt.fr hg.size (fun b hb hbl => hg.block b hbl (n1 b hb)) _ _ h.hF⟩
theorem gr_bel {w w' : World} (h : Below w.heap.size w w') : w.grownBy w' none := ⟨h.os, h.tape, h.output, h.size, fun k hk _ => h.block k hk⟩
theorem KdS.bel {p : Pk} {a3 a4 a5 a6 a7 : Option Addr} {c3 c4 c5 c6 c7 : Nat} {g : Int} {wb : Nat} {x : Ex} {ax : Option Addr} {cx : Nat} {W w w' : World} {m : Nat} (h : KdS p a3 a4 a5 a6 a7 c3 c4 c5 c6 c7 g wb x ax cx W w m) (hb : Below w.heap.size w w') : KdS p a3 a4 a5 a6 a7 c3 c4 c5 c6 c7 g wb x ax cx W w' m := h.mv (gr_bel hb) (fun b e => by cases e) (Bx.kept h.wk (gr_bel hb) (by intro e; cases e))
/-- The way out with a fault. -/
theorem KdS.err {p : Pk} {a3 a4 a5 a6 a7 : Option Addr} {c3 c4 c5 c6 c7 : Nat} {g : Int} {wb : Nat} {x : Ex} {ax : Option Addr} {cx : Nat} {W w : World} {m : Nat} (h : KdS p a3 a4 a5 a6 a7 c3 c4 c5 c6 c7 g wb x ax cx W w m) {pv : Value} {er : Ft} (hp : PtAt w (W.heap.size + 2) pv er.1) : KiP p a3 a4 a5 a6 a7 c3 c4 c5 c6 c7 g wb W (m, .error er) (.returned (.tuple #[.agg #[.int .i64 0, .int .i64 0], pv, .int .i64 (er.2 : Int)])) ((w.setCell ⟨W.heap.size + 1, 0, none⟩ (.int .i64 0)).setCell ⟨W.heap.size + 1, 1, none⟩ (.int .i64 0)) := by
  have hlt := h.lt
  have hs := h.sz
  have g1 := gr_set w (W.heap.size + 1) 0 (.int .i64 0)
  have g2 := gr_set (w.setCell ⟨W.heap.size + 1, 0, none⟩ (.int .i64 0)) (W.heap.size + 1) 1 (.int .i64 0)
  have g := g1.andThen g2 (fun j hj => .inr hj)
  refine ⟨h.gr.andThen g (fun j hj => .inl (by injection hj with hj; omega)), Bx.kept h.wk g (by intro e; injection e with e; omega), pv, rfl, ?_⟩
  have hq : PtAt ((w.setCell ⟨W.heap.size + 1, 0, none⟩ (.int .i64 0)).setCell ⟨W.heap.size + 1, 1, none⟩ (.int .i64 0)) (W.heap.size + 2) pv er.1 := World.ownsRow.kept hp g (by
    cases hv : pv.ownBlock with
    | none => exact .inl rfl
    | some b =>
      refine .inr (fun e => ?_)
      have h1 := (World.ownsRow.lt hp b hv).1
      injection e with e
      omega)
  exact hq.mono (by omega)
theorem KdS.fine {p : Pk} {a3 a4 a5 a6 a7 : Option Addr} {c3 c4 c5 c6 c7 : Nat} {g : Int} {wb : Nat} {x : Ex} {ax : Option Addr} {cx : Nat} {W w : World} {m : Nat} (h : KdS p a3 a4 a5 a6 a7 c3 c4 c5 c6 c7 g wb x ax cx W w m) (k : Kd) : KiP p a3 a4 a5 a6 a7 c3 c4 c5 c6 c7 g wb W (m, .ok k) (.returned (.tuple #[.agg #[.int .i64 k.1, .int .i64 k.2], .slice none 0 0, .int .i64 0])) ((w.setCell ⟨W.heap.size + 1, 0, none⟩ (.int .i64 k.1)).setCell ⟨W.heap.size + 1, 1, none⟩ (.int .i64 k.2)) := by
  have hlt := h.lt
  have hs := h.sz
  have g1 := gr_set w (W.heap.size + 1) 0 (.int .i64 k.1)
  have g2 := gr_set (w.setCell ⟨W.heap.size + 1, 0, none⟩ (.int .i64 k.1)) (W.heap.size + 1) 1 (.int .i64 k.2)
  have g := g1.andThen g2 (fun j hj => .inr hj)
  exact ⟨h.gr.andThen g (fun j hj => .inl (by injection hj with hj; omega)), Bx.kept h.wk g (by intro e; injection e with e; omega), rfl⟩
theorem results_cell3 {P : Program} {fn : Func} {q u v : Tmp} {ty : TypeId} (h : fn.results = #[.cell q ty, .tmp u, .tmp v]) (tmps : Array Value) (w : World) (b : Nat) (t : TypeId) (cs : Array Value) (fr : Nat × Nat) (d : TypeDesc)
    (hp : tmps.getD q undef = .pointer (some ⟨b, 0, none⟩)) (hg : w.heap[b]? = some (.cells cs t fr)) (hu : P.underlying ty = some d) (hd : (match d with | .struct _ | .array _ _ => true | _ => false) = true) (hi : (P.info? ty).map (·.size) = some cs.size) :
    (results fn tmps).run P w = .ok (.tuple #[.agg cs, tmps.getD u undef, tmps.getD v undef]) w := by
  have hp' : tmps[q]?.getD undef = .pointer (some ⟨b, 0, none⟩) := by simpa using hp
  simp only [results, h]
  simp [Result.andThen, hp', asAddr, run_loadVar_row w b t ty cs fr d hg hu hd hi]
end Go.Proofs.YtmklkcefbabhbaaGreat.R6

import Derived.Test.YthmjkmdbggfiiaaGreatDoorTurnCw7
import Derived.Deep.RegionHeldLaw
import Derived.Laws.MakeOwn
import Derived.Deep.RegionLaw
import Derived.Test.YthmjkmdbggfiiaaGreatDoorJoin21
namespace Go.Proofs.YthmjkmdbggfiiaaGreatDoor.CF
open Go.RowKit
attribute [local go_sem] run_store_float

theorem below_two {w X : World} (h : Below w.heap.size w X) (o o2 : Obj) : Below w.heap.size w ((X.alloc o).alloc o2) := (h.alloc h.size o).alloc (Nat.le_trans h.size (by simp)) o2

end Go.Proofs.YthmjkmdbggfiiaaGreatDoor.CF


namespace Go.Proofs.YthmjkmdbggfiiaaGreatDoor.CF
open Go.RowKit
attribute [local go_sem] run_store_float

theorem step_append_own {P : Program} {ops : Array Oper} {o : Oper} {a : Act} (w : World) {K : Act → World → Prop} {Q : Exit → Act → World → Prop} {E : Prop}
    (hg : o.guard = none) (s x : Operand) (t : TypeId) (ho : o.op = .call { callee := .builtin .append, args := #[s, x], argTypes := #[t, t] })
    (base : Nat) (e : TypeId) (i : TypeInfo) (z : Value) (size bytes : Nat) (ht : P.underlying t = some (.slice e)) (hi : P.info? e = some i) (hz : i.zero = some z)
    (hsize : i.size = size) (hby : i.bytes = bytes) (hzs : z.cells.size = size) (hsz : 0 < size)
    (v : Value) (n : Nat) (xs : List Value) (hs : a.eval s = v) (hown : w.ownsRow base e size v n xs)
    (ad : Addr) (m c : Nat) (news : List Value) (hx : a.eval x = .slice (some ad) m c) (hl : news.length = m * size) (hnews : ∀ j u, news[j]? = some u → w.cell? (ad.add j) = some u) (h1 : ∀ u ∈ news, u.oneCell' = true)
    (h63 : n + m ≤ maxLen) (hbytes : (n + m) * bytes ≤ 140737488355328) (hbase : base ≤ w.heap.size)
    (h : ∀ v' w', w'.ownsRow base e size v' (n + m) (xs ++ news) → w.grownBy w' v.ownBlock → K (a.put o.dst v') w') : if Region.wanted o (yielded ops a.tmps) = true then Oper.wp P o a w K Q else E := by
  rw [if_pos (by simp [Region.wanted, hg])]
  exact wp_append_own w s x t ho base e i z size bytes ht hi hz hsize hby hzs hsz v n xs hs hown ad m c news hx hl hnews h1 h63 hbytes hbase (fun v' w' h1 h2 _ => h v' w' h1 h2)

theorem info_parts {P : Program} {t : TypeId} {z : Value} {s b : Nat} (h : (P.info? t).map (fun i => (i.zero, i.size, i.bytes)) = some (some z, s, b)) : ∃ i, P.info? t = some i ∧ i.zero = some z ∧ i.size = s ∧ i.bytes = b := by
  cases hi : P.info? t with
  | none => rw [hi] at h; cases h
  | some i =>
    rw [hi] at h
    simp only [Option.map_some, Option.some.injEq, Prod.mk.injEq] at h
    exact ⟨i, rfl, h.1, h.2.1, h.2.2⟩
/-- The cells of points. -/
def rtV (D : Dots) : List Value := D.flatMap fun d => [.int .i64 d.1, .int .u32 (d.2 : Int)]
def ptV (D : Dots) : List Value := D.flatMap fun d => [.int .i64 d.1, .float .f32 d.2]
theorem rtV_snoc (D : Dots) (d : Int × Nat) : rtV (D ++ [d]) = rtV D ++ [.int .i64 d.1, .int .u32 (d.2 : Int)] := by unfold rtV; rw [List.flatMap_append]; rfl
theorem ptV_snoc (D : Dots) (d : Int × Nat) : ptV (D ++ [d]) = ptV D ++ [.int .i64 d.1, .float .f32 d.2] := by unfold ptV; rw [List.flatMap_append]; rfl
theorem rtV_get : ∀ (D : Dots) (i : Nat) (h : i < D.length), (rtV D)[i * 2]? = some (.int .i64 D[i].1) ∧ (rtV D)[i * 2 + 1]? = some (.int .u32 (D[i].2 : Int))
  | d :: D, 0, _ => ⟨rfl, rfl⟩
  | d :: D, i + 1, h => by
    have := rtV_get D i (by simpa using h)
    rw [show (i + 1) * 2 = i * 2 + 2 by omega]
    exact this
theorem ptV_get : ∀ (D : Dots) (i : Nat) (h : i < D.length), (ptV D)[i * 2]? = some (.int .i64 D[i].1) ∧ (ptV D)[i * 2 + 1]? = some (.float .f32 D[i].2)
  | d :: D, 0, _ => ⟨rfl, rfl⟩
  | d :: D, i + 1, h => by
    have := ptV_get D i (by simpa using h)
    rw [show (i + 1) * 2 = i * 2 + 2 by omega]
    exact this
theorem rt_of_own {w : World} {base n : Nat} {e : TypeId} {v : Value} {D : Dots} (h : w.ownsRow base e 2 v n (rtV D)) (hn : n = D.length) : ∃ a c, v = .slice a D.length c ∧ RtAt w a D := by
  subst hn
  have h0 := h
  obtain ⟨_, ⟨rfl, hn⟩ | ⟨g, cap, cur, rfl, hb, hc, _⟩⟩ := h0
  · have : D = [] := List.eq_nil_of_length_eq_zero hn
    subst this
    exact ⟨none, 0, rfl, .inl rfl⟩
  · refine ⟨_, _, rfl, .inr ⟨g, 0, rfl, (h.lt g rfl).2, fun i hi => ?_⟩⟩
    obtain ⟨h1, h2⟩ := rtV_get D i hi
    have hl : (rtV D).length = D.length * 2 := h.1
    rw [Nat.zero_add]
    exact ⟨(h.cellAt (i * 2) (by omega)).trans h1, (h.cellAt (i * 2 + 1) (by omega)).trans h2⟩
theorem take_getD {D : Dots} {k : Nat} (h : k < D.length) : D.take (k + 1) = D.take k ++ [((D.getD k (0, 0)).1, (D.getD k (0, 0)).2)] := by
  have e : D.getD k (0, 0) = D[k] := by simp [List.getD, h]
  rw [e]
  exact List.take_succ_eq_append_getElem h
theorem infoP : (Tryz.prog.info? 64).map (fun i => (i.zero, i.size, i.bytes)) = some (some (.agg #[.int .i64 0, .float .f32 0]), 2, 16) := by kernel_rfl
theorem lit_at (W : World) (cs : List Value) (t : TypeId) : ∀ j u, cs[j]? = some u → (W.alloc (.cells cs.toArray t)).cell? ((⟨W.heap.size, 0, none⟩ : Addr).add j) = some u := fun j u h => by
  have e : ((⟨W.heap.size, 0, none⟩ : Addr).add j) = ⟨W.heap.size, j, none⟩ := by rw [Go.WideShapes.add_plain, Nat.zero_add]
  rw [e]
  simpa using h
end Go.Proofs.YthmjkmdbggfiiaaGreatDoor.CF


namespace Go.Proofs.YthmjkmdbggfiiaaGreatDoor.CF
open Go.RowKit
attribute [local go_sem] run_store_float

theorem own_some {w : World} {base n size : Nat} {e : TypeId} {v : Value} {xs : List Value} (h : w.ownsRow base e size v n xs) (hn : 0 < n) : ∃ g cap, v = .slice (some ⟨g, 0, none⟩) n cap := by
  obtain ⟨_, h | ⟨g, cap, cur, rfl, _⟩⟩ := h
  · omega
  · exact ⟨g, cap, rfl⟩
theorem own_cap {w : World} {base n size g cap : Nat} {e : TypeId} {xs : List Value} (h : w.ownsRow base e size (.slice (some ⟨g, 0, none⟩) n cap) n xs) : n ≤ cap := by
  obtain ⟨_, h | ⟨g', cap', cur, h1, _, _, h2, _⟩⟩ := h
  · simp at h
  · simp at h1
    omega
def mk4 : List Value := [.int .i64 (-7701), .float .f32 0, .int .i64 (-7702), .float .f32 0]
/-- The list that is handed in, with its marks. -/
def InP (w : World) (base g cap : Nat) (D : Dots) : Prop := D.length + 2 ≤ cap ∧ w.ownsRow base 64 2 (.slice (some ⟨g, 0, none⟩) (D.length + 2) cap) (D.length + 2) (ptV D ++ mk4)
end Go.Proofs.YthmjkmdbggfiiaaGreatDoor.CF


namespace Go.Proofs.YthmjkmdbggfiiaaGreatDoor.CF

/-- A whole number other than 0, as a height. -/
theorem whole_some {z : Int} (h0 : z ≠ 0) (h1 : -9223372036854775808 ≤ z) (h2 : z ≤ 9223372036854775807) : wholeN z < 4294967296 ∧ wholeN z % 2147483648 < 2139095040 ∧ pM (wholeN z) ≠ 0 := by
  have hz : z.natAbs ≠ 0 := by omega
  have hl : z.natAbs.log2 ≤ 63 := by have := (Nat.log2_lt hz (k := 64)).2 (by omega); omega
  have key : ∀ s : Bool, rnd s z.natAbs 0 false < 4294967296 ∧ rnd s z.natAbs 0 false % 2147483648 < 2139095040 ∧ pM (rnd s z.natAbs 0 false) ≠ 0 := fun s => by
    obtain ⟨r, hr, h3, h4⟩ := rnd_norm s (m := z.natAbs) (e := 0) false hz (by omega) (by omega)
    have h5 : 1065353216 ≤ r ∧ r ≤ 1602224128 := by omega
    rw [hr]
    clear hr h3 h4
    unfold pM wd
    cases s <;> simp <;> (refine ⟨?_, ?_, ?_⟩ <;> (try split) <;> omega)
  unfold wholeN
  split
  · exact key true
  · exact key false
theorem divN_lt {a b : Nat} (ha : a < 4294967296) (hb : b < 4294967296) (h2 : b % 2147483648 < 2139095040) (h0 : pM b ≠ 0) : divN a b < 4294967296 := by
  rw [divN_eq ha hb h2 h0]
  unfold Ieee.Format.div
  by_cases h1 : a % 2147483648 < 2139095040
  · rw [read_fin ha h1, read_fin hb h2]
    unfold Ieee.Datum.quotient
    simp only
    rw [if_neg h0]
    simp only [Option.map_some, Option.getD_some, write_num]
    exact near_lt _ _ _
  · by_cases h3 : 2139095040 < a % 2147483648
    · obtain ⟨s, t, e⟩ := read_nan h3
      rw [e]
      unfold Ieee.Datum.quotient
      show 2143289344 < 4294967296
      decide
    · rw [read_inf ha (by omega), read_fin hb h2]
      show Ieee.single.write (.infinity (pS a ^^ pS b)) < _
      rw [write_inf']
      unfold wd
      split <;> omega
/-- The quotient of what is no NaN. -/
theorem div_le {a b : Nat} (ha : a < 4294967296) (hb : b < 4294967296) (h1 : a % 2147483648 ≤ 2139095040) (h2 : b % 2147483648 < 2139095040) (h0 : pM b ≠ 0) : Ieee.single.div a b = some (divN a b) := by
  by_cases h : a % 2147483648 < 2139095040
  · exact div_some ha hb h h2 h0
  · exact div_some_inf ha hb (by omega) h2 h0
/-- P17.4: each point's height divided by its place. -/
def rateN (D : List (Int × Nat)) : Nat → List (Int × Nat)
  | 0 => []
  | k + 1 => rateN D k ++ if (D.getD k (0, 0)).1 ≠ 0 ∧ (D.getD k (0, 0)).2 % 2147483648 < 2139095040 then [((D.getD k (0, 0)).1, divN (D.getD k (0, 0)).2 (wholeN (D.getD k (0, 0)).1))] else []
theorem rateN_len (D : List (Int × Nat)) : ∀ k, (rateN D k).length ≤ k
  | 0 => Nat.le_refl _
  | k + 1 => by
    have := rateN_len D k
    unfold rateN
    rw [List.length_append]
    split <;> simp <;> omega
/-- P17.5: the rise between neighbours. -/
def riseN (a b : Int × Nat) : Nat := divN (subN b.2 a.2) (wholeN (b.1 - a.1))
def slopeN (D : List (Int × Nat)) : Nat → List (Int × Nat)
  | 0 => []
  | k + 1 => slopeN D k ++ [((D.getD k (0, 0)).1, riseN (D.getD k (0, 0)) (D.getD (k + 1) (0, 0)))]
theorem slopeN_len (D : List (Int × Nat)) : ∀ k, (slopeN D k).length = k
  | 0 => rfl
  | k + 1 => by
    unfold slopeN
    rw [List.length_append, slopeN_len D k]
    rfl
end Go.Proofs.YthmjkmdbggfiiaaGreatDoor.CF


namespace Go.Proofs.YthmjkmdbggfiiaaGreatDoor.CF
open Go.RowKit
attribute [local go_sem] run_store_float

theorem ptV_len (D : Dots) : (ptV D).length = D.length * 2 := by
  unfold ptV
  induction D with
  | nil => rfl
  | cons d D ih => rw [List.flatMap_cons, List.length_append, ih, List.length_cons, List.length_cons, List.length_cons, List.length_nil]; omega
theorem InP.lt {w : World} {base g cap : Nat} {D : Dots} (h : InP w base g cap D) : base ≤ g ∧ g < w.heap.size := h.2.lt g rfl
theorem InP.cell {w : World} {base g cap : Nat} {D : Dots} (h : InP w base g cap D) {i : Nat} (hi : i < D.length) : w.cell? ⟨g, i * 2, none⟩ = some (.int .i64 D[i].1) ∧ w.cell? ⟨g, i * 2 + 1, none⟩ = some (.float .f32 D[i].2) := by
  obtain ⟨h1, h2⟩ := ptV_get D i hi
  have hl := ptV_len D
  exact ⟨(h.2.cellAt (i * 2) (by omega)).trans ((List.getElem?_append_left (by omega)).trans h1), (h.2.cellAt (i * 2 + 1) (by omega)).trans ((List.getElem?_append_left (by omega)).trans h2)⟩
theorem InP.pt {w : World} {base g cap : Nat} {D : Dots} (h : InP w base g cap D) : PtAt w (some ⟨g, 0, none⟩) D := .inr ⟨g, 0, rfl, h.lt.2, fun i hi => by rw [Nat.zero_add]; exact h.cell hi⟩
theorem InP.marks {w : World} {base g cap : Nat} {D : Dots} (h : InP w base g cap D) : w.cell? ⟨g, D.length * 2, none⟩ = some (.int .i64 (-7701)) ∧ w.cell? ⟨g, (D.length + 1) * 2, none⟩ = some (.int .i64 (-7702)) := by
  have hl := ptV_len D
  refine ⟨(h.2.cellAt (D.length * 2) (by omega)).trans ?_, (h.2.cellAt ((D.length + 1) * 2) (by omega)).trans ?_⟩
  · rw [List.getElem?_append_right (by omega), hl, show D.length * 2 - D.length * 2 = 0 by omega]
    rfl
  · rw [List.getElem?_append_right (by omega), hl, show (D.length + 1) * 2 - D.length * 2 = 2 by omega]
    rfl
theorem InP.later {w w' : World} {base g cap : Nat} {D : Dots} (h : InP w base g cap D) (hb : Below w.heap.size w w') : InP w' base g cap D := by
  have hlt := h.lt.2
  obtain ⟨h1, hl, h2 | ⟨g', cap', cur, e, hb1, hc, h3⟩⟩ := h
  · exact absurd h2.2 (by omega)
  · injection e with e1 e2 e3
    injection e1 with e1
    injection e1 with e1
    subst e1
    exact ⟨h1, hl, .inr ⟨_, cap', cur, by rw [e3], hb1, (hb.block _ hlt).trans hc, h3⟩⟩
end Go.Proofs.YthmjkmdbggfiiaaGreatDoor.CF


namespace Go.Proofs.YthmjkmdbggfiiaaGreatDoor.CF
open Go.RowKit
attribute [local go_sem] run_store_float

theorem atR_lt {D : Dots} (hD : Ok D) {x : Int} {r : Nat} {e : Int} (h : AtR D x r e) : r < 4294967296 := by
  rcases h with ⟨-, rfl, -⟩ | ⟨-, -, rfl, -⟩ | ⟨-, -, -, rfl, -⟩ | ⟨-, -, -, -, rfl, -⟩ | ⟨h1, -, -, -, -, i, hi, -, -, ⟨-, rfl⟩ | ⟨-, h0, rfl⟩⟩
  · decide
  · decide
  · decide
  · decide
  · exact (hD.getD i).2
  · have g1 := gB_parts (inO_true.1 h1 (i - 1) (by omega))
    have g2 := gB_parts (inO_true.1 h1 i hi)
    exact btwN_lt (hD.getD (i - 1)).2 g1.1.2 g2.1.2
/-- A list of whole numbers. -/
def XsAt (w : World) (a : Option Addr) (xs : List Int) : Prop := xs = [] ∨ ∃ b off, a = some ⟨b, off, none⟩ ∧ b < w.heap.size ∧ ∀ i (h : i < xs.length), w.cell? ⟨b, off + i, none⟩ = some (.int .i64 xs[i])
end Go.Proofs.YthmjkmdbggfiiaaGreatDoor.CF

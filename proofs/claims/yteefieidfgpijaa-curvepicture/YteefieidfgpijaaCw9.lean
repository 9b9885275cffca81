import Derived.Test.YteefieidfgpijaaCw8
import Derived.Deep.RegionHeldLaw
import Derived.Laws.MakeOwn
import Derived.Deep.RegionLaw
namespace Go.Proofs.Yteefieidfgpijaa.CF
open Go.RowKit
attribute [local go_sem] run_store_float

theorem step_append_own {P : Program} {ops : Array Oper} {o : Oper} {a : Act} (w : World) {K : Act → World → Prop} {Q : Exit → Act → World → Prop} {E : Prop}
    (hg : o.guard = none) (s x : Operand) (t : TypeId) (ho : o.op = .call { callee := .builtin .append, args := #[s, x], argTypes := #[t, t] })
    (base : Nat) (e : TypeId) (i : TypeInfo) (z : Value) (size bytes : Nat) (ht : P.underlying t = some (.slice e)) (hi : P.info? e = some i) (hz : i.zero = some z)
    (hsize : i.size = size) (hby : i.bytes = bytes) (hzs : z.cells.size = size) (hsz : 0 < size)
    (v : Value) (n : Nat) (xs : List Value) (hs : a.eval s = v) (hown : w.ownsRow base e size v n xs)
    (ad : Addr) (m c : Nat) (news : List Value) (hx : a.eval x = .slice (some ad) m c) (hl : news.length = m * size) (hnews : ∀ j u, news[j]? = some u → w.cell? (ad.add j) = some u) (h1 : ∀ u ∈ news, u.oneCell' = true)
    (h63 : n + m ≤ maxLen) (hbytes : (n + m) * bytes ≤ 140737488355328) (hbase : base ≤ w.heap.size)
    (h : ∀ v' w', w'.ownsRow base e size v' (n + m) (xs ++ news) → w.grownBy w' v.ownBlock → K (a.put o.dst v') w') : if Region.wanted o (yielded ops a.tmps) = true then Oper.wp P o a w K Q else E := by
  rw [if_pos (by simp [Region.wanted, hg])]
  exact wp_append_own w s x t ho base e i z size bytes ht hi hz hsize hby hzs hsz v n xs hs hown ad m c news hx hl hnews h1 h63 hbytes hbase (fun v' w' h1 h2 _ => h v' w' h1 h2)

theorem info_parts {P : Program} {t : TypeId} {z : Value} {s b : Nat} (h : (P.info? t).map (fun i => (i.zero, i.size, i.bytes)) = some (some z, s, b)) : ∃ i, P.info? t = some i ∧ i.zero = some z ∧ i.size = s ∧ i.bytes = b := by
  cases hi : P.info? t with
  | none => rw [hi] at h; cases h
  | some i =>
    rw [hi] at h
    simp only [Option.map_some, Option.some.injEq, Prod.mk.injEq] at h
    exact ⟨i, rfl, h.1, h.2.1, h.2.2⟩
/-- The cells of points. -/
def rtV (D : Dots) : List Value := D.flatMap fun d => [.int .i64 d.1, .int .u32 (d.2 : Int)]
def ptV (D : Dots) : List Value := D.flatMap fun d => [.int .i64 d.1, .float .f32 d.2]
theorem rtV_snoc (D : Dots) (d : Int × Nat) : rtV (D ++ [d]) = rtV D ++ [.int .i64 d.1, .int .u32 (d.2 : Int)] := by unfold rtV; rw [List.flatMap_append]; rfl
theorem ptV_snoc (D : Dots) (d : Int × Nat) : ptV (D ++ [d]) = ptV D ++ [.int .i64 d.1, .float .f32 d.2] := by unfold ptV; rw [List.flatMap_append]; rfl
theorem rtV_get : ∀ (D : Dots) (i : Nat) (h : i < D.length), (rtV D)[i * 2]? = some (.int .i64 D[i].1) ∧ (rtV D)[i * 2 + 1]? = some (.int .u32 (D[i].2 : Int))
  | d :: D, 0, _ => ⟨rfl, rfl⟩
  | d :: D, i + 1, h => by
    have := rtV_get D i (by simpa using h)
    rw [show (i + 1) * 2 = i * 2 + 2 by omega]
    exact this
theorem ptV_get : ∀ (D : Dots) (i : Nat) (h : i < D.length), (ptV D)[i * 2]? = some (.int .i64 D[i].1) ∧ (ptV D)[i * 2 + 1]? = some (.float .f32 D[i].2)
  | d :: D, 0, _ => ⟨rfl, rfl⟩
  | d :: D, i + 1, h => by
    have := ptV_get D i (by simpa using h)
    rw [show (i + 1) * 2 = i * 2 + 2 by omega]
    exact this
theorem rt_of_own {w : World} {base n : Nat} {e : TypeId} {v : Value} {D : Dots} (h : w.ownsRow base e 2 v n (rtV D)) (hn : n = D.length) : ∃ a c, v = .slice a D.length c ∧ RtAt w a D := by
  subst hn
  have h0 := h
  obtain ⟨_, ⟨rfl, hn⟩ | ⟨g, cap, cur, rfl, hb, hc, _⟩⟩ := h0
  · have : D = [] := List.eq_nil_of_length_eq_zero hn
    subst this
    exact ⟨none, 0, rfl, .inl rfl⟩
  · refine ⟨_, _, rfl, .inr ⟨g, 0, rfl, (h.lt g rfl).2, fun i hi => ?_⟩⟩
    obtain ⟨h1, h2⟩ := rtV_get D i hi
    have hl : (rtV D).length = D.length * 2 := h.1
    rw [Nat.zero_add]
    exact ⟨(h.cellAt (i * 2) (by omega)).trans h1, (h.cellAt (i * 2 + 1) (by omega)).trans h2⟩
theorem take_getD {D : Dots} {k : Nat} (h : k < D.length) : D.take (k + 1) = D.take k ++ [((D.getD k (0, 0)).1, (D.getD k (0, 0)).2)] := by
  have e : D.getD k (0, 0) = D[k] := by simp [List.getD, h]
  rw [e]
  exact List.take_succ_eq_append_getElem h
theorem infoR : (Try.prog.info? 87).map (fun i => (i.zero, i.size, i.bytes)) = some (some (.agg #[.int .i64 0, .int .u32 0]), 2, 16) := by kernel_rfl
theorem infoP : (Try.prog.info? 35).map (fun i => (i.zero, i.size, i.bytes)) = some (some (.agg #[.int .i64 0, .float .f32 0]), 2, 16) := by kernel_rfl
theorem lit_at (W : World) (cs : List Value) (t : TypeId) : ∀ j u, cs[j]? = some u → (W.alloc (.cells cs.toArray t)).cell? ((⟨W.heap.size, 0, none⟩ : Addr).add j) = some u := fun j u h => by
  have e : ((⟨W.heap.size, 0, none⟩ : Addr).add j) = ⟨W.heap.size, j, none⟩ := by rw [Go.WideShapes.add_plain, Nat.zero_add]
  rw [e]
  simpa using h
set_option maxRecDepth 8000 in
set_option maxHeartbeats 2000000 in
theorem bits_law (D : Dots) (hl : D.length ≤ 8796093021952) (a : Option Addr) (c : Nat) (w : World) (h : RtAt w a D) : Calls Try.prog 36 #[.slice a D.length c] w fun e w' => ∃ a' c', e = .returned (.slice a' D.length c') ∧ RtAt w' a' D ∧ Below w.heap.size w w' := by
  obtain ⟨i0, hi, hz0, hz1, hz2⟩ := info_parts infoR
  go_enter Try.func36, Try.ntmps36
  go_wp2
  go_loopw [3, 4] (fun v x wr => ∃ k : Nat, k ≤ D.length ∧ x = .int .i64 (k : Int) ∧ wr.ownsRow w.heap.size 87 2 v k (rtV (D.take k)) ∧ Below w.heap.size w wr) (fun _ x _ => D.length - (intOf x).toNat)
  case atStart => exact ⟨0, by omega, rfl, World.ownsRow_nil _ _ _ _, Below.refl _ _⟩
  case round =>
    obtain ⟨k, hk, rfl, ho, hB⟩ := hrel
    by_cases hlt : k < D.length
    · have hlt' : (k : Int) < (D.length : Int) := by omega
      have hk0 : (0 : Int) ≤ (k : Int) := by omega
      obtain ⟨b, off, rfl, hc⟩ := h.cells hlt
      have hbl : b < w.heap.size := World.block_lt_of_cell? _ _ (hc k hlt).1
      have htk : Hid (D.take (k + 1) = D.take k ++ [((D.getD k (0, 0)).1, (D.getD k (0, 0)).2)]) := ⟨take_getD hlt⟩
      obtain ⟨s0, s1⟩ := hc k hlt
      generalize (D.getD k (0, 0)).1 = x at *
      generalize (D.getD k (0, 0)).2 = y at *
      have hS0 : ∀ X, Below w.heap.size w X → X.cell? ⟨b, off + k * 2, none⟩ = some (.int .i64 x) ∧ X.cell? ⟨b, off + k * 2 + 1, none⟩ = some (.int .u32 (y : Int)) := fun X hX => ⟨(hX.cell (p := ⟨b, off + k * 2, none⟩) hbl).trans s0, (hX.cell (p := ⟨b, off + k * 2 + 1, none⟩) hbl).trans s1⟩
      have hBD : Below w.heap.size w wr.drew := hB.drew
      have hS1 := hS0 _ hBD
      have hBA : Below w.heap.size w (wr.drew.alloc (.cells #[.int .i64 x, .int .u32 (y : Int)] 87)) := hBD.alloc hBD.size _
      have hoA := ho.drew.alloc (.cells #[.int .i64 x, .int .u32 (y : Int)] 87)
      have hSA := hS0 _ hBA
      have hlv := Hid.mk (fun (j : Nat) hj => (ho.lt j hj).1)
      clear hc s0 s1
      go_wp2_with fail
      go_region_held_law (fun X => X.cell? ⟨b, off + k * 2, none⟩ = some (.int .i64 x) ∧ X.cell? ⟨b, off + k * 2 + 1, none⟩ = some (.int .u32 (y : Int))) (first | (with_reducible assumption) | (exact hS0 _ (Below.alloc hBD hBD.size _)))
        ((refine step_append_own (P := Try.prog) _ rfl _ _ 75 rfl w.heap.size 87 i0 _ 2 16 Try.underlying75 hi hz0 hz1 hz2 rfl (by decide) _ k (rtV (D.take k)) rfl hoA ⟨wr.heap.size, 0, none⟩ 1 1 [.int .i64 x, .int .u32 (y : Int)] rfl rfl (lit_at wr.drew _ _) (by simp [Value.oneCell']) (by unfold maxLen; omega) (by omega) hBA.size ?_; intro v' w4 hown' hgrow; have hB4 := hBA.grown hgrow hBA.size hlv.out; have hS4 := hS0 _ hB4))
      go_wp2
      go_roundw
      case rel => exact ⟨k + 1, by omega, by go_num, by rw [htk.out, rtV_snoc]; exact hown', hB4⟩
      case measure => simp [intOf]; omega
    · obtain rfl : k = D.length := by omega
      rw [List.take_length] at ho
      obtain ⟨a', c', rfl, hR⟩ := rt_of_own ho rfl
      go_wp2
      go_ret
      exact ⟨a', c', rfl, hR, hB⟩
end Go.Proofs.Yteefieidfgpijaa.CF

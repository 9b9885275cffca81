import Derived.Test.YtaecodgmfmijlaaDoorDMonths
import Derived.Maps.AppendAt
namespace Go.Proofs.YtaecodgmfmijlaaDoor
open Go.RowKit

/-- A variable of its own in memory. -/
def Bx (W : World) (g : Nat) (v : Value) : Prop := W.cell? ⟨g, 0, none⟩ = some v ∧ W.frozen? ⟨g, 0, none⟩ = false
theorem Bx.new (W : World) (v : Value) (t : TypeId) : Bx (W.alloc (.cells #[v] t)) W.heap.size v := ⟨by simp, by simp⟩
theorem Bx.lt {W : World} {g : Nat} {v : Value} (h : Bx W g v) : g < W.heap.size := World.block_lt_of_cell? _ _ h.1
theorem Bx.low {n : Nat} {W W' : World} {g : Nat} {v : Value} (h : Bx W g v) (hb : Below n W W') (hg : g < n) : Bx W' g v := ⟨(hb.cell (p := ⟨g, 0, none⟩) hg).trans h.1, (hb.frozen (p := ⟨g, 0, none⟩) hg).trans h.2⟩
theorem Bx.later {W W' : World} {g : Nat} {v : Value} (h : Bx W g v) (hb : Below W.heap.size W W') : Bx W' g v := h.low hb h.lt
theorem Bx.set {W : World} {g : Nat} {v : Value} (h : Bx W g v) (u : Value) : Bx (W.setCell ⟨g, 0, none⟩ u) g u := ⟨World.cell?_setCell_same _ _ _ h.1, by rw [World.frozen?_setCell]; exact h.2⟩
theorem Bx.other {W : World} {g : Nat} {v : Value} (h : Bx W g v) {k : Nat} (hk : k ≠ g) (u : Value) : Bx (W.setCell ⟨k, 0, none⟩ u) g v := ⟨(World.cell?_setCell_other _ _ _ _ (fun e => hk (congrArg Addr.block e))).trans h.1, by rw [World.frozen?_setCell]; exact h.2⟩

/-- The cells of a list of months. -/
def flatP (l : List Pc) : List Value := l.flatMap fun x => [.int .i64 x.y, .int .i64 x.m, .int .i64 x.d, .int .i64 x.c]
theorem flatP_len (l : List Pc) : (flatP l).length = l.length * 4 := by induction l with | nil => rfl | cons x l ih => simp [flatP] at ih ⊢; omega
theorem flatP_snoc (l : List Pc) (x : Pc) : flatP (l ++ [x]) = flatP l ++ [.int .i64 x.y, .int .i64 x.m, .int .i64 x.d, .int .i64 x.c] := by simp [flatP]
theorem infoP : (Tryd.prog.info? 35).map (fun i => (i.zero, i.size, i.bytes)) = some (some (.agg #[.int .i64 0, .int .i64 0, .int .i64 0, .int .i64 0]), 4, 32) := by kernel_rfl

/-- What the closure of 'pieces' holds: over, well, out, most. -/
structure Taken (n1 gv gw gl gm : Nat) (most : Int) (fl : Bool) (pre : List Pc) (W : World) : Prop where
  lv : gv < n1
  lw : gw < n1
  ll : gl < n1
  lm : gm < n1
  ne : gv ≠ gw ∧ gv ≠ gl ∧ gv ≠ gm ∧ gw ≠ gl ∧ gw ≠ gm ∧ gl ≠ gm
  sz : n1 ≤ W.heap.size
  bv : Bx W gv (.bool fl)
  bw : Bx W gw (.bool true)
  bm : Bx W gm (.int .i64 most)
  bl : ∃ v, Bx W gl v ∧ W.ownsRow n1 35 4 v pre.length (flatP pre)

theorem Taken.later {n1 gv gw gl gm : Nat} {most : Int} {fl : Bool} {pre : List Pc} {W W' : World} (h : Taken n1 gv gw gl gm most fl pre W) (hb : Below W.heap.size W W') : Taken n1 gv gw gl gm most fl pre W' := by
  obtain ⟨v, hv, ho⟩ := h.bl
  exact ⟨h.lv, h.lw, h.ll, h.lm, h.ne, Nat.le_trans h.sz hb.size, h.bv.later hb, h.bw.later hb, h.bm.later hb, v, hv.later hb, ho.kept (grown_of_below hb) (by cases v.ownBlock <;> simp)⟩

theorem own_some {w : World} {base n size : Nat} {e : TypeId} {v : Value} {xs : List Value} (h : w.ownsRow base e size v n xs) (hn : 0 < n) : ∃ g cap, v = .slice (some ⟨g, 0, none⟩) n cap := by
  obtain ⟨_, h | ⟨g, cap, cur, rfl, _⟩⟩ := h
  · omega
  · exact ⟨g, cap, rfl⟩

theorem cells4_new (W : World) (a b c d : Value) (t : TypeId) : ∀ j u, ([a, b, c, d] : List Value)[j]? = some u → (W.alloc (.cells #[a, b, c, d] t)).cell? ((⟨W.heap.size, 0, none⟩ : Addr).add j) = some u
  | 0, u, h => by simpa [Addr.add] using h
  | 1, u, h => by simpa [Addr.add] using h
  | 2, u, h => by simpa [Addr.add] using h
  | 3, u, h => by simpa [Addr.add] using h
  | j + 4, u, h => by simp at h

/-- Behind the append and the two stores. -/
theorem Taken.ended {n1 gv gw gl gm : Nat} {most : Int} {pre : List Pc} {x : Pc} {W Wa Wb w2 : World} {g' cap' : Nat} (h : Taken n1 gv gw gl gm most false pre W)
    (ho : w2.ownsRow n1 35 4 (.slice (some ⟨g', 0, none⟩) (pre.length + 1) cap') (pre.length + 1) (flatP pre ++ [.int .i64 x.y, .int .i64 x.m, .int .i64 x.d, .int .i64 x.c])) (hb : Below Wa.heap.size Wa Wb) (ha : Below W.heap.size W Wa) (hg : Below n1 Wb w2)
    (bv : Bx (w2.setCell ⟨gl, 0, none⟩ (.slice (some ⟨g', 0, none⟩) (pre.length + 1) cap')) gv (.bool false)) (bw : Bx (w2.setCell ⟨gl, 0, none⟩ (.slice (some ⟨g', 0, none⟩) (pre.length + 1) cap')) gw (.bool true)) (bm : Bx (w2.setCell ⟨gl, 0, none⟩ (.slice (some ⟨g', 0, none⟩) (pre.length + 1) cap')) gm (.int .i64 most))
    (bl : Bx (w2.setCell ⟨gl, 0, none⟩ (.slice (some ⟨g', 0, none⟩) (pre.length + 1) cap')) gl (.slice (some ⟨g', 0, none⟩) (pre.length + 1) cap')) (fl : Bool) :
    Taken n1 gv gw gl gm most fl (pre ++ [x]) ((w2.setCell ⟨gl, 0, none⟩ (.slice (some ⟨g', 0, none⟩) (pre.length + 1) cap')).setCell ⟨gv, 0, none⟩ (.bool fl)) ∧ ∀ n0, n0 ≤ gv → n0 ≤ gw → n0 ≤ gl → n0 ≤ gm → Below n0 W ((w2.setCell ⟨gl, 0, none⟩ (.slice (some ⟨g', 0, none⟩) (pre.length + 1) cap')).setCell ⟨gv, 0, none⟩ (.bool fl)) := by
  obtain ⟨n12, n13, n14, n23, n24, n34⟩ := h.ne
  have hsz : n1 ≤ w2.heap.size := Nat.le_trans h.sz (Nat.le_trans ha.size (Nat.le_trans hb.size hg.size))
  have hlt := (ho.lt g' rfl).1
  have k1 : (w2.setCell ⟨gl, 0, none⟩ (.slice (some ⟨g', 0, none⟩) (pre.length + 1) cap')).ownsRow n1 35 4 (.slice (some ⟨g', 0, none⟩) (pre.length + 1) cap') (pre.length + 1) (flatP pre ++ [.int .i64 x.y, .int .i64 x.m, .int .i64 x.d, .int .i64 x.c]) :=
    ho.kept (grownBy_setCell' w2 gl _) (.inr (by have := h.ll; simp [Value.ownBlock]; omega))
  have k2 : ((w2.setCell ⟨gl, 0, none⟩ (.slice (some ⟨g', 0, none⟩) (pre.length + 1) cap')).setCell ⟨gv, 0, none⟩ (.bool fl)).ownsRow n1 35 4 (.slice (some ⟨g', 0, none⟩) (pre.length + 1) cap') (pre.length + 1) (flatP pre ++ [.int .i64 x.y, .int .i64 x.m, .int .i64 x.d, .int .i64 x.c]) :=
    k1.kept (grownBy_setCell' _ gv _) (.inr (by have := h.lv; simp [Value.ownBlock]; omega))
  refine ⟨⟨h.lv, h.lw, h.ll, h.lm, h.ne, by simpa using hsz, bv.set _, bw.other n12 _, bm.other n14 _, _, bl.other n13 _, ?_⟩, fun n0 q1 q2 q3 q4 => ?_⟩
  · rw [flatP_snoc, List.length_append]
    exact k2
  · have hw : n0 ≤ W.heap.size := Nat.le_trans q1 (Nat.le_trans (Nat.le_of_lt h.lv) h.sz)
    exact ((((ha.mono hw).trans (hb.mono (Nat.le_trans hw ha.size))).trans (hg.mono (Nat.le_trans q1 (Nat.le_of_lt h.lv)))).setCell (p := ⟨gl, 0, none⟩) q3 _).setCell (p := ⟨gv, 0, none⟩) q1 _

theorem cells4_at (W : World) (n : Nat) (hn : n = W.heap.size) (a b c d : Value) (t : TypeId) : ∀ j u, ([a, b, c, d] : List Value)[j]? = some u → (W.alloc (.cells #[a, b, c, d] t)).cell? ((⟨n, 0, none⟩ : Addr).add j) = some u := hn ▸ cells4_new W a b c d t

set_option maxHeartbeats 4000000 in
set_option maxRecDepth 100000 in
theorem take_any (n1 gv gw gl gm : Nat) (most : Int) (pre : List Pc) (x : Pc) (W : World) (h : Taken n1 gv gw gl gm most false pre W) (hp : pre.length + 1 < 4000) (fl : Bool) (hfl : Hid (fl = decide ((pre.length : Int) + 1 = most))) :
    Calls Tryd.prog 23 #[.agg #[.int .i64 x.y, .int .i64 x.m, .int .i64 x.d], .int .i64 x.c, .pointer (some ⟨gv, 0, none⟩), .pointer (some ⟨gw, 0, none⟩), .pointer (some ⟨gl, 0, none⟩), .pointer (some ⟨gm, 0, none⟩)] W fun e W' =>
      e = .returned (.bool (!fl)) ∧ Taken n1 gv gw gl gm most fl (pre ++ [x]) W' ∧ ∀ n0, n0 ≤ gv → n0 ≤ gw → n0 ≤ gl → n0 ≤ gm → Below n0 W W' := by
  have h40 : ¬ 4000 ≤ (pre.length : Int) + 1 := by omega
  obtain ⟨i0, hi, hz0, hz1, hz2⟩ := info_parts infoP
  have hba := (Below.refl W.heap.size W).alloc (Nat.le_refl _) (.cells #[.int .i64 x.y, .int .i64 x.m, .int .i64 x.d] 33)
  have h1 := h.later hba
  obtain ⟨q0, q1, q2, -⟩ := Box3.new W (.int .i64 x.y) (.int .i64 x.m) (.int .i64 x.d) 33
  obtain ⟨v, hv, ho⟩ := h1.bl
  have ⟨c1, f1⟩ := h1.bv
  have ⟨c4, f4⟩ := hv
  have hbn : Below (W.alloc (.cells #[.int .i64 x.y, .int .i64 x.m, .int .i64 x.d] 33)).heap.size (W.alloc (.cells #[.int .i64 x.y, .int .i64 x.m, .int .i64 x.d] 33)) ((W.alloc (.cells #[.int .i64 x.y, .int .i64 x.m, .int .i64 x.d] 33)).alloc (.cells #[.int .i64 x.y, .int .i64 x.m, .int .i64 x.d, .int .i64 x.c] 35)) := (Below.refl _ _).alloc (Nat.le_refl _) _
  have h2 := h1.later hbn
  have hv2 := hv.later hbn
  have ho2 := ho.alloc (.cells #[.int .i64 x.y, .int .i64 x.m, .int .i64 x.d, .int .i64 x.c] 35)
  obtain ⟨n12, n13, n14, n23, n24, n34⟩ := h.ne
  go_enter Tryd.func23, Tryd.ntmps23
  go_wp2_with (at_builtin; (refine wpList_append_own _ rfl _ _ 27 rfl n1 35 i0 _ 4 32 Tryd.underlying27 hi hz0 hz1 hz2 rfl (by decide) _ _ _ rfl ho2 ⟨W.heap.size + 1, 0, none⟩ 1 1 [.int .i64 x.y, .int .i64 x.m, .int .i64 x.d, .int .i64 x.c] rfl rfl (cells4_at _ _ (by simp) _ _ _ _ _) (by simp [Value.oneCell']) (by unfold maxLen; omega) (by omega) h2.sz ?_); intro v' w2 hown' hgrow _; obtain ⟨g', cap', rfl⟩ := own_some hown' (by omega); have hbg := (Below.refl n1 _).grown hgrow h2.sz (fun k hk => (ho2.lt k hk).1); have bv := (h2.bv.low hbg h.lv).other (k := gl) n13.symm (.slice (some ⟨g', 0, none⟩) (pre.length + 1) cap'); have bw := (h2.bw.low hbg h.lw).other (k := gl) n23.symm (.slice (some ⟨g', 0, none⟩) (pre.length + 1) cap'); have bm := (h2.bm.low hbg h.lm).other (k := gl) n34 (.slice (some ⟨g', 0, none⟩) (pre.length + 1) cap'); have bl0 := hv2.low hbg h.ll; have bl := bl0.set (.slice (some ⟨g', 0, none⟩) (pre.length + 1) cap'); have ⟨c5, f5⟩ := bl0; have ⟨c6, f6⟩ := bl; have ⟨c7, f7⟩ := bm; have ⟨c8, f8⟩ := bv)
  · obtain rfl : fl = true := by rw [hfl.out]; simpa using ‹(pre.length : Int) + 1 = most›
    go_ret
    exact ⟨rfl, h.ended hown' hbn hba hbg bv bw bm bl true⟩
  · obtain rfl : fl = false := by rw [hfl.out]; simpa using ‹¬ (pre.length : Int) + 1 = most›
    have e0 : ((pre.length : Int) + 1 == most) = false := by simpa using ‹¬ (pre.length : Int) + 1 = most›
    go_ret
    simp only [e0]
    exact ⟨rfl, h.ended hown' hbn hba hbg bv bw bm bl false⟩

end Go.Proofs.YtaecodgmfmijlaaDoor

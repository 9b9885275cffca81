import Derived.Test.YthmjkmdbggfiiaaGreatDoorJoin41
import Derived.Test.YthmjkmdbggfiiaaGreatDoorTurnKcR
import Derived.Test.YthmjkmdbggfiiaaGreatDoorKcIntsS
import Derived.Test.YthmjkmdbggfiiaaGreatDoorKcTextsS
import Derived.Deep.RegionHeldLaw
/- CurveFresh: samePoints, same. -/
namespace Go.Proofs.YthmjkmdbggfiiaaGreatDoor.CF
open Go.RowKit

set_option maxRecDepth 8000 in
set_option maxHeartbeats 1000000 in
theorem samePts_any {Z Y : Nat → Prop} (va vb : Value) (n : Nat) (L : List Value) (hg : GP n L) (hl : n ≤ 1000000) (w : World) (ha : KB.RwZ w Z va n L) (hb : KB.RwZ w Y vb n L) : Calls Tryz.prog 20 #[va, vb] w fun e w' => e = .returned (.bool true) ∧ Below w.heap.size w w' := by
  obtain ⟨aa, ca, rfl, hda⟩ := ha
  obtain ⟨ab, cb, rfl, hdb⟩ := hb
  have hnn : ((n : Int) != (n : Int)) = false := by simp
  go_enter Tryz.func20, Tryz.ntmps20
  go_wp2
  go_loopw [5] (fun i wr => ∃ j : Nat, j ≤ n ∧ i = .int .i64 j ∧ Below w.heap.size w wr) (fun i _ => n - (intOf i).toNat)
  case atStart => exact ⟨0, by omega, rfl, Below.refl _ _⟩
  case round =>
    obtain ⟨j, hj, rfl, hbr⟩ := hrel
    by_cases hlt : j < n
    · have hlt' : (j : Int) < (n : Int) := by omega
      have hj0 : (0 : Int) ≤ (j : Int) := by omega
      obtain ⟨ba, rfl, -, hla, hca⟩ := hda.resolve_left (by omega)
      obtain ⟨bb, rfl, -, hlb, hcb⟩ := hdb.resolve_left (by omega)
      obtain ⟨x, b, hx0, hx1, hE⟩ := hg.2 j hlt
      have a0 := (hbr.cell (p := ⟨ba, j * 2, none⟩) hla).trans (hca _ _ hx0)
      have a1 := (hbr.cell (p := ⟨ba, j * 2 + 1, none⟩) hla).trans (hca _ _ hx1)
      have b0 := (hbr.cell (p := ⟨bb, j * 2, none⟩) hlb).trans (hcb _ _ hx0)
      have b1 := (hbr.cell (p := ⟨bb, j * 2 + 1, none⟩) hlb).trans (hcb _ _ hx1)
      have hn := fun X => neq_pt x hE X
      clear hca hcb hda hdb hx0 hx1 hE hg
      go_upto_region 6 with fail
      go_quiet (fail)
      go_wp2
      go_roundw
      case rel => exact ⟨j + 1, by omega, by first | rfl | go_num, below_drewN hbr _⟩
      case measure => simp [intOf]; omega
    · have hlt' : ¬ (j : Int) < (n : Int) := by omega
      go_wp2
      go_ret
      exact ⟨rfl, hbr⟩
/-- What all calls answer of a list: six lists. -/
structure Tol where
  na : Nat
  La : List Value
  nb : Nat
  Lb : List Value
  nc : Nat
  Lc : List Value
  ne : Nat
  Le : List Value
  nj : Nat
  Lj : List Value
  nd : Nat
  Ld : List Value
structure TolOk (c : Tol) : Prop where
  ga : GP c.na c.La
  gb : GP c.nb c.Lb
  gc : GP c.nc c.Lc
  ge : GP c.ne c.Le
  gj : KB.goodInts c.nj c.Lj
  gd : KB.goodTexts c.nd c.Ld
  sa : c.na ≤ 64
  sb : c.nb ≤ 64
  sc : c.nc ≤ 64
  se : c.ne ≤ 64
  sj : c.nj ≤ 64
  sd : c.nd ≤ 64
/-- Six lists in memory. -/
structure TolAt (W : World) (c : Tol) (a b d e j t : Value) : Prop where
  wa : KB.RwZ W (fun _ => True) a c.na c.La
  wb : KB.RwZ W (fun _ => True) b c.nb c.Lb
  wc : KB.RwZ W (fun _ => True) d c.nc c.Lc
  we : KB.RwZ W (fun _ => True) e c.ne c.Le
  wj : KB.RwZ W (fun _ => True) j c.nj c.Lj
  wd : KB.RwZ W (fun _ => True) t c.nd c.Ld
theorem rw_later {W X : World} {v : Value} {n : Nat} {L : List Value} (h : KB.RwZ W (fun _ => True) v n L) (hX : Below W.heap.size W X) : KB.RwZ X (fun _ => True) v n L := h.grS (U := fun _ => False) (.of_below hX) (fun _ _ h => h)
theorem TolAt.later {W X : World} {c : Tol} {a b d e j t : Value} (h : TolAt W c a b d e j t) (hX : Below W.heap.size W X) : TolAt X c a b d e j t := ⟨rw_later h.wa hX, rw_later h.wb hX, rw_later h.wc hX, rw_later h.we hX, rw_later h.wj hX, rw_later h.wd hX⟩

set_option maxRecDepth 8000 in
set_option maxHeartbeats 4000000 in
theorem same_any6 {c : Tol} (hc : TolOk c) (a b d e j t a' b' d' e' j' t' : Value) (w : World) (h : TolAt w c a b d e j t) (h' : TolAt w c a' b' d' e' j' t') : Calls Tryz.prog 9 #[.agg #[a, b, d, e, j, t], .agg #[a', b', d', e', j', t']] w fun e w' => e = .returned (.bool true) ∧ Below w.heap.size w w' := by
  obtain ⟨aj, cj, ej, hdj⟩ := h.wj
  obtain ⟨aj', cj', ej', hdj'⟩ := h'.wj
  obtain ⟨at_, ct, et, hdt⟩ := h.wd
  obtain ⟨at', ct', et', hdt'⟩ := h'.wd
  have hSa := KB.Hid.mk (fun X (hX : Below w.heap.size w X) => samePts_any a a' c.na c.La hc.ga (by have := hc.sa; omega) X (h.later hX).wa (h'.later hX).wa)
  have hSb := KB.Hid.mk (fun X (hX : Below w.heap.size w X) => samePts_any b b' c.nb c.Lb hc.gb (by have := hc.sb; omega) X (h.later hX).wb (h'.later hX).wb)
  have hSd := KB.Hid.mk (fun X (hX : Below w.heap.size w X) => samePts_any d d' c.nc c.Lc hc.gc (by have := hc.sc; omega) X (h.later hX).wc (h'.later hX).wc)
  have hSe := KB.Hid.mk (fun X (hX : Below w.heap.size w X) => samePts_any e e' c.ne c.Le hc.ge (by have := hc.se; omega) X (h.later hX).we (h'.later hX).we)
  have hgj := KB.Hid.mk hc.gj.2
  have hgd := KB.Hid.mk hc.gd.2
  have hsj := hc.sj
  have hsd := hc.sd
  subst ej ej' et et'
  clear h h' hc
  generalize c.nj = nj at *
  generalize c.nd = nd at *
  have hnj : ((nj : Int) != (nj : Int)) = false := by simp
  have hnd : ((nd : Int) != (nd : Int)) = false := by simp
  obtain ⟨W1, hW1⟩ : ∃ W1, w.alloc (.cells #[a, b, d, e, .slice aj nj cj, .slice at_ nd ct] 57) = W1 := ⟨_, rfl⟩
  obtain ⟨W2, hW2⟩ : ∃ W2, W1.alloc (.cells #[a', b', d', e', .slice aj' nj cj', .slice at' nd ct'] 57) = W2 := ⟨_, rfl⟩
  have hB1 : Below w.heap.size w W1 := by rw [← hW1]; exact (Below.refl _ _).alloc (Nat.le_refl _) _
  have hB2 : Below w.heap.size w W2 := by rw [← hW2]; exact hB1.alloc hB1.size _
  have hs1 : W1.heap.size = w.heap.size + 1 := by rw [← hW1]; simp
  have hc2 : Below W1.heap.size W1 W2 := by rw [← hW2]; exact (Below.refl _ _).alloc (Nat.le_refl _) _
  have hT1 : ∀ i u, (#[a, b, d, e, .slice aj nj cj, .slice at_ nd ct] : Array Value)[i]? = some u → W2.cell? ⟨w.heap.size, i, none⟩ = some u := fun i u hu => by
    refine (hc2.cell (p := ⟨w.heap.size, i, none⟩) (by show w.heap.size < W1.heap.size; omega)).trans ?_
    rw [← hW1]
    simpa using hu
  have hT2 : ∀ i u, (#[a', b', d', e', .slice aj' nj cj', .slice at' nd ct'] : Array Value)[i]? = some u → W2.cell? ⟨w.heap.size + 1, i, none⟩ = some u := fun i u hu => by
    rw [← hW2, ← hs1]
    simpa using hu
  have hlt : w.heap.size + 1 < W2.heap.size := by rw [← hW2]; simp; omega
  have hK := KB.Hid.mk (fun X (hX : Below W2.heap.size W2 X) => (show (X.cell? ⟨w.heap.size, 0, none⟩ = some a ∧ X.cell? ⟨w.heap.size, 1, none⟩ = some b ∧ X.cell? ⟨w.heap.size, 2, none⟩ = some d ∧ X.cell? ⟨w.heap.size, 3, none⟩ = some e ∧ X.cell? ⟨w.heap.size, 4, none⟩ = some (.slice aj nj cj) ∧ X.cell? ⟨w.heap.size, 5, none⟩ = some (.slice at_ nd ct)) ∧ (X.cell? ⟨w.heap.size + 1, 0, none⟩ = some a' ∧ X.cell? ⟨w.heap.size + 1, 1, none⟩ = some b' ∧ X.cell? ⟨w.heap.size + 1, 2, none⟩ = some d' ∧ X.cell? ⟨w.heap.size + 1, 3, none⟩ = some e' ∧ X.cell? ⟨w.heap.size + 1, 4, none⟩ = some (.slice aj' nj cj') ∧ X.cell? ⟨w.heap.size + 1, 5, none⟩ = some (.slice at' nd ct')) from by
    have k1 : ∀ i u, (#[a, b, d, e, .slice aj nj cj, .slice at_ nd ct] : Array Value)[i]? = some u → X.cell? ⟨w.heap.size, i, none⟩ = some u := fun i u hu => (hX.cell (p := ⟨w.heap.size, i, none⟩) (by show w.heap.size < W2.heap.size; omega)).trans (hT1 i u hu)
    have k2 : ∀ i u, (#[a', b', d', e', .slice aj' nj cj', .slice at' nd ct'] : Array Value)[i]? = some u → X.cell? ⟨w.heap.size + 1, i, none⟩ = some u := fun i u hu => (hX.cell (p := ⟨w.heap.size + 1, i, none⟩) hlt).trans (hT2 i u hu)
    exact ⟨⟨k1 0 _ rfl, k1 1 _ rfl, k1 2 _ rfl, k1 3 _ rfl, k1 4 _ rfl, k1 5 _ rfl⟩, k2 0 _ rfl, k2 1 _ rfl, k2 2 _ rfl, k2 3 _ rfl, k2 4 _ rfl, k2 5 _ rfl⟩))
  have hBw := KB.Hid.mk (fun X (hX : Below W2.heap.size W2 X) => (hB2.trans (hX.mono hB2.size) : Below w.heap.size w X))
  have hlw : w.heap.size ≤ W2.heap.size := hB2.size
  replace hW1 := KB.Hid.mk hW1
  replace hW2 := KB.Hid.mk hW2
  clear hB1 hs1 hc2 hT1 hT2 hlt
  go_enter Tryz.func9, Tryz.ntmps9
  go_upto_region 1 with fail
  rw [hW1.out, hW2.out]
  obtain ⟨⟨k0, k1, k2, k3, k4, k5⟩, q0, q1, q2, q3, q4, q5⟩ := hK.out W2 (Below.refl _ _)
  have cS := hSa.out _ (hBw.out _ (Below.refl _ _))
  go_wp2_with (go_at_call 20; fail)
  refine cS.mono ?_
  clear cS k0 k1 k2 k3 k4 k5 q0 q1 q2 q3 q4 q5
  rintro _ X1 ⟨rfl, hX1⟩
  obtain ⟨⟨k0, k1, k2, k3, k4, k5⟩, q0, q1, q2, q3, q4, q5⟩ := hK.out X1 hX1
  have cS := hSb.out _ (hBw.out _ hX1)
  go_wp2_with (go_at_call 20; fail)
  refine cS.mono ?_
  clear cS k0 k1 k2 k3 k4 k5 q0 q1 q2 q3 q4 q5
  rintro _ X2 ⟨rfl, hX2⟩
  have hX2' := KB.below_step hX1 hX2
  obtain ⟨⟨k0, k1, k2, k3, k4, k5⟩, q0, q1, q2, q3, q4, q5⟩ := hK.out X2 hX2'
  have cS := hSd.out _ (hBw.out _ hX2')
  go_wp2_with (go_at_call 20; fail)
  refine cS.mono ?_
  clear cS k0 k1 k2 k3 k4 k5 q0 q1 q2 q3 q4 q5
  rintro _ X3 ⟨rfl, hX3⟩
  have hX3' := KB.below_step hX2' hX3
  obtain ⟨⟨k0, k1, k2, k3, k4, k5⟩, q0, q1, q2, q3, q4, q5⟩ := hK.out X3 hX3'
  have cS := hSe.out _ (hBw.out _ hX3')
  go_wp2_with (go_at_call 20; fail)
  refine cS.mono ?_
  clear cS k0 k1 k2 k3 k4 k5 q0 q1 q2 q3 q4 q5 hSa hSb hSd hSe
  rintro _ X4 ⟨rfl, hX4⟩
  have hX4' := KB.below_step hX3' hX4
  obtain ⟨⟨k0, k1, k2, k3, k4, k5⟩, q0, q1, q2, q3, q4, q5⟩ := hK.out X4 hX4'
  clear hX1 hX2 hX2' hX3 hX3' hX4
  go_wp2
  go_loopw [5] (fun v wr => ∃ i : Nat, i ≤ nj ∧ v = .int .i64 (i : Int) ∧ Below W2.heap.size W2 wr) (fun v _ => nj - (intOf v).toNat)
  case atStart => exact ⟨0, by omega, rfl, hX4'⟩
  case round =>
    clear k0 k1 k2 k3 k4 k5 q0 q1 q2 q3 q4 q5 hX4'
    obtain ⟨i, hi, rfl, hb⟩ := hrel
    obtain ⟨⟨-, -, -, -, k4, -⟩, -, -, -, -, q4, -⟩ := hK.out _ hb
    by_cases hlt : i < nj
    · have hlt' : (i : Int) < (nj : Int) := by omega
      have hi0 : (0 : Int) ≤ (i : Int) := by omega
      obtain ⟨ba, rfl, -, hla, hca⟩ := hdj.resolve_left (by omega)
      obtain ⟨bb, rfl, -, hlb, hcb⟩ := hdj'.resolve_left (by omega)
      obtain ⟨x, hx⟩ := hgj.out i hlt
      have a0 := ((hBw.out _ hb).cell (p := ⟨ba, i, none⟩) hla).trans (hca _ _ hx)
      have b0 := ((hBw.out _ hb).cell (p := ⟨bb, i, none⟩) hlb).trans (hcb _ _ hx)
      have hxx : (x != x) = false := by simp
      clear hca hcb hx
      go_upto_region 6 with fail
      go_quiet (fail)
      go_wp2
      go_roundw
      case rel => exact ⟨i + 1, by omega, by first | rfl | go_num, below_drewN hb _⟩
      case measure => simp [intOf]; omega
    · have hlt' : ¬ (i : Int) < (nj : Int) := by omega
      clear hlt hi
      go_wp2
      go_loopw [6] (fun v wx => ∃ i : Nat, i ≤ nd ∧ v = .int .i64 (i : Int) ∧ Below W2.heap.size W2 wx) (fun v _ => nd - (intOf v).toNat)
      case atStart => exact ⟨0, by omega, rfl, hb⟩
      case round =>
        clear k4 q4 hb
        obtain ⟨i, hi, rfl, hb⟩ := hrel
        obtain ⟨⟨-, -, -, -, -, k5⟩, -, -, -, -, -, q5⟩ := hK.out _ hb
        by_cases hlt : i < nd
        · have hlt' : (i : Int) < (nd : Int) := by omega
          have hi0 : (0 : Int) ≤ (i : Int) := by omega
          obtain ⟨ba, rfl, -, hla, hca⟩ := hdt.resolve_left (by omega)
          obtain ⟨bb, rfl, -, hlb, hcb⟩ := hdt'.resolve_left (by omega)
          obtain ⟨x, hx⟩ := hgd.out i hlt
          have a0 := ((hBw.out _ hb).cell (p := ⟨ba, i, none⟩) hla).trans (hca _ _ hx)
          have b0 := ((hBw.out _ hb).cell (p := ⟨bb, i, none⟩) hlb).trans (hcb _ _ hx)
          have hne : ∀ X, (Op.stringOp .neq x x).run Tryz.prog X = .ok (.bool false) X := fun X => by simp [Op.stringOp]
          clear hca hcb hx
          go_upto_region 11 with fail
          go_quiet (fail)
          go_wp2
          go_roundw
          case rel => exact ⟨i + 1, by omega, by first | rfl | go_num, below_drewN hb _⟩
          case measure => simp [intOf]; omega
        · have hlt' : ¬ (i : Int) < (nd : Int) := by omega
          go_wp2
          go_ret
          exact ⟨rfl, hBw.out _ hb⟩
end Go.Proofs.YthmjkmdbggfiiaaGreatDoor.CF


/- CurveFresh: copied. -/
namespace Go.Proofs.YthmjkmdbggfiiaaGreatDoor.CF
open Go.RowKit

def tolRows (c : Tol) (a b d e j t : Value) : List KB.Row := [⟨64, 2, a, c.na, c.La⟩, ⟨64, 2, b, c.nb, c.Lb⟩, ⟨64, 2, d, c.nc, c.Lc⟩, ⟨64, 2, e, c.ne, c.Le⟩, ⟨3, 1, j, c.nj, c.Lj⟩, ⟨9, 1, t, c.nd, c.Ld⟩]
/-- Six lists of their own are answered. -/
def TolP (c : Tol) (w : World) (e : Ending) (w' : World) : Prop := ∃ a b d f j t, e = .returned (.agg #[a, b, d, f, j, t]) ∧ KB.Rows w.heap.size w' (tolRows c a b d f j t) ∧ Below w.heap.size w w'
theorem TolAt.of {lo : Nat} {W : World} {c : Tol} {a b d e j t : Value} (h : ∀ x ∈ tolRows c a b d e j t, W.ownsRow lo x.e x.k x.v x.n x.xs) : TolAt W c a b d e j t := by
  have q : ∀ x ∈ tolRows c a b d e j t, KB.RwZ W (fun _ => True) x.v x.n x.xs := fun x hx => (KB.RwZ.of_own (h x hx)).more (fun _ _ => trivial)
  exact ⟨q _ (.head _), q _ (.tail _ (.head _)), q _ (.tail _ (.tail _ (.head _))), q _ (.tail _ (.tail _ (.tail _ (.head _)))), q _ (.tail _ (.tail _ (.tail _ (.tail _ (.head _))))), q _ (.tail _ (.tail _ (.tail _ (.tail _ (.tail _ (.head _))))))⟩
theorem row_six {W : World} {g : Nat} {t : TypeId} {c0 c1 c2 c3 c4 c5 : Value} (h : W.heap[g]? = some (.cells #[c0, c1, c2, c3, c4, c5] t (0, 0))) (v0 v1 v2 v3 v4 v5 : Value) : ((((((W.setCell ⟨g, 0, none⟩ v0).setCell ⟨g, 1, none⟩ v1).setCell ⟨g, 2, none⟩ v2).setCell ⟨g, 3, none⟩ v3).setCell ⟨g, 4, none⟩ v4).setCell ⟨g, 5, none⟩ v5).heap[g]? = some (.cells #[v0, v1, v2, v3, v4, v5] t (0, 0)) := by
  have h0 := heap_setCell_same W g 0 _ _ v0 h
  have h1 := heap_setCell_same _ g 1 _ _ v1 h0
  have h2 := heap_setCell_same _ g 2 _ _ v2 h1
  have h3 := heap_setCell_same _ g 3 _ _ v3 h2
  have h4 := heap_setCell_same _ g 4 _ _ v4 h3
  have h5 := heap_setCell_same _ g 5 _ _ v5 h4
  exact h5
theorem info_told : (Tryz.prog.info? 57).map (·.size) = some 6 := by kernel_rfl
/-- Six cells are written. -/
def put6 (W : World) (g : Nat) (a b d e j t : Value) : World := (((((W.setCell ⟨g, 0, none⟩ a).setCell ⟨g, 1, none⟩ b).setCell ⟨g, 2, none⟩ d).setCell ⟨g, 3, none⟩ e).setCell ⟨g, 4, none⟩ j).setCell ⟨g, 5, none⟩ t
theorem put6_grS (W : World) (g : Nat) (a b d e j t : Value) : KB.GrS (fun k => k = g) W (put6 W g a b d e j t) := (((((KB.grS_set W g _ _).trans (KB.grS_set _ g _ _)).trans (KB.grS_set _ g _ _)).trans (KB.grS_set _ g _ _)).trans (KB.grS_set _ g _ _)).trans (KB.grS_set _ g _ _)

set_option maxRecDepth 8000 in
set_option maxHeartbeats 4000000 in
theorem copied_any {c : Tol} (hc : TolOk c) {lo : Nat} (a b d e j t : Value) (w : World) (h : ∀ x ∈ tolRows c a b d e j t, w.ownsRow lo x.e x.k x.v x.n x.xs) : Calls Tryz.prog 8 #[.agg #[a, b, d, e, j, t]] w (TolP c w) := by
  have q : ∀ X, Below w.heap.size w X → ∀ x ∈ tolRows c a b d e j t, X.ownsRow lo x.e x.k x.v x.n x.xs := fun X hX x hx => (KB.GrS.of_below hX : KB.GrS (fun _ => False) _ _).own (h x hx) (fun _ _ h => h)
  have ha := KB.Hid.mk (fun X hX => q X hX _ (.head _))
  have hb := KB.Hid.mk (fun X hX => q X hX _ (.tail _ (.head _)))
  have hd := KB.Hid.mk (fun X hX => q X hX _ (.tail _ (.tail _ (.head _))))
  have he := KB.Hid.mk (fun X hX => q X hX _ (.tail _ (.tail _ (.tail _ (.head _)))))
  have hj := KB.Hid.mk (fun X hX => q X hX _ (.tail _ (.tail _ (.tail _ (.tail _ (.head _))))))
  have ht := KB.Hid.mk (fun X hX => q X hX _ (.tail _ (.tail _ (.tail _ (.tail _ (.tail _ (.head _)))))))
  simp only at ha hb hd he hj ht
  clear q h
  obtain ⟨iP, hP5, hP0, hP1, hP2⟩ := KB.info_parts KB.infoPoints
  obtain ⟨iI, hI5, hI0, hI1, hI2⟩ := KB.info_parts KB.infoInts
  obtain ⟨iS, hS5, hS0, hS1, hS2⟩ := KB.info_parts KB.infoTexts
  obtain ⟨W1, hW1⟩ : ∃ W1, w.alloc (.cells #[a, b, d, e, j, t] 57) = W1 := ⟨_, rfl⟩
  obtain ⟨W2, hW2⟩ : ∃ W2, W1.alloc (.cells #[.slice none 0 0, .slice none 0 0, .slice none 0 0, .slice none 0 0, .slice none 0 0, .slice none 0 0] 57) = W2 := ⟨_, rfl⟩
  have hB1 : Below w.heap.size w W1 := by rw [← hW1]; exact (Below.refl _ _).alloc (Nat.le_refl _) _
  have hB2 : Below w.heap.size w W2 := by rw [← hW2]; exact hB1.alloc hB1.size _
  have hs1 : W1.heap.size = w.heap.size + 1 := by rw [← hW1]; simp
  have hc2 : Below W1.heap.size W1 W2 := by rw [← hW2]; exact (Below.refl _ _).alloc (Nat.le_refl _) _
  have hr0 : W2.heap[w.heap.size]? = some (.cells #[a, b, d, e, j, t] 57 (0, 0)) := by
    rw [hc2.block _ (by omega), ← hW1]
    exact heap_alloc_new w _
  have hr1 : W2.heap[w.heap.size + 1]? = some (.cells #[.slice none 0 0, .slice none 0 0, .slice none 0 0, .slice none 0 0, .slice none 0 0, .slice none 0 0] 57 (0, 0)) := by
    rw [← hW2, ← hs1]
    exact heap_alloc_new W1 _
  have hlt : w.heap.size + 1 < W2.heap.size := (Array.getElem?_eq_some_iff.1 hr1).1
  have hK := KB.Hid.mk (fun X (hX : Below W2.heap.size W2 X) => (show (X.cell? ⟨w.heap.size, 0, none⟩ = some a ∧ X.cell? ⟨w.heap.size, 1, none⟩ = some b ∧ X.cell? ⟨w.heap.size, 2, none⟩ = some d ∧ X.cell? ⟨w.heap.size, 3, none⟩ = some e ∧ X.cell? ⟨w.heap.size, 4, none⟩ = some j ∧ X.cell? ⟨w.heap.size, 5, none⟩ = some t) from by
    have hr := (hX.block _ (by omega : w.heap.size < W2.heap.size)).trans hr0
    exact ⟨cell_of_row _ _ 0 _ _ _ hr, cell_of_row _ _ 1 _ _ _ hr, cell_of_row _ _ 2 _ _ _ hr, cell_of_row _ _ 3 _ _ _ hr, cell_of_row _ _ 4 _ _ _ hr, cell_of_row _ _ 5 _ _ _ hr⟩))
  have hR := KB.Hid.mk (fun X (hX : Below W2.heap.size W2 X) => (hX.block _ hlt).trans hr1)
  have hBw := KB.Hid.mk (fun X (hX : Below W2.heap.size W2 X) => (hB2.trans (hX.mono hB2.size) : Below w.heap.size w X))
  have hlw : w.heap.size + 2 ≤ W2.heap.size := hlt
  have b0 : Below W2.heap.size W2 W2.drew := (Below.refl _ _).drew
  have s0 := hK.out _ b0
  replace hW1 := KB.Hid.mk hW1
  replace hW2 := KB.Hid.mk hW2
  clear hB1 hB2 hs1 hc2 hr0 hr1 hlt
  go_enter Tryz.func8, Tryz.ntmps8
  go_upto_region 1 with fail
  rw [hW1.out, hW2.out]
  go_region_held_law (fun X => X.cell? ⟨w.heap.size, 0, none⟩ = some a ∧ X.cell? ⟨w.heap.size, 1, none⟩ = some b ∧ X.cell? ⟨w.heap.size, 2, none⟩ = some d ∧ X.cell? ⟨w.heap.size, 3, none⟩ = some e ∧ X.cell? ⟨w.heap.size, 4, none⟩ = some j ∧ X.cell? ⟨w.heap.size, 5, none⟩ = some t) (first | (with_reducible assumption) | (exact hKs.out)) (first
    | (refine KB.step_copy (P := Tryz.prog) _ rfl _ 24 rfl 64 iP _ 2 16 Tryz.underlying24 hP5 hP0 hP1 hP2 rfl (by decide) a rfl (ha.out _ (hBw.out _ b0)) hc.ga.1.1 (by have := hc.sa; omega) (by decide) ?_; intro u1 X1 o1 g1; obtain ⟨p1, q1, rfl⟩ := KB.own_sl o1; clear ha; have b1 := KB.below_step b0 g1; have s1 := hK.out _ b1)
    | (refine KB.step_copy (P := Tryz.prog) _ rfl _ 24 rfl 64 iP _ 2 16 Tryz.underlying24 hP5 hP0 hP1 hP2 rfl (by decide) b rfl (hb.out _ (hBw.out _ b1)) hc.gb.1.1 (by have := hc.sb; omega) (by decide) ?_; intro u2 X2 o2 g2; obtain ⟨p2, q2, rfl⟩ := KB.own_sl o2; clear hb; have b2 := KB.below_step b1 g2; have s2 := hK.out _ b2)
    | (refine KB.step_copy (P := Tryz.prog) _ rfl _ 24 rfl 64 iP _ 2 16 Tryz.underlying24 hP5 hP0 hP1 hP2 rfl (by decide) d rfl (hd.out _ (hBw.out _ b2)) hc.gc.1.1 (by have := hc.sc; omega) (by decide) ?_; intro u3 X3 o3 g3; obtain ⟨p3, q3, rfl⟩ := KB.own_sl o3; clear hd; have b3 := KB.below_step b2 g3; have s3 := hK.out _ b3)
    | (refine KB.step_copy (P := Tryz.prog) _ rfl _ 24 rfl 64 iP _ 2 16 Tryz.underlying24 hP5 hP0 hP1 hP2 rfl (by decide) e rfl (he.out _ (hBw.out _ b3)) hc.ge.1.1 (by have := hc.se; omega) (by decide) ?_; intro u4 X4 o4 g4; obtain ⟨p4, q4, rfl⟩ := KB.own_sl o4; clear he; have b4 := KB.below_step b3 g4; have s4 := hK.out _ b4)
    | (refine KB.step_copy (P := Tryz.prog) _ rfl _ 28 rfl 3 iI _ 1 8 Tryz.underlying28 hI5 hI0 hI1 hI2 rfl (by decide) j rfl (hj.out _ (hBw.out _ b4)) hc.gj.1 (by have := hc.sj; omega) (by decide) ?_; intro u5 X5 o5 g5; obtain ⟨p5, q5, rfl⟩ := KB.own_sl o5; clear hj; have b5 := KB.below_step b4 g5; have s5 := hK.out _ b5)
    | (refine KB.step_copy (P := Tryz.prog) _ rfl _ 55 rfl 9 iS _ 1 16 Tryz.underlying55 hS5 hS0 hS1 hS2 rfl (by decide) t rfl (ht.out _ (hBw.out _ b5)) hc.gd.1 (by have := hc.sd; omega) (by decide) ?_; intro u6 X6 o6 g6; obtain ⟨p6, q6, rfl⟩ := KB.own_sl o6; clear ht; have b6 := KB.below_step b5 g6; have s6 := hK.out _ b6; have r6 := hR.out _ b6; have z0 := cell_of_row _ _ 0 _ _ _ r6; have z1 := cell_of_row _ _ 1 _ _ _ r6; have z2 := cell_of_row _ _ 2 _ _ _ r6; have z3 := cell_of_row _ _ 3 _ _ _ r6; have z4 := cell_of_row _ _ 4 _ _ _ r6; have z5 := cell_of_row _ _ 5 _ _ _ r6; have f0 := frozen_of_row _ _ 0 _ _ r6; have f1 := frozen_of_row _ _ 1 _ _ r6; have f2 := frozen_of_row _ _ 2 _ _ r6; have f3 := frozen_of_row _ _ 3 _ _ r6; have f4 := frozen_of_row _ _ 4 _ _ r6; have f5 := frozen_of_row _ _ 5 _ _ r6; have hKs := KB.Hid.mk (show (put6 X6 (w.heap.size + 1) (.slice p1 c.na q1) (.slice p2 c.nb q2) (.slice p3 c.nc q3) (.slice p4 c.ne q4) (.slice p5 c.nj q5) (.slice p6 c.nd q6)).cell? ⟨w.heap.size, 0, none⟩ = some a ∧ (put6 X6 (w.heap.size + 1) (.slice p1 c.na q1) (.slice p2 c.nb q2) (.slice p3 c.nc q3) (.slice p4 c.ne q4) (.slice p5 c.nj q5) (.slice p6 c.nd q6)).cell? ⟨w.heap.size, 1, none⟩ = some b ∧ (put6 X6 (w.heap.size + 1) (.slice p1 c.na q1) (.slice p2 c.nb q2) (.slice p3 c.nc q3) (.slice p4 c.ne q4) (.slice p5 c.nj q5) (.slice p6 c.nd q6)).cell? ⟨w.heap.size, 2, none⟩ = some d ∧ (put6 X6 (w.heap.size + 1) (.slice p1 c.na q1) (.slice p2 c.nb q2) (.slice p3 c.nc q3) (.slice p4 c.ne q4) (.slice p5 c.nj q5) (.slice p6 c.nd q6)).cell? ⟨w.heap.size, 3, none⟩ = some e ∧ (put6 X6 (w.heap.size + 1) (.slice p1 c.na q1) (.slice p2 c.nb q2) (.slice p3 c.nc q3) (.slice p4 c.ne q4) (.slice p5 c.nj q5) (.slice p6 c.nd q6)).cell? ⟨w.heap.size, 4, none⟩ = some j ∧ (put6 X6 (w.heap.size + 1) (.slice p1 c.na q1) (.slice p2 c.nb q2) (.slice p3 c.nc q3) (.slice p4 c.ne q4) (.slice p5 c.nj q5) (.slice p6 c.nd q6)).cell? ⟨w.heap.size, 5, none⟩ = some t from by (have hg := put6_grS X6 (w.heap.size + 1) (.slice p1 c.na q1) (.slice p2 c.nb q2) (.slice p3 c.nc q3) (.slice p4 c.ne q4) (.slice p5 c.nj q5) (.slice p6 c.nd q6); have hl6 : w.heap.size < X6.heap.size := Nat.lt_of_lt_of_le (by omega) b6.size; exact ⟨(hg.cell hl6 (by omega)).trans s6.1, (hg.cell hl6 (by omega)).trans s6.2.1, (hg.cell hl6 (by omega)).trans s6.2.2.1, (hg.cell hl6 (by omega)).trans s6.2.2.2.1, (hg.cell hl6 (by omega)).trans s6.2.2.2.2.1, (hg.cell hl6 (by omega)).trans s6.2.2.2.2.2⟩))))
  all_goals
    go_wp2
    refine bodyPost_ret (v := .agg #[(.slice p1 c.na q1), (.slice p2 c.nb q2), (.slice p3 c.nc q3), (.slice p4 c.ne q4), (.slice p5 c.nj q5), (.slice p6 c.nd q6)]) (results_cell_row Tryz.results8 _ _ (w.heap.size + 1) 57 _ (0, 0) _ rfl (row_six r6 _ _ _ _ _ _) Tryz.underlying57 rfl info_told) rfl ?_
    have hG := put6_grS X6 (w.heap.size + 1) (.slice p1 c.na q1) (.slice p2 c.nb q2) (.slice p3 c.nc q3) (.slice p4 c.ne q4) (.slice p5 c.nj q5) (.slice p6 c.nd q6)
    have hw2 : w.heap.size + 2 ≤ W2.drew.heap.size := hlw
    have hrs := (((((KB.Rows.nil.snoc hw2 g1 (by decide) o1).snoc (Nat.le_trans hw2 g1.size) g2 (by decide) o2).snoc (Nat.le_trans hw2 (b2.size)) g3 (by decide) o3).snoc (Nat.le_trans hw2 (b3.size)) g4 (by decide) o4).snoc (Nat.le_trans hw2 (b4.size)) g5 (by decide) o5).snoc (Nat.le_trans hw2 (b5.size)) g6 (by decide) o6
    exact ⟨(.slice p1 c.na q1), (.slice p2 c.nb q2), (.slice p3 c.nc q3), (.slice p4 c.ne q4), (.slice p5 c.nj q5), (.slice p6 c.nd q6), rfl, (hrs.grS hG (fun g hg e => by omega)).low (by omega), (hBw.out _ b6).trans (hG.below (Nat.le_trans (by omega) b6.size) (fun k e => by omega))⟩
end Go.Proofs.YthmjkmdbggfiiaaGreatDoor.CF

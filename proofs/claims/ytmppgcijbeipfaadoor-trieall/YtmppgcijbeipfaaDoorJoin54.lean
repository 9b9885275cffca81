import Derived.Test.YtmppgcijbeipfaaDoorJoin51
import Derived.Test.YtmppgcijbeipfaaDoorJoin53
import Derived.Deep.DeepCutAuto
import Derived.Deep.RegionHeld3
import Derived.Test.YtmppgcijbeipfaaDoorRfDifP
namespace Go.Proofs.YtmppgcijbeipfaaDoor
open Go.RowKit

/-- What changes gives of a list, left behind stop. -/
def runC (stop : Int) (L : List Ch) : List Ch := if stop < 0 then L else L.take stop.toNat

def cJ (W : World) (T : Nat) (stop most : Int) (done : List Ch) (X : World) : Prop := TakerC X T done stop most done.length false false ∧ (done.length : Int) ≤ most ∧ (stop < 0 ∨ (done.length : Int) < stop) ∧ W.heap.size ≤ T ∧ Below W.heap.size W X
def cX (W : World) (T : Nat) (stop most : Int) (done : List Ch) (X : World) : Prop := TakerC X T done stop most done.length true false ∧ ((done.length : Int) = stop ∨ most < (done.length : Int)) ∧ W.heap.size ≤ T ∧ Below W.heap.size W X

theorem takerC_step {B : Nat} {X Y : World} {T : Nat} {L : List Ch} {stop most n : Int} {over deaf : Bool} (h : TakerC X T L stop most n over deaf) (hs : StepB B X Y) : TakerC Y T L stop most n over deaf := by
  obtain ⟨cv, h1, h2⟩ := h
  refine ⟨cv, block_stepB h1 hs, ?_⟩
  obtain ⟨row, hg, hr⟩ := hs
  refine h2.kept hg ?_
  cases e : cv.ownBlock with
  | none => exact .inl rfl
  | some g =>
    refine .inr fun e2 => ?_
    obtain ⟨-, o, h3, h4⟩ := hr g e2.symm
    have := own_cells h2 g o e h3
    rw [h4] at this
    cases this
theorem takerC_set {X : World} {T : Nat} {L : List Ch} {stop most n : Int} {over deaf : Bool} (h : TakerC X T L stop most n over deaf) {k : Nat} (hk : offT T k X) (o : Nat) (v : Value) : TakerC (X.setCell ⟨k, o, none⟩ v) T L stop most n over deaf := by
  obtain ⟨cv, h1, h2⟩ := h
  have hc : X.cell? ⟨T, 1, none⟩ = some cv := cell_of_row _ _ 1 _ _ _ h1
  exact ⟨cv, (Below.heap_setCell _ _ _ T (Ne.symm hk.1)).trans h1, h2.kept (grown_set X k o v) (.inr (hk.2 cv hc))⟩
theorem offT_new {X : World} {T : Nat} {L : List Ch} {stop most n : Int} {over deaf : Bool} (h : TakerC X T L stop most n over deaf) {k : Nat} (hk : X.heap.size ≤ k) : offT T k X := by
  obtain ⟨cv, h1, h2⟩ := h
  have hT := (Array.getElem?_eq_some_iff.1 h1).1
  have hc : X.cell? ⟨T, 1, none⟩ = some cv := cell_of_row _ _ 1 _ _ _ h1
  refine ⟨by omega, fun cv' hcv e => ?_⟩
  rw [hc] at hcv
  obtain rfl := Option.some.inj hcv
  have := (h2.lt k e).2
  omega
theorem offT_step {B : Nat} {X Y : World} {T : Nat} {L : List Ch} {stop most n : Int} {over deaf : Bool} (h : TakerC X T L stop most n over deaf) {k : Nat} (hk : offT T k X) (hs : StepB B X Y) : offT T k Y := by
  obtain ⟨cv, h1, h2⟩ := h
  have hc : X.cell? ⟨T, 1, none⟩ = some cv := cell_of_row _ _ 1 _ _ _ h1
  have hc2 : Y.cell? ⟨T, 1, none⟩ = some cv := cell_of_row _ _ 1 _ _ _ (block_stepB h1 hs)
  refine ⟨hk.1, fun cv' hcv => ?_⟩
  rw [hc2] at hcv
  obtain rfl := Option.some.inj hcv
  exact hk.2 _ hc

theorem takes_change (W : World) (T : Nat) (stop most : Int) (hmo : most ≤ 2147483648) (a b : Tr) (la : Lies W a) (lb : Lies W b) : TakesC 41 ⟨T, 0, none⟩ W.heap.size (fun X => Lies X a ∧ Lies X b) (offT T) (cJ W T stop most) (cX W T stop most) where
  good := fun _ _ hJ => ⟨la.later hJ.2.2.2.2, lb.later hJ.2.2.2.2⟩
  goodx := fun _ _ hJ => ⟨la.later hJ.2.2.2, lb.later hJ.2.2.2⟩
  low := fun _ _ hJ => hJ.2.2.2.2.size
  step := fun _ X Y hJ hs => ⟨takerC_step hJ.1 hs, hJ.2.1, hJ.2.2.1, hJ.2.2.2.1, hs.below hJ.2.2.2.2 hJ.2.2.2.2.size⟩
  stepx := fun _ X Y hJ hs => ⟨takerC_step hJ.1 hs, hJ.2.1, hJ.2.2.1, hs.below hJ.2.2.2 hJ.2.2.2.size⟩
  set := fun _ X k o v hJ hk hB => ⟨takerC_set hJ.1 hk o v, hJ.2.1, hJ.2.2.1, hJ.2.2.2.1, hJ.2.2.2.2.setCell hB v⟩
  setx := fun _ X k o v hJ hk hB => ⟨takerC_set hJ.1 hk o v, hJ.2.1, hJ.2.2.1, hJ.2.2.2.setCell hB v⟩
  offNew := fun _ X k hJ hk => offT_new hJ.1 hk
  offStep := fun _ X Y k hJ hk hs => offT_step hJ.1 hk hs
  call := fun done X c k p q x y x' y' hch hJ => by
    obtain ⟨h1, h2, h3, h4, h5⟩ := hJ
    refine (change_any T done stop most (by omega) false _ c k p q x y x' y' hch rfl X h1).mono ?_
    rintro e X' ⟨rfl, hT, hB, hK, hF⟩
    have hB' : Below W.heap.size W X' := h5.trans (hB.mono h4)
    refine ⟨_, rfl, hK, hF, fun ho => ?_, fun ho => ?_⟩
    · simp only [Bool.not_eq_true', Bool.or_eq_false_iff, decide_eq_false_iff_not, beq_eq_false_iff_ne] at ho
      have e : (((done.length : Int) + 1 == stop) || decide (most < (done.length : Int) + 1)) = false := by simp; omega
      rw [e] at hT
      refine ⟨?_, ?_, ?_, h4, hB'⟩
      · rw [List.length_append]; exact hT
      · simp; omega
      · simp; omega
    · simp only [Bool.not_eq_false', Bool.or_eq_true, decide_eq_true_eq, beq_iff_eq] at ho
      have e : (((done.length : Int) + 1 == stop) || decide (most < (done.length : Int) + 1)) = true := by simp; omega
      rw [e] at hT
      refine ⟨?_, ?_, h4, hB'⟩
      · rw [List.length_append]; exact hT
      · simp; omega

theorem runC_prefix {stop most : Int} {L pre : List Ch} (hL : (L.length : Int) ≤ most) (hp : pre <+: L) (h : (pre.length : Int) = stop ∨ most < (pre.length : Int)) : pre = runC stop L := by
  have h1 := hp.length_le
  rcases h with h | h
  · unfold runC
    rw [if_neg (by omega), List.prefix_iff_eq_take.1 hp]
    congr 1
    omega
  · omega
theorem runC_whole {stop : Int} {L : List Ch} (h : stop < 0 ∨ (L.length : Int) < stop) : L = runC stop L := by
  unfold runC
  split
  · rfl
  · rw [List.take_of_length_le (by omega)]

def diffV (b : Nat) : Value := .func (.func 51) #[] #[.pointer (some ⟨b, 0, none⟩), .pointer (some ⟨b + 1, 0, none⟩)]
def DiffAt (W : World) (b ma mb : Nat) : Prop := b + 1 < W.heap.size ∧ W.cell? ⟨b, 0, none⟩ = some (.pointer (some ⟨ma, 0, none⟩)) ∧ W.cell? ⟨b + 1, 0, none⟩ = some (.pointer (some ⟨mb, 0, none⟩))
theorem DiffAt.later {W W' : World} {b ma mb : Nat} (h : DiffAt W b ma mb) (hb : Below W.heap.size W W') : DiffAt W' b ma mb := by
  obtain ⟨h0, h1, h2⟩ := h
  exact ⟨Nat.lt_of_lt_of_le h0 hb.size, (hb.cell (p := ⟨b, 0, none⟩) (by simp; omega)).trans h1, (hb.cell (p := ⟨b + 1, 0, none⟩) (by simp; omega)).trans h2⟩

theorem diff_iter (ma mb : Nat) (w : World) : Calls Tryd.prog 40 #[.pointer (some ⟨ma, 0, none⟩), .pointer (some ⟨mb, 0, none⟩)] w fun e w' => e = .returned (diffV w.heap.size) ∧ DiffAt w' w.heap.size ma mb ∧ Below w.heap.size w w' := by
  go_enter Tryd.func40, Tryd.ntmps40
  go_wp2
  go_ret
  refine ⟨rfl, ⟨by simp, by simp, by simp⟩, ((Below.refl _ _).alloc (Nat.le_refl _) _).alloc (by simp) _⟩

set_option maxRecDepth 4000 in
set_option maxHeartbeats 1000000 in
theorem diff1_any (T : Addr) (B : Nat) (off : Nat → World → Prop) (J Jx : List Ch → World → Prop) (b ma mb : Nat) (a c : Tr) (D : List Ch) (hDD : a.dif c 7 0 = D) (hT : TakesC 41 T B (fun X => Lies X a ∧ Lies X c) off J Jx) (w : World) (hD : DiffAt w b ma mb) (hA : MapT w ma a) (hC : MapT w mb c) (h : J [] w) :
    Calls Tryd.prog 51 #[yieldV T, .pointer (some ⟨b, 0, none⟩), .pointer (some ⟨b + 1, 0, none⟩)] w fun e w' => e = .returned (.tuple #[]) ∧ (J D w' ∨ ∃ pre, pre <+: D ∧ Jx pre w') := by
  obtain ⟨-, d0, d1⟩ := hD
  obtain ⟨u, hu⟩ := ptr_pointer a
  obtain ⟨v, hv⟩ := ptr_pointer c
  have m0 := hA.2.1
  have m1 := hC.2.1
  rw [hu] at m0
  rw [hv] at m1
  have hJd := hT.step _ _ w.drew h (stepB_below B (Below.refl w.heap.size w).drew)
  have hdf := differ_any T B off J Jx 7 0 rfl a c hA.2.2.2.2 hC.2.2.2.2 hT 0 (by decide) (by decide) [] w.drew hJd
  rw [hu, hv, hDD, show (((0 : Nat)) : Int) = 0 from rfl] at hdf
  clear hDD
  go_enter Tryd.func51, Tryd.ntmps51
  go_wp2_with fail
  go_region_with (go_at_call 52; refine hdf.mono ?_; rintro e w5 ⟨o, rfl, hJ5, hX5⟩)
  all_goals
    have hE : J D w5 ∨ ∃ pre, pre <+: D ∧ Jx pre w5 := by
      cases o with
      | true => exact .inl (by simpa using hJ5)
      | false =>
        obtain ⟨pre, hp, hx⟩ := hX5 (by first | rfl | trivial)
        exact .inr ⟨pre, hp, by simpa using hx⟩
    clear hJ5 hX5
    go_wp2
    go_end0
    exact ⟨rfl, hE⟩

/-- A list of changes in the world. -/
def ChsAt (W : World) (v : Value) (L : List Ch) : Prop := ∃ a cap, v = .slice a L.length cap ∧ (L = [] ∨ ∃ g off, a = some ⟨g, off, none⟩ ∧ g < W.heap.size ∧ ∀ i (h : i < L.length) j u, (chL L[i])[j]? = some u → W.cell? ⟨g, off + i * 7 + j, none⟩ = some u)
theorem ChsAt.later {W W' : World} {v : Value} {L : List Ch} (h : ChsAt W v L) (hb : Below W.heap.size W W') : ChsAt W' v L := by
  obtain ⟨a, cap, rfl, h | ⟨g, off, rfl, hg, hc⟩⟩ := h
  · exact ⟨a, cap, rfl, .inl h⟩
  · exact ⟨_, cap, rfl, .inr ⟨g, off, rfl, Nat.lt_of_lt_of_le hg hb.size, fun i hi j u hu => (hb.cell (p := ⟨g, off + i * 7 + j, none⟩) hg).trans (hc i hi j u hu)⟩⟩
theorem chL_len (c : Ch) : (chL c).length = 7 := rfl
theorem flat7_len (L : List Ch) : (flat7 L).length = L.length * 7 := by
  induction L with
  | nil => rfl
  | cons a L ih => simp [flat7, chL_len] at ih ⊢; omega
theorem flat7_at : ∀ (L : List Ch) (i : Nat) (h : i < L.length) (j : Nat) (u : Value), (chL L[i])[j]? = some u → (flat7 L)[i * 7 + j]? = some u
  | [], i, h, _, _, _ => by simp at h
  | a :: L, 0, h, j, u, hu => by
    have hj : j < (chL a).length := (List.getElem?_eq_some_iff.1 hu).1
    show (chL a ++ flat7 L)[0 * 7 + j]? = some u
    rw [Nat.zero_mul, Nat.zero_add, List.getElem?_append_left hj]
    exact hu
  | a :: L, i + 1, h, j, u, hu => by
    have ih := flat7_at L i (by simpa using h) j u (by simpa using hu)
    show (chL a ++ flat7 L)[(i + 1) * 7 + j]? = some u
    rw [List.getElem?_append_right (by rw [chL_len]; omega), chL_len, show (i + 1) * 7 + j - 7 = i * 7 + j from by omega]
    exact ih
theorem chs_of_own {w : World} {base : Nat} {v : Value} {L : List Ch} (h : w.ownsRow base 99 7 v L.length (flat7 L)) : ChsAt w v L := by
  by_cases h0 : L.length = 0
  · obtain rfl := List.eq_nil_of_length_eq_zero h0
    obtain ⟨-, h | ⟨g, cap, cur, rfl, -⟩⟩ := h
    · exact ⟨none, 0, h.1, .inl rfl⟩
    · exact ⟨_, cap, rfl, .inl rfl⟩
  · obtain ⟨g, cap, rfl⟩ := own_some h (by omega)
    refine ⟨_, cap, rfl, .inr ⟨g, 0, rfl, (h.lt g rfl).2, fun i hi j u hu => ?_⟩⟩
    have h1 := flat7_at L i hi j u hu
    have hl : i * 7 + j < (flat7 L).length := (List.getElem?_eq_some_iff.1 h1).1
    rw [Nat.zero_add]
    exact (h.cellAt (i * 7 + j) (by rw [h.1] at hl; omega)).trans h1

set_option maxRecDepth 4000 in
set_option maxHeartbeats 1000000 in
/-- What differs gives, of two maps. -/
theorem differs_any (ma mb : Nat) (a c : Tr) (D : List Ch) (hDD : a.dif c 7 0 = D) (stop most : Int) (hst : stop < 0 ∨ 0 < stop) (hmo : (D.length : Int) ≤ most ∧ most ≤ 2147483648) (w : World) (hA : MapT w ma a) (hC : MapT w mb c) :
    Calls Tryd.prog 27 #[.pointer (some ⟨ma, 0, none⟩), .pointer (some ⟨mb, 0, none⟩), .int .i64 stop, .int .i64 most] w fun e w' => ∃ ca cc, e = .returned (.slice ca (runC stop D).length cc) ∧ ChsAt w' (.slice ca (runC stop D).length cc) (runC stop D) ∧ Below w.heap.size w w' := by
  have hs0 : (stop == 0) = false := by simp; omega
  have hdi := diff_iter ma mb w
  go_enter Tryd.func27, Tryd.ntmps27
  go_upto_region 2 with (go_at_call 40; refine hdi.mono ?_; rintro e w1 ⟨rfl, hD1, hb1⟩)
  have hA1 := hA.later hb1
  have hC1 := hC.later hb1
  generalize w.heap.size = nb at hD1 ⊢
  have hnil : ∀ W : World, (binOp BinOp.eql 96 (.func (.func 51) #[] #[.pointer (some ⟨nb, 0, none⟩), .pointer (some ⟨nb + 1, 0, none⟩)]) .nilFunc).run Tryd.prog W = .ok (.bool false) W := fun _ => rfl
  unfold diffV
  have hb2 : Below w1.heap.size w1 (w1.alloc (.cells (takerRowC (.slice none 0 0) stop most 0 false false) 92)) := (Below.refl _ _).alloc (Nat.le_refl _) _
  have hJ0 : cJ w1 w1.heap.size stop most [] (w1.alloc (.cells (takerRowC (.slice none 0 0) stop most 0 false false) 92)) := ⟨⟨_, heap_alloc_last w1 _, World.ownsRow_nil _ _ _ _⟩, by simp; omega, by simpa using hst, Nat.le_refl _, hb2⟩
  have hfr := diff1_any ⟨w1.heap.size, 0, none⟩ _ _ _ _ nb ma mb a c D hDD (takes_change w1 w1.heap.size stop most hmo.2 a c hA1.2.2.2.1 hC1.2.2.2.1) _ (hD1.later hb2) (hA1.later hb2) (hC1.later hb2) hJ0
  have hMo : Hid ((D.length : Int) ≤ most) := hmo.1
  clear hmo hDD hdi hst
  unfold yieldV at hfr
  go_wp2_with (go_at_call 51; fail)
  refine hfr.mono ?_
  rintro e w3 ⟨rfl, hE⟩
  have hJ3 : ∃ o, TakerC w3 w1.heap.size (runC stop D) stop most ((runC stop D).length) o false ∧ Below w1.heap.size w1 w3 := by
    rcases hE with hE | ⟨pre, hp, hx⟩
    · have := runC_whole hE.2.2.1
      rw [← this]
      exact ⟨_, hE.1, hE.2.2.2.2⟩
    · have := runC_prefix hMo.out hp hx.2.1
      rw [← this]
      exact ⟨_, hx.1, hx.2.2.2⟩
  obtain ⟨ob, ⟨cv, hT3, hown3⟩, hB3⟩ := hJ3
  obtain ⟨ca, cc, rfl, hcd⟩ := chs_of_own hown3
  have c6 : w3.cell? ⟨w1.heap.size, 6, none⟩ = some (.bool false) := cell_of_row _ _ 6 _ _ _ hT3
  have c1 : w3.cell? ⟨w1.heap.size, 1, none⟩ = some (.slice ca (runC stop D).length cc) := cell_of_row _ _ 1 _ _ _ hT3
  clear hE hfr hJ0 hb2 hown3 hT3
  go_wp2
  go_ret
  exact ⟨ca, cc, rfl, ⟨ca, cc, rfl, hcd⟩, below_step hb1 hB3⟩

end Go.Proofs.YtmppgcijbeipfaaDoor


namespace Go.Proofs.YtmppgcijbeipfaaDoor
open Go.RowKit

set_option maxRecDepth 4000 in
set_option maxHeartbeats 2000000 in
/-- Of two lists with the same changes sameChanges says yes. -/
theorem same_changes (va vb : Value) (L : List Ch) (hl : L.length ≤ 9000000000) (w : World) (ha : ChsAt w va L) (hb : ChsAt w vb L) : Calls Tryd.prog 28 #[va, vb] w fun e w' => e = .returned (.bool true) ∧ Below w.heap.size w w' := by
  obtain ⟨aa, ca, rfl, hda⟩ := ha
  obtain ⟨ab, cb, rfl, hdb⟩ := hb
  go_enter Tryd.func28, Tryd.ntmps28
  go_wp2
  go_loopw [5] (fun i wr => ∃ j : Nat, j ≤ L.length ∧ i = .int .i64 j ∧ Below w.heap.size w wr) (fun i _ => L.length - (intOf i).toNat)
  case atStart => exact ⟨0, by omega, rfl, Below.refl _ _⟩
  case round =>
    obtain ⟨j, hj, rfl, hB⟩ := hrel
    by_cases hlt : j < L.length
    · have hlt' : (j : Int) < L.length := by omega
      have hj0 : (0 : Int) ≤ (j : Int) := by omega
      rcases hda with h0 | ⟨ga, oa, rfl, hga, hca⟩
      · rw [h0] at hlt; simp at hlt
      rcases hdb with h0 | ⟨gb, ob, rfl, hgb, hcb⟩
      · rw [h0] at hlt; simp at hlt
      have qa := hca j hlt
      have qb := hcb j hlt
      unfold chL at qa qb
      generalize (L[j].1 : Int) = k at *
      generalize L[j].2.1.isSome = p at *
      generalize L[j].2.2.isSome = q at *
      generalize (L[j].2.1.getD (0, 0)).1 = x at *
      generalize (L[j].2.1.getD (0, 0)).2 = y at *
      generalize (L[j].2.2.getD (0, 0)).1 = x' at *
      generalize (L[j].2.2.getD (0, 0)).2 = y' at *
      have ma : ∀ X, Below w.heap.size w X → X.cell? ⟨ga, oa + j * 7, none⟩ = some (.int .u32 k) ∧ X.cell? ⟨ga, oa + j * 7 + 1, none⟩ = some (.bool p) ∧ X.cell? ⟨ga, oa + j * 7 + 2, none⟩ = some (.bool q) ∧ X.cell? ⟨ga, oa + j * 7 + 3, none⟩ = some (.int .i64 x) ∧ X.cell? ⟨ga, oa + j * 7 + 4, none⟩ = some (.int .i64 y) ∧ X.cell? ⟨ga, oa + j * 7 + 5, none⟩ = some (.int .i64 x') ∧ X.cell? ⟨ga, oa + j * 7 + 6, none⟩ = some (.int .i64 y') := fun X hX => ⟨(hX.cell (p := ⟨ga, _, none⟩) hga).trans (qa 0 _ rfl), (hX.cell (p := ⟨ga, _, none⟩) hga).trans (qa 1 _ rfl), (hX.cell (p := ⟨ga, _, none⟩) hga).trans (qa 2 _ rfl), (hX.cell (p := ⟨ga, _, none⟩) hga).trans (qa 3 _ rfl), (hX.cell (p := ⟨ga, _, none⟩) hga).trans (qa 4 _ rfl), (hX.cell (p := ⟨ga, _, none⟩) hga).trans (qa 5 _ rfl), (hX.cell (p := ⟨ga, _, none⟩) hga).trans (qa 6 _ rfl)⟩
      have mb : ∀ X, Below w.heap.size w X → X.cell? ⟨gb, ob + j * 7, none⟩ = some (.int .u32 k) ∧ X.cell? ⟨gb, ob + j * 7 + 1, none⟩ = some (.bool p) ∧ X.cell? ⟨gb, ob + j * 7 + 2, none⟩ = some (.bool q) ∧ X.cell? ⟨gb, ob + j * 7 + 3, none⟩ = some (.int .i64 x) ∧ X.cell? ⟨gb, ob + j * 7 + 4, none⟩ = some (.int .i64 y) ∧ X.cell? ⟨gb, ob + j * 7 + 5, none⟩ = some (.int .i64 x') ∧ X.cell? ⟨gb, ob + j * 7 + 6, none⟩ = some (.int .i64 y') := fun X hX => ⟨(hX.cell (p := ⟨gb, _, none⟩) hgb).trans (qb 0 _ rfl), (hX.cell (p := ⟨gb, _, none⟩) hgb).trans (qb 1 _ rfl), (hX.cell (p := ⟨gb, _, none⟩) hgb).trans (qb 2 _ rfl), (hX.cell (p := ⟨gb, _, none⟩) hgb).trans (qb 3 _ rfl), (hX.cell (p := ⟨gb, _, none⟩) hgb).trans (qb 4 _ rfl), (hX.cell (p := ⟨gb, _, none⟩) hgb).trans (qb 5 _ rfl), (hX.cell (p := ⟨gb, _, none⟩) hgb).trans (qb 6 _ rfl)⟩
      clear qa qb hca hcb
      obtain ⟨a0, a1, a2, a3, a4, a5, a6⟩ := ma _ hB
      have hB1 := hB.alloc hB.size (.cells #[.int .u32 k, .bool p, .bool q, .int .i64 x, .int .i64 y, .int .i64 x', .int .i64 y'] 99)
      obtain ⟨b0, b1, b2, b3, b4, b5, b6⟩ := mb _ hB1
      go_upto_region 8 with (fail)
      have hBY := hB1.alloc hB1.size (.cells #[.int .u32 k, .bool p, .bool q, .int .i64 x, .int .i64 y, .int .i64 x', .int .i64 y'] 99)
      have hR2 := heap_alloc_last (wr.alloc (.cells #[.int .u32 k, .bool p, .bool q, .int .i64 x, .int .i64 y, .int .i64 x', .int .i64 y'] 99)) (.cells #[.int .u32 k, .bool p, .bool q, .int .i64 x, .int .i64 y, .int .i64 x', .int .i64 y'] 99)
      have hR1 : ((wr.alloc (.cells #[.int .u32 k, .bool p, .bool q, .int .i64 x, .int .i64 y, .int .i64 x', .int .i64 y'] 99)).alloc (.cells #[.int .u32 k, .bool p, .bool q, .int .i64 x, .int .i64 y, .int .i64 x', .int .i64 y'] 99)).heap[wr.heap.size]? = some (.cells #[.int .u32 k, .bool p, .bool q, .int .i64 x, .int .i64 y, .int .i64 x', .int .i64 y'] 99 (0, 0)) := (((Below.refl _ _).alloc (Nat.le_refl _) _).block _ (by simp)).trans (heap_alloc_last wr _)
      have hs1 : (wr.alloc (.cells #[.int .u32 k, .bool p, .bool q, .int .i64 x, .int .i64 y, .int .i64 x', .int .i64 y'] 99)).heap.size = wr.heap.size + 1 := by simp
      rw [hs1] at hR2
      have hs2 : ((wr.alloc (.cells #[.int .u32 k, .bool p, .bool q, .int .i64 x, .int .i64 y, .int .i64 x', .int .i64 y'] 99)).alloc (.cells #[.int .u32 k, .bool p, .bool q, .int .i64 x, .int .i64 y, .int .i64 x', .int .i64 y'] 99)).heap.size = wr.heap.size + 2 := by simp
      clear a0 a1 a2 a3 a4 a5 a6 b0 b1 b2 b3 b4 b5 b6 ma mb hB1 hs1
      generalize (wr.alloc (.cells #[.int .u32 k, .bool p, .bool q, .int .i64 x, .int .i64 y, .int .i64 x', .int .i64 y'] 99)).alloc (.cells #[.int .u32 k, .bool p, .bool q, .int .i64 x, .int .i64 y, .int .i64 x', .int .i64 y'] 99) = Y at *
      have hS : ∀ X, Below Y.heap.size Y X → X.cell? ⟨wr.heap.size, 0, none⟩ = some (.int .u32 k) ∧ X.cell? ⟨wr.heap.size, 1, none⟩ = some (.bool p) ∧ X.cell? ⟨wr.heap.size, 2, none⟩ = some (.bool q) ∧ X.cell? ⟨wr.heap.size, 3, none⟩ = some (.int .i64 x) ∧ X.cell? ⟨wr.heap.size, 4, none⟩ = some (.int .i64 y) ∧ X.cell? ⟨wr.heap.size, 5, none⟩ = some (.int .i64 x') ∧ X.cell? ⟨wr.heap.size, 6, none⟩ = some (.int .i64 y') ∧ X.cell? ⟨wr.heap.size + 1, 0, none⟩ = some (.int .u32 k) ∧ X.cell? ⟨wr.heap.size + 1, 1, none⟩ = some (.bool p) ∧ X.cell? ⟨wr.heap.size + 1, 2, none⟩ = some (.bool q) ∧ X.cell? ⟨wr.heap.size + 1, 3, none⟩ = some (.int .i64 x) ∧ X.cell? ⟨wr.heap.size + 1, 4, none⟩ = some (.int .i64 y) ∧ X.cell? ⟨wr.heap.size + 1, 5, none⟩ = some (.int .i64 x') ∧ X.cell? ⟨wr.heap.size + 1, 6, none⟩ = some (.int .i64 y') := fun X hX => by
        have e1 := (hX.block wr.heap.size (by omega)).trans hR1
        have e2 := (hX.block (wr.heap.size + 1) (by omega)).trans hR2
        exact ⟨cell_of_row _ _ 0 _ _ _ e1, cell_of_row _ _ 1 _ _ _ e1, cell_of_row _ _ 2 _ _ _ e1, cell_of_row _ _ 3 _ _ _ e1, cell_of_row _ _ 4 _ _ _ e1, cell_of_row _ _ 5 _ _ _ e1, cell_of_row _ _ 6 _ _ _ e1, cell_of_row _ _ 0 _ _ _ e2, cell_of_row _ _ 1 _ _ _ e2, cell_of_row _ _ 2 _ _ _ e2, cell_of_row _ _ 3 _ _ _ e2, cell_of_row _ _ 4 _ _ _ e2, cell_of_row _ _ 5 _ _ _ e2, cell_of_row _ _ 6 _ _ _ e2⟩
      have hY0 := Below.refl Y.heap.size Y
      have hkk : (k != k) = false := by simp
      have hpp : (p != p) = false := by simp
      have hqq : (q != q) = false := by simp
      have hsv := same_any x y x y true (by simp) Y
      clear hR1 hR2 hs2
      generalize wr.heap.size + 1 = N1 at *
      generalize wr.heap.size = N0 at *
      obtain ⟨c0, c1, c2, c3, c4, c5, c6, d0, d1, d2, d3, d4, d5, d6⟩ := hS _ hY0
      go_wp2_with
        (first
          | (go_at_call 12; have hh := hB5; refine (same_any x' y' x' y' true (by simp) _).mono ?_; rintro e w6 ⟨rfl, hb6⟩; have hB6 := below_step hB5 hb6)
          | (go_at_call 12; refine hsv.mono ?_; rintro e w5 ⟨rfl, hb5⟩; have hB5 := below_step hY0 hb5; obtain ⟨f0, f1, f2, f3, f4, f5, f6, g0, g1, g2, g3, g4, g5, g6⟩ := hS _ hB5))
      have hBE := below_step hBY hB6
      clear hS hsv
      go_wp2
      go_roundw
      case rel => exact ⟨j + 1, by omega, by go_num, hBE⟩
      case measure => simp [intOf]; omega
    · have hlt' : ¬ (j : Int) < L.length := by omega
      go_wp2
      go_ret
      exact ⟨rfl, hB⟩

end Go.Proofs.YtmppgcijbeipfaaDoor


/- THE MATHEMATICS: what the reference's Diff tells is what the trie's tells, with its values. -/
namespace Go.Proofs.YtmppgcijbeipfaaDoor

theorem valE_skip {a : Nat × (Int × Int)} {A : List (Nat × (Int × Int))} {k : Nat} (h : k ≠ a.1) : valE (a :: A) k = valE A k := by rw [valE_cons, if_neg (Ne.symm h)]
theorem rdif_vals : ∀ (n : Nat) (A B : List (Nat × (Int × Int))), A.length + B.length ≤ n → Rises A → Rises B → ∀ c ∈ rdif n A B, c = (c.1, (valE A c.1, valE B c.1))
  | 0, _, _, _, _, _, c, h => by simp [rdif] at h
  | n + 1, [], [], _, _, _, c, h => by simp [rdif] at h
  | n + 1, a :: A, [], hn, hA, hB, c, h => by
    obtain ⟨ha, hA'⟩ := rises_tail hA
    simp only [List.length_cons, List.length_nil] at hn
    rcases List.mem_cons.1 h with rfl | h
    · rw [valE_cons, if_pos rfl, valE_nil]
    · have hk := ((rdif_keys n A [] (by simp; omega) hA' hB).2 c.1).1 (List.mem_map_of_mem h)
      have hne : c.1 ≠ a.1 := fun e => hk (by rw [e, valE_low ha, valE_nil])
      rw [valE_skip hne]
      exact rdif_vals n A [] (by simp; omega) hA' hB c h
  | n + 1, [], b :: B, hn, hA, hB, c, h => by
    obtain ⟨hb, hB'⟩ := rises_tail hB
    simp only [List.length_cons, List.length_nil] at hn
    rcases List.mem_cons.1 h with rfl | h
    · rw [valE_cons, if_pos rfl, valE_nil]
    · have hk := ((rdif_keys n [] B (by simp; omega) hA hB').2 c.1).1 (List.mem_map_of_mem h)
      have hne : c.1 ≠ b.1 := fun e => hk (by rw [e, valE_low hb, valE_nil])
      rw [valE_skip hne]
      exact rdif_vals n [] B (by simp; omega) hA hB' c h
  | n + 1, a :: A, b :: B, hn, hA, hB, c, h => by
    obtain ⟨ha, hA'⟩ := rises_tail hA
    obtain ⟨hb, hB'⟩ := rises_tail hB
    simp only [List.length_cons] at hn
    unfold rdif at h
    by_cases h1 : a.1 < b.1
    · rw [if_pos h1] at h
      have hlow : valE (b :: B) a.1 = none := valE_low fun e he => by
        rcases List.mem_cons.1 he with rfl | he
        · exact h1
        · exact Nat.lt_trans h1 (hb e he)
      rcases List.mem_cons.1 h with rfl | h
      · rw [hlow, valE_cons, if_pos rfl]
      · have hk := ((rdif_keys n A (b :: B) (by simp; omega) hA' hB).2 c.1).1 (List.mem_map_of_mem h)
        have hne : c.1 ≠ a.1 := fun e => hk (by rw [e, valE_low ha, hlow])
        rw [valE_skip hne]
        exact rdif_vals n A (b :: B) (by simp; omega) hA' hB c h
    · rw [if_neg h1] at h
      by_cases h2 : b.1 < a.1
      · rw [if_pos h2] at h
        have hlow : valE (a :: A) b.1 = none := valE_low fun e he => by
          rcases List.mem_cons.1 he with rfl | he
          · exact h2
          · exact Nat.lt_trans h2 (ha e he)
        rcases List.mem_cons.1 h with rfl | h
        · rw [hlow, valE_cons, if_pos rfl]
        · have hk := ((rdif_keys n (a :: A) B (by simp; omega) hA hB').2 c.1).1 (List.mem_map_of_mem h)
          have hne : c.1 ≠ b.1 := fun e => hk (by rw [e, valE_low hb, hlow])
          rw [valE_skip (a := b) hne]
          exact rdif_vals n (a :: A) B (by simp; omega) hA hB' c h
      · rw [if_neg h2] at h
        have e0 : a.1 = b.1 := by omega
        have tail : c ∈ rdif n A B → c = (c.1, (valE (a :: A) c.1, valE (b :: B) c.1)) := fun h => by
          have hk := ((rdif_keys n A B (by omega) hA' hB').2 c.1).1 (List.mem_map_of_mem h)
          have hne : c.1 ≠ a.1 := fun e => hk (by rw [e, valE_low ha, e0, valE_low hb])
          rw [valE_skip hne, valE_skip (a := b) (by rw [← e0]; exact hne)]
          exact rdif_vals n A B (by omega) hA' hB' c h
        by_cases h3 : a.2 = b.2
        · rw [if_pos h3] at h
          exact tail h
        · rw [if_neg h3] at h
          rcases List.mem_cons.1 h with rfl | h
          · show (a.1, (some a.2, some b.2)) = (a.1, (valE (a :: A) a.1, valE (b :: B) a.1))
            rw [valE_cons, if_pos rfl, valE_cons, if_pos e0.symm]
          · exact tail h
theorem keys_same : ∀ {x y : List Nat}, x.Pairwise (· < ·) → y.Pairwise (· < ·) → (∀ k, k ∈ x ↔ k ∈ y) → x = y := fun hx hy h =>
  List.Perm.eq_of_pairwise (le := (· < ·)) (fun a b _ _ h1 h2 => absurd h1 (by omega)) hx hy ((List.perm_ext_iff_of_nodup (hx.imp fun h => Nat.ne_of_lt h) (hy.imp fun h => Nat.ne_of_lt h)).2 h)
theorem map_self {F : Nat → Nat × (Option (Int × Int) × Option (Int × Int))} {L : List (Nat × (Option (Int × Int) × Option (Int × Int)))} (h : ∀ c ∈ L, c = F c.1) : L = (L.map (·.1)).map F := by
  rw [List.map_map]
  refine (List.map_id L).symm.trans (List.map_congr_left fun c hc => ?_)
  exact h c hc
theorem dif_rdif {a b : Tr} (ha : a.wf 7) (hb : b.wf 7) : a.dif b 7 0 = rdif ((a.ents 7 0).length + (b.ents 7 0).length) (a.ents 7 0) (b.ents 7 0) := by
  have h1 := difK_dif ha hb
  have h2 := rdif_DifK (ents_rises 7 ha 0) (ents_rises 7 hb 0)
  have hk : (a.dif b 7 0).map (·.1) = (rdif ((a.ents 7 0).length + (b.ents 7 0).length) (a.ents 7 0) (b.ents 7 0)).map (·.1) := keys_same h1.1 h2.1 fun k => (h1.2 k).trans (h2.2 k).symm
  have hd : ∀ c ∈ a.dif b 7 0, c = (fun k => (k, (valE (a.ents 7 0) k, valE (b.ents 7 0) k))) c.1 := fun c hc => by
    obtain ⟨r, hr, -, rfl⟩ := mem_dif.1 hc
    show (0 + r, (a.get 7 r, b.get 7 r)) = (0 + r, (valE (a.ents 7 0) (0 + r), valE (b.ents 7 0) (0 + r)))
    rw [Nat.zero_add, valE_ents ha hr, valE_ents hb hr]
  have hr := rdif_vals _ (a.ents 7 0) (b.ents 7 0) (Nat.le_refl _) (ents_rises 7 ha 0) (ents_rises 7 hb 0)
  have e1 := map_self (F := fun k => (k, (valE (a.ents 7 0) k, valE (b.ents 7 0) k))) hd
  have e2 := map_self (F := fun k => (k, (valE (a.ents 7 0) k, valE (b.ents 7 0) k))) hr
  rw [hk] at e1
  exact e1.trans e2.symm

end Go.Proofs.YtmppgcijbeipfaaDoor


namespace Go.Proofs.YtmppgcijbeipfaaDoor

def turnC (c : Ch) : Ch := (c.1, (c.2.2, c.2.1))
theorem dif_turn (a b : Tr) (n p : Nat) : b.dif a n p = (a.dif b n p).map turnC := by
  unfold Tr.dif
  rw [List.map_filterMap]
  congr 1
  funext r
  by_cases h : a.get n r = b.get n r
  · rw [if_pos h, if_pos h.symm]; rfl
  · rw [if_neg h, if_neg (fun e => h e.symm)]; rfl

theorem filter_len {α β γ δ : Type} {f : α → Option β} {g : α → Option γ} {h : α → Option δ} (hh : ∀ a b, f a = some b → g a ≠ none ∨ h a ≠ none) (l : List α) : (l.filterMap f).length ≤ (l.filterMap g).length + (l.filterMap h).length := by
  induction l with
  | nil => simp
  | cons a l ih =>
    rw [List.filterMap_cons, List.filterMap_cons, List.filterMap_cons]
    cases hf : f a with
    | none =>
      cases g a <;> cases h a <;> simp <;> omega
    | some b =>
      rcases hh a b hf with hg | hg
      · obtain ⟨c, hc⟩ := Option.ne_none_iff_exists'.1 hg
        rw [hc]
        cases h a <;> simp <;> omega
      · obtain ⟨c, hc⟩ := Option.ne_none_iff_exists'.1 hg
        rw [hc]
        cases g a <;> simp <;> omega
theorem dif_len {a b : Tr} {n : Nat} (ha : a.wf n) (hb : b.wf n) (p : Nat) : (a.dif b n p).length ≤ (a.ents n p).length + (b.ents n p).length := by
  rw [ents_range_eq ha, ents_range_eq hb]
  unfold Tr.dif
  refine filter_len (fun r c h => ?_) _
  cases h1 : a.get n r with
  | some v => exact .inl (by simp)
  | none =>
    cases h2 : b.get n r with
    | some v => exact .inr (by simp)
    | none => rw [h1, h2] at h; simp at h

/-- One told thing laid into a list. -/
def layC (E : List (Nat × (Int × Int))) (c : Ch) : List (Nat × (Int × Int)) := stepL E c.1 (c.2.2.getD (0, 0)) (!c.2.2.isSome)
def layAll (E : List (Nat × (Int × Int))) (D : List Ch) : List (Nat × (Int × Int)) := D.foldl layC E
theorem layAll_snoc (E : List (Nat × (Int × Int))) (D : List Ch) (c : Ch) : layAll E (D ++ [c]) = layC (layAll E D) c := by simp [layAll]
theorem rises_layC {E : List (Nat × (Int × Int))} (h : Rises E) (c : Ch) : Rises (layC E c) := by
  unfold layC stepL
  split
  · exact rises_del h _
  · exact rises_ins h _ _
theorem rises_layAll {E : List (Nat × (Int × Int))} (h : Rises E) : ∀ (D : List Ch), Rises (layAll E D)
  | [] => h
  | c :: D => rises_layAll (rises_layC h c) D
theorem mem_layC {E : List (Nat × (Int × Int))} {c : Ch} {e : Nat × (Int × Int)} : e ∈ layC E c ↔ (c.1 = e.1 ∧ c.2.2 = some e.2) ∨ (e.1 ≠ c.1 ∧ e ∈ E) := by
  obtain ⟨k, x, y⟩ := c
  obtain ⟨k', v⟩ := e
  unfold layC stepL
  cases y with
  | none =>
    simp only [Option.isSome_none, Bool.not_false, if_true]
    rw [mem_del]
    simp
  | some w =>
    simp only [Option.isSome_some, Bool.not_true, Bool.false_eq_true, if_false, Option.getD_some]
    rw [mem_ins]
    simp only [Prod.mk.injEq, Option.some.injEq]
    constructor
    · rintro (⟨rfl, rfl⟩ | h)
      · exact .inl ⟨rfl, rfl⟩
      · exact .inr h
    · rintro (⟨rfl, rfl⟩ | h)
      · exact .inl ⟨rfl, rfl⟩
      · exact .inr h
theorem mem_layAll : ∀ (D : List Ch), D.Pairwise (fun x y => x.1 < y.1) → ∀ (E : List (Nat × (Int × Int))) (e : Nat × (Int × Int)), e ∈ layAll E D ↔ (∃ c ∈ D, c.1 = e.1 ∧ c.2.2 = some e.2) ∨ (e ∈ E ∧ ∀ c ∈ D, c.1 ≠ e.1)
  | [], _, E, e => by simp [layAll]
  | c :: D, hp, E, e => by
    obtain ⟨h1, h2⟩ := List.pairwise_cons.1 hp
    have ih := mem_layAll D h2 (layC E c) e
    show e ∈ layAll (layC E c) D ↔ _
    rw [ih, mem_layC]
    constructor
    · rintro (⟨d, hd, hd1, hd2⟩ | ⟨⟨hc1, hc2⟩ | ⟨hc1, hc2⟩, hD⟩)
      · exact .inl ⟨d, by simp [hd], hd1, hd2⟩
      · exact .inl ⟨c, by simp, hc1, hc2⟩
      · refine .inr ⟨hc2, fun d hd => ?_⟩
        rcases List.mem_cons.1 hd with rfl | hd
        · exact Ne.symm hc1
        · exact hD d hd
    · rintro (⟨d, hd, hd1, hd2⟩ | ⟨hE, hD⟩)
      · rcases List.mem_cons.1 hd with rfl | hd
        · refine .inr ⟨.inl ⟨hd1, hd2⟩, fun d' hd' => ?_⟩
          have := h1 d' hd'
          omega
        · exact .inl ⟨d, hd, hd1, hd2⟩
      · exact .inr ⟨.inr ⟨Ne.symm (hD c (by simp)), hE⟩, fun d hd => hD d (by simp [hd])⟩

/-- What differs, laid into the one, makes the other. -/
theorem lay_dif {a b : Tr} (ha : a.wf 7) (hb : b.wf 7) : layAll (a.ents 7 0) (a.dif b 7 0) = b.ents 7 0 := by
  refine rises_ext (rises_layAll (ents_rises 7 ha 0) _) (ents_rises 7 hb 0) fun e => ?_
  rw [mem_layAll _ (dif_rises a b 7 0)]
  obtain ⟨k, v⟩ := e
  rw [mem_all ha, mem_all hb]
  constructor
  · rintro (⟨c, hc, h1, h2⟩ | ⟨⟨hk, hg⟩, hD⟩)
    · obtain ⟨r, hr, hne, rfl⟩ := mem_dif.1 hc
      simp only [Nat.zero_add] at h1 h2
      subst h1
      exact ⟨hr, h2⟩
    · refine ⟨hk, ?_⟩
      by_cases he : a.get 7 k = b.get 7 k
      · rw [← he]; exact hg
      · exact absurd (Nat.zero_add k) (hD _ (mem_dif.2 ⟨k, hk, he, rfl⟩))
  · rintro ⟨hk, hg⟩
    by_cases he : a.get 7 k = b.get 7 k
    · refine .inr ⟨⟨hk, by rw [he]; exact hg⟩, fun c hc h1 => ?_⟩
      obtain ⟨r, hr, hne, rfl⟩ := mem_dif.1 hc
      simp only [Nat.zero_add] at h1
      subst h1
      exact hne he
    · exact .inl ⟨_, mem_dif.2 ⟨k, hk, he, rfl⟩, Nat.zero_add k, hg⟩

end Go.Proofs.YtmppgcijbeipfaaDoor


/- What differs gives, of a list as long as it may be, and with a stop no longer than most. -/
namespace Go.Proofs.YtmppgcijbeipfaaDoor
open Go.RowKit

def cU (W : World) (T : Nat) (stop most : Int) (done : List Ch) (X : World) : Prop := TakerC X T done stop most done.length true false ∧ ((done.length : Int) = stop ∨ (most < (done.length : Int) ∧ (stop < 0 ∨ (done.length : Int) ≤ stop))) ∧ W.heap.size ≤ T ∧ Below W.heap.size W X
theorem takes_changeU (W : World) (T : Nat) (stop most : Int) (hmo : most ≤ 9000000000) (a b : Tr) (la : Lies W a) (lb : Lies W b) : TakesC 41 ⟨T, 0, none⟩ W.heap.size (fun X => Lies X a ∧ Lies X b) (offT T) (cJ W T stop most) (cU W T stop most) where
  good := fun _ _ hJ => ⟨la.later hJ.2.2.2.2, lb.later hJ.2.2.2.2⟩
  goodx := fun _ _ hJ => ⟨la.later hJ.2.2.2, lb.later hJ.2.2.2⟩
  low := fun _ _ hJ => hJ.2.2.2.2.size
  step := fun _ X Y hJ hs => ⟨takerC_step hJ.1 hs, hJ.2.1, hJ.2.2.1, hJ.2.2.2.1, hs.below hJ.2.2.2.2 hJ.2.2.2.2.size⟩
  stepx := fun _ X Y hJ hs => ⟨takerC_step hJ.1 hs, hJ.2.1, hJ.2.2.1, hs.below hJ.2.2.2 hJ.2.2.2.size⟩
  set := fun _ X k o v hJ hk hB => ⟨takerC_set hJ.1 hk o v, hJ.2.1, hJ.2.2.1, hJ.2.2.2.1, hJ.2.2.2.2.setCell hB v⟩
  setx := fun _ X k o v hJ hk hB => ⟨takerC_set hJ.1 hk o v, hJ.2.1, hJ.2.2.1, hJ.2.2.2.setCell hB v⟩
  offNew := fun _ X k hJ hk => offT_new hJ.1 hk
  offStep := fun _ X Y k hJ hk hs => offT_step hJ.1 hk hs
  call := fun done X c k p q x y x' y' hch hJ => by
    obtain ⟨h1, h2, h3, h4, h5⟩ := hJ
    refine (change_any T done stop most (by omega) false _ c k p q x y x' y' hch rfl X h1).mono ?_
    rintro e X' ⟨rfl, hT, hB, hK, hF⟩
    have hB' : Below W.heap.size W X' := h5.trans (hB.mono h4)
    refine ⟨_, rfl, hK, hF, fun ho => ?_, fun ho => ?_⟩
    · simp only [Bool.not_eq_true', Bool.or_eq_false_iff, decide_eq_false_iff_not, beq_eq_false_iff_ne] at ho
      have e : (((done.length : Int) + 1 == stop) || decide (most < (done.length : Int) + 1)) = false := by simp; omega
      rw [e] at hT
      refine ⟨?_, ?_, ?_, h4, hB'⟩
      · rw [List.length_append]; exact hT
      · simp; omega
      · simp; omega
    · simp only [Bool.not_eq_false', Bool.or_eq_true, decide_eq_true_eq, beq_iff_eq] at ho
      have e : (((done.length : Int) + 1 == stop) || decide (most < (done.length : Int) + 1)) = true := by simp; omega
      rw [e] at hT
      refine ⟨?_, ?_, h4, hB'⟩
      · rw [List.length_append]; exact hT
      · simp; omega

theorem runC_prefixU {stop most : Int} {L pre : List Ch} (hL : (L.length : Int) ≤ most ∨ (0 < stop ∧ stop ≤ most)) (hp : pre <+: L) (h : (pre.length : Int) = stop ∨ (most < (pre.length : Int) ∧ (stop < 0 ∨ (pre.length : Int) ≤ stop))) : pre = runC stop L := by
  have h1 := hp.length_le
  rcases h with h | h
  · unfold runC
    rw [if_neg (by omega), List.prefix_iff_eq_take.1 hp]
    congr 1
    omega
  · omega

set_option maxRecDepth 4000 in
set_option maxHeartbeats 1000000 in
/-- What differs gives, of two maps. -/
theorem differs_u (ma mb : Nat) (a c : Tr) (D : List Ch) (hDD : a.dif c 7 0 = D) (stop most : Int) (hst : stop < 0 ∨ 0 < stop) (hmo : ((D.length : Int) ≤ most ∨ (0 < stop ∧ stop ≤ most)) ∧ 0 ≤ most ∧ most ≤ 9000000000) (w : World) (hA : MapT w ma a) (hC : MapT w mb c) :
    Calls Tryd.prog 27 #[.pointer (some ⟨ma, 0, none⟩), .pointer (some ⟨mb, 0, none⟩), .int .i64 stop, .int .i64 most] w fun e w' => ∃ ca cc, e = .returned (.slice ca (runC stop D).length cc) ∧ ChsAt w' (.slice ca (runC stop D).length cc) (runC stop D) ∧ Below w.heap.size w w' := by
  have hs0 : (stop == 0) = false := by simp; omega
  have hdi := diff_iter ma mb w
  go_enter Tryd.func27, Tryd.ntmps27
  go_upto_region 2 with (go_at_call 40; refine hdi.mono ?_; rintro e w1 ⟨rfl, hD1, hb1⟩)
  have hA1 := hA.later hb1
  have hC1 := hC.later hb1
  generalize w.heap.size = nb at hD1 ⊢
  have hnil : ∀ W : World, (binOp BinOp.eql 96 (.func (.func 51) #[] #[.pointer (some ⟨nb, 0, none⟩), .pointer (some ⟨nb + 1, 0, none⟩)]) .nilFunc).run Tryd.prog W = .ok (.bool false) W := fun _ => rfl
  unfold diffV
  have hb2 : Below w1.heap.size w1 (w1.alloc (.cells (takerRowC (.slice none 0 0) stop most 0 false false) 92)) := (Below.refl _ _).alloc (Nat.le_refl _) _
  have hJ0 : cJ w1 w1.heap.size stop most [] (w1.alloc (.cells (takerRowC (.slice none 0 0) stop most 0 false false) 92)) := ⟨⟨_, heap_alloc_last w1 _, World.ownsRow_nil _ _ _ _⟩, by simpa using hmo.2.1, by simpa using hst, Nat.le_refl _, hb2⟩
  have hfr := diff1_any ⟨w1.heap.size, 0, none⟩ _ _ _ _ nb ma mb a c D hDD (takes_changeU w1 w1.heap.size stop most hmo.2.2 a c hA1.2.2.2.1 hC1.2.2.2.1) _ (hD1.later hb2) (hA1.later hb2) (hC1.later hb2) hJ0
  have hMo : Hid ((D.length : Int) ≤ most ∨ (0 < stop ∧ stop ≤ most)) := hmo.1
  clear hmo hDD hdi hst
  unfold yieldV at hfr
  go_wp2_with (go_at_call 51; fail)
  refine hfr.mono ?_
  rintro e w3 ⟨rfl, hE⟩
  have hJ3 : ∃ o, TakerC w3 w1.heap.size (runC stop D) stop most ((runC stop D).length) o false ∧ Below w1.heap.size w1 w3 := by
    rcases hE with hE | ⟨pre, hp, hx⟩
    · have := runC_whole hE.2.2.1
      rw [← this]
      exact ⟨_, hE.1, hE.2.2.2.2⟩
    · have := runC_prefixU hMo.out hp hx.2.1
      rw [← this]
      exact ⟨_, hx.1, hx.2.2.2⟩
  obtain ⟨ob, ⟨cv, hT3, hown3⟩, hB3⟩ := hJ3
  obtain ⟨ca, cc, rfl, hcd⟩ := chs_of_own hown3
  have c6 : w3.cell? ⟨w1.heap.size, 6, none⟩ = some (.bool false) := cell_of_row _ _ 6 _ _ _ hT3
  have c1 : w3.cell? ⟨w1.heap.size, 1, none⟩ = some (.slice ca (runC stop D).length cc) := cell_of_row _ _ 1 _ _ _ hT3
  clear hE hfr hJ0 hb2 hown3 hT3
  go_wp2
  go_ret
  exact ⟨ca, cc, rfl, ⟨ca, cc, rfl, hcd⟩, below_step hb1 hB3⟩

end Go.Proofs.YtmppgcijbeipfaaDoor

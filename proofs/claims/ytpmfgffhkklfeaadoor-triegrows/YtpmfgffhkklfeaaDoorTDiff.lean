import Derived.Test.YtpmfgffhkklfeaaDoorTDiffer
import Derived.Test.YtpmfgffhkklfeaaDoorTMade
import Derived.Deep.DeepCutAuto
namespace Go.Proofs.YtpmfgffhkklfeaaDoor
open Go.RowKit

/-- What changes gives of a list, left behind stop. -/
def runC (stop : Int) (L : List Ch) : List Ch := if stop < 0 then L else L.take stop.toNat

def cJ (W : World) (T : Nat) (stop most : Int) (done : List Ch) (X : World) : Prop := TakerC X T done stop most done.length false false ∧ (done.length : Int) ≤ most ∧ (stop < 0 ∨ (done.length : Int) < stop) ∧ W.heap.size ≤ T ∧ Below W.heap.size W X
def cX (W : World) (T : Nat) (stop most : Int) (done : List Ch) (X : World) : Prop := TakerC X T done stop most done.length true false ∧ ((done.length : Int) = stop ∨ most < (done.length : Int)) ∧ W.heap.size ≤ T ∧ Below W.heap.size W X

theorem takerC_step {B : Nat} {X Y : World} {T : Nat} {L : List Ch} {stop most n : Int} {over deaf : Bool} (h : TakerC X T L stop most n over deaf) (hs : StepB B X Y) : TakerC Y T L stop most n over deaf := by
  obtain ⟨cv, h1, h2⟩ := h
  refine ⟨cv, block_stepB h1 hs, ?_⟩
  obtain ⟨row, hg, hr⟩ := hs
  refine h2.kept hg ?_
  cases e : cv.ownBlock with
  | none => exact .inl rfl
  | some g =>
    refine .inr fun e2 => ?_
    obtain ⟨-, o, h3, h4⟩ := hr g e2.symm
    have := own_cells h2 g o e h3
    rw [h4] at this
    cases this
theorem takerC_set {X : World} {T : Nat} {L : List Ch} {stop most n : Int} {over deaf : Bool} (h : TakerC X T L stop most n over deaf) {k : Nat} (hk : offT T k X) (o : Nat) (v : Value) : TakerC (X.setCell ⟨k, o, none⟩ v) T L stop most n over deaf := by
  obtain ⟨cv, h1, h2⟩ := h
  have hc : X.cell? ⟨T, 1, none⟩ = some cv := cell_of_row _ _ 1 _ _ _ h1
  exact ⟨cv, (Below.heap_setCell _ _ _ T (Ne.symm hk.1)).trans h1, h2.kept (grown_set X k o v) (.inr (hk.2 cv hc))⟩
theorem offT_new {X : World} {T : Nat} {L : List Ch} {stop most n : Int} {over deaf : Bool} (h : TakerC X T L stop most n over deaf) {k : Nat} (hk : X.heap.size ≤ k) : offT T k X := by
  obtain ⟨cv, h1, h2⟩ := h
  have hT := (Array.getElem?_eq_some_iff.1 h1).1
  have hc : X.cell? ⟨T, 1, none⟩ = some cv := cell_of_row _ _ 1 _ _ _ h1
  refine ⟨by omega, fun cv' hcv e => ?_⟩
  rw [hc] at hcv
  obtain rfl := Option.some.inj hcv
  have := (h2.lt k e).2
  omega
theorem offT_step {B : Nat} {X Y : World} {T : Nat} {L : List Ch} {stop most n : Int} {over deaf : Bool} (h : TakerC X T L stop most n over deaf) {k : Nat} (hk : offT T k X) (hs : StepB B X Y) : offT T k Y := by
  obtain ⟨cv, h1, h2⟩ := h
  have hc : X.cell? ⟨T, 1, none⟩ = some cv := cell_of_row _ _ 1 _ _ _ h1
  have hc2 : Y.cell? ⟨T, 1, none⟩ = some cv := cell_of_row _ _ 1 _ _ _ (block_stepB h1 hs)
  refine ⟨hk.1, fun cv' hcv => ?_⟩
  rw [hc2] at hcv
  obtain rfl := Option.some.inj hcv
  exact hk.2 _ hc

theorem takes_change (W : World) (T : Nat) (stop most : Int) (hmo : most ≤ 2147483648) (a b : Tr) (la : Lies W a) (lb : Lies W b) : TakesC 31 ⟨T, 0, none⟩ W.heap.size (fun X => Lies X a ∧ Lies X b) (offT T) (cJ W T stop most) (cX W T stop most) where
  good := fun _ _ hJ => ⟨la.later hJ.2.2.2.2, lb.later hJ.2.2.2.2⟩
  goodx := fun _ _ hJ => ⟨la.later hJ.2.2.2, lb.later hJ.2.2.2⟩
  low := fun _ _ hJ => hJ.2.2.2.2.size
  step := fun _ X Y hJ hs => ⟨takerC_step hJ.1 hs, hJ.2.1, hJ.2.2.1, hJ.2.2.2.1, hs.below hJ.2.2.2.2 hJ.2.2.2.2.size⟩
  stepx := fun _ X Y hJ hs => ⟨takerC_step hJ.1 hs, hJ.2.1, hJ.2.2.1, hs.below hJ.2.2.2 hJ.2.2.2.size⟩
  set := fun _ X k o v hJ hk hB => ⟨takerC_set hJ.1 hk o v, hJ.2.1, hJ.2.2.1, hJ.2.2.2.1, hJ.2.2.2.2.setCell hB v⟩
  setx := fun _ X k o v hJ hk hB => ⟨takerC_set hJ.1 hk o v, hJ.2.1, hJ.2.2.1, hJ.2.2.2.setCell hB v⟩
  offNew := fun _ X k hJ hk => offT_new hJ.1 hk
  offStep := fun _ X Y k hJ hk hs => offT_step hJ.1 hk hs
  call := fun done X c k p q x y x' y' hch hJ => by
    obtain ⟨h1, h2, h3, h4, h5⟩ := hJ
    refine (change_any T done stop most (by omega) false _ c k p q x y x' y' hch rfl X h1).mono ?_
    rintro e X' ⟨rfl, hT, hB, hK, hF⟩
    have hB' : Below W.heap.size W X' := h5.trans (hB.mono h4)
    refine ⟨_, rfl, hK, hF, fun ho => ?_, fun ho => ?_⟩
    · simp only [Bool.not_eq_true', Bool.or_eq_false_iff, decide_eq_false_iff_not, beq_eq_false_iff_ne] at ho
      have e : (((done.length : Int) + 1 == stop) || decide (most < (done.length : Int) + 1)) = false := by simp; omega
      rw [e] at hT
      refine ⟨?_, ?_, ?_, h4, hB'⟩
      · rw [List.length_append]; exact hT
      · simp; omega
      · simp; omega
    · simp only [Bool.not_eq_false', Bool.or_eq_true, decide_eq_true_eq, beq_iff_eq] at ho
      have e : (((done.length : Int) + 1 == stop) || decide (most < (done.length : Int) + 1)) = true := by simp; omega
      rw [e] at hT
      refine ⟨?_, ?_, h4, hB'⟩
      · rw [List.length_append]; exact hT
      · simp; omega

theorem runC_prefix {stop most : Int} {L pre : List Ch} (hL : (L.length : Int) ≤ most) (hp : pre <+: L) (h : (pre.length : Int) = stop ∨ most < (pre.length : Int)) : pre = runC stop L := by
  have h1 := hp.length_le
  rcases h with h | h
  · unfold runC
    rw [if_neg (by omega), List.prefix_iff_eq_take.1 hp]
    congr 1
    omega
  · omega
theorem runC_whole {stop : Int} {L : List Ch} (h : stop < 0 ∨ (L.length : Int) < stop) : L = runC stop L := by
  unfold runC
  split
  · rfl
  · rw [List.take_of_length_le (by omega)]

def diffV (b : Nat) : Value := .func (.func 37) #[] #[.pointer (some ⟨b, 0, none⟩), .pointer (some ⟨b + 1, 0, none⟩)]
def DiffAt (W : World) (b ma mb : Nat) : Prop := b + 1 < W.heap.size ∧ W.cell? ⟨b, 0, none⟩ = some (.pointer (some ⟨ma, 0, none⟩)) ∧ W.cell? ⟨b + 1, 0, none⟩ = some (.pointer (some ⟨mb, 0, none⟩))
theorem DiffAt.later {W W' : World} {b ma mb : Nat} (h : DiffAt W b ma mb) (hb : Below W.heap.size W W') : DiffAt W' b ma mb := by
  obtain ⟨h0, h1, h2⟩ := h
  exact ⟨Nat.lt_of_lt_of_le h0 hb.size, (hb.cell (p := ⟨b, 0, none⟩) (by simp; omega)).trans h1, (hb.cell (p := ⟨b + 1, 0, none⟩) (by simp; omega)).trans h2⟩

theorem diff_iter (ma mb : Nat) (w : World) : Calls Tryd.prog 30 #[.pointer (some ⟨ma, 0, none⟩), .pointer (some ⟨mb, 0, none⟩)] w fun e w' => e = .returned (diffV w.heap.size) ∧ DiffAt w' w.heap.size ma mb ∧ Below w.heap.size w w' := by
  go_enter Tryd.func30, Tryd.ntmps30
  go_wp2
  go_ret
  refine ⟨rfl, ⟨by simp, by simp, by simp⟩, ((Below.refl _ _).alloc (Nat.le_refl _) _).alloc (by simp) _⟩

set_option maxRecDepth 4000 in
set_option maxHeartbeats 1000000 in
theorem diff1_any (T : Addr) (B : Nat) (off : Nat → World → Prop) (J Jx : List Ch → World → Prop) (b ma mb : Nat) (a c : Tr) (D : List Ch) (hDD : a.dif c 7 0 = D) (hT : TakesC 31 T B (fun X => Lies X a ∧ Lies X c) off J Jx) (w : World) (hD : DiffAt w b ma mb) (hA : MapT w ma a) (hC : MapT w mb c) (h : J [] w) :
    Calls Tryd.prog 37 #[yieldV T, .pointer (some ⟨b, 0, none⟩), .pointer (some ⟨b + 1, 0, none⟩)] w fun e w' => e = .returned (.tuple #[]) ∧ (J D w' ∨ ∃ pre, pre <+: D ∧ Jx pre w') := by
  obtain ⟨-, d0, d1⟩ := hD
  obtain ⟨u, hu⟩ := ptr_pointer a
  obtain ⟨v, hv⟩ := ptr_pointer c
  have m0 := hA.2.1
  have m1 := hC.2.1
  rw [hu] at m0
  rw [hv] at m1
  have hJd := hT.step _ _ w.drew h (stepB_below B (Below.refl w.heap.size w).drew)
  have hdf := differ_any T B off J Jx 7 0 rfl a c hA.2.2.2.2 hC.2.2.2.2 hT 0 (by decide) (by decide) [] w.drew hJd
  rw [hu, hv, hDD, show (((0 : Nat)) : Int) = 0 from rfl] at hdf
  clear hDD
  go_enter Tryd.func37, Tryd.ntmps37
  go_wp2_with fail
  go_region_with (go_at_call 38; refine hdf.mono ?_; rintro e w5 ⟨o, rfl, hJ5, hX5⟩)
  all_goals
    have hE : J D w5 ∨ ∃ pre, pre <+: D ∧ Jx pre w5 := by
      cases o with
      | true => exact .inl (by simpa using hJ5)
      | false =>
        obtain ⟨pre, hp, hx⟩ := hX5 (by first | rfl | trivial)
        exact .inr ⟨pre, hp, by simpa using hx⟩
    clear hJ5 hX5
    go_wp2
    go_end0
    exact ⟨rfl, hE⟩

/-- A list of changes in the world. -/
def ChsAt (W : World) (v : Value) (L : List Ch) : Prop := ∃ a cap, v = .slice a L.length cap ∧ (L = [] ∨ ∃ g off, a = some ⟨g, off, none⟩ ∧ g < W.heap.size ∧ ∀ i (h : i < L.length) j u, (chL L[i])[j]? = some u → W.cell? ⟨g, off + i * 7 + j, none⟩ = some u)
theorem ChsAt.later {W W' : World} {v : Value} {L : List Ch} (h : ChsAt W v L) (hb : Below W.heap.size W W') : ChsAt W' v L := by
  obtain ⟨a, cap, rfl, h | ⟨g, off, rfl, hg, hc⟩⟩ := h
  · exact ⟨a, cap, rfl, .inl h⟩
  · exact ⟨_, cap, rfl, .inr ⟨g, off, rfl, Nat.lt_of_lt_of_le hg hb.size, fun i hi j u hu => (hb.cell (p := ⟨g, off + i * 7 + j, none⟩) hg).trans (hc i hi j u hu)⟩⟩
theorem chL_len (c : Ch) : (chL c).length = 7 := rfl
theorem flat7_len (L : List Ch) : (flat7 L).length = L.length * 7 := by
  induction L with
  | nil => rfl
  | cons a L ih => simp [flat7, chL_len] at ih ⊢; omega
theorem flat7_at : ∀ (L : List Ch) (i : Nat) (h : i < L.length) (j : Nat) (u : Value), (chL L[i])[j]? = some u → (flat7 L)[i * 7 + j]? = some u
  | [], i, h, _, _, _ => by simp at h
  | a :: L, 0, h, j, u, hu => by
    have hj : j < (chL a).length := (List.getElem?_eq_some_iff.1 hu).1
    show (chL a ++ flat7 L)[0 * 7 + j]? = some u
    rw [Nat.zero_mul, Nat.zero_add, List.getElem?_append_left hj]
    exact hu
  | a :: L, i + 1, h, j, u, hu => by
    have ih := flat7_at L i (by simpa using h) j u (by simpa using hu)
    show (chL a ++ flat7 L)[(i + 1) * 7 + j]? = some u
    rw [List.getElem?_append_right (by rw [chL_len]; omega), chL_len, show (i + 1) * 7 + j - 7 = i * 7 + j from by omega]
    exact ih
theorem chs_of_own {w : World} {base : Nat} {v : Value} {L : List Ch} (h : w.ownsRow base 45 7 v L.length (flat7 L)) : ChsAt w v L := by
  by_cases h0 : L.length = 0
  · obtain rfl := List.eq_nil_of_length_eq_zero h0
    obtain ⟨-, h | ⟨g, cap, cur, rfl, -⟩⟩ := h
    · exact ⟨none, 0, h.1, .inl rfl⟩
    · exact ⟨_, cap, rfl, .inl rfl⟩
  · obtain ⟨g, cap, rfl⟩ := own_some h (by omega)
    refine ⟨_, cap, rfl, .inr ⟨g, 0, rfl, (h.lt g rfl).2, fun i hi j u hu => ?_⟩⟩
    have h1 := flat7_at L i hi j u hu
    have hl : i * 7 + j < (flat7 L).length := (List.getElem?_eq_some_iff.1 h1).1
    rw [Nat.zero_add]
    exact (h.cellAt (i * 7 + j) (by rw [h.1] at hl; omega)).trans h1

set_option maxRecDepth 4000 in
set_option maxHeartbeats 1000000 in
/-- What differs gives, of two maps. -/
theorem differs_any (ma mb : Nat) (a c : Tr) (D : List Ch) (hDD : a.dif c 7 0 = D) (stop most : Int) (hst : stop < 0 ∨ 0 < stop) (hmo : (D.length : Int) ≤ most ∧ most ≤ 2147483648) (w : World) (hA : MapT w ma a) (hC : MapT w mb c) :
    Calls Tryd.prog 23 #[.pointer (some ⟨ma, 0, none⟩), .pointer (some ⟨mb, 0, none⟩), .int .i64 stop, .int .i64 most] w fun e w' => ∃ ca cc, e = .returned (.slice ca (runC stop D).length cc) ∧ ChsAt w' (.slice ca (runC stop D).length cc) (runC stop D) ∧ Below w.heap.size w w' := by
  have hs0 : (stop == 0) = false := by simp; omega
  have hdi := diff_iter ma mb w
  go_enter Tryd.func23, Tryd.ntmps23
  go_upto_region 2 with (go_at_call 30; refine hdi.mono ?_; rintro e w1 ⟨rfl, hD1, hb1⟩)
  have hA1 := hA.later hb1
  have hC1 := hC.later hb1
  generalize w.heap.size = nb at hD1 ⊢
  have hnil : ∀ W : World, (binOp BinOp.eql 81 (.func (.func 37) #[] #[.pointer (some ⟨nb, 0, none⟩), .pointer (some ⟨nb + 1, 0, none⟩)]) .nilFunc).run Tryd.prog W = .ok (.bool false) W := fun _ => rfl
  unfold diffV
  have hb2 : Below w1.heap.size w1 (w1.alloc (.cells (takerRowC (.slice none 0 0) stop most 0 false false) 77)) := (Below.refl _ _).alloc (Nat.le_refl _) _
  have hJ0 : cJ w1 w1.heap.size stop most [] (w1.alloc (.cells (takerRowC (.slice none 0 0) stop most 0 false false) 77)) := ⟨⟨_, heap_alloc_last w1 _, World.ownsRow_nil _ _ _ _⟩, by simp; omega, by simpa using hst, Nat.le_refl _, hb2⟩
  have hfr := diff1_any ⟨w1.heap.size, 0, none⟩ _ _ _ _ nb ma mb a c D hDD (takes_change w1 w1.heap.size stop most hmo.2 a c hA1.2.2.2.1 hC1.2.2.2.1) _ (hD1.later hb2) (hA1.later hb2) (hC1.later hb2) hJ0
  have hMo : Hid ((D.length : Int) ≤ most) := hmo.1
  clear hmo hDD hdi hst
  unfold yieldV at hfr
  go_wp2_with (go_at_call 37; fail)
  refine hfr.mono ?_
  rintro e w3 ⟨rfl, hE⟩
  have hJ3 : ∃ o, TakerC w3 w1.heap.size (runC stop D) stop most ((runC stop D).length) o false ∧ Below w1.heap.size w1 w3 := by
    rcases hE with hE | ⟨pre, hp, hx⟩
    · have := runC_whole hE.2.2.1
      rw [← this]
      exact ⟨_, hE.1, hE.2.2.2.2⟩
    · have := runC_prefix hMo.out hp hx.2.1
      rw [← this]
      exact ⟨_, hx.1, hx.2.2.2⟩
  obtain ⟨ob, ⟨cv, hT3, hown3⟩, hB3⟩ := hJ3
  obtain ⟨ca, cc, rfl, hcd⟩ := chs_of_own hown3
  have c6 : w3.cell? ⟨w1.heap.size, 6, none⟩ = some (.bool false) := cell_of_row _ _ 6 _ _ _ hT3
  have c1 : w3.cell? ⟨w1.heap.size, 1, none⟩ = some (.slice ca (runC stop D).length cc) := cell_of_row _ _ 1 _ _ _ hT3
  clear hE hfr hJ0 hb2 hown3 hT3
  go_wp2
  go_ret
  exact ⟨ca, cc, rfl, ⟨ca, cc, rfl, hcd⟩, below_step hb1 hB3⟩

theorem changes_any (ma mb : Nat) (a c : Tr) (D : List Ch) (hDD : a.dif c 7 0 = D) (hl : D.length ≤ 5000) (w : World) (hA : MapT w ma a) (hC : MapT w mb c) :
    Calls Tryd.prog 13 #[.pointer (some ⟨ma, 0, none⟩), .pointer (some ⟨mb, 0, none⟩), .int .i64 (-1)] w fun e w' => ∃ ca cc, e = .returned (.slice ca D.length cc) ∧ ChsAt w' (.slice ca D.length cc) D ∧ Below w.heap.size w w' := by
  have hd := differs_any ma mb a c D hDD (-1) 5000 (by omega) (by omega) w hA hC
  rw [show runC (-1) D = D from rfl] at hd
  go_enter Tryd.func13, Tryd.ntmps13
  go_wp2_with (go_at_call 23; refine hd.mono ?_; rintro e w1 ⟨ca, cc, rfl, h1, h2⟩)
  go_ret
  exact ⟨ca, cc, rfl, h1, h2⟩

end Go.Proofs.YtpmfgffhkklfeaaDoor

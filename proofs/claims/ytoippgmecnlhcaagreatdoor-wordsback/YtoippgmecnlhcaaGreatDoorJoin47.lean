import Derived.Test.YtoippgmecnlhcaaGreatDoorTurnWAnyP
import Derived.Test.YtoippgmecnlhcaaGreatDoorJoin25
import Derived.SizedLaws
import Derived.Test.YtoippgmecnlhcaaGreatDoorTurnWPrt
import Derived.Test.YtoippgmecnlhcaaGreatDoorTurnWKnown
namespace Go.Proofs.YtoippgmecnlhcaaGreatDoor
open Go.ChangeShapes Go.WideShapes Go.ChangeAt Go.WideMaps Go.WideElems Go.RowKit Go.Joins

theorem cI64 : Tryz.prog.cellsOf 2 = 1 := by kernel_rfl
theorem cTok : Tryz.prog.cellsOf 60 = 5 := by kernel_rfl
theorem laidOutP : laidOutB Tryz.prog = true := by kernel_rfl

def TkAt (W : World) (b off : Nat) (t : Q.Tk) : Prop := W.cell? ⟨b, off, none⟩ = some (.int .i64 t.1) ∧ W.cell? ⟨b, off + 1, none⟩ = some (.int .i64 t.2.1) ∧ W.cell? ⟨b, off + 2, none⟩ = some (.string ⟨t.2.2.1.toArray⟩) ∧ W.cell? ⟨b, off + 3, none⟩ = some (.int .i64 t.2.2.2.1) ∧ W.cell? ⟨b, off + 4, none⟩ = some (.int .i64 t.2.2.2.2)

theorem mem_weightsAll {H : Type} {P : Program} {e : TypeId} {d : DataW H} {n : Nat} : ∀ {l : List (DataW H)}, d ∈ l → n ∈ d.weights P e → n ∈ DataW.weightsAll P e l
  | x :: l, h, hn => by
    simp only [DataW.weightsAll, List.mem_append]
    rcases List.mem_cons.1 h with rfl | h
    · exact .inl hn
    · exact .inr (mem_weightsAll h hn)

set_option maxRecDepth 100000 in
set_option maxHeartbeats 1000000 in
theorem tok_of {H : Type} {enc : TypeId × Value → H} {W : World} {fuel : Nat} {cs : List Value} {x : DataW H × List MemPlace} {b off : Nat} (hc : ∀ j, j < 5 → W.cell? ⟨b, off + j, none⟩ = cs[j]?) (hcl : cs.length = 5)
    (hf : DataW.trod enc Tryz.prog W 0 (fun _ => true) true fuel 60 cs = some x) (hz : ∀ n ∈ x.1.weights Tryz.prog 60, n ≤ reachBytes) : ∃ o, TkAt W b off o ∧ Q.Rng o := by
  obtain ⟨xs, n, -, hx, -, hl, hg⟩ := DataW.trod_struct Tryz.underlying60 hf
  match cs, hcl, xs, hl with
  | [v0, v1, v2, v3, v4], _, [y0, y1, y2, y3, y4], _ =>
    have g0 := hg 0 _ rfl
    have g1 := hg 1 _ rfl
    have g2 := hg 2 _ rfl
    have g3 := hg 3 _ rfl
    have g4 := hg 4 _ rfl
    simp [cI] at g0 g1
    simp [cS] at g2
    simp [cI64] at g3 g4
    obtain ⟨k, e0, _, _⟩ := DataW.trod_int Tryz.underlying3 g0
    obtain ⟨a, e1, _, _⟩ := DataW.trod_int Tryz.underlying3 g1
    obtain ⟨s, e2, y2e, _⟩ := DataW.trod_string Tryz.underlying9 g2
    obtain ⟨m, e3, _, wm⟩ := DataW.trod_int Tryz.underlying2 g3
    obtain ⟨d, e4, _, wd⟩ := DataW.trod_int Tryz.underlying2 g4
    simp at e0 e1 e2 e3 e4
    subst e0 e1 e2 e3 e4
    have hlen : s.data.toList.length ≤ reachBytes := by
      apply hz
      rw [hx]
      simp only [DataW.weights, Tryz.underlying60]
      exact DataW.weights_mem_each (j := 2) (t := 9) (d := y2.1) rfl rfl _ (by rw [y2e]; simp [DataW.weights])
    refine ⟨(k, a, s.data.toList, m, d), ⟨hc 0 (by omega), hc 1 (by omega), hc 2 (by omega), hc 3 (by omega), hc 4 (by omega)⟩, ?_, range64 wm, range64 wd⟩
    exact hlen

set_option maxRecDepth 100000 in
/-- A list of tokens that came in. -/
theorem open_toks {H : Type} {enc : TypeId × Value → H} {W : World} {base : Nat} {v : Value} {d : DataW H} {ps : List MemPlace} (hval : Value.okWide Tryz.prog W .any base 22 v)
    (h : DataW.Trod enc Tryz.prog W 0 (fun _ => true) true 22 v d ps) (hz : ∀ n ∈ d.weights Tryz.prog 22, n ≤ reachBytes) : ∃ L, Q.TkRow W v L ∧ ∀ t ∈ L, Q.Rng t := by
  obtain ⟨a0, len, cap, rfl⟩ := okWide_slice Tryz.underlying22 hval
  obtain ⟨fuel, hf⟩ := h
  rcases Go.Deep.open_slice Tryz.underlying22 hf with ⟨hcs, hx⟩ | ⟨a, len', cap', m, n, D, Pl, hcs, _, hl, hm, hmm, hx, hcell⟩
  · simp [Value.cells] at hcs
    obtain ⟨rfl, rfl, rfl⟩ := hcs
    exact ⟨[], ⟨none, 0, rfl, .inl rfl⟩, fun t ht => by cases ht⟩
  · simp [Value.cells] at hcs
    obtain ⟨rfl, rfl, rfl⟩ := hcs
    simp only [if_true] at hmm
    rw [hmm] at hcell
    by_cases h0 : len = 0
    · subst h0
      exact ⟨[], ⟨some a, cap, rfl, .inl rfl⟩, fun t ht => by cases ht⟩
    obtain ⟨b, off, spot⟩ := a
    have hspot : spot = none := by
      obtain ⟨cs', h1, -⟩ := hcell 0 (by omega)
      rw [cTok] at h1
      obtain ⟨_, hlen, hc⟩ := World.cells?_some h1
      have h2 := hc 0 (by omega)
      obtain ⟨c, hcc⟩ : ∃ c, cs'[0]? = some c := ⟨cs'[0]'(by omega), List.getElem?_eq_getElem _⟩
      rw [hcc] at h2
      simpa [Addr.add] using World.cell?_spot h2
    subst hspot
    simp only [Prod.mk.injEq] at hx
    have key : ∀ i, i < len → ∃ o, TkAt W b (off + i * 5) o ∧ Q.Rng o := fun i hi => by
      obtain ⟨cs', h1, h2⟩ := hcell i (by omega)
      rw [cTok] at h1
      obtain ⟨_, hlen, hc⟩ := World.cells?_some h1
      refine tok_of (fun j hj => ?_) hlen h2 (fun n hn => hz n ?_)
      · have := hc j hj
        rwa [add_plain, add_plain] at this
      · rw [hx.1]
        simp only [DataW.weights, Tryz.underlying22, List.mem_cons, List.mem_append]
        exact .inr (.inl (mem_weightsAll (d := D i) (List.mem_map.2 ⟨i, List.mem_range.2 hi, rfl⟩) hn))
    obtain ⟨q, hq⟩ : ∃ q : Nat → Q.Tk, ∀ i, i < len → TkAt W b (off + i * 5) (q i) ∧ Q.Rng (q i) := Go.Deep.choose_lt key
    have hlen : ((List.range len).map q).length = len := by simp
    have hb : b < W.heap.size := World.block_lt_of_cell? _ _ (hq 0 (by omega)).1.1
    refine ⟨(List.range len).map q, ⟨some ⟨b, off, none⟩, cap, by rw [hlen], .inr ⟨b, off, rfl, hb, fun i hi => ?_⟩⟩, fun t ht => ?_⟩
    · rw [hlen] at hi
      have := (hq i hi).1
      unfold TkAt at this
      simpa using this
    · obtain ⟨i, hi, rfl⟩ := List.mem_map.1 ht
      exact (hq i (List.mem_range.1 hi)).2

end Go.Proofs.YtoippgmecnlhcaaGreatDoor


namespace Go.Proofs.YtoippgmecnlhcaaGreatDoor.Q
open Go.RowKit Go.Shelf

/-- A token without its place. -/
def bar (x : Itm) : Itm := (x.1, 0, x.2.2)
theorem new5b (W : World) (o : Obj) (x : Itm) (t : TypeId) : ∀ j u, (tokL (bar x))[j]? = some u → ((W.alloc o).alloc (.cells #[.int .i64 (x.1.1 : Int), .int .i64 0, .string ⟨x.1.2.1.toArray⟩, .int .i64 (x.1.2.2.1 : Int), .int .i64 (x.1.2.2.2 : Int)] t)).cell? ((⟨W.heap.size + 1, 0, none⟩ : Addr).add j) = some u := by
  have h := new5 (W.alloc o) (bar x) t
  rw [show (W.alloc o).heap.size = W.heap.size + 1 from by simp] at h
  exact h
set_option maxRecDepth 4000 in
set_option maxHeartbeats 2000000 in
theorem bare_any (v : Value) (L : List Itm) (hl : L.length ≤ 1000000) (w : World) (hv : TokRow w v L) : Calls Tryz.prog 10 #[v] w fun e w' => Below w.heap.size w w' ∧ ∃ v', e = .returned v' ∧ TokRow w' v' (L.map bar) := by
  obtain ⟨i0, hi, hz0, hz1, hz2⟩ := info_parts infoT
  obtain ⟨aa, ca, rfl, hda⟩ := hv
  go_enter Tryz.func10, Tryz.ntmps10
  go_wp2
  go_loopw [3, 4] (fun mv iv wr => ∃ j : Nat, j ≤ L.length ∧ iv = .int .i64 j ∧ wr.ownsRow w.heap.size 60 5 mv j (tokLs ((L.take j).map bar)) ∧ Below w.heap.size w wr) (fun _ iv _ => L.length - (intOf iv).toNat)
  case atStart => exact ⟨0, by omega, rfl, World.ownsRow_nil _ _ _ _, Below.refl _ _⟩
  case round =>
    obtain ⟨j, hj, rfl, ho, hB⟩ := hrel
    by_cases hlt : j < L.length
    · have hlt' : (j : Int) < L.length := by omega
      have hj0 : (0 : Int) ≤ (j : Int) := by omega
      rcases hda with h0 | ⟨ga, oa, rfl, hga, hca⟩
      · rw [h0] at hlt; simp at hlt
      obtain ⟨a0, a1, a2, a3, a4⟩ := hca j hlt
      have htk : Hid (tokLs ((L.take (j + 1)).map bar) = tokLs ((L.take j).map bar) ++ tokL (bar L[j])) := by
        unfold Hid
        rw [List.take_succ_eq_append_getElem hlt, List.map_append, List.map_singleton, tokLs_snoc]
      generalize L[j] = x at *
      have a0' := (hB.cell (p := ⟨ga, _, none⟩) hga).trans a0
      have a1' := (hB.cell (p := ⟨ga, _, none⟩) hga).trans a1
      have a2' := (hB.cell (p := ⟨ga, _, none⟩) hga).trans a2
      have a3' := (hB.cell (p := ⟨ga, _, none⟩) hga).trans a3
      have a4' := (hB.cell (p := ⟨ga, _, none⟩) hga).trans a4
      clear a0 a1 a2 a3 a4 hca
      have hsz := hB.size
      go_wp2_with (at_builtin; go_loud (refine wpList_append_own _ rfl _ _ 22 rfl w.heap.size 60 i0 _ 5 48 Tryz.underlying22 hi hz0 hz1 hz2 rfl (by decide) _ j _ rfl ((ho.alloc _).alloc _) ⟨wr.heap.size + 1, 0, none⟩ 1 1 (tokL (bar x)) rfl rfl (new5b wr _ x _) (tok_one (bar x)) (by unfold maxLen; omega) (by omega) (by simp; omega) ?_); intro v3 w3 hown3 hgrow3 _)
      have hB3 : Below w.heap.size w w3 := ((hB.alloc hsz _).alloc (by simp; omega) _).grown hgrow3 (by simp; omega) (fun j hj => (ho.lt j hj).1)
      go_roundw
      case rel => exact ⟨j + 1, by omega, by go_num, by rw [htk.out]; exact hown3, hB3⟩
      case measure => simp [intOf]; omega
    · have hlt' : ¬ (j : Int) < L.length := by omega
      obtain rfl : j = L.length := by omega
      rw [List.take_length] at ho
      go_wp2
      go_ret
      refine ⟨hB, _, rfl, tokrow_of_own (base := w.heap.size) ?_⟩
      rw [List.length_map]
      exact ho

end Go.Proofs.YtoippgmecnlhcaaGreatDoor.Q


namespace Go.Proofs.YtoippgmecnlhcaaGreatDoor.Q
open Go.RowKit Go.Shelf

/-- Scan, as this statement takes it. -/
theorem scan_row (s : ByteArray) (L : List Itm) (hL : foundL s.data.toList = L) (w : World) (hC : Cls w) (hE : ErrR w) (hM : Mon w) (hS : Sgn w) : Calls Tryz.prog 8 #[.string s] w fun e w' => Below w.heap.size w w' ∧ ((∃ (q n : Nat), n ≠ 0 ∧ (∃ x ∈ L, x.2.2 ≠ 0) ∧ e = .returned (.tuple #[.slice none 0 0, .int .i64 (q : Int), .int .i64 (n : Int)])) ∨ ((∀ x ∈ L, x.2.2 = 0) ∧ ∃ p c, e = .returned (.tuple #[.slice p L.length c, .int .i64 0, .int .i64 0]) ∧ TokRow w' (.slice p L.length c) L)) := by
  subst hL
  refine (scan_any s w hC hE hM hS).mono ?_
  rintro e w' ⟨hb, ⟨pre, x, hL, hx, rfl⟩ | ⟨hall, v, rfl, ho⟩⟩
  · exact ⟨hb, .inl ⟨_, _, hx, ⟨x, by rw [hL]; simp, hx⟩, rfl⟩⟩
  · have hrow := tokrow_of_own ho
    obtain ⟨p, c, rfl⟩ : ∃ p c, v = .slice p (foundL s.data.toList).length c := by
      obtain ⟨_, ⟨rfl, h0⟩ | ⟨g, cap, cur, rfl, _⟩⟩ := ho
      · rw [h0]; exact ⟨_, _, rfl⟩
      · exact ⟨_, _, rfl⟩
    exact ⟨hb, .inr ⟨hall, p, c, rfl, hrow⟩⟩

/-- What is scanned can be written, and how long that is. -/
theorem round_vl {l : List UInt8} (h : ∀ x ∈ foundL l, x.2.2 = 0) : l.length ≤ 8000 ∧ Vl (spl dtx) false ((foundL l).map (·.1)) ∧ (prt (spl dtx) true ((foundL l).map (·.1))).length ≤ 2 * l.length := by
  by_cases hl : 8000 < l.length
  · unfold foundL at h
    rw [if_pos hl] at h
    exact absurd (h ((0, [], 0, 0), 0, 40) (by simp)) (by decide)
  · unfold foundL at h ⊢
    rw [if_neg hl] at h ⊢
    have hn := nx_le (l := l) (a := 0) (Nat.zero_le _)
    obtain ⟨i1, i2⟩ := scan_vl (spl dtx) l (fun p w e hp _ hw => word_spl dtx dtx_back hp hw) (l.length + 1) (nx l 0) false (by omega) hn h
    refine ⟨by omega, i1, ?_⟩
    have i2' : (prt (spl dtx) true ((foundP l (l.length + 1) (nx l 0) false).map (·.1))).length ≤ 2 * (l.length - nx l 0) + 0 := i2
    omega
theorem round_back {ws : List Wd} {T : List UInt8} (hV : Vl (spl dtx) false ws) (hT : prt (spl dtx) true ws = T) (hl : T.length ≤ 8000) : (foundL T).map (·.1) = ws ∧ ∀ x ∈ foundL T, x.2.2 = 0 := by
  unfold foundL
  rw [if_neg (by omega)]
  have hn := nx_le (l := T) (a := 0) (Nat.zero_le _)
  exact prt_found (spl dtx) T ws (T.length + 1) 0 false hV (by omega) (Nat.zero_le _) (by rw [List.drop_zero]; exact hT.symm)
theorem bar_eq : ∀ (L M : List Itm), L.map (·.1) = M.map (·.1) → (∀ x ∈ L, x.2.2 = 0) → (∀ x ∈ M, x.2.2 = 0) → L.map bar = M.map bar
  | [], [], _, _, _ => rfl
  | [], _ :: _, h, _, _ => by cases h
  | _ :: _, [], h, _, _ => by cases h
  | x :: L, y :: M, h, hx, hy => by
    injection h with h1 h2
    rw [List.map_cons, List.map_cons, bar_eq L M h2 (fun z hz => hx z (List.mem_cons_of_mem _ hz)) (fun z hz => hy z (List.mem_cons_of_mem _ hz))]
    have e1 : bar x = bar y := by
      unfold bar
      rw [hx x (by simp), hy y (by simp)]
      simp only at h1
      rw [h1]
    rw [e1]

end Go.Proofs.YtoippgmecnlhcaaGreatDoor.Q

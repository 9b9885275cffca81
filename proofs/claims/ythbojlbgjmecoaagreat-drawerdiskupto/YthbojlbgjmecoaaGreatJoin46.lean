import Derived.Test.YthbojlbgjmecoaaGreatTurnRdU
import Derived.Test.YthbojlbgjmecoaaGreatDlA
import Derived.Deep.DeepMust
/- sameFiles of like lists. -/
namespace Go.Proofs.YthbojlbgjmecoaaGreat.DJ
open Go.RowKit
set_option linter.constructorNameAsVariable false

set_option maxRecDepth 4000 in
set_option maxHeartbeats 2000000 in
theorem sameFiles_same (L : List Fi) (hl : L.length ≤ 9223372036854775807) (a b : Option Addr) (ca cb : Nat) (w : World) (ha : FiAt w a L) (hb : FiAt w b L) :
    Calls Tryz.prog 6 #[.slice a L.length ca, .slice b L.length cb] w fun e w' => e = .returned (.bool true) ∧ ∃ m, w' = w.drewN m := by
  have hne : ((L.length : Int) != (L.length : Int)) = false := by simp
  go_enter Tryz.func6, Tryz.ntmps6
  go_wp2
  go_loopw [5] (fun v wr => ∃ k : Nat, k ≤ L.length ∧ v = .int .i64 (k : Int) ∧ ∃ m, wr = w.drewN m) (fun v _ => L.length - (intOf v).toNat)
  case atStart => exact ⟨0, by omega, rfl, 0, rfl⟩
  case round =>
    obtain ⟨k, hk, rfl, m0, hm0⟩ := hrel
    have hB : Below w.heap.size w wr := by rw [hm0]; exact below_drewN (Below.refl _ _) _
    have hD : Hid (∀ n, ∃ m, wr.drewN n = w.drewN m) := ⟨fun n => by rw [hm0]; exact ⟨m0 + n, (World.drewN_drewN w m0 n)⟩⟩
    have hD0 : Hid (∃ m, wr = w.drewN m) := ⟨⟨m0, hm0⟩⟩
    clear hm0
    by_cases hlt : k < L.length
    · have hlt' : (k : Int) < (L.length : Int) := by omega
      have hk0 : (0 : Int) ≤ (k : Int) := by omega
      obtain ⟨b1, o1, rfl, -, hc⟩ := (ha.later hB).resolve_left (fun e => by rw [e] at hlt; simp at hlt)
      obtain ⟨b2, o2, rfl, -, hc2⟩ := (hb.later hB).resolve_left (fun e => by rw [e] at hlt; simp at hlt)
      obtain ⟨p0, ⟨pa, pc, p1, -, -, pb⟩, p2⟩ := hc k hlt
      obtain ⟨q0, ⟨qa, qc, q1, -, -, qb⟩, q2⟩ := hc2 k hlt
      have hn := fun X (hX : Below wr.heap.size wr X) => sameBytes_any (pb.later hX) (qb.later hX) pc qc
      simp only [decide_true] at hn
      clear hc hc2 pb qb ha hb
      generalize strB L[k].nm = s at *
      generalize L[k].syn = y at *
      generalize L[k].dat.length = n at *
      go_wp2_with fail
      go_quiet ((go_at_call 15; go_must (exact Calls.quiet_of_same (hn _ (below_drewN (Below.refl _ _) _)))))
      go_wp2
      go_roundw
      case rel => exact ⟨k + 1, by omega, by go_num, hD.out _⟩
      case measure => simp [intOf]; omega
    · obtain rfl : k = L.length := by omega
      go_wp2
      go_ret
      exact ⟨rfl, hD0.out⟩
end Go.Proofs.YthbojlbgjmecoaaGreat.DJ


/- The list that a room made of files; its bytes turned. -/
namespace Go.Proofs.YthbojlbgjmecoaaGreat.DJ
open Go.RowKit
set_option linter.constructorNameAsVariable false

def Fl.fi (f : Fl) : Fi := ⟨f.nm, f.dat, (f.sure : Int)⟩
theorem FfO.fi {w : World} {base : Nat} {a : Option Addr} {n c : Nat} {R : List Fl} (h : FfO w base (.slice a n c) R) : FiAt w a (R.map Fl.fi) := by
  rcases h.at_ with h | ⟨b, off, ha, hl, hc⟩
  · exact .inl (by rw [h]; rfl)
  · refine .inr ⟨b, off, ha, hl, fun i hi => ?_⟩
    rw [List.length_map] at hi
    rw [List.getElem_map]
    exact hc i hi
/-- What the bytes of a room's list of files are by now: c. -/
def TuW (W : World) (g : Nat) (E : List (Fi × Nat × Nat)) (c : Nat → Nat → Nat) : Prop := g < W.heap.size ∧ ∀ i (h : i < E.length), W.cell? ⟨g, i * 3, none⟩ = some (.string (strB E[i].1.nm)) ∧ W.cell? ⟨g, i * 3 + 1, none⟩ = some (.slice (some ⟨E[i].2.1, 0, none⟩) E[i].1.dat.length (E[i].1.dat.length + 600)) ∧ W.cell? ⟨g, i * 3 + 2, none⟩ = some (.int .i64 E[i].1.syn) ∧ E[i].2.1 < W.heap.size ∧ (∀ t, t < E[i].1.dat.length → W.cell? ⟨E[i].2.1, t, none⟩ = some (.int .u8 (c i t : Int))) ∧ ∀ t, W.frozen? ⟨E[i].2.1, t, none⟩ = false
theorem RmB.tu {W : World} {lo R g n c2 : Nat} {E : List (Fi × Nat × Nat)} {vb vf : Value} (hn : E.length = n) (h : RmB W lo R E vb vf) (ho : W.ownsRow lo 74 3 (.slice (some ⟨g, 0, none⟩) (n + 40) c2) (n + 40) (fV E ++ mksF 40)) : TuW W g E (fun i t => (((E[i]?).map fun x => x.1.dat.getD t 0)).getD 0) := by
  have hfl := fV_len E
  refine ⟨(ho.lt g rfl).2, fun i hi => ?_⟩
  obtain ⟨q0, q1, q2⟩ := fV_get E i hi
  have hd := h.dat E[i] (List.getElem_mem hi)
  have hbl : (bysV E[i].1.dat).length = E[i].1.dat.length := by simp [bysV]
  obtain ⟨-, cs, r⟩ := own_rowT hd (g := E[i].2.1) rfl
  refine ⟨?_, ?_, ?_, (hd.lt _ rfl).2, fun t ht => ?_, fun t => frozen_of_row _ _ t _ _ r⟩
  · rw [ho.cellAt (i * 3) (by omega), List.getElem?_append_left (by omega)]; exact q0
  · rw [ho.cellAt (i * 3 + 1) (by omega), List.getElem?_append_left (by omega)]; exact q1
  · rw [ho.cellAt (i * 3 + 2) (by omega), List.getElem?_append_left (by omega)]; exact q2
  · have hgo : (((E[i]?).map fun x => x.1.dat.getD t 0)).getD 0 = E[i].1.dat.getD t 0 := by rw [List.getElem?_eq_getElem hi]; rfl
    show _ = some (Value.int .u8 (((((E[i]?).map fun x => x.1.dat.getD t 0)).getD 0 : Nat) : Int))
    rw [hgo, hd.cellAt t (by omega), List.getElem?_append_left (by omega)]
    simp only [bysV, List.getElem?_map, List.getElem?_eq_getElem ht, Option.map_some, List.getD_eq_getElem?_getD, Option.getD_some]
theorem TuW.grS {S : Nat → Prop} {W W' : World} {g : Nat} {E : List (Fi × Nat × Nat)} {c : Nat → Nat → Nat} (h : TuW W g E c) (hg : GrS S W W') (hS : ∀ k, k < W.heap.size → ¬ S k) : TuW W' g E c := by
  refine ⟨Nat.lt_of_lt_of_le h.1 hg.size, fun i hi => ?_⟩
  obtain ⟨q0, q1, q2, q3, q4, q5⟩ := h.2 i hi
  have hb := hg.block _ q3 (hS _ q3)
  exact ⟨(hg.cell h.1 (hS _ h.1)).trans q0, (hg.cell h.1 (hS _ h.1)).trans q1, (hg.cell h.1 (hS _ h.1)).trans q2, Nat.lt_of_lt_of_le q3 hg.size, fun t ht => (hg.cell q3 (hS _ q3)).trans (q4 t ht), fun t => (World.frozen?_of_block (a := ⟨E[i].2.1, t, none⟩) hb).trans (q5 t)⟩
theorem TuW.later {W W' : World} {g : Nat} {E : List (Fi × Nat × Nat)} {c : Nat → Nat → Nat} (h : TuW W g E c) (hb : Below W.heap.size W W') : TuW W' g E c := h.grS (S := fun _ => False) (.of_below hb) (fun _ _ h => h)
/-- One byte turns. -/
theorem TuW.put {W : World} {g : Nat} {E : List (Fi × Nat × Nat)} {c c' : Nat → Nat → Nat} (h : TuW W g E c) (hd : E.Pairwise fun x y => x.2.1 ≠ y.2.1) (hne : ∀ x ∈ E, x.2.1 ≠ g) {i k : Nat} (hi : i < E.length) (hk : k < E[i].1.dat.length) {v : Nat} (hv : c' i k = v) (hc : ∀ j t, (j ≠ i ∨ t ≠ k) → c' j t = c j t) : TuW (W.setCell ⟨E[i].2.1, k, none⟩ (.int .u8 (v : Int))) g E c' ∧ GrS (fun z => z = E[i].2.1) W (W.setCell ⟨E[i].2.1, k, none⟩ (.int .u8 (v : Int))) := by
  have hg := grS_set W E[i].2.1 k (.int .u8 (v : Int))
  refine ⟨⟨Nat.lt_of_lt_of_le h.1 hg.size, fun j hj => ?_⟩, hg⟩
  obtain ⟨q0, q1, q2, q3, q4, q5⟩ := h.2 j hj
  have hgi : ¬ g = E[i].2.1 := fun e => hne _ (List.getElem_mem hi) e.symm
  refine ⟨(hg.cell h.1 hgi).trans q0, (hg.cell h.1 hgi).trans q1, (hg.cell h.1 hgi).trans q2, Nat.lt_of_lt_of_le q3 hg.size, fun t ht => ?_, fun t => by rw [World.frozen?_setCell]; exact q5 t⟩
  by_cases hji : j = i
  · subst hji
    by_cases htk : t = k
    · subst htk
      rw [hv]
      exact World.cell?_setCell_same _ _ _ (q4 t ht)
    · rw [hc j t (.inr htk)]
      exact (World.cell?_setCell_other _ _ _ _ (by intro e; injection e with _ e _; exact htk e.symm)).trans (q4 t ht)
  · rw [hc j t (.inl hji)]
    refine (hg.cell q3 (fun e => ?_)).trans (q4 t ht)
    have := List.pairwise_iff_getElem.1 hd
    rcases Nat.lt_or_gt_of_ne hji with hlt | hlt
    · exact this j i hj hi hlt e
    · exact this i j hi hj hlt e.symm
/-- The bytes that a list says when all are turned. -/
def incF (f : Fi) : Fi := ⟨f.nm, f.dat.map fun x => (x + 1) % 256, f.syn⟩
/-- By now: all of the files ahead of i, k bytes of file i. -/
def nowC (L : List Fi) (i k j t : Nat) : Nat := (fun x => if j < i ∨ (j = i ∧ t < k) then (x + 1) % 256 else x) (((L[j]?).map fun f => f.dat.getD t 0).getD 0)
theorem nowC_zero (L : List Fi) : nowC L 0 0 = fun j t => ((L[j]?).map fun f => f.dat.getD t 0).getD 0 := by
  funext j t
  unfold nowC
  simp
theorem nowC_next (L : List Fi) {i : Nat} (hi : i < L.length) : ∀ j t, j < L.length → t < (L[j]?.map fun f => f.dat.length).getD 0 → nowC L i (L[i].dat.length) j t = nowC L (i + 1) 0 j t := fun j t hj ht => by
  unfold nowC
  by_cases h : j = i
  · subst h
    rw [List.getElem?_eq_getElem hi] at ht
    simp only [Option.map_some, Option.getD_some] at ht
    simp [ht]
  · have e : (j < i ∨ j = i ∧ t < L[i].dat.length) = (j < i + 1 ∨ j = i + 1 ∧ t < 0) := by
      apply propext
      constructor
      · rintro (h1 | ⟨h1, -⟩)
        · exact .inl (by omega)
        · exact absurd h1 h
      · rintro (h1 | ⟨-, h1⟩)
        · exact .inl (by omega)
        · omega
    simp only [e]
theorem TuW.re {W : World} {g : Nat} {E : List (Fi × Nat × Nat)} {c c' : Nat → Nat → Nat} (h : TuW W g E c) (hc : ∀ j (hj : j < E.length) t, t < E[j].1.dat.length → c j t = c' j t) : TuW W g E c' :=
  ⟨h.1, fun i hi => by
    obtain ⟨q0, q1, q2, q3, q4, q5⟩ := h.2 i hi
    exact ⟨q0, q1, q2, q3, fun t ht => by rw [← hc i hi t ht]; exact q4 t ht, q5⟩⟩
theorem TuW.done {W : World} {g : Nat} {E : List (Fi × Nat × Nat)} {L : List Fi} (hE : E.map Prod.fst = L) (hb : ∀ f ∈ L, ∀ x ∈ f.dat, x < 256) (h : TuW W g E (nowC L L.length 0)) : FiAt W (some ⟨g, 0, none⟩) (L.map incF) := by
  subst hE
  refine .inr ⟨g, 0, rfl, h.1, fun i hi => ?_⟩
  have hi' : i < E.length := by simpa using hi
  obtain ⟨q0, q1, q2, q3, q4, q5⟩ := h.2 i hi'
  have e : ((E.map Prod.fst).map incF)[i] = incF E[i].1 := by rw [List.getElem_map, List.getElem_map]
  rw [e, Nat.zero_add]
  have hl : (incF E[i].1).dat.length = E[i].1.dat.length := by simp [incF]
  refine ⟨q0, ⟨some ⟨E[i].2.1, 0, none⟩, E[i].1.dat.length + 600, by rw [hl]; exact q1, fun e => (by cases e), (by omega), fun x hx => ?_, .inr ⟨_, 0, rfl, q3, fun t ht => ?_⟩⟩, q2⟩
  · obtain ⟨y, -, rfl⟩ := List.mem_map.1 hx
    omega
  · have ht' : t < E[i].1.dat.length := by omega
    have hgm : (incF E[i].1).dat[t]'ht = (E[i].1.dat[t] + 1) % 256 := by simp [incF]
    rw [Nat.zero_add, q4 t ht', hgm]
    unfold nowC
    simp only [List.length_map, List.getElem?_map, List.getElem?_eq_getElem hi', Option.map_some, Option.getD_some, hi', true_or, if_true, List.getD_eq_getElem?_getD, List.getElem?_eq_getElem ht']
/-- Ahead of all turning. -/
theorem TuW.at0 {W : World} {g : Nat} {E : List (Fi × Nat × Nat)} {L : List Fi} (hE : E.map Prod.fst = L) (hb : ∀ f ∈ L, ∀ x ∈ f.dat, x < 256) (h : TuW W g E (nowC L 0 0)) : FiAt W (some ⟨g, 0, none⟩) L := by
  subst hE
  refine .inr ⟨g, 0, rfl, h.1, fun i hi => ?_⟩
  have hi' : i < E.length := by simpa using hi
  obtain ⟨q0, q1, q2, q3, q4, q5⟩ := h.2 i hi'
  rw [List.getElem_map, Nat.zero_add]
  refine ⟨q0, ⟨some ⟨E[i].2.1, 0, none⟩, E[i].1.dat.length + 600, q1, fun e => (by cases e), (by omega), fun x hx => hb _ (List.mem_map.2 ⟨E[i], List.getElem_mem hi', rfl⟩) x hx, .inr ⟨_, 0, rfl, q3, fun t ht => ?_⟩⟩, q2⟩
  rw [Nat.zero_add, q4 t ht]
  unfold nowC
  simp only [List.getElem?_map, List.getElem?_eq_getElem hi', Option.map_some, Option.getD_some, List.getD_eq_getElem?_getD, List.getElem?_eq_getElem ht]
  simp
end Go.Proofs.YthbojlbgjmecoaaGreat.DJ

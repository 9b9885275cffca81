import Derived.Test.YtdhjpnnpeicpiaaGreatDoorTurnWSame
import Derived.Test.YtdhjpnnpeicpiaaGreatDoorJoin13
namespace Go.Proofs.YtdhjpnnpeicpiaaGreatDoor.Q
open Go.RowKit Go.Shelf

/-- A token without its place. -/
def bar (x : Itm) : Itm := (x.1, 0, x.2.2)
theorem new5b (W : World) (o : Obj) (x : Itm) (t : TypeId) : ∀ j u, (tokL (bar x))[j]? = some u → ((W.alloc o).alloc (.cells #[.int .i64 (x.1.1 : Int), .int .i64 0, .string ⟨x.1.2.1.toArray⟩, .int .i64 (x.1.2.2.1 : Int), .int .i64 (x.1.2.2.2 : Int)] t)).cell? ((⟨W.heap.size + 1, 0, none⟩ : Addr).add j) = some u := by
  have h := new5 (W.alloc o) (bar x) t
  rw [show (W.alloc o).heap.size = W.heap.size + 1 from by simp] at h
  exact h
set_option maxRecDepth 4000 in
set_option maxHeartbeats 2000000 in
theorem bare_any (v : Value) (L : List Itm) (hl : L.length ≤ 1000000) (w : World) (hv : TokRow w v L) : Calls Tryz.prog 9 #[v] w fun e w' => Below w.heap.size w w' ∧ ∃ v', e = .returned v' ∧ TokRow w' v' (L.map bar) := by
  obtain ⟨i0, hi, hz0, hz1, hz2⟩ := info_parts infoT
  obtain ⟨aa, ca, rfl, hda⟩ := hv
  go_enter Tryz.func9, Tryz.ntmps9
  go_wp2
  go_loopw [3, 4] (fun mv iv wr => ∃ j : Nat, j ≤ L.length ∧ iv = .int .i64 j ∧ wr.ownsRow w.heap.size 34 5 mv j (tokLs ((L.take j).map bar)) ∧ Below w.heap.size w wr) (fun _ iv _ => L.length - (intOf iv).toNat)
  case atStart => exact ⟨0, by omega, rfl, World.ownsRow_nil _ _ _ _, Below.refl _ _⟩
  case round =>
    obtain ⟨j, hj, rfl, ho, hB⟩ := hrel
    by_cases hlt : j < L.length
    · have hlt' : (j : Int) < L.length := by omega
      have hj0 : (0 : Int) ≤ (j : Int) := by omega
      rcases hda with h0 | ⟨ga, oa, rfl, hga, hca⟩
      · rw [h0] at hlt; simp at hlt
      obtain ⟨a0, a1, a2, a3, a4⟩ := hca j hlt
      have htk : Hid (tokLs ((L.take (j + 1)).map bar) = tokLs ((L.take j).map bar) ++ tokL (bar L[j])) := by
        unfold Hid
        rw [List.take_succ_eq_append_getElem hlt, List.map_append, List.map_singleton, tokLs_snoc]
      generalize L[j] = x at *
      have a0' := (hB.cell (p := ⟨ga, _, none⟩) hga).trans a0
      have a1' := (hB.cell (p := ⟨ga, _, none⟩) hga).trans a1
      have a2' := (hB.cell (p := ⟨ga, _, none⟩) hga).trans a2
      have a3' := (hB.cell (p := ⟨ga, _, none⟩) hga).trans a3
      have a4' := (hB.cell (p := ⟨ga, _, none⟩) hga).trans a4
      clear a0 a1 a2 a3 a4 hca
      have hsz := hB.size
      go_wp2_with (at_builtin; go_loud (refine wpList_append_own _ rfl _ _ 23 rfl w.heap.size 34 i0 _ 5 48 Tryz.underlying23 hi hz0 hz1 hz2 rfl (by decide) _ j _ rfl ((ho.alloc _).alloc _) ⟨wr.heap.size + 1, 0, none⟩ 1 1 (tokL (bar x)) rfl rfl (new5b wr _ x _) (tok_one (bar x)) (by unfold maxLen; omega) (by omega) (by simp; omega) ?_); intro v3 w3 hown3 hgrow3 _)
      have hB3 : Below w.heap.size w w3 := ((hB.alloc hsz _).alloc (by simp; omega) _).grown hgrow3 (by simp; omega) (fun j hj => (ho.lt j hj).1)
      go_roundw
      case rel => exact ⟨j + 1, by omega, by go_num, by rw [htk.out]; exact hown3, hB3⟩
      case measure => simp [intOf]; omega
    · have hlt' : ¬ (j : Int) < L.length := by omega
      obtain rfl : j = L.length := by omega
      rw [List.take_length] at ho
      go_wp2
      go_ret
      refine ⟨hB, _, rfl, tokrow_of_own (base := w.heap.size) ?_⟩
      rw [List.length_map]
      exact ho

end Go.Proofs.YtdhjpnnpeicpiaaGreatDoor.Q


/- The signs in another order: the first that fits is the same. No program. -/
namespace Go.Proofs.YtdhjpnnpeicpiaaGreatDoor.Q

def refSigns : List (List UInt8) := [[33, 61], [60, 61], [62, 61], [40], [41], [44], [58], [46], [61], [60], [62], [43], [45], [42], [47]]
theorem pre_one (k c : UInt8) (y : List UInt8) : [k].isPrefixOf (c :: y) = (k == c) := by simp [List.isPrefixOf]
theorem pre_two (k d c : UInt8) (y : List UInt8) : [k, d].isPrefixOf (c :: y) = (k == c && (y.head? == some d)) := by
  cases y with
  | nil => simp [List.isPrefixOf]
  | cons e y =>
    simp [List.isPrefixOf]
    rw [Bool.beq_comm (a := d)]
def sgF (L : List (List UInt8)) (c : UInt8) (b : Bool) : Option (List UInt8) := L.find? (fun s => match s with | [k] => k == c | [k, _] => k == c && b | _ => false)
theorem sg_same : ∀ (n : Fin 256) (b : Bool), sgF signsL (UInt8.ofNat n.val) b = sgF refSigns (UInt8.ofNat n.val) b := by decide +kernel
theorem sg_find (L : List (List UInt8)) (hL : ∀ s ∈ L, (∃ k, s = [k]) ∨ ∃ k, s = [k, 61]) (c : UInt8) (y : List UInt8) : L.find? (fun s => s.isPrefixOf (c :: y)) = sgF L c (y.head? == some 61) := by
  unfold sgF
  induction L with
  | nil => rfl
  | cons s L ih =>
    have ih' := ih (fun t ht => hL t (List.mem_cons_of_mem _ ht))
    rw [List.find?_cons, List.find?_cons]
    rcases hL s (by simp) with ⟨k, rfl⟩ | ⟨k, rfl⟩
    · rw [pre_one, ih']
    · rw [pre_two, ih']
theorem signs_same (x : List UInt8) : refSigns.find? (fun s => s.isPrefixOf x) = signsL.find? (fun s => s.isPrefixOf x) := by
  cases x with
  | nil => rfl
  | cons c y =>
    rw [sg_find refSigns (by intro s hs; simp only [refSigns, List.mem_cons, List.not_mem_nil, or_false] at hs; rcases hs with h | h | h | h | h | h | h | h | h | h | h | h | h | h | h <;> subst h <;> first | exact .inr ⟨_, rfl⟩ | exact .inl ⟨_, rfl⟩), sg_find signsL (by intro s hs; simp only [signsL, List.mem_cons, List.not_mem_nil, or_false] at hs; rcases hs with h | h | h | h | h | h | h | h | h | h | h | h | h | h | h <;> subst h <;> first | exact .inr ⟨_, rfl⟩ | exact .inl ⟨_, rfl⟩)]
    have := sg_same ⟨c.toNat, c.toNat_lt⟩ (y.head? == some 61)
    simp only [UInt8.ofNat_toNat] at this
    exact this.symm

end Go.Proofs.YtdhjpnnpeicpiaaGreatDoor.Q

import Derived.Test.YtmppgcijbeipfaaDoorTGet
import Derived.ChangeKeysEq
namespace Go.Proofs.YtmppgcijbeipfaaDoor
open Go.RowKit

theorem part_cell {P : Program} {e : TypeId} {d : TypeDesc} (hu : P.underlying e = some d) (hd : (match d with | .struct _ | .array _ _ => true | _ => false) = false) {cs : Array Value} {i : Nat} {x : Value} (hx : cs[i]? = some x) (w : World) : (part e cs i).run P w = .ok x w := by
  have hagg : (isAgg e).run P w = .ok false w := by
    unfold isAgg
    rw [Sem.run_bind, run_underlying hu w]
    cases d <;> simp_all
  simp [part, Sem.run_bind, hagg, hx]

theorem eqItems_cells {P : Program} (d : Nat) {e : TypeId} {desc : TypeDesc} (hu : P.underlying e = some desc) (hd : (match desc with | .struct _ | .array _ _ => true | _ => false) = false) (xs ys : Array Value) (x y : Nat → Value) (r : Nat → Bool) (w : World) : ∀ is : List Nat,
    (∀ i ∈ is, xs[i]? = some (x i) ∧ ys[i]? = some (y i) ∧ (Op.equalIn d e (x i) (y i)).run P w = .ok (r i) w) → (Op.eqItems d e 1 xs ys is).run P w = .ok (is.all r) w
  | [], _ => by simp [Op.eqItems]
  | i :: is, h => by
    obtain ⟨h1, h2, h3⟩ := h i (by simp)
    have ih := eqItems_cells d hu hd xs ys x y r w is (fun j hj => h j (by simp [hj]))
    simp only [Op.eqItems, Sem.run_bind, Nat.mul_one, part_cell hu hd h1, part_cell hu hd h2, h3, Result.andThen_ok]
    cases hr : r i
    · simp [hr]
    · simpa [hr] using ih

theorem all16 (r : Nat → Bool) (o : Bool) (h : o = true ↔ ∀ i, i < 16 → r i = true) : (List.range 16).all r = o := by
  rw [Bool.eq_iff_iff, h]
  simp

theorem cB : Tryd.prog.cellsOf 4 = 1 := by kernel_rfl
theorem cN : Tryd.prog.cellsOf 70 = 1 := by kernel_rfl

theorem eq_bools (th : Nat → Bool) (o : Bool) (ho : o = true ↔ ∀ i, i < 16 → th i = false) (w : World) : (Op.equalIn 10000 105 (.agg #[.bool (th 0), .bool (th 1), .bool (th 2), .bool (th 3), .bool (th 4), .bool (th 5), .bool (th 6), .bool (th 7), .bool (th 8), .bool (th 9), .bool (th 10), .bool (th 11), .bool (th 12), .bool (th 13), .bool (th 14), .bool (th 15)]) (.agg #[.bool false, .bool false, .bool false, .bool false, .bool false, .bool false, .bool false, .bool false, .bool false, .bool false, .bool false, .bool false, .bool false, .bool false, .bool false, .bool false])).run Tryd.prog w = .ok o w := by
  obtain ⟨i0, hi⟩ : ∃ i, Tryd.prog.info? 4 = some i := Option.isSome_iff_exists.1 (by kernel_rfl)
  rw [run_equalIn_array w 9999 _ _ Tryd.underlying105 hi, cB, eqItems_cells 9999 Tryd.underlying4 rfl _ _ (fun i => .bool (th i)) (fun _ => .bool false) (fun i => th i == false) w _ (fun i hm => ?_), all16 _ o (by rw [ho]; simp)]
  have hi := List.mem_range.1 hm
  exact ⟨below16 (P := fun i => (#[.bool (th 0), .bool (th 1), .bool (th 2), .bool (th 3), .bool (th 4), .bool (th 5), .bool (th 6), .bool (th 7), .bool (th 8), .bool (th 9), .bool (th 10), .bool (th 11), .bool (th 12), .bool (th 13), .bool (th 14), .bool (th 15)] : Array Value)[i]? = some (.bool (th i))) ⟨rfl, rfl, rfl, rfl, rfl, rfl, rfl, rfl, rfl, rfl, rfl, rfl, rfl, rfl, rfl, rfl⟩ i hi, below16 (P := fun i => (#[.bool false, .bool false, .bool false, .bool false, .bool false, .bool false, .bool false, .bool false, .bool false, .bool false, .bool false, .bool false, .bool false, .bool false, .bool false, .bool false] : Array Value)[i]? = some (.bool false)) ⟨rfl, rfl, rfl, rfl, rfl, rfl, rfl, rfl, rfl, rfl, rfl, rfl, rfl, rfl, rfl, rfl⟩ i hi, run_equalIn_bool w 9998 _ _ _ Tryd.underlying4⟩

set_option maxRecDepth 8000 in
theorem eq_kids (kv : Nat → Value) (hk : ∀ i, i < 16 → ∃ u, kv i = .pointer u) (o : Bool) (ho : o = true ↔ ∀ i, i < 16 → kv i = .pointer none) (w : World) : (Op.equalIn 10000 79 (.agg #[kv 0, kv 1, kv 2, kv 3, kv 4, kv 5, kv 6, kv 7, kv 8, kv 9, kv 10, kv 11, kv 12, kv 13, kv 14, kv 15]) (.agg #[.pointer none, .pointer none, .pointer none, .pointer none, .pointer none, .pointer none, .pointer none, .pointer none, .pointer none, .pointer none, .pointer none, .pointer none, .pointer none, .pointer none, .pointer none, .pointer none])).run Tryd.prog w = .ok o w := by
  obtain ⟨i0, hi⟩ : ∃ i, Tryd.prog.info? 70 = some i := Option.isSome_iff_exists.1 (by kernel_rfl)
  rw [run_equalIn_array w 9999 _ _ Tryd.underlying79 hi, cN, eqItems_cells 9999 Tryd.underlying70 rfl _ _ kv (fun _ => .pointer none) (fun i => match kv i with | .pointer none => true | _ => false) w _ (fun i hm => ?_), all16 _ o ?_]
  · rw [ho]
    constructor
    · intro h i hi; rw [h i hi]
    · intro h i hi
      obtain ⟨u, hu⟩ := hk i hi
      have := h i hi
      rw [hu] at this ⊢
      cases u with
      | none => rfl
      | some a => cases this
  · have hi := List.mem_range.1 hm
    refine ⟨below16 (P := fun i => (#[kv 0, kv 1, kv 2, kv 3, kv 4, kv 5, kv 6, kv 7, kv 8, kv 9, kv 10, kv 11, kv 12, kv 13, kv 14, kv 15] : Array Value)[i]? = some (kv i)) ⟨rfl, rfl, rfl, rfl, rfl, rfl, rfl, rfl, rfl, rfl, rfl, rfl, rfl, rfl, rfl, rfl⟩ i hi, below16 (P := fun i => (#[.pointer none, .pointer none, .pointer none, .pointer none, .pointer none, .pointer none, .pointer none, .pointer none, .pointer none, .pointer none, .pointer none, .pointer none, .pointer none, .pointer none, .pointer none, .pointer none] : Array Value)[i]? = some (.pointer none)) ⟨rfl, rfl, rfl, rfl, rfl, rfl, rfl, rfl, rfl, rfl, rfl, rfl, rfl, rfl, rfl, rfl⟩ i hi, ?_⟩
    obtain ⟨u, hu⟩ := hk i hi
    rw [hu]
    have := run_equalIn_pointer_nil (P := Tryd.prog) w 9998 70 u Tryd.underlying70
    rw [this]
    cases u <;> rfl

set_option maxRecDepth 4000 in
set_option maxHeartbeats 1000000 in
theorem bare_shelf (b s : Nat) (th : Nat → Bool) (vk vn : Nat → Int) (kv : Nat → Value) (w : World) (hN : NodeAt w b kv (.pointer (some ⟨s, 0, none⟩))) (hS : ShelfAt w s th vk vn) (o : Bool) (ho : o = true ↔ ∀ i, i < 16 → th i = false) : Calls Tryd.prog 47 #[.pointer (some ⟨b, 0, none⟩)] w fun e w' => e = .returned (.bool o) ∧ Below w.heap.size w w' := by
  have c0 := hN.shelf
  have heq := eq_bools th o ho
  clear ho
  have t0 := hS.th (i := 0) (by omega)
  have t1 := hS.th (i := 1) (by omega)
  have t2 := hS.th (i := 2) (by omega)
  have t3 := hS.th (i := 3) (by omega)
  have t4 := hS.th (i := 4) (by omega)
  have t5 := hS.th (i := 5) (by omega)
  have t6 := hS.th (i := 6) (by omega)
  have t7 := hS.th (i := 7) (by omega)
  have t8 := hS.th (i := 8) (by omega)
  have t9 := hS.th (i := 9) (by omega)
  have t10 := hS.th (i := 10) (by omega)
  have t11 := hS.th (i := 11) (by omega)
  have t12 := hS.th (i := 12) (by omega)
  have t13 := hS.th (i := 13) (by omega)
  have t14 := hS.th (i := 14) (by omega)
  have t15 := hS.th (i := 15) (by omega)
  go_enter Tryd.func47, Tryd.ntmps47
  go_wp2
  go_ret
  exact ⟨rfl, Below.refl _ _⟩

set_option maxRecDepth 4000 in
set_option maxHeartbeats 1000000 in
theorem bare_kids (b : Nat) (kv : Nat → Value) (hk : ∀ i, i < 16 → ∃ u, kv i = .pointer u) (w : World) (hN : NodeAt w b kv (.pointer none)) (o : Bool) (ho : o = true ↔ ∀ i, i < 16 → kv i = .pointer none) : Calls Tryd.prog 47 #[.pointer (some ⟨b, 0, none⟩)] w fun e w' => e = .returned (.bool o) ∧ Below w.heap.size w w' := by
  have c0 := hN.shelf
  have heq := eq_kids kv hk o ho
  clear ho hk
  have t0 := hN.kid (i := 0) (by omega)
  have t1 := hN.kid (i := 1) (by omega)
  have t2 := hN.kid (i := 2) (by omega)
  have t3 := hN.kid (i := 3) (by omega)
  have t4 := hN.kid (i := 4) (by omega)
  have t5 := hN.kid (i := 5) (by omega)
  have t6 := hN.kid (i := 6) (by omega)
  have t7 := hN.kid (i := 7) (by omega)
  have t8 := hN.kid (i := 8) (by omega)
  have t9 := hN.kid (i := 9) (by omega)
  have t10 := hN.kid (i := 10) (by omega)
  have t11 := hN.kid (i := 11) (by omega)
  have t12 := hN.kid (i := 12) (by omega)
  have t13 := hN.kid (i := 13) (by omega)
  have t14 := hN.kid (i := 14) (by omega)
  have t15 := hN.kid (i := 15) (by omega)
  go_enter Tryd.func47, Tryd.ntmps47
  go_wp2
  go_ret
  exact ⟨rfl, Below.refl _ _⟩

end Go.Proofs.YtmppgcijbeipfaaDoor

import Derived.Test.YtekapipfaahhcaaGreatDoorWSpec
/- The signs in another order: the first that fits is the same. No program. -/
namespace Go.Proofs.YtekapipfaahhcaaGreatDoor.Q

def refSigns : List (List UInt8) := [[33, 61], [60, 61], [62, 61], [40], [41], [44], [58], [46], [61], [60], [62], [43], [45], [42], [47]]
theorem pre_one (k c : UInt8) (y : List UInt8) : [k].isPrefixOf (c :: y) = (k == c) := by simp [List.isPrefixOf]
theorem pre_two (k d c : UInt8) (y : List UInt8) : [k, d].isPrefixOf (c :: y) = (k == c && (y.head? == some d)) := by
  cases y with
  | nil => simp [List.isPrefixOf]
  | cons e y =>
    simp [List.isPrefixOf]
    rw [Bool.beq_comm (a := d)]
def sgF (L : List (List UInt8)) (c : UInt8) (b : Bool) : Option (List UInt8) := L.find? (fun s => match s with | [k] => k == c | [k, _] => k == c && b | _ => false)
theorem sg_same : ∀ (n : Fin 256) (b : Bool), sgF signsL (UInt8.ofNat n.val) b = sgF refSigns (UInt8.ofNat n.val) b := by decide +kernel
theorem sg_find (L : List (List UInt8)) (hL : ∀ s ∈ L, (∃ k, s = [k]) ∨ ∃ k, s = [k, 61]) (c : UInt8) (y : List UInt8) : L.find? (fun s => s.isPrefixOf (c :: y)) = sgF L c (y.head? == some 61) := by
  unfold sgF
  induction L with
  | nil => rfl
  | cons s L ih =>
    have ih' := ih (fun t ht => hL t (List.mem_cons_of_mem _ ht))
    rw [List.find?_cons, List.find?_cons]
    rcases hL s (by simp) with ⟨k, rfl⟩ | ⟨k, rfl⟩
    · rw [pre_one, ih']
    · rw [pre_two, ih']
theorem signs_same (x : List UInt8) : refSigns.find? (fun s => s.isPrefixOf x) = signsL.find? (fun s => s.isPrefixOf x) := by
  cases x with
  | nil => rfl
  | cons c y =>
    rw [sg_find refSigns (by intro s hs; simp only [refSigns, List.mem_cons, List.not_mem_nil, or_false] at hs; rcases hs with h | h | h | h | h | h | h | h | h | h | h | h | h | h | h <;> subst h <;> first | exact .inr ⟨_, rfl⟩ | exact .inl ⟨_, rfl⟩), sg_find signsL (by intro s hs; simp only [signsL, List.mem_cons, List.not_mem_nil, or_false] at hs; rcases hs with h | h | h | h | h | h | h | h | h | h | h | h | h | h | h <;> subst h <;> first | exact .inr ⟨_, rfl⟩ | exact .inl ⟨_, rfl⟩)]
    have := sg_same ⟨c.toNat, c.toNat_lt⟩ (y.head? == some 61)
    simp only [UInt8.ofNat_toNat] at this
    exact this.symm

end Go.Proofs.YtekapipfaahhcaaGreatDoor.Q

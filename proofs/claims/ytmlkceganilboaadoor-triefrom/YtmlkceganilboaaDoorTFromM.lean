import Derived.Test.YtmlkceganilboaaDoorTSearch
namespace Go.Proofs.YtmlkceganilboaaDoor

/-- Which keys a search from low on gives. -/
def atLeast (low : Nat) (e : Nat × (Int × Int)) : Bool := decide (low ≤ e.1)

theorem range_split (a : Nat) (ha : a < 16) : List.range 16 = List.range a ++ a :: (List.range 16).drop (a + 1) := by
  have : a = 0 ∨ a = 1 ∨ a = 2 ∨ a = 3 ∨ a = 4 ∨ a = 5 ∨ a = 6 ∨ a = 7 ∨ a = 8 ∨ a = 9 ∨ a = 10 ∨ a = 11 ∨ a = 12 ∨ a = 13 ∨ a = 14 ∨ a = 15 := by omega
  rcases this with rfl | rfl | rfl | rfl | rfl | rfl | rfl | rfl | rfl | rfl | rfl | rfl | rfl | rfl | rfl | rfl <;> decide
theorem range_drop (a : Nat) (ha : a < 16) : (List.range 16).drop a = a :: (List.range 16).drop (a + 1) := by
  have h := range_split a ha
  have h2 : (List.range 16).drop a = (List.range a ++ a :: (List.range 16).drop (a + 1)).drop a := congrArg (List.drop a) h
  rw [h2, List.drop_append_of_le_length (by simp), List.drop_of_length_le (by simp)]
  rfl
theorem mem_range_drop {a i : Nat} (h : i ∈ (List.range 16).drop (a + 1)) : a < i ∧ i < 16 := by
  obtain ⟨k, hk, e⟩ := List.mem_iff_getElem.1 h
  simp at e hk
  omega

theorem filter_flat {α β : Type} (p : β → Bool) (f : α → List β) (l : List α) : (l.flatMap f).filter p = l.flatMap fun a => (f a).filter p := by
  induction l with
  | nil => rfl
  | cons a l ih => simp [List.filter_append, ih]
theorem flat_nil {α β : Type} {f : α → List β} {l : List α} (h : ∀ a ∈ l, f a = []) : l.flatMap f = [] := by
  induction l with
  | nil => rfl
  | cons a l ih => rw [List.flatMap_cons, h a (by simp), ih (fun b hb => h b (by simp [hb]))]; rfl
theorem flat_congr {α β : Type} {f g : α → List β} {l : List α} (h : ∀ a ∈ l, f a = g a) : l.flatMap f = l.flatMap g := by
  induction l with
  | nil => rfl
  | cons a l ih => rw [List.flatMap_cons, List.flatMap_cons, h a (by simp), ih (fun b hb => h b (by simp [hb]))]

theorem low_split (low n : Nat) : low % 16 ^ (n + 1 + 1) = dg low (n + 1) * 16 ^ (n + 1) + low % 16 ^ (n + 1) := by
  have h := Nat.mod_mul (a := 16 ^ (n + 1)) (b := 16) (x := low)
  rw [← Nat.pow_succ] at h
  rw [h, dg]
  rw [Nat.mul_comm]
  omega

/-- A search from low on gives those entries that are not below it. -/
theorem fromL_filter : ∀ (n : Nat) {t : Tr}, t.wf n → ∀ (p low : Nat), t.fromL n p low = (t.ents n p).filter (atLeast (p + low % 16 ^ (n + 1)))
  | 0, t, hw, p, low => by
    cases t with
    | nil => rfl
    | node b kids => exact absurd hw.1 (by omega)
    | leaf b s th vk vn =>
      have hd := dg_lt low 0
      have hdl : low % 16 ^ (0 + 1) = dg low 0 := by simp [dg]
      show ((List.range 16).drop (dg low 0)).filterMap (fun i => if th i = true then some (p + i, (vk i, vn i)) else none) = ((List.range 16).filterMap (fun i => if th i = true then some (p + i, (vk i, vn i)) else none)).filter _
      rw [hdl]
      conv => rhs; rw [range_split _ hd]
      rw [List.filterMap_append, List.filter_append]
      have h1 : ((List.range (dg low 0)).filterMap (fun i => if th i = true then some (p + i, (vk i, vn i)) else none)).filter (atLeast (p + dg low 0)) = [] := by
        rw [List.filter_eq_nil_iff]
        intro e he
        obtain ⟨i, hi, hx⟩ := List.mem_filterMap.1 he
        split at hx
        · obtain rfl := Option.some.inj hx
          simp [atLeast]
          simpa using hi
        · cases hx
      rw [h1, List.nil_append, ← range_drop _ hd]
      symm
      rw [List.filter_eq_self]
      intro e he
      obtain ⟨i, hi, hx⟩ := List.mem_filterMap.1 he
      rw [range_drop _ hd] at hi
      split at hx
      · obtain rfl := Option.some.inj hx
        simp only [atLeast, decide_eq_true_eq]
        rcases List.mem_cons.1 hi with rfl | hi
        · exact Nat.le_refl _
        · have := mem_range_drop hi; omega
      · cases hx
  | n + 1, t, hw, p, low => by
    cases t with
    | nil => rfl
    | leaf => exact absurd hw.1 (by omega)
    | node b kids =>
      have hd := dg_lt low (n + 1)
      have hkid : ∀ i, i < 16 → (kids i).wf n := hw.2.1
      have hlow := low_split low n
      have hml : low % 16 ^ (n + 1) < 16 ^ (n + 1) := Nat.mod_lt _ (Nat.pos_of_ne_zero (by simp))
      show ((List.range 16).drop (dg low (n + 1))).flatMap (fun i => (kids i).fromL n (p + i * 16 ^ (n + 1)) (if i = dg low (n + 1) then low else 0)) = ((List.range 16).flatMap fun i => (kids i).ents n (p + i * 16 ^ (n + 1))).filter _
      rw [filter_flat]
      conv => rhs; rw [range_split _ hd]
      rw [List.flatMap_append]
      have h1 : ((List.range (dg low (n + 1))).flatMap fun i => ((kids i).ents n (p + i * 16 ^ (n + 1))).filter (atLeast (p + low % 16 ^ (n + 1 + 1)))) = [] := by
        refine flat_nil fun i hi => ?_
        have hi' : i < dg low (n + 1) := by simpa using hi
        rw [List.filter_eq_nil_iff]
        intro e he
        have hr := ents_range (hkid i (by omega)) he
        have hm : (i + 1) * 16 ^ (n + 1) ≤ dg low (n + 1) * 16 ^ (n + 1) := Nat.mul_le_mul_right _ hi'
        rw [Nat.add_mul, Nat.one_mul] at hm
        simp only [atLeast, decide_eq_true_eq]
        omega
      rw [h1, List.nil_append, ← range_drop _ hd]
      refine flat_congr fun i hi => ?_
      rw [range_drop _ hd] at hi
      rcases List.mem_cons.1 hi with rfl | hi
      · rw [if_pos rfl, fromL_filter n (hkid _ hd)]
        congr 2
        omega
      · have hi2 := mem_range_drop hi
        rw [if_neg (by omega), fromL_all]
        symm
        rw [List.filter_eq_self]
        intro e he
        have hr := ents_range (hkid i hi2.2) he
        have hm : (dg low (n + 1) + 1) * 16 ^ (n + 1) ≤ i * 16 ^ (n + 1) := Nat.mul_le_mul_right _ (by omega)
        rw [Nat.add_mul, Nat.one_mul] at hm
        simp only [atLeast, decide_eq_true_eq]
        omega

theorem fromL_top {t : Tr} (hw : t.wf 7) {low : Nat} (hl : low < 4294967296) : t.fromL 7 0 low = (t.ents 7 0).filter (atLeast low) := by
  rw [fromL_filter 7 hw, Nat.zero_add, Nat.mod_eq_of_lt (by simpa using hl)]

/-- In a list that rises, the first place that is not below low cuts it. -/
theorem rises_cut {L : List (Nat × (Int × Int))} (hR : Rises L) {low i : Nat} (h1 : ∀ k (hk : k < L.length), k < i → L[k].1 < low) (h2 : ∀ h : i < L.length, ¬ L[i].1 < low) (hi : i ≤ L.length) : L.filter (atLeast low) = L.drop i := by
  conv => lhs; rw [← List.take_append_drop i L]
  rw [List.filter_append]
  have e1 : (L.take i).filter (atLeast low) = [] := by
    rw [List.filter_eq_nil_iff]
    intro e he
    obtain ⟨k, hk, rfl⟩ := List.mem_iff_getElem.1 he
    simp at hk
    have := h1 k (by omega) (by omega)
    simp [atLeast]
    omega
  rw [e1, List.nil_append, List.filter_eq_self]
  intro e he
  obtain ⟨k, hk, rfl⟩ := List.mem_iff_getElem.1 he
  simp at hk
  simp only [atLeast, decide_eq_true_eq, List.getElem_drop]
  by_cases hk0 : k = 0
  · subst hk0
    have := h2 (by omega)
    simp only [Nat.add_zero]
    omega
  · have := List.pairwise_iff_getElem.1 hR i (i + k) (by omega) (by omega) (by omega)
    have := h2 (by omega)
    omega

end Go.Proofs.YtmlkceganilboaaDoor

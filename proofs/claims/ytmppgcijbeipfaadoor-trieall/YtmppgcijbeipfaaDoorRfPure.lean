import Derived.Test.YtmppgcijbeipfaaDoorTrieM
namespace Go.Proofs.YtmppgcijbeipfaaDoor

/-- How many keys are below one. -/
def rfPl (L : List (Nat × (Int × Int))) (id : Nat) : Nat := (L.takeWhile fun e => decide (e.1 < id)).length
/-- Is the key there? -/
def rfHas (L : List (Nat × (Int × Int))) (id : Nat) : Bool := match L[rfPl L id]? with
  | some e => e.1 == id
  | none => false
theorem rfPl_le (L : List (Nat × (Int × Int))) (id : Nat) : rfPl L id ≤ L.length := (List.takeWhile_sublist _).length_le
theorem rfPl_lt : ∀ (L : List (Nat × (Int × Int))) (id i : Nat) (_h : i < rfPl L id) (h2 : i < L.length), L[i].1 < id
  | [], _, _, h, _ => by simp [rfPl] at h
  | a :: L, id, i, h, h2 => by
    unfold rfPl at h
    rw [List.takeWhile_cons] at h
    by_cases ha : a.1 < id
    · rw [decide_eq_true ha] at h
      cases i with
      | zero => exact ha
      | succ i =>
        simp only [if_true, List.length_cons] at h
        exact rfPl_lt L id i (by unfold rfPl; omega) (by simpa using h2)
    · rw [decide_eq_false ha] at h
      simp at h
theorem rfPl_ge : ∀ (L : List (Nat × (Int × Int))) (id : Nat) (h2 : rfPl L id < L.length), ¬ L[rfPl L id].1 < id
  | [], _, h2 => by simp [rfPl] at h2
  | a :: L, id, h2 => by
    by_cases ha : a.1 < id
    · have e : rfPl (a :: L) id = rfPl L id + 1 := by unfold rfPl; rw [List.takeWhile_cons, decide_eq_true ha]; simp
      have h3 : rfPl L id < L.length := by rw [e] at h2; simpa using h2
      have := rfPl_ge L id h3
      intro hh
      apply this
      simp only [e, List.getElem_cons_succ] at hh
      exact hh
    · have e : rfPl (a :: L) id = 0 := by unfold rfPl; rw [List.takeWhile_cons, decide_eq_false ha]; simp
      simp only [e, List.getElem_cons_zero]
      exact ha
/-- What the reference has laid behind i rounds. -/
def nwL (L : List (Nat × (Int × Int))) (at' : Nat) (ok : Bool) (e : Nat × (Int × Int)) : Nat → List (Nat × (Int × Int))
  | 0 => []
  | i + 1 => nwL L at' ok e i ++ (if i = at' then [e] else []) ++ (match L[i]? with
    | some x => if i ≠ at' ∨ ok = false then [x] else []
    | none => [])
theorem nwL_low {L : List (Nat × (Int × Int))} {at' : Nat} {ok : Bool} {e : Nat × (Int × Int)} : ∀ i, i ≤ at' → at' ≤ L.length → nwL L at' ok e i = L.take i
  | 0, _, _ => by simp [nwL]
  | i + 1, h, h2 => by
    have hi : i < L.length := by omega
    rw [nwL, nwL_low i (by omega) h2, if_neg (by omega), List.getElem?_eq_getElem hi]
    simp only [List.append_nil]
    rw [if_pos (.inl (by omega)), List.take_succ_eq_append_getElem hi]
theorem nwL_high {L : List (Nat × (Int × Int))} {at' : Nat} {ok : Bool} {e : Nat × (Int × Int)} (h2 : at' ≤ L.length) (hok : ok = true → at' < L.length) : ∀ j, at' + j ≤ L.length → nwL L at' ok e (at' + j + 1) = L.take at' ++ e :: (L.take (at' + j + 1)).drop (if ok then at' + 1 else at')
  | 0, _ => by
    rw [Nat.add_zero, nwL, nwL_low at' (Nat.le_refl _) h2, if_pos rfl]
    cases ok with
    | true =>
      have := hok rfl
      rw [List.getElem?_eq_getElem this]
      simp only [ne_eq, not_true_eq_false, or_self, if_false, List.append_nil, if_true, reduceCtorEq]
      rw [List.drop_eq_nil_of_le (by simp; omega)]
    | false =>
      by_cases hl : at' < L.length
      · rw [List.getElem?_eq_getElem hl]
        simp only [ne_eq, not_true_eq_false, false_or, if_true, Bool.false_eq_true, if_false]
        rw [List.take_succ_eq_append_getElem hl, List.drop_append_of_le_length (by simp; omega), List.drop_eq_nil_of_le (by simp; omega)]
        simp
      · rw [List.getElem?_eq_none (by omega)]
        simp only [List.append_nil, Bool.false_eq_true, if_false]
        rw [List.drop_eq_nil_of_le (by simp; omega)]
  | j + 1, h => by
    have ih := nwL_high (e := e) h2 hok j (by omega)
    have hd : (if ok = true then at' + 1 else at') ≤ at' + 1 := by split <;> omega
    generalize (if ok = true then at' + 1 else at') = d at *
    rw [show at' + (j + 1) + 1 = (at' + j + 1) + 1 from by omega, nwL, ih, if_neg (by omega)]
    by_cases hl : at' + j + 1 < L.length
    · rw [List.getElem?_eq_getElem hl]
      simp only [List.append_nil]
      rw [if_pos (.inl (by omega)), List.take_succ_eq_append_getElem hl, List.drop_append_of_le_length (by simp; omega)]
      simp
    · rw [List.getElem?_eq_none (by omega)]
      simp only [List.append_nil]
      rw [List.take_of_length_le (i := at' + j + 1) (by omega), List.take_of_length_le (i := at' + j + 1 + 1) (by omega)]
theorem filter_lt_take : ∀ {L : List (Nat × (Int × Int))} {id : Nat}, Rises L → L.filter (fun e => decide (e.1 < id)) = L.take (rfPl L id)
  | [], _, _ => rfl
  | a :: L, id, h => by
    obtain ⟨h1, h2⟩ := List.pairwise_cons.1 h
    by_cases ha : a.1 < id
    · have e : rfPl (a :: L) id = rfPl L id + 1 := by unfold rfPl; rw [List.takeWhile_cons, decide_eq_true ha]; simp
      rw [List.filter_cons, if_pos (decide_eq_true ha), e, List.take_succ_cons, filter_lt_take h2]
    · have e : rfPl (a :: L) id = 0 := by unfold rfPl; rw [List.takeWhile_cons, decide_eq_false ha]; simp
      rw [e, List.take_zero, List.filter_eq_nil_iff]
      intro x hx
      rcases List.mem_cons.1 hx with rfl | hx
      · simpa using ha
      · have := h1 x hx
        simp; omega
theorem filter_gt_drop : ∀ {L : List (Nat × (Int × Int))} {id : Nat}, Rises L → L.filter (fun e => decide (id < e.1)) = L.drop (if rfHas L id then rfPl L id + 1 else rfPl L id)
  | [], _, _ => by simp
  | a :: L, id, h => by
    obtain ⟨h1, h2⟩ := List.pairwise_cons.1 h
    by_cases ha : a.1 < id
    · have e : rfPl (a :: L) id = rfPl L id + 1 := by unfold rfPl; rw [List.takeWhile_cons, decide_eq_true ha]; simp
      have e2 : rfHas (a :: L) id = rfHas L id := by unfold rfHas; rw [e, List.getElem?_cons_succ]
      rw [List.filter_cons, if_neg (by simp; omega), e, e2, filter_gt_drop h2]
      cases rfHas L id <;> simp
    · have e : rfPl (a :: L) id = 0 := by unfold rfPl; rw [List.takeWhile_cons, decide_eq_false ha]; simp
      have hall : ∀ x ∈ L, id < x.1 := fun x hx => by have := h1 x hx; omega
      have hf : L.filter (fun e => decide (id < e.1)) = L := List.filter_eq_self.2 fun x hx => decide_eq_true (hall x hx)
      by_cases hid : a.1 = id
      · have e2 : rfHas (a :: L) id = true := by unfold rfHas; rw [e]; simp [hid]
        rw [List.filter_cons, if_neg (by simp; omega), hf, e, e2]
        simp
      · have e2 : rfHas (a :: L) id = false := by unfold rfHas; rw [e]; simp [hid]
        rw [List.filter_cons, if_pos (by simp; omega), hf, e, e2]
        simp
theorem rfHas_iff {L : List (Nat × (Int × Int))} {id : Nat} : rfHas L id = true ↔ ∃ h : rfPl L id < L.length, L[rfPl L id].1 = id := by
  unfold rfHas
  by_cases h : rfPl L id < L.length
  · rw [List.getElem?_eq_getElem h]
    simp [h]
  · rw [List.getElem?_eq_none (by omega)]
    simp [h]
/-- What is laid in the end is what a put makes. -/
theorem nwL_ins {L : List (Nat × (Int × Int))} (h : Rises L) (id : Nat) (v : Int × Int) : nwL L (rfPl L id) (rfHas L id) (id, v) (L.length + 1) = ins L id v := by
  have hp := rfPl_le L id
  have := nwL_high (e := (id, v)) hp (fun hk => (rfHas_iff.1 hk).1) (L.length - rfPl L id) (by omega)
  rw [show rfPl L id + (L.length - rfPl L id) + 1 = L.length + 1 from by omega, List.take_of_length_le (i := L.length + 1) (by omega)] at this
  rw [this]
  unfold ins
  rw [filter_lt_take h, filter_gt_drop h]
/-- A put of what is there changes nothing. -/
theorem insR_same {L : List (Nat × (Int × Int))} (h : Rises L) {id : Nat} {v : Int × Int} (hk : rfPl L id < L.length) (he : L[rfPl L id] = (id, v)) : ins L id v = L := by
  unfold ins
  have h1 : rfHas L id = true := rfHas_iff.2 ⟨hk, by rw [he]⟩
  rw [filter_lt_take h, filter_gt_drop h, h1, ← he]
  simp
theorem nwL_len (L : List (Nat × (Int × Int))) (at' : Nat) (ok : Bool) (e : Nat × (Int × Int)) : ∀ i, (nwL L at' ok e i).length ≤ i + 1 ∧ (i ≤ at' → (nwL L at' ok e i).length ≤ i)
  | 0 => by simp [nwL]
  | i + 1 => by
    have ⟨h1, h2⟩ := nwL_len L at' ok e i
    rw [nwL, List.length_append, List.length_append]
    have h3 : (match L[i]? with | some x => if i ≠ at' ∨ ok = false then [x] else [] | none => ([] : List (Nat × (Int × Int)))).length ≤ 1 := by
      split
      · split <;> simp
      · simp
    by_cases hi : i = at'
    · rw [if_pos hi]
      have := h2 (by omega)
      simp only [List.length_singleton]
      omega
    · rw [if_neg hi]
      simp only [List.length_nil]
      refine ⟨by omega, fun h => ?_⟩
      have := h2 (by omega)
      omega

end Go.Proofs.YtmppgcijbeipfaaDoor

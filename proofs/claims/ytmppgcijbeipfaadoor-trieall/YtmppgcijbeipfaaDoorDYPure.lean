import Derived.Test.YtmppgcijbeipfaaDoorTDifM
namespace Go.Proofs.YtmppgcijbeipfaaDoor

theorem filter_lenK {α β γ δ : Type} {f : α → Option β} {g : α → Option γ} {h : α → Option δ} (hh : ∀ a b, f a = some b → g a ≠ none ∨ h a ≠ none) (l : List α) : (l.filterMap f).length ≤ (l.filterMap g).length + (l.filterMap h).length := by
  induction l with
  | nil => simp
  | cons a l ih =>
    rw [List.filterMap_cons, List.filterMap_cons, List.filterMap_cons]
    cases hf : f a with
    | none =>
      cases g a <;> cases h a <;> simp <;> omega
    | some b =>
      rcases hh a b hf with hg | hg
      · obtain ⟨c, hc⟩ := Option.ne_none_iff_exists'.1 hg
        rw [hc]
        cases h a <;> simp <;> omega
      · obtain ⟨c, hc⟩ := Option.ne_none_iff_exists'.1 hg
        rw [hc]
        cases g a <;> simp <;> omega
theorem dif_lenK {a b : Tr} {n : Nat} (ha : a.wf n) (hb : b.wf n) (p : Nat) : (a.dif b n p).length ≤ (a.ents n p).length + (b.ents n p).length := by
  rw [ents_range_eq ha, ents_range_eq hb]
  unfold Tr.dif
  refine filter_lenK (fun r c h => ?_) _
  cases h1 : a.get n r with
  | some v => exact .inl (by simp)
  | none =>
    cases h2 : b.get n r with
    | some v => exact .inr (by simp)
    | none => rw [h1, h2] at h; simp at h

/-- What entries hold at a key. -/
def valE (L : List (Nat × (Int × Int))) (k : Nat) : Option (Int × Int) := (L.find? fun e => e.1 == k).map (·.2)
theorem find_range (f : Nat → Option (Int × Int)) (k : Nat) : ∀ m, (((List.range m).filterMap fun r => (f r).map fun v => (0 + r, v)).find? fun e => e.1 == k) = if k < m then (f k).map (fun v => (k, v)) else none
  | 0 => by simp
  | m + 1 => by
    rw [List.range_succ, List.filterMap_append, List.find?_append, find_range f k m]
    by_cases h1 : k < m
    · rw [if_pos h1, if_pos (by omega)]
      cases hf : f k with
      | some v => simp
      | none =>
        cases hm : f m with
        | none => simp [hm]
        | some u =>
          have : ¬ m = k := by omega
          simp [hm, this]
    · rw [if_neg h1]
      by_cases h2 : k = m
      · subst h2
        rw [if_pos (by omega)]
        cases hf : f k with
        | some v => simp [hf]
        | none => simp [hf]
      · rw [if_neg (by omega)]
        cases hm : f m with
        | none => simp [hm]
        | some u =>
          have : ¬ m = k := by omega
          simp [hm, this]
theorem valE_ents {t : Tr} (hw : t.wf 7) {k : Nat} (hk : k < 16 ^ 8) : valE (t.ents 7 0) k = t.get 7 k := by
  unfold valE
  rw [ents_range_eq hw, find_range, if_pos hk]
  cases t.get 7 k <;> rfl
theorem valE_out {t : Tr} (hw : t.wf 7) {k : Nat} (hk : ¬ k < 16 ^ 8) : valE (t.ents 7 0) k = none := by
  unfold valE
  rw [ents_range_eq hw, find_range, if_neg hk]
  rfl

/-- The keys at which two lists of entries differ, rising. -/
def DifK (A B : List (Nat × (Int × Int))) (ks : List Nat) : Prop := ks.Pairwise (· < ·) ∧ ∀ k, k ∈ ks ↔ valE A k ≠ valE B k
theorem difK_dif {a b : Tr} (ha : a.wf 7) (hb : b.wf 7) : DifK (a.ents 7 0) (b.ents 7 0) ((a.dif b 7 0).map (·.1)) := by
  refine ⟨List.pairwise_map.2 (dif_rises a b 7 0), fun k => ?_⟩
  rw [List.mem_map]
  by_cases hk : k < 16 ^ 8
  · rw [valE_ents ha hk, valE_ents hb hk]
    constructor
    · rintro ⟨c, hc, rfl⟩
      obtain ⟨r, h1, h2, rfl⟩ := mem_dif.1 hc
      simpa using h2
    · intro h
      exact ⟨(0 + k, (a.get 7 k, b.get 7 k)), mem_dif.2 ⟨k, hk, h, rfl⟩, by simp⟩
  · rw [valE_out ha hk, valE_out hb hk]
    constructor
    · rintro ⟨c, hc, rfl⟩
      obtain ⟨r, h1, h2, rfl⟩ := mem_dif.1 hc
      exact absurd (by simpa using h1) hk
    · intro h; exact absurd rfl h
theorem rising_eq : ∀ {x y : List Nat}, x.Pairwise (· < ·) → y.Pairwise (· < ·) → (∀ k, k ∈ x ↔ k ∈ y) → x = y
  | [], [], _, _, _ => rfl
  | [], b :: y, _, _, h => by have := (h b).2 (by simp); simp at this
  | a :: x, [], _, _, h => by have := (h a).1 (by simp); simp at this
  | a :: x, b :: y, hx, hy, h => by
    obtain ⟨hx1, hx2⟩ := List.pairwise_cons.1 hx
    obtain ⟨hy1, hy2⟩ := List.pairwise_cons.1 hy
    have hab : a = b := by
      rcases List.mem_cons.1 ((h a).1 (by simp)) with e | e
      · exact e
      · rcases List.mem_cons.1 ((h b).2 (by simp)) with e2 | e2
        · exact e2.symm
        · have := hx1 b e2
          have := hy1 a e
          omega
    subst hab
    refine congrArg (a :: ·) (rising_eq hx2 hy2 fun k => ⟨fun hk => ?_, fun hk => ?_⟩)
    · rcases List.mem_cons.1 ((h k).1 (List.mem_cons_of_mem _ hk)) with e | e
      · subst e; exact absurd (hx1 k hk) (Nat.lt_irrefl _)
      · exact e
    · rcases List.mem_cons.1 ((h k).2 (List.mem_cons_of_mem _ hk)) with e | e
      · subst e; exact absurd (hy1 k hk) (Nat.lt_irrefl _)
      · exact e
theorem DifK.turn {A B : List (Nat × (Int × Int))} {x y : List Nat} (hx : DifK A B x) (hy : DifK B A y) : x = y :=
  rising_eq hx.1 hy.1 fun k => by rw [hx.2, hy.2]; exact ⟨fun h e => h e.symm, fun h e => h e.symm⟩
theorem DifK.self {A : List (Nat × (Int × Int))} {x : List Nat} (hx : DifK A A x) : x = [] := by
  cases x with
  | nil => rfl
  | cons a x => exact absurd rfl ((hx.2 a).1 (by simp))
theorem DifK.rel {A B C : List (Nat × (Int × Int))} {x w z : List Nat} (hx : DifK A B x) (hw : DifK B C w) (hz : DifK A C z) {k : Nat} (h : k ∈ z) : k ∈ x ∨ k ∈ w := by
  by_cases h1 : valE A k = valE B k
  · refine .inr ((hw.2 k).2 fun e => ?_)
    exact (hz.2 k).1 h (h1.trans e)
  · exact .inl ((hx.2 k).2 h1)
theorem valE_mem {L : List (Nat × (Int × Int))} (h : Rises L) {e : Nat × (Int × Int)} (he : e ∈ L) : valE L e.1 = some e.2 := by
  unfold valE
  induction L with
  | nil => simp at he
  | cons a L ih =>
    obtain ⟨h1, h2⟩ := List.pairwise_cons.1 h
    rw [List.find?_cons]
    rcases List.mem_cons.1 he with rfl | he'
    · simp
    · have : ¬ a.1 = e.1 := fun e2 => by have := h1 e he'; omega
      rw [show (a.1 == e.1) = false by simpa using this]
      exact ih h2 he'

end Go.Proofs.YtmppgcijbeipfaaDoor

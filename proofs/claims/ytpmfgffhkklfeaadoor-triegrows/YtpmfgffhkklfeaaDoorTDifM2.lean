import Derived.Test.YtpmfgffhkklfeaaDoorTDiff
namespace Go.Proofs.YtpmfgffhkklfeaaDoor

def turnC (c : Ch) : Ch := (c.1, (c.2.2, c.2.1))
theorem dif_turn (a b : Tr) (n p : Nat) : b.dif a n p = (a.dif b n p).map turnC := by
  unfold Tr.dif
  rw [List.map_filterMap]
  congr 1
  funext r
  by_cases h : a.get n r = b.get n r
  · rw [if_pos h, if_pos h.symm]; rfl
  · rw [if_neg h, if_neg (fun e => h e.symm)]; rfl

theorem filter_len {α β γ δ : Type} {f : α → Option β} {g : α → Option γ} {h : α → Option δ} (hh : ∀ a b, f a = some b → g a ≠ none ∨ h a ≠ none) (l : List α) : (l.filterMap f).length ≤ (l.filterMap g).length + (l.filterMap h).length := by
  induction l with
  | nil => simp
  | cons a l ih =>
    rw [List.filterMap_cons, List.filterMap_cons, List.filterMap_cons]
    cases hf : f a with
    | none =>
      cases g a <;> cases h a <;> simp <;> omega
    | some b =>
      rcases hh a b hf with hg | hg
      · obtain ⟨c, hc⟩ := Option.ne_none_iff_exists'.1 hg
        rw [hc]
        cases h a <;> simp <;> omega
      · obtain ⟨c, hc⟩ := Option.ne_none_iff_exists'.1 hg
        rw [hc]
        cases g a <;> simp <;> omega
theorem dif_len {a b : Tr} {n : Nat} (ha : a.wf n) (hb : b.wf n) (p : Nat) : (a.dif b n p).length ≤ (a.ents n p).length + (b.ents n p).length := by
  rw [ents_range_eq ha, ents_range_eq hb]
  unfold Tr.dif
  refine filter_len (fun r c h => ?_) _
  cases h1 : a.get n r with
  | some v => exact .inl (by simp)
  | none =>
    cases h2 : b.get n r with
    | some v => exact .inr (by simp)
    | none => rw [h1, h2] at h; simp at h

/-- One told thing laid into a list. -/
def layC (E : List (Nat × (Int × Int))) (c : Ch) : List (Nat × (Int × Int)) := stepL E c.1 (c.2.2.getD (0, 0)) (!c.2.2.isSome)
def layAll (E : List (Nat × (Int × Int))) (D : List Ch) : List (Nat × (Int × Int)) := D.foldl layC E
theorem layAll_snoc (E : List (Nat × (Int × Int))) (D : List Ch) (c : Ch) : layAll E (D ++ [c]) = layC (layAll E D) c := by simp [layAll]
theorem rises_layC {E : List (Nat × (Int × Int))} (h : Rises E) (c : Ch) : Rises (layC E c) := by
  unfold layC stepL
  split
  · exact rises_del h _
  · exact rises_ins h _ _
theorem rises_layAll {E : List (Nat × (Int × Int))} (h : Rises E) : ∀ (D : List Ch), Rises (layAll E D)
  | [] => h
  | c :: D => rises_layAll (rises_layC h c) D
theorem mem_layC {E : List (Nat × (Int × Int))} {c : Ch} {e : Nat × (Int × Int)} : e ∈ layC E c ↔ (c.1 = e.1 ∧ c.2.2 = some e.2) ∨ (e.1 ≠ c.1 ∧ e ∈ E) := by
  obtain ⟨k, x, y⟩ := c
  obtain ⟨k', v⟩ := e
  unfold layC stepL
  cases y with
  | none =>
    simp only [Option.isSome_none, Bool.not_false, if_true]
    rw [mem_del]
    simp
  | some w =>
    simp only [Option.isSome_some, Bool.not_true, Bool.false_eq_true, if_false, Option.getD_some]
    rw [mem_ins]
    simp only [Prod.mk.injEq, Option.some.injEq]
    constructor
    · rintro (⟨rfl, rfl⟩ | h)
      · exact .inl ⟨rfl, rfl⟩
      · exact .inr h
    · rintro (⟨rfl, rfl⟩ | h)
      · exact .inl ⟨rfl, rfl⟩
      · exact .inr h
theorem mem_layAll : ∀ (D : List Ch), D.Pairwise (fun x y => x.1 < y.1) → ∀ (E : List (Nat × (Int × Int))) (e : Nat × (Int × Int)), e ∈ layAll E D ↔ (∃ c ∈ D, c.1 = e.1 ∧ c.2.2 = some e.2) ∨ (e ∈ E ∧ ∀ c ∈ D, c.1 ≠ e.1)
  | [], _, E, e => by simp [layAll]
  | c :: D, hp, E, e => by
    obtain ⟨h1, h2⟩ := List.pairwise_cons.1 hp
    have ih := mem_layAll D h2 (layC E c) e
    show e ∈ layAll (layC E c) D ↔ _
    rw [ih, mem_layC]
    constructor
    · rintro (⟨d, hd, hd1, hd2⟩ | ⟨⟨hc1, hc2⟩ | ⟨hc1, hc2⟩, hD⟩)
      · exact .inl ⟨d, by simp [hd], hd1, hd2⟩
      · exact .inl ⟨c, by simp, hc1, hc2⟩
      · refine .inr ⟨hc2, fun d hd => ?_⟩
        rcases List.mem_cons.1 hd with rfl | hd
        · exact Ne.symm hc1
        · exact hD d hd
    · rintro (⟨d, hd, hd1, hd2⟩ | ⟨hE, hD⟩)
      · rcases List.mem_cons.1 hd with rfl | hd
        · refine .inr ⟨.inl ⟨hd1, hd2⟩, fun d' hd' => ?_⟩
          have := h1 d' hd'
          omega
        · exact .inl ⟨d, hd, hd1, hd2⟩
      · exact .inr ⟨.inr ⟨Ne.symm (hD c (by simp)), hE⟩, fun d hd => hD d (by simp [hd])⟩

/-- What differs, laid into the one, makes the other. -/
theorem lay_dif {a b : Tr} (ha : a.wf 7) (hb : b.wf 7) : layAll (a.ents 7 0) (a.dif b 7 0) = b.ents 7 0 := by
  refine rises_ext (rises_layAll (ents_rises 7 ha 0) _) (ents_rises 7 hb 0) fun e => ?_
  rw [mem_layAll _ (dif_rises a b 7 0)]
  obtain ⟨k, v⟩ := e
  rw [mem_all ha, mem_all hb]
  constructor
  · rintro (⟨c, hc, h1, h2⟩ | ⟨⟨hk, hg⟩, hD⟩)
    · obtain ⟨r, hr, hne, rfl⟩ := mem_dif.1 hc
      simp only [Nat.zero_add] at h1 h2
      subst h1
      exact ⟨hr, h2⟩
    · refine ⟨hk, ?_⟩
      by_cases he : a.get 7 k = b.get 7 k
      · rw [← he]; exact hg
      · exact absurd (Nat.zero_add k) (hD _ (mem_dif.2 ⟨k, hk, he, rfl⟩))
  · rintro ⟨hk, hg⟩
    by_cases he : a.get 7 k = b.get 7 k
    · refine .inr ⟨⟨hk, by rw [he]; exact hg⟩, fun c hc h1 => ?_⟩
      obtain ⟨r, hr, hne, rfl⟩ := mem_dif.1 hc
      simp only [Nat.zero_add] at h1
      subst h1
      exact hne he
    · exact .inl ⟨_, mem_dif.2 ⟨k, hk, he, rfl⟩, Nat.zero_add k, hg⟩

end Go.Proofs.YtpmfgffhkklfeaaDoor

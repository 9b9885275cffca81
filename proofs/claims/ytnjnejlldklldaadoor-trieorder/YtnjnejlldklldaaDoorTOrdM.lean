import Derived.Test.YtnjnejlldklldaaDoorTMade
namespace Go.Proofs.YtnjnejlldklldaaDoor

/-- Puts alone. -/
def putL (E : List (Nat × (Int × Int))) (L : List (Nat × (Int × (Int × Bool)))) : List (Nat × (Int × Int)) := L.foldl (fun E p => ins E p.1 (p.2.1, p.2.2.1)) E
theorem putL_snoc (E : List (Nat × (Int × Int))) (L : List (Nat × (Int × (Int × Bool)))) (p : Nat × (Int × (Int × Bool))) : putL E (L ++ [p]) = ins (putL E L) p.1 (p.2.1, p.2.2.1) := by simp [putL]
theorem ins_len (E : List (Nat × (Int × Int))) (id : Nat) (v : Int × Int) : (ins E id v).length ≤ E.length + 1 := by
  have := length_ins E id v
  omega
theorem putL_rises {E : List (Nat × (Int × Int))} (h : Rises E) : ∀ (L : List (Nat × (Int × (Int × Bool)))), Rises (putL E L)
  | [] => h
  | _ :: L => putL_rises (rises_ins h _ _) L
theorem putL_keys (E : List (Nat × (Int × Int))) : ∀ (L : List (Nat × (Int × (Int × Bool)))) (e : Nat × (Int × Int)), e ∈ putL E L → e ∈ E ∨ ∃ p ∈ L, p.1 = e.1
  | [], e, h => .inl h
  | p :: L, e, h => by
    rcases putL_keys (ins E p.1 (p.2.1, p.2.2.1)) L e h with h | ⟨q, hq, hqe⟩
    · rcases mem_ins.1 h with rfl | ⟨-, h⟩
      · exact .inr ⟨p, by simp, rfl⟩
      · exact .inl h
    · exact .inr ⟨q, by simp [hq], hqe⟩
theorem ins_end {P : List (Nat × (Int × Int))} {id : Nat} (v : Int × Int) (h : ∀ e ∈ P, e.1 < id) : ins P id v = P ++ [(id, v)] := by
  rw [ins_all v (fun e he => Nat.le_of_lt (h e he))]
  congr 1
  refine del_none fun w hw => ?_
  have := h _ hw
  simp at this
/-- Entries that rise, put one behind another. -/
theorem take_ins {L : List (Nat × (Int × Int))} (hR : Rises L) {j : Nat} (hj : j < L.length) : ins (L.take j) L[j].1 L[j].2 = L.take (j + 1) := by
  rw [List.take_succ_eq_append_getElem hj]
  refine ins_end _ fun e he => ?_
  obtain ⟨i, hi, rfl⟩ := List.mem_iff_getElem.1 he
  simp at hi
  simp only [List.getElem_take]
  exact List.pairwise_iff_getElem.1 hR i j (by omega) hj (by omega)

theorem rises_key {L : List (Nat × (Int × Int))} (h : Rises L) {a b : Nat × (Int × Int)} (ha : a ∈ L) (hb : b ∈ L) (he : a.1 = b.1) : a = b := by
  obtain ⟨i, hi, rfl⟩ := List.mem_iff_getElem.1 ha
  obtain ⟨j, hj, rfl⟩ := List.mem_iff_getElem.1 hb
  rcases Nat.lt_trichotomy i j with h1 | h1 | h1
  · have := List.pairwise_iff_getElem.1 h i j hi hj h1; omega
  · subst h1; rfl
  · have := List.pairwise_iff_getElem.1 h j i hj hi h1; omega

/-- What is there while own's entries, but those that are left, lie over other ones. -/
def Over (own F E3 E : List (Nat × (Int × Int))) : Prop := ∀ e, e ∈ E ↔ (e ∈ own ∧ e ∉ F) ∨ (e ∈ E3 ∧ ∀ o ∈ own, o ∉ F → o.1 ≠ e.1)
theorem over_start (own E3 : List (Nat × (Int × Int))) : Over own own E3 E3 := fun e => by
  constructor
  · intro h; exact .inr ⟨h, fun o ho hn => absurd ho hn⟩
  · rintro (⟨h1, h2⟩ | ⟨h, -⟩)
    · exact absurd h1 h2
    · exact h
theorem over_step {own F E3 E : List (Nat × (Int × Int))} (hR : Rises own) (hF : F.Sublist own) (h : Over own F E3 E) {i : Nat} (hi : i < F.length) : Over own (F.take i ++ F.drop (i + 1)) E3 (ins E F[i].1 F[i].2) := by
  have hRF : Rises F := List.Pairwise.sublist hF hR
  have hown : ∀ x ∈ F, x ∈ own := fun x hx => hF.subset hx
  have hmem : ∀ x, x ∈ F.take i ++ F.drop (i + 1) ↔ x ∈ F ∧ x ≠ F[i] := by
    intro x
    rw [List.mem_append]
    constructor
    · rintro (hx | hx)
      · refine ⟨List.mem_of_mem_take hx, ?_⟩
        rintro rfl
        obtain ⟨k, hk, e⟩ := List.mem_iff_getElem.1 hx
        simp at hk e
        have := List.pairwise_iff_getElem.1 hRF k i (by omega) hi (by omega)
        rw [e] at this
        omega
      · refine ⟨List.mem_of_mem_drop hx, ?_⟩
        rintro rfl
        obtain ⟨k, hk, e⟩ := List.mem_iff_getElem.1 hx
        simp at hk e
        have := List.pairwise_iff_getElem.1 hRF i (i + 1 + k) hi (by omega) (by omega)
        rw [e] at this
        omega
    · rintro ⟨hx, hne⟩
      obtain ⟨k, hk, rfl⟩ := List.mem_iff_getElem.1 hx
      rcases Nat.lt_trichotomy k i with h1 | h1 | h1
      · exact .inl (List.mem_iff_getElem.2 ⟨k, by simp; omega, by simp⟩)
      · subst h1; exact absurd rfl hne
      · exact .inr (List.mem_iff_getElem.2 ⟨k - (i + 1), by simp; omega, by simp [show i + 1 + (k - (i + 1)) = k from by omega]⟩)
  have hio : F[i] ∈ own := hown _ (List.getElem_mem hi)
  intro e
  rw [mem_ins, h e]
  constructor
  · rintro (rfl | ⟨hne, ⟨h1, h2⟩ | ⟨h1, h2⟩⟩)
    · exact .inl ⟨hio, fun hx => ((hmem _).1 hx).2 rfl⟩
    · exact .inl ⟨h1, fun hx => h2 ((hmem _).1 hx).1⟩
    · refine .inr ⟨h1, fun o ho hn => ?_⟩
      by_cases ho2 : o ∈ F
      · have : o = F[i] := Classical.byContradiction fun hne2 => hn ((hmem _).2 ⟨ho2, hne2⟩)
        rw [this]
        exact Ne.symm hne
      · exact h2 o ho ho2
  · rintro (⟨h1, h2⟩ | ⟨h1, h2⟩)
    · by_cases he : e = F[i]
      · exact .inl he
      · refine .inr ⟨fun hk => he (rises_key hR h1 hio hk), .inl ⟨h1, fun hx => h2 ((hmem _).2 ⟨hx, he⟩)⟩⟩
    · refine .inr ⟨fun hk => h2 _ hio (fun hx => ((hmem _).1 hx).2 rfl) hk.symm, .inr ⟨h1, fun o ho hn => h2 o ho (fun hx => hn ((hmem _).1 hx).1)⟩⟩
theorem over_sub {own F : List (Nat × (Int × Int))} (hF : F.Sublist own) (i : Nat) : (F.take i ++ F.drop (i + 1)).Sublist own := by
  refine List.Sublist.trans ?_ hF
  conv => rhs; rw [← List.take_append_drop i F]
  refine List.Sublist.append (List.Sublist.refl _) ?_
  rw [← List.drop_drop]
  exact List.drop_sublist _ _

/-- And of these other ones those are gone that were asked to go, by their keys. -/
def Gone (own E3 E : List (Nat × (Int × Int))) (ks : List Nat) : Prop := ∀ e, e ∈ E ↔ e ∈ own ∨ (e ∈ E3 ∧ (∀ o ∈ own, o.1 ≠ e.1) ∧ ∀ k ∈ ks, k ≠ e.1)
theorem gone_start {own E3 E : List (Nat × (Int × Int))} (h : Over own [] E3 E) : Gone own E3 E [] := fun e => by
  rw [h e]
  simp
theorem gone_keep {own E3 E : List (Nat × (Int × Int))} {ks : List Nat} (h : Gone own E3 E ks) {k : Nat} (hk : ∃ o ∈ own, o.1 = k) : Gone own E3 E (ks ++ [k]) := fun e => by
  rw [h e]
  constructor
  · rintro (h1 | ⟨h1, h2, h3⟩)
    · exact .inl h1
    · refine .inr ⟨h1, h2, fun j hj => ?_⟩
      rcases List.mem_append.1 hj with hj | hj
      · exact h3 j hj
      · obtain rfl := List.mem_singleton.1 hj
        obtain ⟨o, ho, rfl⟩ := hk
        exact h2 o ho
  · rintro (h1 | ⟨h1, h2, h3⟩)
    · exact .inl h1
    · exact .inr ⟨h1, h2, fun j hj => h3 j (by simp [hj])⟩
theorem gone_drop {own E3 E : List (Nat × (Int × Int))} {ks : List Nat} (h : Gone own E3 E ks) {k : Nat} (hk : ∀ o ∈ own, o.1 ≠ k) : Gone own E3 (del E k) (ks ++ [k]) := fun e => by
  rw [mem_del, h e]
  constructor
  · rintro ⟨hne, h1 | ⟨h1, h2, h3⟩⟩
    · exact .inl h1
    · refine .inr ⟨h1, h2, fun j hj => ?_⟩
      rcases List.mem_append.1 hj with hj | hj
      · exact h3 j hj
      · obtain rfl := List.mem_singleton.1 hj
        exact Ne.symm hne
  · rintro (h1 | ⟨h1, h2, h3⟩)
    · exact ⟨hk e h1, .inl h1⟩
    · exact ⟨Ne.symm (h3 k (by simp)), .inr ⟨h1, h2, fun j hj => h3 j (by simp [hj])⟩⟩
theorem gone_all {own E3 E : List (Nat × (Int × Int))} {ks : List Nat} (hR : Rises own) (hE : Rises E) (h : Gone own E3 E ks) (hk : ∀ e ∈ E3, e.1 ∈ ks) : E = own := by
  refine rises_ext hE hR fun e => ?_
  rw [h e]
  constructor
  · rintro (h1 | ⟨h1, h2, h3⟩)
    · exact h1
    · exact absurd rfl (h3 _ (hk e h1))
  · exact fun h1 => .inl h1

end Go.Proofs.YtnjnejlldklldaaDoor

import Derived.Test.YtblfdjdhikfjhaaGreatJoin19
namespace Go.Proofs.YtblfdjdhikfjhaaGreat

/-- The differences of two rising lists, as the reference tells them: one step. -/
def rdStep (A B : List (Nat × (Int × Int))) : Bool × Bool := match A, B with
  | [], [] => (false, false)
  | _ :: _, [] => (true, false)
  | [], _ :: _ => (false, true)
  | a :: _, b :: _ => (decide (a.1 ≤ b.1), decide (b.1 ≤ a.1))
def rdif : Nat → List (Nat × (Int × Int)) → List (Nat × (Int × Int)) → List (Nat × (Option (Int × Int) × Option (Int × Int)))
  | 0, _, _ => []
  | _ + 1, [], [] => []
  | n + 1, a :: A, [] => (a.1, (some a.2, none)) :: rdif n A []
  | n + 1, [], b :: B => (b.1, (none, some b.2)) :: rdif n [] B
  | n + 1, a :: A, b :: B =>
    if a.1 < b.1 then (a.1, (some a.2, none)) :: rdif n A (b :: B)
    else if b.1 < a.1 then (b.1, (none, some b.2)) :: rdif n (a :: A) B
    else if a.2 = b.2 then rdif n A B
    else (a.1, (some a.2, some b.2)) :: rdif n A B
theorem valE_nil (k : Nat) : valE [] k = none := rfl
theorem valE_cons (a : Nat × (Int × Int)) (A : List (Nat × (Int × Int))) (k : Nat) : valE (a :: A) k = if a.1 = k then some a.2 else valE A k := by
  unfold valE
  rw [List.find?_cons]
  by_cases h : a.1 = k
  · rw [show (a.1 == k) = true by simpa using h, if_pos h]; rfl
  · rw [show (a.1 == k) = false by simpa using h, if_neg h]
theorem valE_low {A : List (Nat × (Int × Int))} {k : Nat} (h : ∀ e ∈ A, k < e.1) : valE A k = none := by
  unfold valE
  rw [List.find?_eq_none.2 fun e he => by have := h e he; simp; omega]
  rfl
theorem rises_tail {a : Nat × (Int × Int)} {A : List (Nat × (Int × Int))} (h : Rises (a :: A)) : (∀ e ∈ A, a.1 < e.1) ∧ Rises A := List.pairwise_cons.1 h
/-- The keys that are told are those at which the two differ, rising. -/
theorem rdif_keys : ∀ (n : Nat) (A B : List (Nat × (Int × Int))), A.length + B.length ≤ n → Rises A → Rises B → ((rdif n A B).map (·.1)).Pairwise (· < ·) ∧ (∀ k, k ∈ (rdif n A B).map (·.1) ↔ valE A k ≠ valE B k)
  | 0, A, B, h, _, _ => by
    have h1 : A = [] := List.length_eq_zero_iff.1 (by omega)
    have h2 : B = [] := List.length_eq_zero_iff.1 (by omega)
    subst h1 h2
    simp [rdif]
  | n + 1, [], [], _, _, _ => by simp [rdif]
  | n + 1, a :: A, [], h, ha, hb => by
    obtain ⟨h1, h2⟩ := rises_tail ha
    obtain ⟨i1, i2⟩ := rdif_keys n A [] (by simp only [List.length_cons] at h; omega) h2 hb
    rw [rdif, List.map_cons]
    refine ⟨List.pairwise_cons.2 ⟨fun k hk => ?_, i1⟩, fun k => ?_⟩
    · have := (i2 k).1 hk
      rw [valE_nil] at this
      apply Classical.byContradiction
      intro hc
      exact this (valE_low fun e he => by have := h1 e he; omega)
    · rw [List.mem_cons, i2, valE_cons, valE_nil]
      by_cases hk : a.1 = k
      · simp [hk]
      · rw [if_neg hk]
        simp only [show ¬ k = a.1 from fun e => hk e.symm, false_or]
  | n + 1, [], b :: B, h, ha, hb => by
    obtain ⟨h1, h2⟩ := rises_tail hb
    obtain ⟨i1, i2⟩ := rdif_keys n [] B (by simp only [List.length_cons] at h; omega) ha h2
    rw [rdif, List.map_cons]
    refine ⟨List.pairwise_cons.2 ⟨fun k hk => ?_, i1⟩, fun k => ?_⟩
    · have := (i2 k).1 hk
      rw [valE_nil] at this
      apply Classical.byContradiction
      intro hc
      exact this (valE_low fun e he => by have := h1 e he; omega).symm
    · rw [List.mem_cons, i2, valE_cons, valE_nil]
      by_cases hk : b.1 = k
      · simp [hk]
      · rw [if_neg hk]
        simp only [show ¬ k = b.1 from fun e => hk e.symm, false_or]
  | n + 1, a :: A, b :: B, h, ha, hb => by
    obtain ⟨a1, a2⟩ := rises_tail ha
    obtain ⟨b1, b2⟩ := rises_tail hb
    simp only [List.length_cons] at h
    rw [rdif]
    by_cases c1 : a.1 < b.1
    · rw [if_pos c1, List.map_cons]
      obtain ⟨i1, i2⟩ := rdif_keys n A (b :: B) (by simp only [List.length_cons]; omega) a2 hb
      refine ⟨List.pairwise_cons.2 ⟨fun k hk => ?_, i1⟩, fun k => ?_⟩
      · have := (i2 k).1 hk
        apply Classical.byContradiction
        intro hc
        apply this
        rw [valE_low fun e he => by have := a1 e he; simp only at hc; omega, valE_low fun e he => ?_]
        rcases List.mem_cons.1 he with rfl | he
        · simp only at hc; omega
        · have := b1 e he; simp only at hc; omega
      · rw [List.mem_cons, i2, valE_cons a A]
        by_cases hk : a.1 = k
        · rw [if_pos hk, valE_low (A := b :: B) fun e he => ?_]
          · simp [hk]
          · rcases List.mem_cons.1 he with rfl | he
            · omega
            · have := b1 e he; omega
        · rw [if_neg hk]
          simp only [show ¬ k = a.1 from fun e => hk e.symm, false_or]
    · rw [if_neg c1]
      by_cases c2 : b.1 < a.1
      · rw [if_pos c2, List.map_cons]
        obtain ⟨i1, i2⟩ := rdif_keys n (a :: A) B (by simp only [List.length_cons]; omega) ha b2
        refine ⟨List.pairwise_cons.2 ⟨fun k hk => ?_, i1⟩, fun k => ?_⟩
        · have := (i2 k).1 hk
          apply Classical.byContradiction
          intro hc
          apply this
          rw [valE_low (A := B) fun e he => by have := b1 e he; simp only at hc; omega, valE_low fun e he => ?_]
          rcases List.mem_cons.1 he with rfl | he
          · simp only at hc; omega
          · have := a1 e he; simp only at hc; omega
        · rw [List.mem_cons, i2, valE_cons b B]
          by_cases hk : b.1 = k
          · rw [if_pos hk, valE_low (A := a :: A) fun e he => ?_]
            · simp [hk]
            · rcases List.mem_cons.1 he with rfl | he
              · omega
              · have := a1 e he; omega
          · rw [if_neg hk]
            simp only [show ¬ k = b.1 from fun e => hk e.symm, false_or]
      · rw [if_neg c2]
        have hab : a.1 = b.1 := by omega
        obtain ⟨i1, i2⟩ := rdif_keys n A B (by omega) a2 b2
        by_cases c3 : a.2 = b.2
        · rw [if_pos c3]
          refine ⟨i1, fun k => ?_⟩
          rw [i2, valE_cons a A, valE_cons b B]
          by_cases hk : a.1 = k
          · rw [if_pos hk, if_pos (hab ▸ hk), c3, valE_low fun e he => by have := a1 e he; omega, valE_low fun e he => by have := b1 e he; omega]
            simp
          · rw [if_neg hk, if_neg (hab ▸ hk)]
        · rw [if_neg c3, List.map_cons]
          refine ⟨List.pairwise_cons.2 ⟨fun k hk => ?_, i1⟩, fun k => ?_⟩
          · have := (i2 k).1 hk
            apply Classical.byContradiction
            intro hc
            apply this
            rw [valE_low fun e he => by have := a1 e he; simp only at hc; omega, valE_low fun e he => by have := b1 e he; simp only at hc; omega]
          · rw [List.mem_cons, i2, valE_cons a A, valE_cons b B]
            by_cases hk : a.1 = k
            · rw [if_pos hk, if_pos (hab ▸ hk)]
              simp [hk, c3]
            · rw [if_neg hk, if_neg (hab ▸ hk)]
              simp only [show ¬ k = a.1 from fun e => hk e.symm, false_or]
theorem rdif_DifK {A B : List (Nat × (Int × Int))} (ha : Rises A) (hb : Rises B) : DifK A B ((rdif (A.length + B.length) A B).map (·.1)) := rdif_keys _ A B (Nat.le_refl _) ha hb
theorem rdif_len : ∀ (n : Nat) (A B : List (Nat × (Int × Int))), (rdif n A B).length ≤ n
  | 0, _, _ => by simp [rdif]
  | n + 1, [], [] => by simp [rdif]
  | n + 1, a :: A, [] => by rw [rdif, List.length_cons]; have := rdif_len n A []; omega
  | n + 1, [], b :: B => by rw [rdif, List.length_cons]; have := rdif_len n [] B; omega
  | n + 1, a :: A, b :: B => by
    rw [rdif]
    split
    · rw [List.length_cons]; have := rdif_len n A (b :: B); omega
    · split
      · rw [List.length_cons]; have := rdif_len n (a :: A) B; omega
      · split
        · have := rdif_len n A B; omega
        · rw [List.length_cons]; have := rdif_len n A B; omega

theorem rd_next {A B : List (Nat × (Int × Int))} {i k : Nat} {D R : List (Nat × (Option (Int × Int) × Option (Int × Int)))} {had has : Bool}
    (hHad : (¬ k < B.length ∧ had = true) ∨ (k < B.length ∧ ¬ i < A.length ∧ had = false) ∨ (∃ (hi : i < A.length) (hk : k < B.length), had = decide (A[i].1 ≤ B[k].1)))
    (hHas : (¬ i < A.length ∧ has = true) ∨ (i < A.length ∧ ¬ k < B.length ∧ has = false) ∨ (∃ (hi : i < A.length) (hk : k < B.length), has = decide (B[k].1 ≤ A[i].1)))
    (hdn : i < A.length ∨ k < B.length) (hRn : ∃ n, (A.length - i) + (B.length - k) ≤ n ∧ R = D ++ rdif n (A.drop i) (B.drop k)) :
    (had = true ∧ has = false ∧ ∃ hi : i < A.length, ∃ n, (A.length - (i + 1)) + (B.length - k) ≤ n ∧ R = (D ++ [(A[i].1, (some A[i].2, none))]) ++ rdif n (A.drop (i + 1)) (B.drop k)) ∨
    (had = false ∧ has = true ∧ ∃ hk : k < B.length, ∃ n, (A.length - i) + (B.length - (k + 1)) ≤ n ∧ R = (D ++ [(B[k].1, (none, some B[k].2))]) ++ rdif n (A.drop i) (B.drop (k + 1))) ∨
    (had = true ∧ has = true ∧ ∃ (hi : i < A.length) (hk : k < B.length), A[i].1 = B[k].1 ∧
      ((A[i].2 = B[k].2 ∧ ∃ n, (A.length - (i + 1)) + (B.length - (k + 1)) ≤ n ∧ R = D ++ rdif n (A.drop (i + 1)) (B.drop (k + 1))) ∨
       (A[i].2 ≠ B[k].2 ∧ ∃ n, (A.length - (i + 1)) + (B.length - (k + 1)) ≤ n ∧ R = (D ++ [(A[i].1, (some A[i].2, some B[k].2))]) ++ rdif n (A.drop (i + 1)) (B.drop (k + 1))))) := by
  obtain ⟨n, hn, hR⟩ := hRn
  obtain ⟨n, rfl⟩ : ∃ n', n = n' + 1 := ⟨n - 1, by omega⟩
  by_cases hi : i < A.length
  · have eA : A.drop i = A[i] :: A.drop (i + 1) := (List.getElem_cons_drop hi).symm
    by_cases hk : k < B.length
    · have eB : B.drop k = B[k] :: B.drop (k + 1) := (List.getElem_cons_drop hk).symm
      have h1 : had = decide (A[i].1 ≤ B[k].1) := by
        rcases hHad with ⟨h, _⟩ | ⟨_, h, _⟩ | ⟨_, _, h⟩
        · exact absurd hk h
        · exact absurd hi h
        · exact h
      have h2 : has = decide (B[k].1 ≤ A[i].1) := by
        rcases hHas with ⟨h, _⟩ | ⟨_, h, _⟩ | ⟨_, _, h⟩
        · exact absurd hi h
        · exact absurd hk h
        · exact h
      rw [eA, eB, rdif] at hR
      by_cases c1 : A[i].1 < B[k].1
      · rw [if_pos c1] at hR
        refine .inl ⟨by rw [h1]; exact decide_eq_true (by omega), by rw [h2]; exact decide_eq_false (by omega), hi, n, by omega, ?_⟩
        rw [hR, ← eB]
        simp
      · rw [if_neg c1] at hR
        by_cases c2 : B[k].1 < A[i].1
        · rw [if_pos c2] at hR
          refine .inr (.inl ⟨by rw [h1]; exact decide_eq_false (by omega), by rw [h2]; exact decide_eq_true (by omega), hk, n, by omega, ?_⟩)
          rw [hR, ← eA]
          simp
        · rw [if_neg c2] at hR
          refine .inr (.inr ⟨by rw [h1]; exact decide_eq_true (by omega), by rw [h2]; exact decide_eq_true (by omega), hi, hk, by omega, ?_⟩)
          by_cases c3 : A[i].2 = B[k].2
          · rw [if_pos c3] at hR
            exact .inl ⟨c3, n, by omega, hR⟩
          · rw [if_neg c3] at hR
            exact .inr ⟨c3, n, by omega, by rw [hR]; simp⟩
    · have eB : B.drop k = [] := List.drop_eq_nil_of_le (by omega)
      have h1 : had = true := by
        rcases hHad with ⟨_, h⟩ | ⟨h, _, _⟩ | ⟨_, h, _⟩
        · exact h
        · exact absurd h hk
        · exact absurd h hk
      have h2 : has = false := by
        rcases hHas with ⟨h, _⟩ | ⟨_, _, h⟩ | ⟨_, h, _⟩
        · exact absurd hi h
        · exact h
        · exact absurd h hk
      rw [eA, eB, rdif] at hR
      refine .inl ⟨h1, h2, hi, n, by omega, ?_⟩
      rw [hR, eB]
      simp
  · have eA : A.drop i = [] := List.drop_eq_nil_of_le (by omega)
    have hk : k < B.length := hdn.resolve_left hi
    have eB : B.drop k = B[k] :: B.drop (k + 1) := (List.getElem_cons_drop hk).symm
    have h1 : had = false := by
      rcases hHad with ⟨h, _⟩ | ⟨_, _, h⟩ | ⟨h, _, _⟩
      · exact absurd hk h
      · exact h
      · exact absurd h hi
    have h2 : has = true := by
      rcases hHas with ⟨_, h⟩ | ⟨h, _, _⟩ | ⟨h, _, _⟩
      · exact h
      · exact absurd h hi
      · exact absurd h hi
    rw [eA, eB, rdif] at hR
    refine .inr (.inl ⟨h1, h2, hk, n, by omega, ?_⟩)
    rw [hR, eA]
    simp
theorem rd_end {A B : List (Nat × (Int × Int))} {i k : Nat} {D R : List (Nat × (Option (Int × Int) × Option (Int × Int)))} (hi : ¬ i < A.length) (hk : ¬ k < B.length) (hRn : ∃ n, (A.length - i) + (B.length - k) ≤ n ∧ R = D ++ rdif n (A.drop i) (B.drop k)) : R = D := by
  obtain ⟨n, -, hR⟩ := hRn
  rw [List.drop_eq_nil_of_le (by omega), List.drop_eq_nil_of_le (by omega)] at hR
  cases n with
  | zero => rw [hR, rdif]; simp
  | succ n => rw [hR, rdif]; simp

end Go.Proofs.YtblfdjdhikfjhaaGreat


/- THE MATHEMATICS: what the reference's Diff tells is what the trie's tells, with its values. -/
namespace Go.Proofs.YtblfdjdhikfjhaaGreat

theorem valE_skip {a : Nat × (Int × Int)} {A : List (Nat × (Int × Int))} {k : Nat} (h : k ≠ a.1) : valE (a :: A) k = valE A k := by rw [valE_cons, if_neg (Ne.symm h)]
theorem rdif_vals : ∀ (n : Nat) (A B : List (Nat × (Int × Int))), A.length + B.length ≤ n → Rises A → Rises B → ∀ c ∈ rdif n A B, c = (c.1, (valE A c.1, valE B c.1))
  | 0, _, _, _, _, _, c, h => by simp [rdif] at h
  | n + 1, [], [], _, _, _, c, h => by simp [rdif] at h
  | n + 1, a :: A, [], hn, hA, hB, c, h => by
    obtain ⟨ha, hA'⟩ := rises_tail hA
    simp only [List.length_cons, List.length_nil] at hn
    rcases List.mem_cons.1 h with rfl | h
    · rw [valE_cons, if_pos rfl, valE_nil]
    · have hk := ((rdif_keys n A [] (by simp; omega) hA' hB).2 c.1).1 (List.mem_map_of_mem h)
      have hne : c.1 ≠ a.1 := fun e => hk (by rw [e, valE_low ha, valE_nil])
      rw [valE_skip hne]
      exact rdif_vals n A [] (by simp; omega) hA' hB c h
  | n + 1, [], b :: B, hn, hA, hB, c, h => by
    obtain ⟨hb, hB'⟩ := rises_tail hB
    simp only [List.length_cons, List.length_nil] at hn
    rcases List.mem_cons.1 h with rfl | h
    · rw [valE_cons, if_pos rfl, valE_nil]
    · have hk := ((rdif_keys n [] B (by simp; omega) hA hB').2 c.1).1 (List.mem_map_of_mem h)
      have hne : c.1 ≠ b.1 := fun e => hk (by rw [e, valE_low hb, valE_nil])
      rw [valE_skip hne]
      exact rdif_vals n [] B (by simp; omega) hA hB' c h
  | n + 1, a :: A, b :: B, hn, hA, hB, c, h => by
    obtain ⟨ha, hA'⟩ := rises_tail hA
    obtain ⟨hb, hB'⟩ := rises_tail hB
    simp only [List.length_cons] at hn
    unfold rdif at h
    by_cases h1 : a.1 < b.1
    · rw [if_pos h1] at h
      have hlow : valE (b :: B) a.1 = none := valE_low fun e he => by
        rcases List.mem_cons.1 he with rfl | he
        · exact h1
        · exact Nat.lt_trans h1 (hb e he)
      rcases List.mem_cons.1 h with rfl | h
      · rw [hlow, valE_cons, if_pos rfl]
      · have hk := ((rdif_keys n A (b :: B) (by simp; omega) hA' hB).2 c.1).1 (List.mem_map_of_mem h)
        have hne : c.1 ≠ a.1 := fun e => hk (by rw [e, valE_low ha, hlow])
        rw [valE_skip hne]
        exact rdif_vals n A (b :: B) (by simp; omega) hA' hB c h
    · rw [if_neg h1] at h
      by_cases h2 : b.1 < a.1
      · rw [if_pos h2] at h
        have hlow : valE (a :: A) b.1 = none := valE_low fun e he => by
          rcases List.mem_cons.1 he with rfl | he
          · exact h2
          · exact Nat.lt_trans h2 (ha e he)
        rcases List.mem_cons.1 h with rfl | h
        · rw [hlow, valE_cons, if_pos rfl]
        · have hk := ((rdif_keys n (a :: A) B (by simp; omega) hA hB').2 c.1).1 (List.mem_map_of_mem h)
          have hne : c.1 ≠ b.1 := fun e => hk (by rw [e, valE_low hb, hlow])
          rw [valE_skip (a := b) hne]
          exact rdif_vals n (a :: A) B (by simp; omega) hA hB' c h
      · rw [if_neg h2] at h
        have e0 : a.1 = b.1 := by omega
        have tail : c ∈ rdif n A B → c = (c.1, (valE (a :: A) c.1, valE (b :: B) c.1)) := fun h => by
          have hk := ((rdif_keys n A B (by omega) hA' hB').2 c.1).1 (List.mem_map_of_mem h)
          have hne : c.1 ≠ a.1 := fun e => hk (by rw [e, valE_low ha, e0, valE_low hb])
          rw [valE_skip hne, valE_skip (a := b) (by rw [← e0]; exact hne)]
          exact rdif_vals n A B (by omega) hA' hB' c h
        by_cases h3 : a.2 = b.2
        · rw [if_pos h3] at h
          exact tail h
        · rw [if_neg h3] at h
          rcases List.mem_cons.1 h with rfl | h
          · show (a.1, (some a.2, some b.2)) = (a.1, (valE (a :: A) a.1, valE (b :: B) a.1))
            rw [valE_cons, if_pos rfl, valE_cons, if_pos e0.symm]
          · exact tail h
theorem keys_same : ∀ {x y : List Nat}, x.Pairwise (· < ·) → y.Pairwise (· < ·) → (∀ k, k ∈ x ↔ k ∈ y) → x = y := fun hx hy h =>
  List.Perm.eq_of_pairwise (le := (· < ·)) (fun a b _ _ h1 h2 => absurd h1 (by omega)) hx hy ((List.perm_ext_iff_of_nodup (hx.imp fun h => Nat.ne_of_lt h) (hy.imp fun h => Nat.ne_of_lt h)).2 h)
theorem map_self {F : Nat → Nat × (Option (Int × Int) × Option (Int × Int))} {L : List (Nat × (Option (Int × Int) × Option (Int × Int)))} (h : ∀ c ∈ L, c = F c.1) : L = (L.map (·.1)).map F := by
  rw [List.map_map]
  refine (List.map_id L).symm.trans (List.map_congr_left fun c hc => ?_)
  exact h c hc
theorem dif_rdif {a b : Tr} (ha : a.wf 7) (hb : b.wf 7) : a.dif b 7 0 = rdif ((a.ents 7 0).length + (b.ents 7 0).length) (a.ents 7 0) (b.ents 7 0) := by
  have h1 := difK_dif ha hb
  have h2 := rdif_DifK (ents_rises 7 ha 0) (ents_rises 7 hb 0)
  have hk : (a.dif b 7 0).map (·.1) = (rdif ((a.ents 7 0).length + (b.ents 7 0).length) (a.ents 7 0) (b.ents 7 0)).map (·.1) := keys_same h1.1 h2.1 fun k => (h1.2 k).trans (h2.2 k).symm
  have hd : ∀ c ∈ a.dif b 7 0, c = (fun k => (k, (valE (a.ents 7 0) k, valE (b.ents 7 0) k))) c.1 := fun c hc => by
    obtain ⟨r, hr, -, rfl⟩ := mem_dif.1 hc
    show (0 + r, (a.get 7 r, b.get 7 r)) = (0 + r, (valE (a.ents 7 0) (0 + r), valE (b.ents 7 0) (0 + r)))
    rw [Nat.zero_add, valE_ents ha hr, valE_ents hb hr]
  have hr := rdif_vals _ (a.ents 7 0) (b.ents 7 0) (Nat.le_refl _) (ents_rises 7 ha 0) (ents_rises 7 hb 0)
  have e1 := map_self (F := fun k => (k, (valE (a.ents 7 0) k, valE (b.ents 7 0) k))) hd
  have e2 := map_self (F := fun k => (k, (valE (a.ents 7 0) k, valE (b.ents 7 0) k))) hr
  rw [hk] at e1
  exact e1.trans e2.symm

end Go.Proofs.YtblfdjdhikfjhaaGreat

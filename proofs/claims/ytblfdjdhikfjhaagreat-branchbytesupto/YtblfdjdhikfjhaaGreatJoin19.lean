import Derived.Test.YtblfdjdhikfjhaaGreatTrieM
namespace Go.Proofs.YtblfdjdhikfjhaaGreat

/-- What differs at a key: what was there, what is there now. -/
abbrev Ch := Nat × (Option (Int × Int) × Option (Int × Int))

/-- What differs from a tree to another one, rising. -/
def Tr.dif (a b : Tr) (n p : Nat) : List Ch := (List.range (16 ^ (n + 1))).filterMap fun r => if a.get n r = b.get n r then none else some (p + r, (a.get n r, b.get n r))

theorem dif_self (a : Tr) (n p : Nat) : a.dif a n p = [] := by
  unfold Tr.dif
  rw [List.filterMap_eq_nil_iff]
  intro r _
  simp

theorem mem_dif {a b : Tr} {n p : Nat} {c : Ch} : c ∈ a.dif b n p ↔ ∃ r, r < 16 ^ (n + 1) ∧ a.get n r ≠ b.get n r ∧ c = (p + r, (a.get n r, b.get n r)) := by
  unfold Tr.dif
  rw [List.mem_filterMap]
  constructor
  · rintro ⟨r, hr, h⟩
    split at h
    · cases h
    · rename_i hne
      exact ⟨r, by simpa using hr, hne, (Option.some.inj h).symm⟩
  · rintro ⟨r, hr, hne, rfl⟩
    exact ⟨r, by simpa using hr, by rw [if_neg hne]⟩

theorem pair_filterMap {β : Type} {f : Nat → Option (Nat × β)} {p : Nat} (hb : ∀ i e, f i = some e → e.1 = p + i) : ∀ m, ((List.range m).filterMap f).Pairwise fun a b => a.1 < b.1
  | 0 => by simp
  | m + 1 => by
    rw [List.range_succ, List.filterMap_append, List.pairwise_append]
    refine ⟨pair_filterMap hb m, ?_, ?_⟩
    · cases h : f m <;> simp [h]
    · intro x hx y hy
      obtain ⟨i, hi, ei⟩ := List.mem_filterMap.1 hx
      obtain ⟨j, hj, ej⟩ := List.mem_filterMap.1 hy
      have := hb i x ei
      have := hb j y ej
      simp at hi hj
      omega

theorem dif_rises (a b : Tr) (n p : Nat) : (a.dif b n p).Pairwise fun x y => x.1 < y.1 := by
  unfold Tr.dif
  refine pair_filterMap (p := p) (fun i e h => ?_) _
  split at h
  · cases h
  · rw [← Option.some.inj h]

theorem get_none (n r : Nat) : Tr.nil.get n r = none := by cases n <;> rfl

theorem ents_range_eq {n : Nat} {t : Tr} (hw : t.wf n) (p : Nat) : t.ents n p = (List.range (16 ^ (n + 1))).filterMap fun r => (t.get n r).map fun v => (p + r, v) := by
  refine rises_ext (ents_rises n hw p) (pair_filterMap (p := p) (fun i e h => ?_) _) fun e => ?_
  · cases hg : t.get n i with
    | none => rw [hg] at h; cases h
    | some v => rw [hg] at h; rw [← Option.some.inj h]
  · obtain ⟨k, v⟩ := e
    rw [ents_mem n hw, List.mem_filterMap]
    constructor
    · rintro ⟨r, hr, rfl, hg⟩
      exact ⟨r, by simpa using hr, by rw [hg]; rfl⟩
    · rintro ⟨r, hr, h⟩
      cases hg : t.get n r with
      | none => rw [hg] at h; cases h
      | some v' =>
        rw [hg] at h
        have := Option.some.inj h
        exact ⟨r, by simpa using hr, (congrArg Prod.fst this).symm, by rw [hg]; exact congrArg some (congrArg Prod.snd this)⟩

def gainC (e : Nat × (Int × Int)) : Ch := (e.1, (none, some e.2))
def loseC (e : Nat × (Int × Int)) : Ch := (e.1, (some e.2, none))

theorem dif_gain {n : Nat} {b : Tr} (hw : b.wf n) (p : Nat) : Tr.nil.dif b n p = (b.ents n p).map gainC := by
  rw [ents_range_eq hw, List.map_filterMap]
  unfold Tr.dif
  congr 1
  funext r
  rw [get_none]
  cases h : b.get n r with
  | none => rfl
  | some v => rfl
theorem dif_lose {n : Nat} {a : Tr} (hw : a.wf n) (p : Nat) : a.dif .nil n p = (a.ents n p).map loseC := by
  rw [ents_range_eq hw, List.map_filterMap]
  unfold Tr.dif
  congr 1
  funext r
  rw [get_none]
  cases h : a.get n r with
  | none => rfl
  | some v => rfl

theorem range_mul (m : Nat) : ∀ k, List.range (k * m) = (List.range k).flatMap fun i => (List.range m).map (i * m + ·)
  | 0 => by simp
  | k + 1 => by
    rw [Nat.add_mul, Nat.one_mul, List.range_add, range_mul m k, List.range_succ, List.flatMap_append]
    simp

theorem get_at {t : Tr} {n : Nat} (hw : t.wf (n + 1)) {i r : Nat} (hi : i < 16) (hr : r < 16 ^ (n + 1)) : t.get (n + 1) (i * 16 ^ (n + 1) + r) = (t.kid i).get n r := by
  have hd : dg (i * 16 ^ (n + 1) + r) (n + 1) = i := by
    unfold dg
    rw [Nat.mul_comm, Nat.mul_add_div (Nat.pos_of_ne_zero (by simp)), Nat.div_eq_of_lt hr, Nat.add_zero, Nat.mod_eq_of_lt hi]
  rw [get_kid hw, hd, get_shift (wf_kid hw hi) i r hr]

theorem filterMap_flat {α β γ : Type} (f : β → Option γ) (g : α → List β) (l : List α) : (l.flatMap g).filterMap f = l.flatMap fun a => (g a).filterMap f := by
  induction l with
  | nil => rfl
  | cons a l ih => simp [List.filterMap_append, ih]
theorem flatMap_congr' {α β : Type} {f g : α → List β} {l : List α} (h : ∀ a ∈ l, f a = g a) : l.flatMap f = l.flatMap g := by
  induction l with
  | nil => rfl
  | cons a l ih => rw [List.flatMap_cons, List.flatMap_cons, h a (by simp), ih (fun b hb => h b (by simp [hb]))]
theorem filterMap_congr' {α β : Type} {f g : α → Option β} {l : List α} (h : ∀ a ∈ l, f a = g a) : l.filterMap f = l.filterMap g := by
  induction l with
  | nil => rfl
  | cons a l ih => rw [List.filterMap_cons, List.filterMap_cons, h a (by simp), ih (fun b hb => h b (by simp [hb]))]

/-- The changes below a node's children ahead of place j. -/
def difs (a b : Tr) (n p j : Nat) : List Ch := (List.range j).flatMap fun i => (a.kid i).dif (b.kid i) n (p + i * 16 ^ (n + 1))
theorem difs_zero (a b : Tr) (n p : Nat) : difs a b n p 0 = [] := rfl
theorem difs_succ (a b : Tr) (n p j : Nat) : difs a b n p (j + 1) = difs a b n p j ++ (a.kid j).dif (b.kid j) n (p + j * 16 ^ (n + 1)) := by
  unfold difs
  rw [List.range_succ, List.flatMap_append]
  simp
theorem difs_prefix (a b : Tr) (n p : Nat) {j k : Nat} (h : j ≤ k) : difs a b n p j <+: difs a b n p k := by
  obtain ⟨m, rfl⟩ : ∃ m, k = j + m := ⟨k - j, by omega⟩
  clear h
  induction m with
  | zero => exact List.prefix_refl _
  | succ m ih =>
    refine List.IsPrefix.trans ih ?_
    rw [show j + (m + 1) = (j + m) + 1 from rfl, difs_succ]
    exact List.prefix_append _ _
theorem dif_node {a b : Tr} {n : Nat} (ha : a.wf (n + 1)) (hb : b.wf (n + 1)) (p : Nat) : a.dif b (n + 1) p = difs a b n p 16 := by
  unfold Tr.dif difs
  rw [show 16 ^ (n + 1 + 1) = 16 * 16 ^ (n + 1) from by rw [Nat.pow_succ]; omega, range_mul, filterMap_flat]
  refine flatMap_congr' fun i hi => ?_
  have hi16 : i < 16 := by simpa using hi
  rw [List.filterMap_map]
  refine filterMap_congr' fun r hr => ?_
  have hr' : r < 16 ^ (n + 1) := by simpa using hr
  simp only [Function.comp, get_at ha hi16 hr', get_at hb hi16 hr', Nat.add_assoc]

/-- What a shelf holds at a place. -/
def Tr.at (t : Tr) (i : Nat) : Option (Int × Int) := if t.th i = true then some (t.vk i, t.vn i) else none
/-- The changes of two shelves ahead of place j. -/
def difl (a b : Tr) (p j : Nat) : List Ch := (List.range j).filterMap fun i => if a.at i = b.at i then none else some (p + i, (a.at i, b.at i))
theorem difl_zero (a b : Tr) (p : Nat) : difl a b p 0 = [] := rfl
theorem difl_same {a b : Tr} {p j : Nat} (h : a.at j = b.at j) : difl a b p (j + 1) = difl a b p j := by
  unfold difl
  rw [List.range_succ, List.filterMap_append]
  simp [h]
theorem difl_other {a b : Tr} {p j : Nat} (h : a.at j ≠ b.at j) : difl a b p (j + 1) = difl a b p j ++ [(p + j, (a.at j, b.at j))] := by
  unfold difl
  rw [List.range_succ, List.filterMap_append]
  simp [h]
theorem difl_prefix (a b : Tr) (p : Nat) {j k : Nat} (h : j ≤ k) : difl a b p j <+: difl a b p k := by
  obtain ⟨m, rfl⟩ : ∃ m, k = j + m := ⟨k - j, by omega⟩
  clear h
  induction m with
  | zero => exact List.prefix_refl _
  | succ m ih =>
    refine List.IsPrefix.trans ih ?_
    rw [show j + (m + 1) = (j + m) + 1 from rfl]
    by_cases h : a.at (j + m) = b.at (j + m)
    · rw [difl_same h]; exact List.prefix_refl _
    · rw [difl_other h]; exact List.prefix_append _ _
theorem dif_leaf {a b : Tr} (ha : a.wf 0) (hb : b.wf 0) (p : Nat) : a.dif b 0 p = difl a b p 16 := by
  unfold Tr.dif difl
  refine filterMap_congr' fun i hi => ?_
  have hi16 : i < 16 := by simpa using hi
  have hd : dg i 0 = i := by rw [dg_zero]; omega
  rw [get_leaf ha, get_leaf hb, hd]
  rfl

/-- Two maps with no difference hold the same. -/
theorem dif_nil_iff {a b : Tr} (ha : a.wf 7) (hb : b.wf 7) : a.dif b 7 0 = [] ↔ a.ents 7 0 = b.ents 7 0 := by
  constructor
  · intro h
    rw [ents_range_eq ha, ents_range_eq hb]
    refine filterMap_congr' fun r hr => ?_
    by_cases e : a.get 7 r = b.get 7 r
    · rw [e]
    · exfalso
      have : ((0 + r, (a.get 7 r, b.get 7 r)) : Ch) ∈ a.dif b 7 0 := mem_dif.2 ⟨r, by simpa using hr, e, rfl⟩
      rw [h] at this
      cases this
  · intro h
    rw [List.eq_nil_iff_forall_not_mem]
    rintro c hc
    obtain ⟨r, hr, hne, -⟩ := mem_dif.1 hc
    apply hne
    have hh : ∀ v, a.get 7 r = some v ↔ b.get 7 r = some v := fun v => by
      have h1 := mem_all ha (k := r) (v := v)
      have h2 := mem_all hb (k := r) (v := v)
      rw [h] at h1
      rw [h1] at h2
      constructor
      · intro e; exact (h2.1 ⟨hr, e⟩).2
      · intro e; exact (h2.2 ⟨hr, e⟩).2
    cases e1 : a.get 7 r with
    | none =>
      cases e2 : b.get 7 r with
      | none => rfl
      | some v => have := (hh v).2 e2; rw [e1] at this; cases this
    | some v => exact ((hh v).1 e1).symm

end Go.Proofs.YtblfdjdhikfjhaaGreat


namespace Go.Proofs.YtblfdjdhikfjhaaGreat

theorem filter_lenK {α β γ δ : Type} {f : α → Option β} {g : α → Option γ} {h : α → Option δ} (hh : ∀ a b, f a = some b → g a ≠ none ∨ h a ≠ none) (l : List α) : (l.filterMap f).length ≤ (l.filterMap g).length + (l.filterMap h).length := by
  induction l with
  | nil => simp
  | cons a l ih =>
    rw [List.filterMap_cons, List.filterMap_cons, List.filterMap_cons]
    cases hf : f a with
    | none =>
      cases g a <;> cases h a <;> simp <;> omega
    | some b =>
      rcases hh a b hf with hg | hg
      · obtain ⟨c, hc⟩ := Option.ne_none_iff_exists'.1 hg
        rw [hc]
        cases h a <;> simp <;> omega
      · obtain ⟨c, hc⟩ := Option.ne_none_iff_exists'.1 hg
        rw [hc]
        cases g a <;> simp <;> omega
theorem dif_lenK {a b : Tr} {n : Nat} (ha : a.wf n) (hb : b.wf n) (p : Nat) : (a.dif b n p).length ≤ (a.ents n p).length + (b.ents n p).length := by
  rw [ents_range_eq ha, ents_range_eq hb]
  unfold Tr.dif
  refine filter_lenK (fun r c h => ?_) _
  cases h1 : a.get n r with
  | some v => exact .inl (by simp)
  | none =>
    cases h2 : b.get n r with
    | some v => exact .inr (by simp)
    | none => rw [h1, h2] at h; simp at h

/-- What entries hold at a key. -/
def valE (L : List (Nat × (Int × Int))) (k : Nat) : Option (Int × Int) := (L.find? fun e => e.1 == k).map (·.2)
theorem find_range (f : Nat → Option (Int × Int)) (k : Nat) : ∀ m, (((List.range m).filterMap fun r => (f r).map fun v => (0 + r, v)).find? fun e => e.1 == k) = if k < m then (f k).map (fun v => (k, v)) else none
  | 0 => by simp
  | m + 1 => by
    rw [List.range_succ, List.filterMap_append, List.find?_append, find_range f k m]
    by_cases h1 : k < m
    · rw [if_pos h1, if_pos (by omega)]
      cases hf : f k with
      | some v => simp
      | none =>
        cases hm : f m with
        | none => simp [hm]
        | some u =>
          have : ¬ m = k := by omega
          simp [hm, this]
    · rw [if_neg h1]
      by_cases h2 : k = m
      · subst h2
        rw [if_pos (by omega)]
        cases hf : f k with
        | some v => simp [hf]
        | none => simp [hf]
      · rw [if_neg (by omega)]
        cases hm : f m with
        | none => simp [hm]
        | some u =>
          have : ¬ m = k := by omega
          simp [hm, this]
theorem valE_ents {t : Tr} (hw : t.wf 7) {k : Nat} (hk : k < 16 ^ 8) : valE (t.ents 7 0) k = t.get 7 k := by
  unfold valE
  rw [ents_range_eq hw, find_range, if_pos hk]
  cases t.get 7 k <;> rfl
theorem valE_out {t : Tr} (hw : t.wf 7) {k : Nat} (hk : ¬ k < 16 ^ 8) : valE (t.ents 7 0) k = none := by
  unfold valE
  rw [ents_range_eq hw, find_range, if_neg hk]
  rfl

/-- The keys at which two lists of entries differ, rising. -/
def DifK (A B : List (Nat × (Int × Int))) (ks : List Nat) : Prop := ks.Pairwise (· < ·) ∧ ∀ k, k ∈ ks ↔ valE A k ≠ valE B k
theorem difK_dif {a b : Tr} (ha : a.wf 7) (hb : b.wf 7) : DifK (a.ents 7 0) (b.ents 7 0) ((a.dif b 7 0).map (·.1)) := by
  refine ⟨List.pairwise_map.2 (dif_rises a b 7 0), fun k => ?_⟩
  rw [List.mem_map]
  by_cases hk : k < 16 ^ 8
  · rw [valE_ents ha hk, valE_ents hb hk]
    constructor
    · rintro ⟨c, hc, rfl⟩
      obtain ⟨r, h1, h2, rfl⟩ := mem_dif.1 hc
      simpa using h2
    · intro h
      exact ⟨(0 + k, (a.get 7 k, b.get 7 k)), mem_dif.2 ⟨k, hk, h, rfl⟩, by simp⟩
  · rw [valE_out ha hk, valE_out hb hk]
    constructor
    · rintro ⟨c, hc, rfl⟩
      obtain ⟨r, h1, h2, rfl⟩ := mem_dif.1 hc
      exact absurd (by simpa using h1) hk
    · intro h; exact absurd rfl h
theorem rising_eq : ∀ {x y : List Nat}, x.Pairwise (· < ·) → y.Pairwise (· < ·) → (∀ k, k ∈ x ↔ k ∈ y) → x = y
  | [], [], _, _, _ => rfl
  | [], b :: y, _, _, h => by have := (h b).2 (by simp); simp at this
  | a :: x, [], _, _, h => by have := (h a).1 (by simp); simp at this
  | a :: x, b :: y, hx, hy, h => by
    obtain ⟨hx1, hx2⟩ := List.pairwise_cons.1 hx
    obtain ⟨hy1, hy2⟩ := List.pairwise_cons.1 hy
    have hab : a = b := by
      rcases List.mem_cons.1 ((h a).1 (by simp)) with e | e
      · exact e
      · rcases List.mem_cons.1 ((h b).2 (by simp)) with e2 | e2
        · exact e2.symm
        · have := hx1 b e2
          have := hy1 a e
          omega
    subst hab
    refine congrArg (a :: ·) (rising_eq hx2 hy2 fun k => ⟨fun hk => ?_, fun hk => ?_⟩)
    · rcases List.mem_cons.1 ((h k).1 (List.mem_cons_of_mem _ hk)) with e | e
      · subst e; exact absurd (hx1 k hk) (Nat.lt_irrefl _)
      · exact e
    · rcases List.mem_cons.1 ((h k).2 (List.mem_cons_of_mem _ hk)) with e | e
      · subst e; exact absurd (hy1 k hk) (Nat.lt_irrefl _)
      · exact e
theorem DifK.turn {A B : List (Nat × (Int × Int))} {x y : List Nat} (hx : DifK A B x) (hy : DifK B A y) : x = y :=
  rising_eq hx.1 hy.1 fun k => by rw [hx.2, hy.2]; exact ⟨fun h e => h e.symm, fun h e => h e.symm⟩
theorem DifK.self {A : List (Nat × (Int × Int))} {x : List Nat} (hx : DifK A A x) : x = [] := by
  cases x with
  | nil => rfl
  | cons a x => exact absurd rfl ((hx.2 a).1 (by simp))
theorem DifK.rel {A B C : List (Nat × (Int × Int))} {x w z : List Nat} (hx : DifK A B x) (hw : DifK B C w) (hz : DifK A C z) {k : Nat} (h : k ∈ z) : k ∈ x ∨ k ∈ w := by
  by_cases h1 : valE A k = valE B k
  · refine .inr ((hw.2 k).2 fun e => ?_)
    exact (hz.2 k).1 h (h1.trans e)
  · exact .inl ((hx.2 k).2 h1)
theorem valE_mem {L : List (Nat × (Int × Int))} (h : Rises L) {e : Nat × (Int × Int)} (he : e ∈ L) : valE L e.1 = some e.2 := by
  unfold valE
  induction L with
  | nil => simp at he
  | cons a L ih =>
    obtain ⟨h1, h2⟩ := List.pairwise_cons.1 h
    rw [List.find?_cons]
    rcases List.mem_cons.1 he with rfl | he'
    · simp
    · have : ¬ a.1 = e.1 := fun e2 => by have := h1 e he'; omega
      rw [show (a.1 == e.1) = false by simpa using this]
      exact ih h2 he'

end Go.Proofs.YtblfdjdhikfjhaaGreat

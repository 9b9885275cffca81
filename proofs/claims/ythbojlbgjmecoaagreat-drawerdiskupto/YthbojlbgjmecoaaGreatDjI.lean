import Derived.Test.YthbojlbgjmecoaaGreatDjC
/- FILES BY NAME, IN ORDER. No program. -/
namespace Go.Proofs.YthbojlbgjmecoaaGreat.DJ

theorem ltB_irr : ∀ a : List Nat, ltB a a = false
  | [] => rfl
  | a :: l => by simp [ltB, ltB_irr l]
theorem ltB_trans : ∀ {a b c : List Nat}, ltB a b = true → ltB b c = true → ltB a c = true
  | _, [], _, h, _ => by cases ‹List Nat› <;> simp [ltB] at h
  | _, _ :: _, [], _, h => by simp [ltB] at h
  | [], _ :: _, _ :: _, _, _ => rfl
  | x :: a, y :: b, z :: c, h1, h2 => by
    simp only [ltB] at h1 h2 ⊢
    by_cases e1 : x = y
    · subst e1
      rw [if_pos rfl] at h1
      by_cases e2 : x = z
      · subst e2
        rw [if_pos rfl] at h2 ⊢
        exact ltB_trans h1 h2
      · rw [if_neg e2] at h2 ⊢; exact h2
    · rw [if_neg e1] at h1
      by_cases e2 : y = z
      · subst e2
        rw [if_neg e1]; exact h1
      · rw [if_neg e2] at h2
        simp only [decide_eq_true_eq] at h1 h2
        rw [if_neg (by omega)]
        simp only [decide_eq_true_eq]; omega
theorem ltB_total : ∀ {a b : List Nat}, a ≠ b → ltB a b = true ∨ ltB b a = true
  | [], [], h => absurd rfl h
  | [], _ :: _, _ => .inl rfl
  | _ :: _, [], _ => .inr rfl
  | x :: a, y :: b, h => by
    simp only [ltB]
    by_cases e : x = y
    · subst e
      rw [if_pos rfl, if_pos rfl]
      exact ltB_total (fun e => h (by rw [e]))
    · rw [if_neg e, if_neg (fun h => e h.symm)]
      simp only [decide_eq_true_eq]; omega
theorem ltB_ne {a b : List Nat} (h : ltB a b = true) : a ≠ b := by
  rintro rfl; rw [ltB_irr] at h; cases h

/-- By name, each once. -/
def Srt (fs : List Fl) : Prop := fs.Pairwise fun a b => ltB a.nm b.nm = true
theorem Srt.one {fs : List Fl} (h : Srt fs) {f g : Fl} (hf : f ∈ fs) (hg : g ∈ fs) (e : f.nm = g.nm) : f = g := by
  unfold Srt at h
  induction fs with
  | nil => simp at hf
  | cons a l ih =>
    obtain ⟨h1, h2⟩ := List.pairwise_cons.1 h
    rcases List.mem_cons.1 hf with rfl | hf' <;> rcases List.mem_cons.1 hg with rfl | hg'
    · rfl
    · exact absurd e (ltB_ne (h1 _ hg'))
    · exact absurd e.symm (ltB_ne (h1 _ hf'))
    · exact ih h2 hf' hg'
theorem get_some {fs : List Fl} {nm : List Nat} {f : Fl} (h : get fs nm = some f) : f ∈ fs ∧ f.nm = nm := by
  unfold get at h
  exact ⟨List.mem_of_find?_eq_some h, by simpa using List.find?_some h⟩
theorem get_none {fs : List Fl} {nm : List Nat} : get fs nm = none ↔ ∀ f ∈ fs, f.nm ≠ nm := by
  unfold get; simp [List.find?_eq_none]
theorem get_of {fs : List Fl} (h : Srt fs) {f : Fl} (hf : f ∈ fs) : get fs f.nm = some f := by
  cases hg : get fs f.nm with
  | none => exact absurd rfl (get_none.1 hg f hf)
  | some g =>
    obtain ⟨h1, h2⟩ := get_some hg
    rw [h.one h1 hf h2]
theorem upd_mem {fs : List Fl} {nm : List Nat} {g : Fl → Fl} {f : Fl} (h : f ∈ upd fs nm g) : ∃ x ∈ fs, f = if x.nm = nm then g x else x := by
  obtain ⟨x, hx, e⟩ := List.mem_map.1 h
  exact ⟨x, hx, e.symm⟩
theorem upd_names {fs : List Fl} {nm : List Nat} {g : Fl → Fl} (hg : ∀ f, (g f).nm = f.nm) : (upd fs nm g).map (·.nm) = fs.map (·.nm) := by
  unfold upd
  rw [List.map_map]
  refine List.map_congr_left fun f _ => ?_
  simp only [Function.comp]
  split
  · exact hg f
  · rfl
theorem srt_names {fs gs : List Fl} (h : Srt fs) (e : gs.map (·.nm) = fs.map (·.nm)) : Srt gs := by
  have h1 : (fs.map (·.nm)).Pairwise (fun a b => ltB a b = true) := List.pairwise_map.2 h
  rw [← e] at h1
  exact List.pairwise_map.1 h1
theorem srt_upd {fs : List Fl} {nm : List Nat} {g : Fl → Fl} (hg : ∀ f, (g f).nm = f.nm) (h : Srt fs) : Srt (upd fs nm g) := srt_names h (upd_names hg)
theorem upd_len (fs : List Fl) (nm : List Nat) (g : Fl → Fl) : (upd fs nm g).length = fs.length := by simp [upd]
theorem srt_del {fs : List Fl} {nm : List Nat} (h : Srt fs) : Srt (del fs nm) := List.Pairwise.filter _ h
theorem mem_del {fs : List Fl} {nm : List Nat} {f : Fl} : f ∈ del fs nm ↔ f ∈ fs ∧ f.nm ≠ nm := by simp [del]
theorem del_len {fs : List Fl} (h : Srt fs) {f : Fl} (hf : f ∈ fs) : (del fs f.nm).length + 1 = fs.length := by
  unfold Srt at h
  induction fs with
  | nil => simp at hf
  | cons a l ih =>
    obtain ⟨h1, h2⟩ := List.pairwise_cons.1 h
    rcases List.mem_cons.1 hf with rfl | hf'
    · have : del (f :: l) f.nm = l := by
        unfold del
        rw [List.filter_cons_of_neg (by simp)]
        refine List.filter_eq_self.2 fun x hx => ?_
        simpa using (ltB_ne (h1 x hx)).symm
      rw [this]; rfl
    · have hne : a.nm ≠ f.nm := ltB_ne (h1 f hf')
      have : del (a :: l) f.nm = a :: del l f.nm := by
        unfold del
        rw [List.filter_cons_of_pos (by simpa using hne)]
      rw [this, List.length_cons, ih h2 hf', List.length_cons]
theorem mem_ins {fs : List Fl} {x f : Fl} : f ∈ ins fs x ↔ f = x ∨ f ∈ fs := by
  unfold ins
  rw [List.mem_append, List.mem_cons]
  have h := List.takeWhile_append_dropWhile (p := fun y : Fl => ltB y.nm x.nm) (l := fs)
  constructor
  · rintro (h1 | h1 | h1)
    · exact .inr (h ▸ List.mem_append_left _ h1)
    · exact .inl h1
    · exact .inr (h ▸ List.mem_append_right _ h1)
  · rintro (h1 | h1)
    · exact .inr (.inl h1)
    · rw [← h, List.mem_append] at h1
      rcases h1 with h1 | h1
      · exact .inl h1
      · exact .inr (.inr h1)
theorem ins_len (fs : List Fl) (x : Fl) : (ins fs x).length = fs.length + 1 := by
  unfold ins
  have h := congrArg List.length (List.takeWhile_append_dropWhile (p := fun y : Fl => ltB y.nm x.nm) (l := fs))
  rw [List.length_append] at h
  rw [List.length_append, List.length_cons]; omega
theorem srt_ins {fs : List Fl} {x : Fl} (h : Srt fs) (hn : ∀ f ∈ fs, f.nm ≠ x.nm) : Srt (ins fs x) := by
  unfold Srt at h ⊢
  induction fs with
  | nil => exact List.pairwise_cons.2 ⟨fun _ h => by simp at h, .nil⟩
  | cons a l ih =>
    obtain ⟨h1, h2⟩ := List.pairwise_cons.1 h
    cases hlt : ltB a.nm x.nm with
    | true =>
      have e : ins (a :: l) x = a :: ins l x := by
        unfold ins
        simp [hlt]
      rw [e]
      refine List.pairwise_cons.2 ⟨fun f hf => ?_, ih h2 (fun f hf => hn f (List.mem_cons_of_mem _ hf))⟩
      rcases mem_ins.1 hf with rfl | hf
      · exact hlt
      · exact h1 f hf
    | false =>
      have e : ins (a :: l) x = x :: a :: l := by
        unfold ins
        simp [hlt]
      have hxa : ltB x.nm a.nm = true := by
        rcases ltB_total (hn a List.mem_cons_self) with h' | h'
        · rw [hlt] at h'; cases h'
        · exact h'
      rw [e]
      refine List.pairwise_cons.2 ⟨fun f hf => ?_, h⟩
      rcases List.mem_cons.1 hf with rfl | hf
      · exact hxa
      · exact ltB_trans hxa (h1 f hf)
theorem cuts_names (keep : List Int) : ∀ (i : Nat) (fs : List Fl), (cuts keep i fs).map (·.nm) = fs.map (·.nm)
  | _, [] => rfl
  | i, f :: l => by simp [cuts, cutF, cuts_names keep (i + 1) l]
theorem cuts_len (keep : List Int) (i : Nat) (fs : List Fl) : (cuts keep i fs).length = fs.length := by
  have := congrArg List.length (cuts_names keep i fs)
  simpa using this

/-- What a disk keeps to. -/
structure Ok (d : Dk) : Prop where
  srt : Srt d.fs
  len : d.fs.length ≤ 40
  nmd : ∀ f ∈ d.fs, named f.nm
  siz : ∀ f ∈ d.fs, f.dat.length ≤ 2097152
  sur : ∀ f ∈ d.fs, f.sure ≤ f.dat.length
  byt : ∀ f ∈ d.fs, ∀ x ∈ f.dat, x < 256
theorem Ok.of_fs {d e : Dk} (h : Ok d) (he : e.fs = d.fs) : Ok e := by
  obtain ⟨h1, h2, h3, h4, h5, h6⟩ := h
  rw [← he] at h1 h2 h3 h4 h5 h6
  exact ⟨h1, h2, h3, h4, h5, h6⟩
theorem Ok.upd {d e : Dk} (h : Ok d) {nm : List Nat} {g : Fl → Fl} (he : e.fs = DJ.upd d.fs nm g) (hn : ∀ f, (g f).nm = f.nm) (hg : ∀ f ∈ d.fs, f.nm = nm → (g f).dat.length ≤ 2097152 ∧ (g f).sure ≤ (g f).dat.length ∧ ∀ x ∈ (g f).dat, x < 256) : Ok e := by
  refine ⟨by rw [he]; exact srt_upd hn h.srt, by rw [he, upd_len]; exact h.len, ?_, ?_, ?_, ?_⟩ <;>
    (intro f hf; rw [he] at hf; obtain ⟨x, hx, rfl⟩ := upd_mem hf; split)
  · rw [hn]; exact h.nmd x hx
  · exact h.nmd x hx
  · rename_i e; exact (hg x hx e).1
  · exact h.siz x hx
  · rename_i e; exact (hg x hx e).2.1
  · exact h.sur x hx
  · rename_i e; exact (hg x hx e).2.2
  · exact h.byt x hx
theorem Ok.del {d e : Dk} (h : Ok d) {nm : List Nat} (he : e.fs = DJ.del d.fs nm) : Ok e :=
  ⟨by rw [he]; exact srt_del h.srt, by rw [he]; exact Nat.le_trans (List.length_filter_le _ _) h.len, fun f hf => h.nmd f (mem_del.1 (he ▸ hf)).1, fun f hf => h.siz f (mem_del.1 (he ▸ hf)).1, fun f hf => h.sur f (mem_del.1 (he ▸ hf)).1, fun f hf => h.byt f (mem_del.1 (he ▸ hf)).1⟩
theorem Ok.ins {d e : Dk} (h : Ok d) {x : Fl} (he : e.fs = DJ.ins d.fs x) (hl : d.fs.length < 40) (hn : ∀ f ∈ d.fs, f.nm ≠ x.nm) (h1 : named x.nm) (h2 : x.dat.length ≤ 2097152) (h3 : x.sure ≤ x.dat.length) (h4 : ∀ y ∈ x.dat, y < 256) : Ok e := by
  refine ⟨by rw [he]; exact srt_ins h.srt hn, by rw [he, ins_len]; omega, ?_, ?_, ?_, ?_⟩ <;>
    (intro f hf; rw [he] at hf; rcases mem_ins.1 hf with rfl | hf)
  · exact h1
  · exact h.nmd f hf
  · exact h2
  · exact h.siz f hf
  · exact h3
  · exact h.sur f hf
  · exact h4
  · exact h.byt f hf
theorem mem_cuts {keep : List Int} : ∀ {i : Nat} {fs : List Fl} {f : Fl}, f ∈ cuts keep i fs → ∃ x ∈ fs, ∃ k, f = cutF k x
  | _, [], _, h => by simp [cuts] at h
  | i, g :: l, f, h => by
    rcases List.mem_cons.1 (by simpa only [cuts] using h) with rfl | h
    · exact ⟨g, List.mem_cons_self, _, rfl⟩
    · obtain ⟨x, hx, k, e⟩ := mem_cuts h
      exact ⟨x, List.mem_cons_of_mem _ hx, k, e⟩
theorem Ok.cuts {d e : Dk} (h : Ok d) {keep : List Int} {i : Nat} (he : e.fs = DJ.cuts keep i d.fs) : Ok e := by
  refine ⟨by rw [he]; exact srt_names h.srt (cuts_names keep i d.fs), by rw [he, cuts_len]; exact h.len, ?_, ?_, ?_, ?_⟩ <;>
    (intro f hf; rw [he] at hf; obtain ⟨x, hx, k, rfl⟩ := mem_cuts hf)
  · exact h.nmd x hx
  · exact Nat.le_trans (by simp [cutF]; omega) (h.siz x hx)
  · have := h.sur x hx
    simp only [cutF, List.length_take]; omega
  · intro y hy
    exact h.byt x hx y (List.mem_of_mem_take hy)
end Go.Proofs.YthbojlbgjmecoaaGreat.DJ

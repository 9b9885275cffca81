import Derived.Test.YthbojlbgjmecoaaGreatDmB
/- A FILE MORE, A FILE LESS. -/
namespace Go.Proofs.YthbojlbgjmecoaaGreat.DJ
open Go.RowKit

theorem owns_tight {H : Type} {P : Program} {k : TypeId} {R : Value → Option (DataW H × List MemPlace)} {b n : Nat} {D : DataW H} {W : World} (h : W.ownsMap P k R b n D) : W.ownsMap P k R b (Go.Maps.size D) D := by
  obtain ⟨es, clock, hb, F, hs, rfl⟩ := h
  exact ⟨es, clock, hb, F, by simp [Go.Maps.size, length_sorted], rfl⟩
theorem Ties.none (fb : List Nat → Nat) : Ties (.map []) [] fb where
  tidy := Go.Maps.tidy_empty
  size := rfl
  hasK := fun s _ => by simp [Go.Maps.has_eq]
  atK := fun b hb => by simp at hb
theorem Ties.add {D : DataW Nat} {fs : List Fl} {fb : List Nat → Nat} (h : Ties D fs fb) {x : Fl} {xb : Nat} (hb : ∀ f ∈ fs, ∀ c ∈ f.nm, c < 256) (hx : ∀ c ∈ x.nm, c < 256) (hs : (strB x.nm).size ≤ maxLen) (hn : ∀ f ∈ fs, f.nm ≠ x.nm) : Ties (D.put (kl (strB x.nm)) (.held xb)) (ins fs x) (fun n => if n = x.nm then xb else fb n) where
  tidy := h.tidy.put (kl_key _) _
  size := by
    have hf : Go.Maps.has D (kl (strB x.nm)) = false := by
      cases e : Go.Maps.has D (kl (strB x.nm)) with
      | false => rfl
      | true =>
        obtain ⟨b, h1, h2⟩ := (h.hasK _ hs).1 e
        exact absurd (strB_inj (hb b h1) hx h2) (hn b h1)
    rw [Go.Maps.size_put h.tidy, hf, h.size, ins_len]
    rfl
  hasK := fun s hs' => by
    by_cases e : s = strB x.nm
    · rw [e, Go.Maps.has_put_same h.tidy.isMap (kl_key _)]
      exact ⟨fun _ => ⟨x, mem_ins.2 (.inl rfl), rfl⟩, fun _ => rfl⟩
    · rw [Go.Maps.has_put_other (kl_ne e), h.hasK s hs']
      constructor
      · rintro ⟨y, hy, rfl⟩
        exact ⟨y, mem_ins.2 (.inr hy), rfl⟩
      · rintro ⟨y, hy, rfl⟩
        rcases mem_ins.1 hy with rfl | hy
        · exact absurd rfl e
        · exact ⟨y, hy, rfl⟩
  atK := fun y hy => by
    rcases mem_ins.1 hy with rfl | hy
    · rw [if_pos rfl]; exact Go.Maps.atKey_put_same h.tidy.isMap (kl_key _) _ _
    · rw [if_neg (hn y hy), Go.Maps.atKey_put_other (kl_ne (fun e => hn y hy (strB_inj (hb y hy) hx e))), h.atK y hy]
theorem Ties.del {D : DataW Nat} {fs : List Fl} {fb : List Nat → Nat} (h : Ties D fs fb) (hs : Srt fs) (hb : ∀ f ∈ fs, ∀ c ∈ f.nm, c < 256) {x : Fl} (hx : x ∈ fs) (hl : (strB x.nm).size ≤ maxLen) : Ties (D.del (kl (strB x.nm))) (DJ.del fs x.nm) fb where
  tidy := h.tidy.del _
  size := by
    have h1 := Go.Maps.size_del (k := kl (strB x.nm)) h.tidy
    rw [(h.hasK _ hl).2 ⟨x, hx, rfl⟩, h.size] at h1
    have h2 := del_len hs hx
    simp only [if_true] at h1
    omega
  hasK := fun s hs' => by
    by_cases e : s = strB x.nm
    · rw [e, Go.Maps.has_del_same]
      constructor
      · intro h; cases h
      · rintro ⟨y, hy, e'⟩
        obtain ⟨h1, h2⟩ := mem_del.1 hy
        exact absurd (strB_inj (hb y h1) (hb x hx) e') h2
    · rw [Go.Maps.has_del_other (kl_ne e), h.hasK s hs']
      constructor
      · rintro ⟨y, hy, rfl⟩
        exact ⟨y, mem_del.2 ⟨hy, fun e' => e (by rw [e'])⟩, rfl⟩
      · rintro ⟨y, hy, rfl⟩
        exact ⟨y, (mem_del.1 hy).1, rfl⟩
  atK := fun y hy => by
    obtain ⟨h1, h2⟩ := mem_del.1 hy
    rw [Go.Maps.atKey_del_other (kl_ne (fun e => h2 (strB_inj (hb y h1) (hb x hx) e))), h.atK y h1]

section
variable {W W' : World} {lo db : Nat} {S : Nat → Prop} {d : Dk} {mb : Nat} {D : DataW Nat} {fb : List Nat → Nat} {vv : List Nat → Value}

/-- The map alone has turned. -/
theorem Lay.filM (h : Lay W lo S db d mb D fb vv) (hg : GrS (fun k => k = mb) W W') {f : Fl} (hf : f ∈ d.fs) : FileAt W' lo (fb f.nm) (vv f.nm) f :=
  (h.fil f hf).grS hg (fun e => map_ne_row h.map (h.fil f hf).row e) (fun g hg' e => by
    obtain ⟨-, cs, r⟩ := own_row (h.fil f hf).dat hg'
    exact map_ne_row h.map r e)
theorem Lay.rowM (h : Lay W lo S db d mb D fb vv) (hg : GrS (fun k => k = mb) W W') : W'.heap[db]? = some (dkRow mb d) := (hg.block db (h.hi _ h.Sdb) (fun e => map_ne_row h.map h.row e)).trans h.row

/-- A file more. -/
theorem Lay.add (h : Lay W lo S db d mb D fb vv) {x : Fl} (hn : get d.fs x.nm = none) (hx : named x.nm) (hz : x.dat.length ≤ 2097152) (hs : x.sure ≤ x.dat.length) (hb : ∀ y ∈ x.dat, y < 256) (hl : d.fs.length < 40) {xb : Nat} {v : Value}
    (hg : GrS (fun k => k = mb) W W') (hxb : W.heap.size ≤ xb) (hv : ∀ k, v.ownBlock = some k → W.heap.size ≤ k) (hF : FileAt W' lo xb v x) (hlo : lo ≤ W.heap.size)
    (hmap : W'.ownsMap Tryz.prog 9 bR mb (d.fs.length + 1) (D.put (kl (strB x.nm)) (.held xb)))
    {d' : Dk} (hfs : d'.fs = ins d.fs x) (h1 : d'.down = d.down) (h2 : d'.units = d.units) (h3 : d'.after = d.after) (h4 : d'.calls = d.calls) :
    ∃ S', Lay W' lo S' db d' mb (D.put (kl (strB x.nm)) (.held xb)) (fun n => if n = x.nm then xb else fb n) (fun n => if n = x.nm then v else vv n) ∧ Dv S W S' W' := by
  have hn' := get_none.1 hn
  have hby : ∀ f ∈ d.fs, ∀ c ∈ f.nm, c < 256 := fun f hf => named_lt (h.ok.nmd f hf)
  refine ⟨fun k => S k ∨ k = xb ∨ v.ownBlock = some k, ?_, ⟨hg.mono (fun k _ e => e ▸ h.Smb), ?_⟩⟩
  · refine ⟨h.ok.ins hfs hl hn' hx hz hs hb, h.rigs.same h1 h2 h3 h4, ?_, ?_, ?_, ?_, .inl h.Sdb, .inl h.Smb, ?_, ?_, ?_, ?_, ?_, ?_⟩
    · rw [dkRow_same mb h1 h2 h3 h4]; exact h.rowM hg
    · rw [hfs, ins_len]; exact hmap
    · rw [hfs]; exact h.ties.add hby (named_lt hx) (strB_len (Nat.le_trans hx.2.2 (by decide))) hn'
    · intro f hf
      rw [hfs] at hf
      rcases mem_ins.1 hf with rfl | hf
      · simp only [if_true]; exact hF
      · simp only [if_neg (hn' f hf)]; exact h.filM hg hf
    · intro f hf
      rw [hfs] at hf
      rcases mem_ins.1 hf with rfl | hf
      · simp only [if_true]; exact .inr (.inl trivial)
      · simp only [if_neg (hn' f hf)]; exact .inl (h.Sfb f hf)
    · intro f hf g hg'
      rw [hfs] at hf
      rcases mem_ins.1 hf with rfl | hf
      · simp only [if_true] at hg'; exact .inr (.inr hg')
      · simp only [if_neg (hn' f hf)] at hg'; exact .inl (h.Svv f hf g hg')
    · rintro k (hk | rfl | hk)
      · exact h.low k hk
      · exact Nat.le_trans hlo hxb
      · exact Nat.le_trans hlo (hv k hk)
    · rintro k (hk | rfl | hk)
      · exact Nat.lt_of_lt_of_le (h.hi k hk) hg.size
      · exact (Array.getElem?_eq_some_iff.1 hF.row).1
      · exact own_lt hF.dat hk
    · intro f hf g hg' hne
      rw [hfs] at hf hg'
      rcases mem_ins.1 hf with rfl | hf1 <;> rcases mem_ins.1 hg' with rfl | hg1
      · exact absurd rfl hne
      · simp only [if_true, if_neg (hn' g hg1)]
        have := h.hi _ (h.Sfb g hg1)
        omega
      · simp only [if_true, if_neg (hn' f hf1)]
        have := h.hi _ (h.Sfb f hf1)
        omega
      · simp only [if_neg (hn' f hf1), if_neg (hn' g hg1)]; exact h.dfb f hf1 g hg1 hne
    · intro f hf g hg' hne k hk e
      rw [hfs] at hf hg'
      rcases mem_ins.1 hf with rfl | hf1 <;> rcases mem_ins.1 hg' with rfl | hg1
      · exact hne rfl
      · simp only [if_true] at hk
        simp only [if_neg (hn' g hg1)] at e
        have h5 := h.hi _ (h.Svv g hg1 k e)
        have h6 := hv k hk
        omega
      · simp only [if_true] at e
        simp only [if_neg (hn' f hf1)] at hk
        have h5 := h.hi _ (h.Svv f hf1 k hk)
        have h6 := hv k e
        omega
      · simp only [if_neg (hn' f hf1)] at hk
        simp only [if_neg (hn' g hg1)] at e
        exact h.dvv f hf1 g hg1 hne k hk e
  · rintro k (hk | rfl | hk)
    · exact .inl hk
    · exact .inr hxb
    · exact .inr (hv k hk)

/-- A file less. -/
theorem Lay.drop (h : Lay W lo S db d mb D fb vv) {x : Fl} (hx : x ∈ d.fs) (hg : GrS (fun k => k = mb) W W') (hmap : W'.ownsMap Tryz.prog 9 bR mb d.fs.length (D.del (kl (strB x.nm))))
    {d' : Dk} (hfs : d'.fs = del d.fs x.nm) (h1 : d'.down = d.down) (h2 : d'.units = d.units) (h3 : d'.after = d.after) (h4 : d'.calls = d.calls) :
    Lay W' lo S db d' mb (D.del (kl (strB x.nm))) fb vv ∧ Dv S W S W' := by
  have hT := h.ties.del h.ok.srt (fun f hf => named_lt (h.ok.nmd f hf)) hx (h.nmLen hx)
  have hm : ∀ f ∈ d'.fs, f ∈ d.fs := fun f hf => (mem_del.1 (hfs ▸ hf)).1
  refine ⟨⟨h.ok.del hfs, h.rigs.same h1 h2 h3 h4, ?_, ?_, ?_, fun f hf => h.filM hg (hm f hf), h.Sdb, h.Smb, fun f hf => h.Sfb f (hm f hf), fun f hf => h.Svv f (hm f hf), h.low, fun k hk => Nat.lt_of_lt_of_le (h.hi k hk) hg.size, fun f hf g hg' => h.dfb f (hm f hf) g (hm g hg'), fun f hf g hg' => h.dvv f (hm f hf) g (hm g hg')⟩, ⟨hg.mono (fun k _ e => e ▸ h.Smb), fun _ h => .inl h⟩⟩
  · rw [dkRow_same mb h1 h2 h3 h4]; exact h.rowM hg
  · rw [hfs, ← hT.size]; exact owns_tight hmap
  · rw [hfs]; exact hT
end
end Go.Proofs.YthbojlbgjmecoaaGreat.DJ

import Derived.Test.YthbojlbgjmecoaaGreatDmA
/- HOW A DISK IN MEMORY MOVES. -/
namespace Go.Proofs.YthbojlbgjmecoaaGreat.DJ
open Go.RowKit

theorem bkey : Go.Maps.Keyed Tryz.prog 9 := Go.Maps.string_keyed Tryz.underlying9
theorem bzero (w : World) : (zeroValue 93).run Tryz.prog w = .ok (.pointer none) w := by kernel_rfl
theorem bmapT : Tryz.prog.underlying 94 = some (.map 9 93) := by kernel_rfl
theorem bkeyOf {s : ByteArray} (hs : s.size ≤ maxLen) : keyOf Tryz.prog 9 (.string s) = some (kl s) := WideMaps.keyOf_string_mk Tryz.underlying9 hs
theorem len12 {n : Nat} (h : n ≤ 12) : n ≤ maxLen := Nat.le_trans h (by decide)
theorem strB_len {s : List Nat} (h : s.length ≤ 4294967296) : (strB s).size ≤ maxLen := by rw [strB_size]; exact Nat.le_trans h (by decide)

section
variable {W W' : World} {lo db : Nat} {S : Nat → Prop} {d : Dk} {mb : Nat} {D : DataW Nat} {fb : List Nat → Nat} {vv : List Nat → Value}

theorem Lay.nmLen (h : Lay W lo S db d mb D fb vv) {f : Fl} (hf : f ∈ d.fs) : (strB f.nm).size ≤ maxLen := strB_len (Nat.le_trans (h.ok.nmd f hf).2.2 (by decide))
theorem Lay.hasN (h : Lay W lo S db d mb D fb vv) {nm : List Nat} (hl : nm.length ≤ 4294967296) (hb : ∀ x ∈ nm, x < 256) : Go.Maps.has D (kl (strB nm)) = (get d.fs nm).isSome := by
  cases e : get d.fs nm with
  | none =>
    cases e2 : Go.Maps.has D (kl (strB nm)) with
    | false => rfl
    | true =>
      obtain ⟨f, hf, h1⟩ := (h.ties.hasK _ (strB_len hl)).1 e2
      exact absurd (strB_inj (named_lt (h.ok.nmd f hf)) hb h1) (get_none.1 e f hf)
  | some f =>
    obtain ⟨h1, h2⟩ := get_some e
    exact (h.ties.hasK _ (strB_len hl)).2 ⟨f, h1, by rw [h2]⟩
theorem Lay.look (h : Lay W lo S db d mb D fb vv) {f : Fl} (hf : f ∈ d.fs) : (Instr.lookup 94 (.map (some mb)) (.string (strB f.nm)) false).run Tryz.prog W = .ok (.pointer (some ⟨fb f.nm, 0, none⟩)) W := by
  obtain ⟨v, ps, hrun, hv⟩ := h.map.lookup bkey bmapT (bzero W) (zd := .nil) (zp := []) rfl (bkeyOf (h.nmLen hf))
  rw [h.ties.atK f hf] at hv
  rw [bR_held hv] at hrun
  exact hrun
theorem Lay.lookOk (h : Lay W lo S db d mb D fb vv) {f : Fl} (hf : f ∈ d.fs) : (Instr.lookup 94 (.map (some mb)) (.string (strB f.nm)) true).run Tryz.prog W = .ok (.tuple #[.pointer (some ⟨fb f.nm, 0, none⟩), .bool true]) W := by
  obtain ⟨v, ps, hrun, hv⟩ := h.map.look_ok bkey bmapT (bzero W) (zd := .nil) (zp := []) rfl (bkeyOf (h.nmLen hf))
  rw [h.ties.atK f hf] at hv
  rw [bR_held hv, (h.ties.hasK _ (h.nmLen hf)).2 ⟨f, hf, rfl⟩] at hrun
  exact hrun
theorem Lay.lookNo (h : Lay W lo S db d mb D fb vv) {nm : List Nat} (hl : nm.length ≤ 4294967296) (hb : ∀ x ∈ nm, x < 256) (hg : get d.fs nm = none) : (Instr.lookup 94 (.map (some mb)) (.string (strB nm)) true).run Tryz.prog W = .ok (.tuple #[.pointer none, .bool false]) W := by
  obtain ⟨v, ps, hrun, hv⟩ := h.map.look_ok bkey bmapT (bzero W) (zd := .nil) (zp := []) rfl (bkeyOf (strB_len hl))
  have hn : Go.Maps.has D (kl (strB nm)) = false := by rw [h.hasN hl hb, hg]; rfl
  rw [Go.Maps.atKey_of_not_has hn] at hv
  rw [bR_nil hv, hn] at hrun
  exact hrun

/-- What is told of blocks by what lies there. -/
theorem Lay.fb_db (h : Lay W lo S db d mb D fb vv) {f : Fl} (hf : f ∈ d.fs) : fb f.nm ≠ db := fun e => by
  have h1 := (h.fil f hf).row
  rw [e, h.row, dkRow] at h1
  simp at h1
theorem map_ne_row {P : Program} {k : TypeId} {R : Value → Option (DataW Nat × List MemPlace)} {b n c : Nat} {D : DataW Nat} {W : World} (h : W.ownsMap P k R b n D) {cs : Array Value} {t : TypeId} {z : Nat × Nat} (hc : W.heap[c]? = some (.cells cs t z)) : c ≠ b := by
  rintro rfl
  obtain ⟨es, clock, hb, -⟩ := h
  rw [hb] at hc
  cases hc
theorem own_row {base n : Nat} {v : Value} {xs : List Value} {g : Nat} (h : W.ownsRow base 5 1 v n xs) (hg : v.ownBlock = some g) : base ≤ g ∧ ∃ cs, W.heap[g]? = some (.cells cs 5 (0, 0)) := by
  obtain ⟨q1, ⟨rfl, -⟩ | ⟨g', cap, cur, rfl, hb, r, rest⟩⟩ := h
  · cases hg
  · obtain rfl : g' = g := by simpa [Value.ownBlock] using hg
    exact ⟨hb, _, r⟩
theorem own_lt {base n : Nat} {v : Value} {xs : List Value} {g : Nat} (h : W.ownsRow base 5 1 v n xs) (hg : v.ownBlock = some g) : g < W.heap.size := by
  obtain ⟨-, cs, r⟩ := own_row h hg
  exact (Array.getElem?_eq_some_iff.1 r).1
theorem Lay.vv_db (h : Lay W lo S db d mb D fb vv) {f : Fl} (hf : f ∈ d.fs) {g : Nat} (hg : (vv f.nm).ownBlock = some g) : g ≠ db := fun e => by
  obtain ⟨-, cs, r⟩ := own_row (h.fil f hf).dat hg
  rw [e, h.row, dkRow] at r
  simp at r
theorem Lay.vv_fb (h : Lay W lo S db d mb D fb vv) {f x : Fl} (hf : f ∈ d.fs) (hx : x ∈ d.fs) {g : Nat} (hg : (vv f.nm).ownBlock = some g) : g ≠ fb x.nm := fun e => by
  obtain ⟨-, cs, r⟩ := own_row (h.fil f hf).dat hg
  rw [e, (h.fil x hx).row] at r
  simp at r

/-- The rigs turn, or the machine falls or comes up. -/
theorem Lay.flag (h : Lay W lo S db d mb D fb vv) (hg : GrS (fun k => k = db) W W') {d' : Dk} (hfs : d'.fs = d.fs) (hr : Rigs d') (hrow : W'.heap[db]? = some (dkRow mb d')) : Lay W' lo S db d' mb D fb vv where
  ok := h.ok.of_fs hfs
  rigs := hr
  row := hrow
  map := by
    rw [hfs]
    refine ownsMap_grS h.map hg ?_
    have h1 := map_ne_row h.map h.row
    exact fun e => h1 e.symm
  ties := by rw [hfs]; exact h.ties
  fil := by
    rw [hfs]
    exact fun f hf => (h.fil f hf).grS hg (h.fb_db hf) (fun g hg' => h.vv_db hf hg')
  Sdb := h.Sdb
  Smb := h.Smb
  Sfb := by rw [hfs]; exact h.Sfb
  Svv := by rw [hfs]; exact h.Svv
  low := h.low
  hi := fun k hk => Nat.lt_of_lt_of_le (h.hi k hk) hg.size
  dfb := by rw [hfs]; exact h.dfb
  dvv := by rw [hfs]; exact h.dvv
theorem dkRow_same {d d' : Dk} (mb : Nat) (h1 : d'.down = d.down) (h2 : d'.units = d.units) (h3 : d'.after = d.after) (h4 : d'.calls = d.calls) : dkRow mb d' = dkRow mb d := by
  unfold dkRow; rw [h1, h2, h3, h4]
theorem Rigs.same {d d' : Dk} (h : Rigs d) (h1 : d'.down = d.down) (h2 : d'.units = d.units) (h3 : d'.after = d.after) (h4 : d'.calls = d.calls) : Rigs d' :=
  ⟨by rw [h2]; exact h.un, by rw [h3]; exact h.af, by rw [h4]; exact h.ca, by rw [h1, h2, h3, h4]; exact h.dn⟩

theorem upd_same {fs : List Fl} (hs : Srt fs) {f : Fl} (hf : f ∈ fs) (g : Fl → Fl) : upd fs f.nm g = upd fs f.nm (fun _ => g f) := by
  refine List.map_congr_left fun x hx => ?_
  split
  · rename_i e
    rw [hs.one hx hf e]
  · rfl
theorem mem_updc {fs : List Fl} {f f' x : Fl} (hx : x ∈ upd fs f.nm (fun _ => f')) : x = f' ∨ (x ∈ fs ∧ x.nm ≠ f.nm) := by
  obtain ⟨y, hy, rfl⟩ := upd_mem hx
  split
  · exact .inl rfl
  · rename_i e; exact .inr ⟨hy, e⟩
theorem Ties.names {D : DataW Nat} {fs gs : List Fl} {fb : List Nat → Nat} (h : Ties D fs fb) (e : gs.map (·.nm) = fs.map (·.nm)) : Ties D gs fb where
  tidy := h.tidy
  size := by rw [h.size]; simpa using (congrArg List.length e).symm
  hasK := fun s hs => by
    rw [h.hasK s hs]
    constructor
    · rintro ⟨f, hf, rfl⟩
      obtain ⟨g, hg, e'⟩ := List.mem_map.1 (e ▸ List.mem_map_of_mem (f := Fl.nm) hf)
      exact ⟨g, hg, by rw [e']⟩
    · rintro ⟨g, hg, rfl⟩
      obtain ⟨f, hf, e'⟩ := List.mem_map.1 (e ▸ List.mem_map_of_mem (f := Fl.nm) hg)
      exact ⟨f, hf, by rw [e']⟩
  atK := fun g hg => by
    obtain ⟨f, hf, e'⟩ := List.mem_map.1 (e ▸ List.mem_map_of_mem (f := Fl.nm) hg)
    have := h.atK f hf
    rw [show f.nm = g.nm from e'] at this
    exact this

/-- One file turns. -/
theorem Lay.turn (h : Lay W lo S db d mb D fb vv) {f f' : Fl} (hf : f ∈ d.fs) (hg : GrS (fun k => k = fb f.nm ∨ (vv f.nm).ownBlock = some k) W W') {v' : Value} (hn : f'.nm = f.nm) (hF : FileAt W' lo (fb f.nm) v' f') (hv : ∀ k, v'.ownBlock = some k → (vv f.nm).ownBlock = some k ∨ W.heap.size ≤ k)
    {d' : Dk} (hfs : d'.fs = upd d.fs f.nm (fun _ => f')) (h1 : d'.down = d.down) (h2 : d'.units = d.units) (h3 : d'.after = d.after) (h4 : d'.calls = d.calls) (hz : f'.dat.length ≤ 2097152) (hs : f'.sure ≤ f'.dat.length) (hb : ∀ x ∈ f'.dat, x < 256) :
    ∃ S', Lay W' lo S' db d' mb D fb (fun n => if n = f.nm then v' else vv n) ∧ Dv S W S' W' := by
  have hnm : d'.fs.map (·.nm) = d.fs.map (·.nm) := by
    rw [hfs]
    unfold upd
    rw [List.map_map]
    refine List.map_congr_left fun x _ => ?_
    simp only [Function.comp]
    split
    · rename_i e; rw [hn, e]
    · rfl
  have hmem : ∀ x ∈ d'.fs, x = f' ∨ (x ∈ d.fs ∧ x.nm ≠ f.nm) := fun x hx => mem_updc (hfs ▸ hx)
  have keep : ∀ x ∈ d.fs, x.nm ≠ f.nm → FileAt W' lo (fb x.nm) (vv x.nm) x := fun x hx hne => (h.fil x hx).grS hg
    (fun e => by
      rcases e with e | e
      · exact h.dfb x hx f hf hne e
      · exact h.vv_fb hf hx e rfl)
    (fun g hg' e => by
      rcases e with e | e
      · exact h.vv_fb hx hf hg' e
      · exact h.dvv x hx f hf hne g hg' e)
  refine ⟨fun k => S k ∨ v'.ownBlock = some k, ?_, ⟨hg.mono (fun k hk e => ?_), fun k hk => ?_⟩⟩
  · refine ⟨?_, h.rigs.same h1 h2 h3 h4, ?_, ?_, h.ties.names hnm, ?_, .inl h.Sdb, .inl h.Smb, ?_, ?_, ?_, ?_, ?_, ?_⟩
    · refine ⟨srt_names h.ok.srt hnm, ?_, ?_, ?_, ?_, ?_⟩
      · have := congrArg List.length hnm
        simp only [List.length_map] at this
        rw [this]; exact h.ok.len
      all_goals
        intro x hx
        rcases hmem x hx with rfl | ⟨hx, -⟩
      · rw [hn]; exact h.ok.nmd f hf
      · exact h.ok.nmd x hx
      · exact hz
      · exact h.ok.siz x hx
      · exact hs
      · exact h.ok.sur x hx
      · exact hb
      · exact h.ok.byt x hx
    · rw [dkRow_same mb h1 h2 h3 h4]
      refine (hg.block db (h.hi _ h.Sdb) (fun e => ?_)).trans h.row
      rcases e with e | e
      · exact h.fb_db hf e.symm
      · exact h.vv_db hf e rfl
    · have := congrArg List.length hnm
      simp only [List.length_map] at this
      rw [this]
      refine ownsMap_grS h.map hg (fun e => ?_)
      rcases e with e | e
      · exact map_ne_row h.map (h.fil f hf).row e.symm
      · obtain ⟨-, cs, r⟩ := own_row (h.fil f hf).dat e
        exact map_ne_row h.map r rfl
    · intro x hx
      rcases hmem x hx with rfl | ⟨hx, hne⟩
      · rw [hn]; simp only [if_true]; exact hF
      · simp only [if_neg hne]; exact keep x hx hne
    · intro x hx
      rcases hmem x hx with rfl | ⟨hx, hne⟩
      · rw [hn]; exact .inl (h.Sfb f hf)
      · exact .inl (h.Sfb x hx)
    · intro x hx g hg'
      rcases hmem x hx with rfl | ⟨hx, hne⟩
      · simp only [hn, if_true] at hg'; exact .inr hg'
      · simp only [if_neg hne] at hg'; exact .inl (h.Svv x hx g hg')
    · rintro k (hk | hk)
      · exact h.low k hk
      · exact (own_row hF.dat hk).1
    · rintro k (hk | hk)
      · exact Nat.lt_of_lt_of_le (h.hi k hk) hg.size
      · exact own_lt hF.dat hk
    · intro x hx y hy hne
      rcases hmem x hx with rfl | ⟨hx, hx'⟩ <;> rcases hmem y hy with rfl | ⟨hy, hy'⟩
      · exact absurd rfl hne
      · rw [hn]; exact h.dfb f hf y hy (fun e => hy' e.symm)
      · rw [hn]; exact h.dfb x hx f hf hx'
      · exact h.dfb x hx y hy hne
    · have key : ∀ y ∈ d.fs, y.nm ≠ f.nm → ∀ k, v'.ownBlock = some k → (vv y.nm).ownBlock ≠ some k := fun y hy hne k hk e => by
        rcases hv k hk with h' | h'
        · exact h.dvv f hf y hy (fun e => hne e.symm) k h' e
        · exact absurd (h.hi k (h.Svv y hy k e)) (by omega)
      intro x hx y hy hne k hk
      rcases hmem x hx with rfl | ⟨hx, hx'⟩ <;> rcases hmem y hy with rfl | ⟨hy, hy'⟩
      · exact absurd rfl hne
      · simp only [hn, if_true] at hk; simp only [if_neg hy']; exact key y hy hy' k hk
      · simp only [if_neg hx'] at hk; simp only [hn, if_true]; exact fun e => key x hx hx' k e hk
      · simp only [if_neg hx'] at hk; simp only [if_neg hy']; exact h.dvv x hx y hy hne k hk
  · rcases e with rfl | e
    · exact h.Sfb f hf
    · exact h.Svv f hf k e
  · rcases hk with hk | hk
    · exact .inl hk
    · rcases hv k hk with h' | h'
      · exact .inl (h.Svv f hf k h')
      · exact .inr h'
end
end Go.Proofs.YthbojlbgjmecoaaGreat.DJ

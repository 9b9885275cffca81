import Derived.Test.YtblfdjdhikfjhaaGreatJoin10
import Derived.Maps.OwnSet
import Derived.Sort.KeysCollected
namespace Go.Proofs.YtblfdjdhikfjhaaGreat
open Go.RowKit

theorem MapE.len {W : World} {b : Nat} {L : Es} (h : MapE W b L) : L.length ≤ 4294967296 := by
  obtain ⟨t, h1, rfl⟩ := h
  exact ents_length 7 h1.2.2.2.2 0

/-- A block that is no part of a map or a history. -/
def Odd (W : World) (r : Nat) : Prop := ∀ v, W.cell? ⟨r, 0, none⟩ = some v → ∃ m, v = .map m
theorem Odd.ne {W : World} {r b : Nat} {v : Value} (h : Odd W r) (hc : W.cell? ⟨b, 0, none⟩ = some v) (hv : ∀ m, v ≠ .map m) : r ≠ b := by
  rintro rfl
  obtain ⟨m, e⟩ := h v hc
  exact hv m e
theorem Lies.keptO {W W' : World} {r : Nat} (hO : Odd W r) (hg : W.grownBy W' (some r)) : ∀ {t : Tr}, Lies W t → Lies W' t := by
  intro t
  induction t with
  | nil => intro _; trivial
  | node b kids ih =>
    intro h
    obtain ⟨u, hu⟩ := ptr_pointer (kids 0)
    have h0 := h.1.kid (i := 0) (by decide)
    rw [hu] at h0
    refine ⟨(hg.block b h.1.lt (fun e => ?_)).trans h.1, fun i hi => ih i (h.2 i hi)⟩
    exact hO.ne h0 (fun m e => by cases e) (Option.some.inj e).symm
  | leaf b s th vk vn =>
    intro h
    have h0 := h.1.kid (i := 0) (by decide)
    have h1 := h.2.th (i := 0) (by decide)
    exact ⟨(hg.block b h.1.lt (fun e => hO.ne h0 (fun m e => by cases e) (Option.some.inj e).symm)).trans h.1, (hg.block s h.2.lt (fun e => hO.ne h1 (fun m e => by cases e) (Option.some.inj e).symm)).trans h.2⟩
theorem MapE.keptO {W W' : World} {b r : Nat} {L : Es} (h : MapE W b L) (hO : Odd W r) (hg : W.grownBy W' (some r)) : MapE W' b L := by
  obtain ⟨t, h, h2⟩ := h
  have hne : some r ≠ some b := fun e => by
    obtain ⟨u, hu⟩ := ptr_pointer t
    have h0 := h.2.1
    rw [hu] at h0
    exact hO.ne h0 (fun m e => by cases e) (Option.some.inj e)
  exact ⟨t, ⟨Nat.lt_of_lt_of_le h.1 hg.size, (grown_cell hg h.1 hne).trans h.2.1, (grown_cell hg h.1 hne).trans h.2.2.1, h.2.2.2.1.keptO hO hg, h.2.2.2.2⟩, h2⟩
theorem HistAt.keptO {W W' : World} {hb r : Nat} {Ls : List Es} {p : Nat} (h : HistAt W hb Ls p) (hO : Odd W r) (hg : W.grownBy W' (some r)) : HistAt W' hb Ls p := by
  obtain ⟨h1, h2, g, cap, vs, h3, h4, h5, h6⟩ := h
  have c0 := cell_of_row _ _ 0 _ _ _ h3
  have hne : some r ≠ some hb := fun e => hO.ne c0 (fun m e => by cases e) (Option.some.inj e)
  have hne2 : some r ≠ some g := fun e => by
    have := (h6.2 0 (by omega)).1
    exact hO.ne this (fun m e => by cases e) (Option.some.inj e)
  refine ⟨h1, h2, g, cap, vs, (hg.block hb h3.lt hne.symm).trans h3, h4, h5, Nat.lt_of_lt_of_le h6.1 hg.size, fun i hi => ?_⟩
  obtain ⟨k1, k2, k3⟩ := h6.2 i hi
  exact ⟨(grown_cell hg h6.1 hne2).trans k1, k2.keptO hO hg, k3⟩

/-- How a branch reads in the book's map: its block's number. -/
def bR : Value → Option (DataW Nat × List MemPlace)
  | .pointer none => some (.nil, [])
  | .pointer (some ⟨b, 0, none⟩) => some (.held b, [])
  | _ => none
theorem bR_held {v : Value} {b : Nat} {ps : List MemPlace} (h : bR v = some (.held b, ps)) : v = .pointer (some ⟨b, 0, none⟩) := by
  unfold bR at h
  split at h
  · simp at h
  · simp at h
    rw [h.1]
  · cases h

/-- A branch. -/
structure Br where
  nm : ByteArray
  xb : Nat
  hb : Nat
  Ls : List Es
  p : Nat
  bs : Es
def BrAt (W : World) (b : Br) : Prop := (∃ g, W.heap[b.xb]? = some (.cells #[.pointer (some ⟨b.hb, 0, none⟩), .pointer (some ⟨g, 0, none⟩)] 75 (0, 0)) ∧ MapE W g b.bs) ∧ HistAt W b.hb b.Ls b.p ∧ b.nm.size ≤ maxLen
theorem BrAt.lt {W : World} {b : Br} (h : BrAt W b) : b.xb < W.heap.size := by
  obtain ⟨⟨g, h1, h2⟩, h3, h4⟩ := h
  exact (Array.getElem?_eq_some_iff.1 h1).1
theorem BrAt.later {W W' : World} {b : Br} (h : BrAt W b) (hb : Below W.heap.size W W') : BrAt W' b := by
  have hl := h.lt
  obtain ⟨⟨g, h1, h2⟩, h3, h4⟩ := h
  exact ⟨⟨g, (hb.block _ hl).trans h1, h2.later hb⟩, h3.later hb, h4⟩
theorem BrAt.keptO {W W' : World} {b : Br} {r : Nat} (h : BrAt W b) (hO : Odd W r) (hg : W.grownBy W' (some r)) : BrAt W' b := by
  have hl := h.lt
  obtain ⟨⟨g, h1, h2⟩, h3, h4⟩ := h
  have c0 := cell_of_row _ _ 0 _ _ _ h1
  exact ⟨⟨g, (hg.block _ hl (fun e => hO.ne c0 (fun m e => by cases e) (Option.some.inj e).symm)).trans h1, h2.keptO hO hg⟩, h3.keptO hO hg, h4⟩
theorem HistAt.hbOf {W : World} {hb : Nat} {Ls : List Es} {p : Nat} (h : HistAt W hb Ls p) : ∃ a n cap q, HB W hb a n cap q := by
  obtain ⟨h1, h2, g, cap, vs, h3, h4, h5, h6⟩ := h
  exact ⟨_, _, _, _, h3⟩
/-- Another branch's history turns. -/
theorem BrAt.kept {W W' : World} {b c : Br} (h : BrAt W b) (h' : BrAt W c) (hne : b.hb ≠ c.hb) (hg : W.grownBy W' (some c.hb)) : BrAt W' b := by
  have hl := h.lt
  obtain ⟨⟨g, h1, h2⟩, h3, h4⟩ := h
  obtain ⟨a, n, cap, q, hH⟩ := h'.2.1.hbOf
  have c0 := cell_of_row _ _ 0 _ _ _ h1
  have c1 := cell_of_row _ _ 0 _ _ _ hH
  exact ⟨⟨g, (hg.block _ hl (fun e => by rw [Option.some.inj e, c1] at c0; simp at c0)).trans h1, h2.kept hH hg⟩, h3.kept h'.2.1 hne hg, h4⟩

def kl (s : ByteArray) : Lit := .string s.data.toList
theorem kl_inj {s t : ByteArray} (h : kl s = kl t) : s = t := by
  simp only [kl, Lit.string.injEq] at h
  exact ByteArray.ext (Array.toList_inj.1 h)
theorem kl_ne {s t : ByteArray} (h : s ≠ t) : kl s ≠ kl t := fun e => h (kl_inj e)
/-- The book's map holds just these branches. -/
structure Ties (D : DataW Nat) (Bs : List Br) : Prop where
  tidy : Go.Maps.Tidy D
  size : Go.Maps.size D = Bs.length
  hasK : ∀ s : ByteArray, s.size ≤ maxLen → (Go.Maps.has D (kl s) = true ↔ ∃ b ∈ Bs, b.nm = s)
  atK : ∀ b ∈ Bs, D.atKey (kl b.nm) .nil = .held b.xb
  nms : Bs.Pairwise fun a b => a.nm ≠ b.nm
  hbs : Bs.Pairwise fun a b => a.hb ≠ b.hb

/-- A book: its branches, and the current one's name. -/
def BookAt (W : World) (lo bb : Nat) (Bs : List Br) (cur : ByteArray) : Prop := lo ≤ bb ∧ (∀ b ∈ Bs, lo ≤ b.hb) ∧ ∃ mb D, lo ≤ mb ∧ W.heap[bb]? = some (.cells #[.map (some mb), .string cur] 71 (0, 0)) ∧ W.ownsMap Tryz.prog 9 bR mb Bs.length D ∧ Ties D Bs ∧ (∀ b ∈ Bs, BrAt W b) ∧ (∃ b ∈ Bs, b.nm = cur) ∧ Bs.length ≤ 6
theorem BookAt.lt {W : World} {lo bb : Nat} {Bs : List Br} {cur : ByteArray} (h : BookAt W lo bb Bs cur) : bb < W.heap.size := by
  obtain ⟨-, -, mb, D, -, h1, h2⟩ := h
  exact (Array.getElem?_eq_some_iff.1 h1).1
theorem ownsMap_later {H : Type} {P : Program} {k : TypeId} {R : Value → Option (DataW H × List MemPlace)} {b n : Nat} {D : DataW H} {W W' : World} (h : W.ownsMap P k R b n D) (hb : Below W.heap.size W W') : W'.ownsMap P k R b n D := h.kept (grown_of_belowB hb) (by simp)
theorem BookAt.later {W W' : World} {lo bb : Nat} {Bs : List Br} {cur : ByteArray} (h : BookAt W lo bb Bs cur) (hb : Below W.heap.size W W') : BookAt W' lo bb Bs cur := by
  have hl := h.lt
  obtain ⟨l1, l2, mb, D, l3, h1, h2, h3, h4, h5, h6⟩ := h
  exact ⟨l1, l2, mb, D, l3, (hb.block _ hl).trans h1, ownsMap_later h2 hb, h3, fun b hb' => (h4 b hb').later hb, h5, h6⟩
theorem BookAt.oddB {W : World} {lo bb : Nat} {Bs : List Br} {cur : ByteArray} (h : BookAt W lo bb Bs cur) : Odd W bb := by
  obtain ⟨-, -, mb, D, -, h1, -⟩ := h
  intro v hv
  rw [cell_of_row _ _ 0 _ _ _ h1] at hv
  exact ⟨_, (Option.some.inj hv).symm⟩
theorem odd_map {H : Type} {P : Program} {k : TypeId} {R : Value → Option (DataW H × List MemPlace)} {b n : Nat} {D : DataW H} {W : World} (h : W.ownsMap P k R b n D) : Odd W b := by
  obtain ⟨es, clock, hb, -⟩ := h
  intro v hv
  simp [World.cell?, hb] at hv
theorem map_ne_cells {H : Type} {P : Program} {k : TypeId} {R : Value → Option (DataW H × List MemPlace)} {b n c : Nat} {D : DataW H} {W : World} (h : W.ownsMap P k R b n D) {v : Value} (hc : W.cell? ⟨c, 0, none⟩ = some v) : b ≠ c := by
  rintro rfl
  obtain ⟨es, clock, hb, -⟩ := h
  simp [World.cell?, hb] at hc

/-- The list with one branch's history turned. -/
def turn (Bs : List Br) (hb : Nat) (Ls : List Es) (p : Nat) : List Br := Bs.map fun b => if b.hb = hb then { b with Ls := Ls, p := p } else b
theorem turn_len (Bs : List Br) (hb : Nat) (Ls : List Es) (p : Nat) : (turn Bs hb Ls p).length = Bs.length := by simp [turn]
theorem mem_turn {Bs : List Br} {hb : Nat} {Ls : List Es} {p : Nat} {c : Br} (h : c ∈ turn Bs hb Ls p) : ∃ b ∈ Bs, c.nm = b.nm ∧ c.xb = b.xb ∧ c.hb = b.hb ∧ c.bs = b.bs ∧ (b.hb = hb → c.Ls = Ls ∧ c.p = p) ∧ (b.hb ≠ hb → c = b) := by
  simp only [turn, List.mem_map] at h
  obtain ⟨b, hb', rfl⟩ := h
  refine ⟨b, hb', ?_⟩
  by_cases e : b.hb = hb
  · simp [e]
  · simp [e]
theorem turn_mem {Bs : List Br} {hb : Nat} {Ls : List Es} {p : Nat} {b : Br} (h : b ∈ Bs) : (if b.hb = hb then { b with Ls := Ls, p := p } else b) ∈ turn Bs hb Ls p := List.mem_map.2 ⟨b, h, rfl⟩
theorem Ties.turn {D : DataW Nat} {Bs : List Br} (h : Ties D Bs) (hb : Nat) (Ls : List Es) (p : Nat) : Ties D (turn Bs hb Ls p) where
  tidy := h.tidy
  size := by rw [turn_len]; exact h.size
  hasK := fun s hs => by
    rw [h.hasK s hs]
    constructor
    · rintro ⟨b, hb', rfl⟩
      refine ⟨_, turn_mem hb', ?_⟩
      split <;> rfl
    · rintro ⟨c, hc, rfl⟩
      obtain ⟨b, hb', e, -⟩ := mem_turn hc
      exact ⟨b, hb', e.symm⟩
  atK := fun c hc => by
    obtain ⟨b, hb', e1, e2, -⟩ := mem_turn hc
    rw [e1, e2]
    exact h.atK b hb'
  nms := by
    refine List.pairwise_map.2 (h.nms.imp fun {a b} hab => ?_)
    split <;> split <;> exact hab
  hbs := by
    refine List.pairwise_map.2 (h.hbs.imp fun {a b} hab => ?_)
    split <;> split <;> exact hab
/-- The current branch's history has turned. -/
theorem BookAt.turned {W W' : World} {lo bb : Nat} {Bs : List Br} {cur : ByteArray} {c : Br} {Ls : List Es} {p : Nat} (h : BookAt W lo bb Bs cur) (hc : c ∈ Bs) (hg : W.grownBy W' (some c.hb)) (hH : HistAt W' c.hb Ls p) : BookAt W' lo bb (turn Bs c.hb Ls p) cur := by
  have hl := h.lt
  obtain ⟨l1, l2, mb, D, l3, h1, h2, h3, h4, ⟨b0, hb0, e0⟩, h6⟩ := h
  have hC := h4 c hc
  obtain ⟨a, n, cap, q, hHB⟩ := hC.2.1.hbOf
  have c1 := cell_of_row _ _ 0 _ _ _ hHB
  have cB := cell_of_row _ _ 0 _ _ _ h1
  refine ⟨l1, fun x hx => by { obtain ⟨b, hb', e1, e2, e3, -⟩ := mem_turn hx; rw [e3]; exact l2 b hb' }, mb, D, l3, (hg.block _ hl (fun e => by rw [Option.some.inj e, c1] at cB; simp at cB)).trans h1, ?_, h3.turn _ _ _, ?_, ⟨_, turn_mem hb0, ?_⟩, by rw [turn_len]; exact h6⟩
  · rw [turn_len]
    exact h2.kept hg (fun e => map_ne_cells h2 c1 (Option.some.inj e))
  · intro x hx
    obtain ⟨b, hb', e1, e2, e3, e4, e5, e6⟩ := mem_turn hx
    by_cases e : b.hb = c.hb
    · obtain ⟨k1, k2⟩ := e5 e
      have hB := h4 b hb'
      have hlx := hB.lt
      obtain ⟨⟨g, x1, x2⟩, x3, x4⟩ := hB
      have c0 := cell_of_row _ _ 0 _ _ _ x1
      refine ⟨⟨g, ?_, ?_⟩, ?_, ?_⟩
      · rw [e2, e3]
        exact (hg.block _ hlx (fun e => by rw [Option.some.inj e, c1] at c0; simp at c0)).trans x1
      · rw [e4]; exact x2.kept hHB hg
      · rw [e3, k1, k2, e]; exact hH
      · rw [e1]; exact x4
    · rw [e6 e]
      exact (h4 b hb').kept hC e hg
  · split <;> exact e0

/-- A block of a book's own: no list of entries lies there; a row of cells there is a history's or a book's. -/
def NoU (W : World) (r : Nat) : Prop := (∀ o k, W.cell? ⟨r, o, none⟩ ≠ some (.int .u32 k)) ∧ ∀ cs t m, W.heap[r]? = some (.cells cs t m) → t = 114 ∨ t = 71
/-- One block that was there may have turned: one at lo or behind it, one of a book's own. -/
def Mv (lo : Nat) (W W' : World) : Prop := ∃ r, lo ≤ r ∧ NoU W r ∧ W.grownBy W' (some r)
theorem noU_new (W : World) {r : Nat} (h : W.heap.size ≤ r) : NoU W r := by
  have e : W.heap[r]? = none := Array.getElem?_eq_none h
  exact ⟨fun o k => by simp [World.cell?, e], fun cs t m h => by rw [e] at h; cases h⟩
theorem Mv.of_below {lo : Nat} {W W' : World} (h : Below W.heap.size W W') (hl : lo ≤ W.heap.size) : Mv lo W W' := ⟨W.heap.size, hl, noU_new W (Nat.le_refl _), grown_of_below h⟩
theorem Mv.below {lo : Nat} {w W W' : World} (h : Below lo w W) (hm : Mv lo W W') (hl : lo ≤ w.heap.size) : Below lo w W' := by
  obtain ⟨r, h1, h2, h3⟩ := hm
  exact h.grown h3 (Nat.le_trans hl h.size) (fun k hk => by cases hk; exact h1)
theorem HB.noU {W : World} {hb : Nat} {a : Option Addr} {n cap : Nat} {p : Int} (h : HB W hb a n cap p) : NoU W hb := by
  refine ⟨fun o k e => ?_, fun cs t m e => ?_⟩
  · rw [cell_of_row _ _ o _ _ _ h] at e
    match o, e with
    | 0, e => simp at e
    | 1, e => simp at e
    | o + 2, e => simp at e
  · rw [h] at e
    cases e
    exact .inl rfl
theorem HistAt.noU {W : World} {hb : Nat} {Ls : List Es} {p : Nat} (h : HistAt W hb Ls p) : NoU W hb := by
  obtain ⟨a, n, cap, q, hH⟩ := h.hbOf
  exact hH.noU
theorem BookAt.noU {W : World} {lo bb : Nat} {Bs : List Br} {cur : ByteArray} (h : BookAt W lo bb Bs cur) : NoU W bb := by
  obtain ⟨-, -, mb, D, -, h1, -⟩ := h
  refine ⟨fun o k e => ?_, fun cs t m e => ?_⟩
  · rw [cell_of_row _ _ o _ _ _ h1] at e
    match o, e with
    | 0, e => simp at e
    | 1, e => simp at e
    | o + 2, e => simp at e
  · rw [h1] at e
    cases e
    exact .inr rfl
theorem map_noU {H : Type} {P : Program} {k : TypeId} {R : Value → Option (DataW H × List MemPlace)} {b n : Nat} {D : DataW H} {W : World} (h : W.ownsMap P k R b n D) : NoU W b := by
  obtain ⟨es, clock, hb, -⟩ := h
  refine ⟨fun o k e => ?_, fun cs t m e => ?_⟩
  · simp [World.cell?, hb] at e
  · rw [hb] at e
    cases e
/-- Below, then one block turns. -/
theorem Mv.after {lo : Nat} {W X W' : World} {r : Nat} (hb : Below W.heap.size W X) (hl : lo ≤ r) (hn : NoU W r) (hg : X.grownBy W' (some r)) : Mv lo W W' := ⟨r, hl, hn, (grown_of_below hb).trans hg⟩
theorem EntsAt.mv {lo : Nat} {W W' : World} {v : Value} {L : Es} (h : EntsAt W v L) (hm : Mv lo W W') : EntsAt W' v L := by
  obtain ⟨r, h1, h2, h3⟩ := hm
  obtain ⟨a, cap, rfl, h | ⟨g, off, rfl, hg, hc⟩⟩ := h
  · exact ⟨a, cap, rfl, .inl h⟩
  · by_cases hL : L = []
    · exact ⟨_, cap, rfl, .inl hL⟩
    have hp : 0 < L.length := List.length_pos_iff.2 hL
    have hne : some r ≠ some g := fun e => by
      obtain rfl := Option.some.inj e
      exact h2.1 _ _ (hc 0 hp).1
    exact ⟨_, cap, rfl, .inr ⟨g, off, rfl, Nat.lt_of_lt_of_le hg h3.size, fun i hi => ⟨(grown_cell h3 hg hne).trans (hc i hi).1, (grown_cell h3 hg hne).trans (hc i hi).2.1, (grown_cell h3 hg hne).trans (hc i hi).2.2⟩⟩⟩
/-- A row of cells of another type stays. -/
theorem Mv.row {lo : Nat} {W W' : World} (hm : Mv lo W W') {g : Nat} {cs : Array Value} {t : TypeId} {m : Nat × Nat} (h : W.heap[g]? = some (.cells cs t m)) (h1 : t ≠ 114) (h2 : t ≠ 71) : W'.heap[g]? = some (.cells cs t m) := by
  obtain ⟨r, -, h3, h4⟩ := hm
  refine (h4.block g (Array.getElem?_eq_some_iff.1 h).1 (fun e => ?_)).trans h
  obtain rfl := Option.some.inj e
  rcases h3.2 _ _ _ h with e | e
  · exact h1 e
  · exact h2 e

end Go.Proofs.YtblfdjdhikfjhaaGreat

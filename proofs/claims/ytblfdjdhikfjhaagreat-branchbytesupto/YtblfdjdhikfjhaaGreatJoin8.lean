import Derived.Test.YtblfdjdhikfjhaaGreatJoin7
import Derived.Deep.RegionLaw
import Derived.Maps.AppendAt
import Derived.BigQuiet
import Derived.Laws.AppendOwnNone
namespace Go.Proofs.YtblfdjdhikfjhaaGreat
open Go.RowKit

theorem takes_ends {f : Nat} {T : Addr} {t : Tr} {J Jx : List (Nat × (Int × Int)) → World → Prop} (hT : Takes f T t J Jx) {d d' L : List (Nat × (Int × Int))} {X : World} (o : Bool) (h1 : o = true → J d X) (h2 : o = false → ∃ pre, pre <+: L ∧ Jx (d' ++ pre) X) : Lies X t := by
  cases o with
  | true => exact hT.lies _ _ (h1 rfl)
  | false =>
    obtain ⟨pre, -, h⟩ := h2 rfl
    exact hT.liesx _ _ h

end Go.Proofs.YtblfdjdhikfjhaaGreat


namespace Go.Proofs.YtblfdjdhikfjhaaGreat
open Go.RowKit

theorem step_append_own {P : Program} {ops : Array Oper} {o : Oper} {a : Act} (w : World) {K : Act → World → Prop} {Q : Exit → Act → World → Prop} {E : Prop}
    (hg : o.guard = none) (s x : Operand) (t : TypeId) (ho : o.op = .call { callee := .builtin .append, args := #[s, x], argTypes := #[t, t] })
    (base : Nat) (e : TypeId) (i : TypeInfo) (z : Value) (size bytes : Nat) (ht : P.underlying t = some (.slice e)) (hi : P.info? e = some i) (hz : i.zero = some z)
    (hsize : i.size = size) (hby : i.bytes = bytes) (hzs : z.cells.size = size) (hsz : 0 < size)
    (v : Value) (n : Nat) (xs : List Value) (hs : a.eval s = v) (hown : w.ownsRow base e size v n xs)
    (ad : Addr) (m c : Nat) (news : List Value) (hx : a.eval x = .slice (some ad) m c) (hl : news.length = m * size) (hnews : ∀ j u, news[j]? = some u → w.cell? (ad.add j) = some u) (h1 : ∀ u ∈ news, u.oneCell' = true)
    (h63 : n + m ≤ maxLen) (hbytes : (n + m) * bytes ≤ 140737488355328) (hbase : base ≤ w.heap.size)
    (h : ∀ v' w', w'.ownsRow base e size v' (n + m) (xs ++ news) → w.grownBy w' v.ownBlock → K (a.put o.dst v') w') : if Region.wanted o (yielded ops a.tmps) = true then Oper.wp P o a w K Q else E := by
  rw [if_pos (by simp [Region.wanted, hg])]
  exact wp_append_own w s x t ho base e i z size bytes ht hi hz hsize hby hzs hsz v n xs hs hown ad m c news hx hl hnews h1 h63 hbytes hbase (fun v' w' h1 h2 _ => h v' w' h1 h2)

theorem grown_set (X : World) (G o : Nat) (v : Value) : X.grownBy (X.setCell ⟨G, o, none⟩ v) (some G) := ⟨rfl, rfl, rfl, by simp, fun k _ hk => Below.heap_setCell _ _ _ k (fun e => hk (by rw [e]))⟩
theorem grown_drew (X : World) (r : Option Nat) : X.grownBy X.drew r := ⟨rfl, rfl, rfl, Nat.le_refl _, fun _ _ _ => rfl⟩
theorem cell_o5 {X : World} {T i j : Nat} (h : i ≠ j) (v : Value) : (X.setCell ⟨T, j, none⟩ v).cell? ⟨T, i, none⟩ = X.cell? ⟨T, i, none⟩ := World.cell?_setCell_other _ _ _ _ (fun e => h (congrArg Addr.off e).symm)

def flat3 (L : List (Nat × (Int × Int))) : List Value := L.flatMap fun e => [.int .u32 (e.1 : Int), .int .i64 e.2.1, .int .i64 e.2.2]
theorem flat3_snoc (L : List (Nat × (Int × Int))) (k : Nat) (x y : Int) : flat3 (L ++ [(k, (x, y))]) = flat3 L ++ [.int .u32 (k : Int), .int .i64 x, .int .i64 y] := by simp [flat3]
theorem infoE : (Tryz.prog.info? 49).map (fun i => (i.zero, i.size, i.bytes)) = some (some (.agg #[.int .u32 0, .int .i64 0, .int .i64 0]), 3, 24) := by kernel_rfl

def takerRow (ev : Value) (stop most n : Int) (over deaf : Bool) : Array Value := #[ev, .slice none 0 0, .int .i64 stop, .int .i64 most, .int .i64 n, .bool over, .bool deaf]
theorem own_some {w : World} {base n size : Nat} {e : TypeId} {v : Value} {xs : List Value} (h : w.ownsRow base e size v n xs) (hn : 0 < n) : ∃ g cap, v = .slice (some ⟨g, 0, none⟩) n cap := by
  obtain ⟨_, h | ⟨g, cap, cur, rfl, _⟩⟩ := h
  · omega
  · exact ⟨g, cap, rfl⟩
theorem grown_of_belowB {W W' : World} (h : Below W.heap.size W W') : W.grownBy W' none := ⟨h.os, h.tape, h.output, h.size, fun k hk _ => h.block k hk⟩
theorem own_laterB {w w' : World} {base n size : Nat} {e : TypeId} {v : Value} {xs : List Value} (h : w.ownsRow base e size v n xs) (hb : Below w.heap.size w w') : w'.ownsRow base e size v n xs := h.kept (grown_of_belowB hb) (by cases v.ownBlock <;> simp)
theorem own_slice {w : World} {base n size : Nat} {e : TypeId} {v : Value} {xs : List Value} (h : w.ownsRow base e size v n xs) : ∃ a len cap, v = .slice a len cap := by
  obtain ⟨_, h | ⟨g, cap, cur, rfl, _⟩⟩ := h
  · exact ⟨none, 0, 0, h.1⟩
  · exact ⟨_, _, _, rfl⟩
theorem cells3_at (W : World) (n : Nat) (hn : n = W.heap.size) (a b c : Value) (t : TypeId) : ∀ j u, ([a, b, c] : List Value)[j]? = some u → (W.alloc (.cells #[a, b, c] t)).cell? ((⟨n, 0, none⟩ : Addr).add j) = some u := by
  subst hn
  intro j u h
  match j, h with
  | 0, h => simpa [Addr.add] using h
  | 1, h => simpa [Addr.add] using h
  | 2, h => simpa [Addr.add] using h
  | j + 3, h => simp at h

end Go.Proofs.YtblfdjdhikfjhaaGreat


namespace Go.Proofs.YtblfdjdhikfjhaaGreat
open Go.RowKit

/-- An iterator over a tree, as it is handed out. -/
def iterV (b : Nat) : Value := .func (.func 79) #[] #[.pointer (some ⟨b, 0, none⟩), .pointer (some ⟨b + 1, 0, none⟩), .pointer (some ⟨b + 1 + 1, 0, none⟩), .pointer (some ⟨b + 1 + 1 + 1, 0, none⟩)]
def IterAt (W : World) (b : Nat) (t : Tr) (low : Nat) : Prop := b + 1 + 1 + 1 < W.heap.size ∧ W.cell? ⟨b, 0, none⟩ = some t.ptr ∧ W.cell? ⟨b + 1, 0, none⟩ = some (.int .i64 0) ∧ W.cell? ⟨b + 1 + 1, 0, none⟩ = some (.int .u32 0) ∧ W.cell? ⟨b + 1 + 1 + 1, 0, none⟩ = some (.int .u32 (low : Int))
theorem IterAt.later {W W' : World} {b : Nat} {t : Tr} {low : Nat} (h : IterAt W b t low) (hb : Below W.heap.size W W') : IterAt W' b t low := by
  obtain ⟨h0, h1, h2, h3, h4⟩ := h
  exact ⟨Nat.lt_of_lt_of_le h0 hb.size, (hb.cell (p := ⟨b, 0, none⟩) (by simp; omega)).trans h1, (hb.cell (p := ⟨b + 1, 0, none⟩) (by simp; omega)).trans h2, (hb.cell (p := ⟨b + 1 + 1, 0, none⟩) (by simp; omega)).trans h3, (hb.cell (p := ⟨b + 1 + 1 + 1, 0, none⟩) (by simp; omega)).trans h4⟩

theorem szA (w : World) (o : Obj) : (w.alloc o).heap.size = w.heap.size + 1 := by simp
theorem cell_new1 (w : World) (v : Value) (t : TypeId) (n : Nat) (hn : n = w.heap.size) : (w.alloc (.cells #[v] t)).cell? ⟨n, 0, none⟩ = some v := by
  subst hn
  exact cell_of_row _ _ 0 _ _ _ (heap_alloc_last w _)
theorem cell_old (w : World) (o : Obj) (n : Nat) (h : n < w.heap.size) : (w.alloc o).cell? ⟨n, 0, none⟩ = w.cell? ⟨n, 0, none⟩ := ((Below.refl w.heap.size w).alloc (Nat.le_refl _) o).cell (p := ⟨n, 0, none⟩) h
theorem iter_new (w : World) (t : Tr) (u : Option Addr) (hu : t.ptr = .pointer u) (low : Nat) (l : Int) (hl : l = (low : Int)) (t1 t2 t3 t4 : TypeId) : IterAt ((((w.alloc (.cells #[.pointer u] t1)).alloc (.cells #[.int .i64 0] t2)).alloc (.cells #[.int .u32 0] t3)).alloc (.cells #[.int .u32 l] t4)) w.heap.size t low ∧ Below w.heap.size w ((((w.alloc (.cells #[.pointer u] t1)).alloc (.cells #[.int .i64 0] t2)).alloc (.cells #[.int .u32 0] t3)).alloc (.cells #[.int .u32 l] t4)) := by
  refine ⟨⟨by simp only [szA]; omega, ?_, ?_, ?_, ?_⟩, ((((Below.refl w.heap.size w).alloc (Nat.le_refl _) _).alloc (by simp only [szA]; omega) _).alloc (by simp only [szA]; omega) _).alloc (by simp only [szA]; omega) _⟩
  · rw [cell_old _ _ _ (by simp only [szA]; omega), cell_old _ _ _ (by simp only [szA]; omega), cell_old _ _ _ (by simp only [szA]; omega), cell_new1 _ _ _ _ rfl, hu]
  · rw [cell_old _ _ _ (by simp only [szA]; omega), cell_old _ _ _ (by simp only [szA]; omega), cell_new1 _ _ _ _ (by simp only [szA])]
  · rw [cell_old _ _ _ (by simp only [szA]; omega), cell_new1 _ _ _ _ (by simp only [szA])]
  · rw [cell_new1 _ _ _ _ (by simp only [szA]), hl]

theorem all_any (mb : Nat) (t : Tr) (w : World) (h : MapT w mb t) : Calls Tryz.prog 40 #[.pointer (some ⟨mb, 0, none⟩)] w fun e w' => e = .returned (iterV w.heap.size) ∧ IterAt w' w.heap.size t 0 ∧ Below w.heap.size w w' := by
  obtain ⟨u, hu⟩ := ptr_pointer t
  have m0 := h.2.1
  rw [hu] at m0
  go_enter Tryz.func40, Tryz.ntmps40
  go_wp2
  go_ret
  have := iter_new w t u hu 0 0 rfl 81 3 45 45
  exact ⟨rfl, this.1, this.2⟩

end Go.Proofs.YtblfdjdhikfjhaaGreat


namespace Go.Proofs.YtblfdjdhikfjhaaGreat
open Go.RowKit

theorem own_cell3 {w : World} {base g cap n : Nat} {L : List (Nat × (Int × Int))} (h : w.ownsRow base 49 3 (.slice (some ⟨g, 0, none⟩) n cap) n (flat3 L)) (j : Nat) (u : Value) (hj : (flat3 L)[j]? = some u) : w.cell? ⟨g, j, none⟩ = some u := by
  have hl : j < (flat3 L).length := (List.getElem?_eq_some_iff.1 hj).1
  exact (h.cellAt j (by rw [h.1] at hl; omega)).trans hj

/-- What holds while the last line of known is looked at. -/
abbrev KnownS (W : World) (vB g bm bn : Nat) (t : Tr) (X : World) : Prop := X.cell? ⟨vB, 0, none⟩ = some (.int .i64 1) ∧ X.cell? ⟨vB, 1, none⟩ = some (.int .i64 5) ∧ X.cell? ⟨g, 0, none⟩ = some (.int .u32 7) ∧ MapT X bm .nil ∧ MapT X bn t ∧ Below W.heap.size W X
theorem KnownS.later {W : World} {vB g bm bn : Nat} {t : Tr} {X Y : World} (h : KnownS W vB g bm bn t X) (hb : Below X.heap.size X Y) : KnownS W vB g bm bn t Y := by
  obtain ⟨h0, h1, h2, h3, h4, h5⟩ := h
  have l0 := World.block_lt_of_cell? _ _ h0
  have l2 := World.block_lt_of_cell? _ _ h2
  exact ⟨(hb.cell (p := ⟨vB, 0, none⟩) l0).trans h0, (hb.cell (p := ⟨vB, 1, none⟩) l0).trans h1, (hb.cell (p := ⟨g, 0, none⟩) l2).trans h2, h3.later hb, h4.later hb, below_step h5 hb⟩

end Go.Proofs.YtblfdjdhikfjhaaGreat


namespace Go.Proofs.YtblfdjdhikfjhaaGreat
open Go.RowKit

/-- What one step of a script does to the entries. -/
def stepL (L : List (Nat × (Int × Int))) (id : Nat) (v : Int × Int) (gone : Bool) : List (Nat × (Int × Int)) := if gone = true then del L id else ins L id v

/-- A list of entries in the world. -/
def EntsAt (W : World) (v : Value) (L : List (Nat × (Int × Int))) : Prop := ∃ a cap, v = .slice a L.length cap ∧ (L = [] ∨ ∃ g off, a = some ⟨g, off, none⟩ ∧ g < W.heap.size ∧ ∀ i (h : i < L.length), W.cell? ⟨g, off + i * 3, none⟩ = some (.int .u32 (L[i].1 : Int)) ∧ W.cell? ⟨g, off + i * 3 + 1, none⟩ = some (.int .i64 L[i].2.1) ∧ W.cell? ⟨g, off + i * 3 + 2, none⟩ = some (.int .i64 L[i].2.2))
theorem EntsAt.later {W W' : World} {v : Value} {L : List (Nat × (Int × Int))} (h : EntsAt W v L) (hb : Below W.heap.size W W') : EntsAt W' v L := by
  obtain ⟨a, cap, rfl, h | ⟨g, off, rfl, hg, hc⟩⟩ := h
  · exact ⟨a, cap, rfl, .inl h⟩
  · have e : ∀ j, W'.cell? ⟨g, j, none⟩ = W.cell? ⟨g, j, none⟩ := fun j => hb.cell (p := ⟨g, j, none⟩) hg
    exact ⟨_, cap, rfl, .inr ⟨g, off, rfl, Nat.lt_of_lt_of_le hg hb.size, fun i hi => ⟨(e _).trans (hc i hi).1, (e _).trans (hc i hi).2.1, (e _).trans (hc i hi).2.2⟩⟩⟩
theorem flat3_len (L : List (Nat × (Int × Int))) : (flat3 L).length = L.length * 3 := by
  induction L with
  | nil => rfl
  | cons a L ih => simp [flat3] at ih ⊢; omega
theorem flat3_at : ∀ (L : List (Nat × (Int × Int))) (i : Nat) (h : i < L.length), (flat3 L)[i * 3]? = some (.int .u32 (L[i].1 : Int)) ∧ (flat3 L)[i * 3 + 1]? = some (.int .i64 L[i].2.1) ∧ (flat3 L)[i * 3 + 2]? = some (.int .i64 L[i].2.2)
  | [], i, h => by simp at h
  | a :: L, 0, h => by simp [flat3]
  | a :: L, i + 1, h => by
    have ih := flat3_at L i (by simpa using h)
    have e : flat3 (a :: L) = .int .u32 (a.1 : Int) :: .int .i64 a.2.1 :: .int .i64 a.2.2 :: flat3 L := by simp [flat3]
    rw [e, show (i + 1) * 3 = i * 3 + 1 + 1 + 1 from by omega]
    simpa using ih
theorem ents_of_own {w : World} {base : Nat} {v : Value} {L : List (Nat × (Int × Int))} (h : w.ownsRow base 49 3 v L.length (flat3 L)) : EntsAt w v L := by
  by_cases h0 : L.length = 0
  · obtain rfl := List.eq_nil_of_length_eq_zero h0
    obtain ⟨-, h | ⟨g, cap, cur, rfl, -⟩⟩ := h
    · exact ⟨none, 0, h.1, .inl rfl⟩
    · exact ⟨_, cap, rfl, .inl rfl⟩
  · obtain ⟨g, cap, rfl⟩ := own_some h (by omega)
    refine ⟨_, cap, rfl, .inr ⟨g, 0, rfl, (h.lt g rfl).2, fun i hi => ?_⟩⟩
    obtain ⟨q0, q1, q2⟩ := flat3_at L i hi
    simp only [Nat.zero_add]
    exact ⟨own_cell3 h _ _ q0, own_cell3 h _ _ q1, own_cell3 h _ _ q2⟩


end Go.Proofs.YtblfdjdhikfjhaaGreat


namespace Go.Proofs.YtblfdjdhikfjhaaGreat
open Go.RowKit

abbrev Es := List (Nat × (Int × Int))

/-- A map by its entries. -/
def MapE (W : World) (b : Nat) (L : Es) : Prop := ∃ t, MapT W b t ∧ t.ents 7 0 = L
theorem MapE.later {W W' : World} {b : Nat} {L : Es} (h : MapE W b L) (hb : Below W.heap.size W W') : MapE W' b L := by
  obtain ⟨t, h1, h2⟩ := h
  exact ⟨t, h1.later hb, h2⟩

/-- A history's block. -/
def HB (W : World) (hb : Nat) (a : Option Addr) (n cap : Nat) (p : Int) : Prop := W.heap[hb]? = some (.cells #[.slice a n cap, .int .i64 p] 114 (0, 0))

theorem NodeAt.kept {W W' : World} {b hb : Nat} {kv : Nat → Value} {sv : Value} {a : Option Addr} {n cap : Nat} {p : Int} (h : NodeAt W b kv sv) (hH : HB W hb a n cap p) (hg : W.grownBy W' (some hb)) : NodeAt W' b kv sv := by
  refine (hg.block b h.lt (fun e => ?_)).trans h
  obtain rfl := Option.some.inj e
  have := h.symm.trans hH
  injection this with this
  injection this with h1
  have := congrArg Array.size h1
  rw [row17_size] at this
  simp at this
theorem ShelfAt.kept {W W' : World} {b hb : Nat} {th : Nat → Bool} {vk vn : Nat → Int} {a : Option Addr} {n cap : Nat} {p : Int} (h : ShelfAt W b th vk vn) (hH : HB W hb a n cap p) (hg : W.grownBy W' (some hb)) : ShelfAt W' b th vk vn := by
  refine (hg.block b h.lt (fun e => ?_)).trans h
  obtain rfl := Option.some.inj e
  have := h.symm.trans hH
  injection this with this
  injection this with h1
  have := congrArg Array.size h1
  rw [row48_size] at this
  simp at this
theorem Lies.kept {W W' : World} {hb : Nat} {a : Option Addr} {n cap : Nat} {p : Int} (hH : HB W hb a n cap p) (hg : W.grownBy W' (some hb)) : ∀ {t : Tr}, Lies W t → Lies W' t := by
  intro t
  induction t with
  | nil => intro _; trivial
  | node b kids ih => intro h; exact ⟨h.1.kept hH hg, fun i hi => ih i (h.2 i hi)⟩
  | leaf b s th vk vn => intro h; exact ⟨h.1.kept hH hg, h.2.kept hH hg⟩
theorem grown_cell {W W' : World} {r : Option Nat} (hg : W.grownBy W' r) {b o : Nat} (hl : b < W.heap.size) (hne : r ≠ some b) : W'.cell? ⟨b, o, none⟩ = W.cell? ⟨b, o, none⟩ := by
  have := hg.block b hl hne.symm
  simp only [World.cell?, this]
theorem MapT.kept {W W' : World} {mb hb : Nat} {t : Tr} {a : Option Addr} {n cap : Nat} {p : Int} (h : MapT W mb t) (hH : HB W hb a n cap p) (hg : W.grownBy W' (some hb)) : MapT W' mb t := by
  have hne : some hb ≠ some mb := fun e => by
    obtain rfl := Option.some.inj e
    have h0 := h.2.1
    rw [cell_of_row _ _ 0 _ _ _ hH] at h0
    obtain ⟨u, hu⟩ := ptr_pointer t
    rw [hu] at h0
    simp at h0
  exact ⟨Nat.lt_of_lt_of_le h.1 hg.size, (grown_cell hg h.1 hne).trans h.2.1, (grown_cell hg h.1 hne).trans h.2.2.1, h.2.2.2.1.kept hH hg, h.2.2.2.2⟩
theorem MapE.kept {W W' : World} {b hb : Nat} {L : Es} {a : Option Addr} {n cap : Nat} {p : Int} (h : MapE W b L) (hH : HB W hb a n cap p) (hg : W.grownBy W' (some hb)) : MapE W' b L := by
  obtain ⟨t, h1, h2⟩ := h
  exact ⟨t, h1.kept hH hg, h2⟩

/-- A row of maps. -/
def Maps (W : World) (g off : Nat) (vs : Nat → Nat) (Ls : List Es) : Prop := g < W.heap.size ∧ ∀ i (h : i < Ls.length), W.cell? ⟨g, off + i, none⟩ = some (.pointer (some ⟨vs i, 0, none⟩)) ∧ MapE W (vs i) Ls[i] ∧ Ls[i].length ≤ 5000000000
theorem Maps.later {W W' : World} {g off : Nat} {vs : Nat → Nat} {Ls : List Es} (h : Maps W g off vs Ls) (hb : Below W.heap.size W W') : Maps W' g off vs Ls :=
  ⟨Nat.lt_of_lt_of_le h.1 hb.size, fun i hi => ⟨(hb.cell (p := ⟨g, off + i, none⟩) h.1).trans (h.2 i hi).1, (h.2 i hi).2.1.later hb, (h.2 i hi).2.2⟩⟩
theorem Maps.kept {W W' : World} {g off hb : Nat} {vs : Nat → Nat} {Ls : List Es} {a : Option Addr} {n cap : Nat} {p : Int} (h : Maps W g off vs Ls) (hne : g ≠ hb) (hH : HB W hb a n cap p) (hg : W.grownBy W' (some hb)) : Maps W' g off vs Ls :=
  ⟨Nat.lt_of_lt_of_le h.1 hg.size, fun i hi => ⟨(grown_cell hg h.1 (fun e => hne (Option.some.inj e).symm)).trans (h.2 i hi).1, (h.2 i hi).2.1.kept hH hg, (h.2 i hi).2.2⟩⟩

/-- A history: its versions' entries from the oldest on, the present one's place. -/
def HistAt (W : World) (hb : Nat) (Ls : List Es) (p : Nat) : Prop := p < Ls.length ∧ Ls.length ≤ 33 ∧ ∃ (g cap : Nat) (vs : Nat → Nat), HB W hb (some ⟨g, 0, none⟩) Ls.length cap (p : Int) ∧ Ls.length ≤ cap ∧ g ≠ hb ∧ Maps W g 0 vs Ls
theorem HB.lt {W : World} {hb : Nat} {a : Option Addr} {n cap : Nat} {p : Int} (h : HB W hb a n cap p) : hb < W.heap.size := (Array.getElem?_eq_some_iff.1 h).1
theorem HB.later {W W' : World} {hb : Nat} {a : Option Addr} {n cap : Nat} {p : Int} (h : HB W hb a n cap p) (h' : Below W.heap.size W W') : HB W' hb a n cap p := (h'.block hb h.lt).trans h
theorem HistAt.later {W W' : World} {hb : Nat} {Ls : List Es} {p : Nat} (h : HistAt W hb Ls p) (h' : Below W.heap.size W W') : HistAt W' hb Ls p := by
  obtain ⟨h1, h2, g, cap, vs, h3, h4, h5, h6⟩ := h
  exact ⟨h1, h2, g, cap, vs, h3.later h', h4, h5, h6.later h'⟩
theorem HistAt.lt {W : World} {hb : Nat} {Ls : List Es} {p : Nat} (h : HistAt W hb Ls p) : hb < W.heap.size := by
  obtain ⟨h1, h2, g, cap, vs, h3, h4, h5, h6⟩ := h
  exact h3.lt
/-- Another history changes. -/
theorem HistAt.kept {W W' : World} {hb hb' : Nat} {Ls Ls' : List Es} {p p' : Nat} (h : HistAt W hb Ls p) (h' : HistAt W hb' Ls' p') (hne : hb ≠ hb') (hgr : W.grownBy W' (some hb')) : HistAt W' hb Ls p := by
  obtain ⟨h1, h2, g, cap, vs, h3, h4, h5, h6⟩ := h
  obtain ⟨-, -, g', cap', vs', k3, -, -, k6⟩ := h'
  refine ⟨h1, h2, g, cap, vs, (hgr.block hb h3.lt (fun e => hne (Option.some.inj e))).trans h3, h4, h5, h6.kept (fun e => ?_) k3 hgr⟩
  subst e
  have hc := (h6.2 0 (by omega)).1
  rw [cell_of_row _ _ 0 _ _ _ k3] at hc
  simp at hc
theorem grown_below {w W W' : World} {hb : Nat} (h : Below w.heap.size w W) (hg : W.grownBy W' (some hb)) (hl : w.heap.size ≤ hb) : Below w.heap.size w W' := h.grown hg h.size (fun k hk => by cases hk; exact hl)

end Go.Proofs.YtblfdjdhikfjhaaGreat

import Derived.Test.YtblfdjdhikfjhaaGreatTurnBzRa
import Derived.Test.YtblfdjdhikfjhaaGreatJoin34
import Derived.Test.YtblfdjdhikfjhaaGreatJoin8
namespace Go.Proofs.YtblfdjdhikfjhaaGreat.BZ
open Go.RowKit

/-- What a list of bytes that came in is. -/
def InL (W : World) (a : Option Addr) (t : List UInt8) : Prop := t = [] ∨ ∃ b off, a = some ⟨b, off, none⟩ ∧ b < W.heap.size ∧ ∀ i (h : i < t.length), W.cell? ⟨b, off + i, none⟩ = some (.int .u8 (t[i].toNat : Int))
/-- A book with these contents. -/
def BkIn (W : World) (lo bb : Nat) (xs : List Bc) (c : Nat) : Prop := ∃ Bs cur, BookAt W lo bb Bs cur ∧ (Bs.map toB).reverse = xs ∧ (xs.map (·.nm)).Pairwise (· < ·) ∧ (xs.map (·.nm))[c]? = some cur.data.toList
def GetQ (W : World) (t : List UInt8) (e : Ending) (W' : World) : Prop :=
  ((get t = none ∧ e = .returned (.tuple #[.pointer none, .int .i64 126])) ∨ ∃ xs c bb, get t = some (xs, c) ∧ e = .returned (.tuple #[.pointer (some ⟨bb, 0, none⟩), .int .i64 0]) ∧ BkIn W' W.heap.size bb xs c) ∧ Below W.heap.size W W'

set_option maxRecDepth 4000 in
set_option maxHeartbeats 2000000 in
theorem get_any (W : World) (a : Option Addr) (t : List UInt8) (cap : Nat) (hl : t.length ≤ 9223372036854775806) (hcap : t.length ≤ cap) (hn : a = none → cap = 0) (h : InL W a t) : Calls Tryz.prog 7 #[.slice a t.length cap] W (GetQ W t) := by
  have hb1 : Below W.heap.size W (W.alloc (.cells #[.slice a t.length cap, .bool false] 62)) := (Below.refl _ _).alloc (Nat.le_refl _) _
  have hR : RAt (W.alloc (.cells #[.slice a t.length cap, .bool false] 62)) W.heap.size t false := by
    refine ⟨fun e => (by cases e), a, cap, heap_alloc_last W _, hcap, hn, ?_⟩
    rcases h with h | ⟨b, off, rfl, h1, h2⟩
    · exact .inl h
    · exact .inr ⟨b, off, rfl, Nat.lt_of_lt_of_le h1 hb1.size, h1, fun i hi => (hb1.cell (p := ⟨b, off + i, none⟩) h1).trans (h2 i hi)⟩
  have hk := rbook_any W.heap.size _ hl hR
  clear hR h
  go_enter Tryz.func7, Tryz.ntmps7
  go_wp2_with (go_at_call 24; fail)
  refine hk.mono ?_
  rintro e w1 ⟨y, t2, b2, hR1, hG1, hX1, hcase⟩
  have hB1 : Below W.heap.size W w1 := hb1.grown hG1 hb1.size (fun k hk => by cases hk; exact Nat.le_refl _)
  have hlo : W.heap.size ≤ (W.alloc (.cells #[.slice a t.length cap, .bool false] 62)).heap.size := hb1.size
  obtain ⟨h0, a1, cap1, hrow, -⟩ := hR1
  have c0 : w1.cell? ⟨W.heap.size, 0, none⟩ = some (.slice a1 t2.length cap1) := cell_of_row _ _ 0 _ _ _ hrow
  have c1 : w1.cell? ⟨W.heap.size, 1, none⟩ = some (.bool b2) := cell_of_row _ _ 1 _ _ _ hrow
  rcases hcase with ⟨rfl, rfl⟩ | ⟨rfl, bb, Bs, cur, rfl, hBk, he, hp, hc⟩
  · have hno : get t = none := by
      unfold get
      cases hr : rBook t with
      | none => rfl
      | some q =>
        obtain ⟨x, t'⟩ := q
        obtain ⟨-, -, e⟩ := (hX1.2 rfl).1 _ _ hr
        cases e
    have hfin : GetQ W t (.returned (.tuple #[.pointer none, .int .i64 126])) w1 := ⟨.inl ⟨hno, rfl⟩, hB1⟩
    clear hk hX1 hG1 hB1 hrow h0 hno
    go_wp2
    exact bodyPost_ret (v := .tuple #[.pointer none, .int .i64 126]) (by simp [results, Tryz.results7, go_sem]) rfl hfin
  · have hy := hX1.good
    obtain ⟨xs, c⟩ := y
    by_cases ht : t2 = []
    · subst ht
      have hyes : get t = some (xs, c) := by unfold get; rw [hy]
      have hfin : GetQ W t (.returned (.tuple #[.pointer (some ⟨bb, 0, none⟩), .int .i64 0])) w1 := ⟨.inr ⟨xs, c, bb, hyes, rfl, Bs, cur, hBk.lower hlo, he, hp, hc⟩, hB1⟩
      clear hk hX1 hG1 hB1 hrow h0 hyes hBk hy
      simp only [List.length_nil] at c0
      go_wp2
      exact bodyPost_ret (v := .tuple #[.pointer (some ⟨bb, 0, none⟩), .int .i64 0]) (by simp [results, Tryz.results7, go_sem]) rfl hfin
    · have hno : get t = none := by
        unfold get
        rw [hy]
        cases t2 with
        | nil => exact absurd rfl ht
        | cons a r => rfl
      have hp2 : (0 : Int) < (t2.length : Int) := by have := List.length_pos_iff.2 ht; omega
      have hfin : GetQ W t (.returned (.tuple #[.pointer none, .int .i64 126])) w1 := ⟨.inl ⟨hno, rfl⟩, hB1⟩
      clear hk hX1 hG1 hB1 hrow h0 hno hBk hy ht
      generalize t2.length = m at *
      go_wp2
      exact bodyPost_ret (v := .tuple #[.pointer none, .int .i64 126]) (by simp [results, Tryz.results7, go_sem]) rfl hfin

end Go.Proofs.YtblfdjdhikfjhaaGreat.BZ


namespace Go.Proofs.YtblfdjdhikfjhaaGreat
open Go.RowKit

theorem del_snoc (P : List (Nat × (Int × Int))) (e : Nat × (Int × Int)) (id : Nat) : del (P ++ [e]) id = del P id ++ (if e.1 = id then [] else [e]) := by
  unfold del
  rw [List.filter_append]
  by_cases h : e.1 = id <;> simp [h]
theorem less_of {P : List (Nat × (Int × Int))} {id : Nat} (h : ∀ e ∈ P, e.1 ≤ id) : P.filter (fun e => decide (e.1 < id)) = del P id := by
  unfold del
  refine List.filter_congr fun e he => ?_
  have := h e he
  rw [decide_eq_decide]
  omega
theorem more_none {P : List (Nat × (Int × Int))} {id : Nat} (h : ∀ e ∈ P, e.1 ≤ id) : P.filter (fun e => decide (id < e.1)) = [] := by
  rw [List.filter_eq_nil_iff]
  intro e he
  have := h e he
  simp
  omega
theorem ins_all {P : List (Nat × (Int × Int))} {id : Nat} (v : Int × Int) (h : ∀ e ∈ P, e.1 ≤ id) : ins P id v = del P id ++ [(id, v)] := by
  unfold ins
  rw [less_of h, more_none h]
theorem ins_above {P : List (Nat × (Int × Int))} {e : Nat × (Int × Int)} {id : Nat} (v : Int × Int) (h : id < e.1) : ins (P ++ [e]) id v = ins P id v ++ [e] := by
  unfold ins
  rw [List.filter_append, List.filter_append]
  have h1 : ¬ e.1 < id := by omega
  simp [h, h1]
theorem ins_at {P : List (Nat × (Int × Int))} {e : Nat × (Int × Int)} {id : Nat} (v : Int × Int) (h : e.1 = id) : ins (P ++ [e]) id v = ins P id v := by
  unfold ins
  rw [List.filter_append, List.filter_append]
  simp [h]

/-- What laid has of the first entries. -/
def LaidI (id : Nat) (v : Int × Int) (gone : Bool) (P out : List (Nat × (Int × Int))) (dn : Bool) : Prop :=
  (gone = true ∧ dn = true ∧ out = del P id) ∨ (gone = false ∧ dn = true ∧ out = ins P id v ∧ ∃ e ∈ P, id < e.1) ∨ (gone = false ∧ dn = false ∧ out = del P id ∧ ∀ e ∈ P, e.1 ≤ id)

theorem laid_start (id : Nat) (v : Int × Int) (gone : Bool) : LaidI id v gone [] [] gone := by
  cases gone
  · exact .inr (.inr ⟨rfl, rfl, rfl, by simp⟩)
  · exact .inl ⟨rfl, rfl, rfl⟩
theorem laid_skip {id : Nat} {v : Int × Int} {gone dn : Bool} {P out : List (Nat × (Int × Int))} {e : Nat × (Int × Int)} (h : LaidI id v gone P out dn) (he : e.1 = id) : LaidI id v gone (P ++ [e]) out dn := by
  rcases h with ⟨h1, h2, rfl⟩ | ⟨h1, h2, rfl, e0, h3, h4⟩ | ⟨h1, h2, rfl, h3⟩
  · exact .inl ⟨h1, h2, by rw [del_snoc, if_pos he, List.append_nil]⟩
  · exact .inr (.inl ⟨h1, h2, by rw [ins_at v he], e0, by simp [h3], h4⟩)
  · refine .inr (.inr ⟨h1, h2, by rw [del_snoc, if_pos he, List.append_nil], fun x hx => ?_⟩)
    rcases List.mem_append.1 hx with hx | hx
    · exact h3 x hx
    · obtain rfl : x = e := by simpa using hx
      omega
theorem laid_plain {id : Nat} {v : Int × Int} {gone dn : Bool} {P out : List (Nat × (Int × Int))} {e : Nat × (Int × Int)} (hR : Rises (P ++ [e])) (h : LaidI id v gone P out dn) (he : e.1 ≠ id) (hd : dn = true ∨ ¬ id < e.1) : LaidI id v gone (P ++ [e]) (out ++ [e]) dn := by
  rcases h with ⟨h1, h2, rfl⟩ | ⟨h1, h2, rfl, e0, h3, h4⟩ | ⟨h1, h2, rfl, h3⟩
  · exact .inl ⟨h1, h2, by rw [del_snoc, if_neg he]⟩
  · have := (List.pairwise_append.1 hR).2.2 e0 h3 e (by simp)
    exact .inr (.inl ⟨h1, h2, by rw [ins_above v (by omega)], e0, by simp [h3], h4⟩)
  · have hle : ¬ id < e.1 := by
      rcases hd with hd | hd
      · rw [h2] at hd; cases hd
      · exact hd
    refine .inr (.inr ⟨h1, h2, by rw [del_snoc, if_neg he], fun x hx => ?_⟩)
    rcases List.mem_append.1 hx with hx | hx
    · exact h3 x hx
    · obtain rfl : x = e := by simpa using hx
      omega
theorem laid_put {id : Nat} {v : Int × Int} {gone : Bool} {P out : List (Nat × (Int × Int))} {e : Nat × (Int × Int)} (h : LaidI id v gone P out false) (he : id < e.1) : LaidI id v gone (P ++ [e]) (out ++ [(id, v)] ++ [e]) true := by
  rcases h with ⟨-, h2, -⟩ | ⟨-, h2, -⟩ | ⟨h1, -, rfl, h3⟩
  · cases h2
  · cases h2
  · exact .inr (.inl ⟨h1, rfl, by rw [ins_above v he, ins_all v h3], e, by simp, he⟩)
theorem laid_done {id : Nat} {v : Int × Int} {gone : Bool} {P out : List (Nat × (Int × Int))} (h : LaidI id v gone P out true) : out = stepL P id v gone := by
  rcases h with ⟨h1, -, h3⟩ | ⟨h1, -, h3, -⟩ | ⟨-, h2, -⟩
  · rw [h3, stepL, if_pos h1]
  · rw [h3, stepL, if_neg (by simp [h1])]
  · cases h2
theorem laid_last {id : Nat} {v : Int × Int} {gone : Bool} {P out : List (Nat × (Int × Int))} (h : LaidI id v gone P out false) : out ++ [(id, v)] = stepL P id v gone := by
  rcases h with ⟨-, h2, -⟩ | ⟨-, h2, -⟩ | ⟨h1, -, rfl, h3⟩
  · cases h2
  · cases h2
  · rw [stepL, if_neg (by simp [h1]), ins_all v h3]
theorem laid_length {id : Nat} {v : Int × Int} {gone dn : Bool} {P out : List (Nat × (Int × Int))} (h : LaidI id v gone P out dn) : out.length ≤ P.length + 1 := by
  have hi := length_ins P id v
  have hd := length_del P id
  rcases h with ⟨-, -, rfl⟩ | ⟨-, -, rfl, -⟩ | ⟨-, -, rfl, -⟩ <;> omega

theorem one3 (k : Nat) (x y : Int) : ∀ u ∈ ([.int .u32 (k : Int), .int .i64 x, .int .i64 y] : List Value), u.oneCell' = true := by
  intro u hu
  simp at hu
  rcases hu with rfl | rfl | rfl <;> rfl
theorem own_base {w : World} {base base' n size : Nat} {e : TypeId} {v : Value} {xs : List Value} (h : w.ownsRow base e size v n xs) (hb : base' ≤ base) : w.ownsRow base' e size v n xs := by
  obtain ⟨h1, h2 | ⟨g, cap, cur, h3, h4, h5⟩⟩ := h
  · exact ⟨h1, .inl h2⟩
  · exact ⟨h1, .inr ⟨g, cap, cur, h3, by omega, h5⟩⟩
theorem appended {V A X B : World} {base k : Nat} {x y : Int} {v v' : Value} {out : List (Nat × (Int × Int))} (hA : A = X.alloc (.cells #[.int .u32 (k : Int), .int .i64 x, .int .i64 y] 49)) (hs : base ≤ X.heap.size) (hown : X.ownsRow base 49 3 v out.length (flat3 out)) (hB : Below base V X) (hown' : B.ownsRow base 49 3 v' (out.length + 1) (flat3 out ++ [.int .u32 (k : Int), .int .i64 x, .int .i64 y])) (hg : A.grownBy B v.ownBlock) :
    B.ownsRow base 49 3 v' (out ++ [(k, (x, y))]).length (flat3 (out ++ [(k, (x, y))])) ∧ Below base V B ∧ base ≤ B.heap.size := by
  subst hA
  have hb := (hB.alloc hs (.cells #[.int .u32 (k : Int), .int .i64 x, .int .i64 y] 49)).grown hg (by simp; omega) (fun k hk => (hown.lt k hk).1)
  refine ⟨?_, hb, ?_⟩
  · rw [List.length_append, flat3_snoc]
    exact hown'
  · have := hg.size
    simp at this
    omega


end Go.Proofs.YtblfdjdhikfjhaaGreat


namespace Go.Proofs.YtblfdjdhikfjhaaGreat
open Go.RowKit

/-- A map of the world w that goes through no block that an elder one didn't go through. -/
def Fresh (w : World) (mb : Nat) (t : Tr) (mb' : Nat) (t' : Tr) : Prop := ∀ b, b < w.heap.size → b ≠ mb → t.avoid b → mb' ≠ b ∧ t'.avoid b

theorem mput_fresh (mb id : Nat) (hi : id < 4294967296) (v : Int × Int) (t : Tr) (w : World) (h : MapT w mb t) : Calls Tryz.prog 34 #[.pointer (some ⟨mb, 0, none⟩), .int .u32 (id : Int), .agg #[.int .i64 v.1, .int .i64 v.2]] w fun e w' => ∃ mb' t', e = .returned (.pointer (some ⟨mb', 0, none⟩)) ∧ MapT w' mb' t' ∧ t'.ents 7 0 = ins (t.ents 7 0) id v ∧ Below w.heap.size w w' ∧ Fresh w mb t mb' t' := by
  have hw := h.2.2.2.2
  have hlen := length_ins (t.ents 7 0) id v
  cases hg : t.get 7 id with
  | none =>
    refine (put_none mb id v t w h hg).mono ?_
    rintro e w' ⟨mb', t', rfl, h0, h1, h2, h3, h4, h5, h6⟩
    have he := ents_put h5 hw hi
    have hf : (t.ents 7 0).filter (fun e => decide (e.1 = id)) = [] := filter_none fun x hx => by rw [mem_of_get hw hi, hg] at hx; cases hx
    rw [hf] at hlen
    refine ⟨mb', t', rfl, ⟨h1, h2, ?_, h4, put_wf 7 h5 hw⟩, he, h6, fun b hb _ ha => ⟨by omega, put_avoid hb 7 h5 ha⟩⟩
    rw [h3, he, ← hlen]
    simp
  | some x =>
    have hf := filter_one (ents_rises 7 hw 0) ((mem_of_get hw hi).2 hg)
    by_cases hx : x = v
    · subst hx
      refine (put_same mb id x t w h hg).mono ?_
      rintro e w' ⟨rfl, hb⟩
      exact ⟨mb, t, rfl, h.later hb, (ins_same (ents_rises 7 hw 0) ((mem_of_get hw hi).2 hg)).symm, hb, fun b _ hn ha => ⟨Ne.symm hn, ha⟩⟩
    · refine (put_other mb id v t w h x hx hg).mono ?_
      rintro e w' ⟨mb', t', rfl, h0, h1, h2, h3, h4, h5, h6⟩
      have he := ents_put h5 hw hi
      refine ⟨mb', t', rfl, ⟨h1, h2, ?_, h4, put_wf 7 h5 hw⟩, he, h6, fun b hb _ ha => ⟨by omega, put_avoid hb 7 h5 ha⟩⟩
      rw [h3, he]
      congr 3
      omega

theorem mdrop_fresh (mb id : Nat) (hi : id < 4294967296) (t : Tr) (w : World) (h : MapT w mb t) : Calls Tryz.prog 107 #[.pointer (some ⟨mb, 0, none⟩), .int .u32 (id : Int)] w fun e w' => ∃ mb' t', e = .returned (.pointer (some ⟨mb', 0, none⟩)) ∧ MapT w' mb' t' ∧ t'.ents 7 0 = del (t.ents 7 0) id ∧ Below w.heap.size w w' ∧ Fresh w mb t mb' t' := by
  have hw := h.2.2.2.2
  have hlen := length_del (t.ents 7 0) id
  cases hg : t.get 7 id with
  | none =>
    refine (drop_none mb id t w h hg).mono ?_
    rintro e w' ⟨rfl, hb⟩
    exact ⟨mb, t, rfl, h.later hb, (del_none fun x hx => by rw [mem_of_get hw hi, hg] at hx; cases hx).symm, hb, fun b _ hn ha => ⟨Ne.symm hn, ha⟩⟩
  | some x =>
    have hf := filter_one (ents_rises 7 hw 0) ((mem_of_get hw hi).2 hg)
    refine (drop_some mb id (del (t.ents 7 0) id).length t w h x hg (by omega)).mono ?_
    rintro e w' ⟨mb', t', rfl, h0, h1, h2, h3, h4, h5, h6⟩
    have he := ents_drop h5 hw hi
    refine ⟨mb', t', rfl, ⟨h1, h2, ?_, h4, drop_wf 7 h5 hw⟩, he, h6, fun b hb _ ha => ⟨by omega, drop_avoid hb 7 h5 ha⟩⟩
    rw [h3, he]

theorem lies_grown {w w' : World} {row : Option Nat} (hg : w.grownBy w' row) : ∀ {t : Tr}, Lies w t → (∀ r, row = some r → t.avoid r) → Lies w' t := by
  intro t
  induction t with
  | nil => intro _ _; trivial
  | node c kids ih => intro h ha; exact ⟨(hg.block c h.1.lt (fun e => (ha c e.symm).1 rfl)).trans h.1, fun i hi => ih i (h.2 i hi) (fun r hr => (ha r hr).2 i hi)⟩
  | leaf c s th vk vn => intro h ha; exact ⟨(hg.block c h.1.lt (fun e => (ha c e.symm).1 rfl)).trans h.1, (hg.block s h.2.lt (fun e => (ha s e.symm).2 rfl)).trans h.2⟩
theorem map_grown {w w' : World} {row : Option Nat} {mb : Nat} {t : Tr} (hg : w.grownBy w' row) (h : MapT w mb t) (ha : ∀ r, row = some r → mb ≠ r ∧ t.avoid r) : MapT w' mb t := by
  have hb : w'.heap[mb]? = w.heap[mb]? := hg.block mb h.1 (fun e => (ha mb e.symm).1 rfl)
  exact ⟨Nat.lt_of_lt_of_le h.1 hg.size, (World.cell?_of_block hb).trans h.2.1, (World.cell?_of_block hb).trans h.2.2.1, lies_grown hg h.2.2.2.1 (fun r hr => (ha r hr).2), h.2.2.2.2⟩

end Go.Proofs.YtblfdjdhikfjhaaGreat


namespace Go.Proofs.YtblfdjdhikfjhaaGreat
open Go.RowKit

/-- A map that was held, the tree of it, and the list that was laid beside it. -/
abbrev Ver := Nat × (Tr × Value)
def VerAt (W : World) (x : Ver) : Prop := MapT W x.1 x.2.1 ∧ EntsAt W x.2.2 (x.2.1.ents 7 0) ∧ ∀ g, x.2.2.ownBlock = some g → g < W.heap.size
/-- The block r is no part of it. -/
def VerOff (r : Nat) (x : Ver) : Prop := x.1 ≠ r ∧ x.2.1.avoid r ∧ x.2.2.ownBlock ≠ some r

theorem ents_grown {W W' : World} {row : Option Nat} {v : Value} {L : List (Nat × (Int × Int))} (hg : W.grownBy W' row) (h : EntsAt W v L) (ha : ∀ r, row = some r → v.ownBlock ≠ some r) : EntsAt W' v L := by
  obtain ⟨a, cap, rfl, h | ⟨g, off, rfl, hl, hc⟩⟩ := h
  · exact ⟨a, cap, rfl, .inl h⟩
  · have hb : W'.heap[g]? = W.heap[g]? := hg.block g hl (fun e => ha g e.symm rfl)
    have e : ∀ j, W'.cell? ⟨g, j, none⟩ = W.cell? ⟨g, j, none⟩ := fun j => World.cell?_of_block hb
    exact ⟨_, cap, rfl, .inr ⟨g, off, rfl, Nat.lt_of_lt_of_le hl hg.size, fun i hi => ⟨(e _).trans (hc i hi).1, (e _).trans (hc i hi).2.1, (e _).trans (hc i hi).2.2⟩⟩⟩

theorem VerAt.later {W W' : World} {x : Ver} (h : VerAt W x) (hb : Below W.heap.size W W') : VerAt W' x :=
  ⟨h.1.later hb, h.2.1.later hb, fun g hg => Nat.lt_of_lt_of_le (h.2.2 g hg) hb.size⟩
theorem VerAt.grown {W W' : World} {row : Option Nat} {x : Ver} (h : VerAt W x) (hg : W.grownBy W' row) (ha : ∀ r, row = some r → VerOff r x) : VerAt W' x :=
  ⟨map_grown hg h.1 (fun r hr => ⟨(ha r hr).1, (ha r hr).2.1⟩), ents_grown hg h.2.1 (fun r hr => (ha r hr).2.2), fun g hr => Nat.lt_of_lt_of_le (h.2.2 g hr) hg.size⟩

theorem VerAt.off_new {W : World} {x : Ver} (h : VerAt W x) {r : Nat} (hr : W.heap.size ≤ r) : VerOff r x :=
  ⟨by have := h.1.1; omega, lies_avoid hr h.1.2.2.2.1, fun e => by have := h.2.2 r e; omega⟩

/-- The empty map, and no list. -/
theorem ver_empty {W : World} {mb : Nat} (h : MapT W mb .nil) : VerAt W (mb, .nil, .slice none 0 0) :=
  ⟨h, ⟨none, 0, rfl, .inl rfl⟩, fun g hg => by cases hg⟩

/-- The blocks of the two rows that grow: new where they are not the old ones. -/
theorem offs_grown {W : World} {vs : List Ver} {v v' : Value} (hA : ∀ x ∈ vs, VerAt W x) (h : ∀ r, v.ownBlock = some r → ∀ x ∈ vs, VerOff r x) (hn : v'.ownBlock = v.ownBlock ∨ v'.ownBlock = some W.heap.size) : ∀ r, v'.ownBlock = some r → ∀ x ∈ vs, VerOff r x := by
  intro r hr x hx
  rcases hn with e | e
  · exact h r (e ▸ hr) x hx
  · rw [e] at hr
    exact (hA x hx).off_new (Nat.le_of_eq (Option.some.inj hr))

/-- What is made of a version goes through no block that the version does not, but for new ones. -/
theorem off_made {w : World} {x : Ver} {mb' : Nat} {t' : Tr} {ev : Value} {r : Nat} (hr : r < w.heap.size) (hx : VerOff r x) (hf : Fresh w x.1 x.2.1 mb' t') (he : ∀ g, ev.ownBlock = some g → w.heap.size ≤ g) : VerOff r (mb', t', ev) :=
  have h := hf r hr (Ne.symm hx.1) hx.2.1
  ⟨h.1, h.2, fun e => by have := he r e; omega⟩

/-- The two rows' cells. -/
def mapsC (vs : List Ver) : List Value := vs.map fun x => .pointer (some ⟨x.1, 0, none⟩)
def heldC (vs : List Ver) : List Value := vs.map fun x => x.2.2
theorem mapsC_len (vs : List Ver) : (mapsC vs).length = vs.length := by simp [mapsC]
theorem heldC_len (vs : List Ver) : (heldC vs).length = vs.length := by simp [heldC]
theorem mapsC_at (vs : List Ver) {i : Nat} (h : i < vs.length) : (mapsC vs)[i]? = some (.pointer (some ⟨(vs[i]).1, 0, none⟩)) := by simp [mapsC, h]
theorem heldC_at (vs : List Ver) {i : Nat} (h : i < vs.length) : (heldC vs)[i]? = some (vs[i]).2.2 := by simp [heldC, h]
theorem mapsC_app (vs : List Ver) (x : Ver) : mapsC (vs ++ [x]) = mapsC vs ++ [.pointer (some ⟨x.1, 0, none⟩)] := by simp [mapsC]
theorem heldC_app (vs : List Ver) (x : Ver) : heldC (vs ++ [x]) = heldC vs ++ [x.2.2] := by simp [heldC]

end Go.Proofs.YtblfdjdhikfjhaaGreat

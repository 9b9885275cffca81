import Derived.Test.YtmppgcijbeipfaaDoorTPut2
import Derived.Test.YtmppgcijbeipfaaDoorJoin47
import Derived.Test.YtmppgcijbeipfaaDoorJoin46
import Derived.Test.YtmppgcijbeipfaaDoorRfPut
/- A VERSION of TrieAll: the program's map and the document's; what a put and a drop make of it. -/
namespace Go.Proofs.YtmppgcijbeipfaaDoor
open Go.RowKit

theorem rfPl_mem {L : Es} (hr : Rises L) (id : Nat) (v : Int × Int) : (id, v) ∈ L ↔ ∃ h : rfPl L id < L.length, L[rfPl L id] = (id, v) := by
  constructor
  · intro hm
    obtain ⟨i, hi, he⟩ := List.getElem_of_mem hm
    have h1 : ¬ i < rfPl L id := fun hlt => by
      have := rfPl_lt L id i hlt hi
      rw [he] at this
      exact Nat.lt_irrefl _ this
    have hl : rfPl L id < L.length := by omega
    by_cases e : rfPl L id = i
    · subst e
      exact ⟨hi, he⟩
    · have h2 := List.pairwise_iff_getElem.1 hr _ _ hl hi (by omega)
      rw [he] at h2
      exact absurd h2 (rfPl_ge L id hl)
  · rintro ⟨h, e⟩
    rw [← e]
    exact List.getElem_mem h
theorem rfHas_mem {L : Es} (hr : Rises L) (id : Nat) : rfHas L id = true ↔ ∃ v, (id, v) ∈ L := by
  rw [rfHas_iff]
  constructor
  · rintro ⟨h, e⟩
    refine ⟨L[rfPl L id].2, ?_⟩
    have : (id, L[rfPl L id].2) = L[rfPl L id] := Prod.ext e.symm rfl
    rw [this]
    exact List.getElem_mem h
  · rintro ⟨v, hv⟩
    obtain ⟨h, e⟩ := (rfPl_mem hr id v).1 hv
    exact ⟨h, by rw [e]⟩
theorem rfVal_get {t : Tr} (hw : t.wf 7) {id : Nat} (hi : id < 4294967296) : rfVal (t.ents 7 0) id = t.get 7 id := by
  have hr := ents_rises 7 hw 0
  unfold rfVal
  cases hg : t.get 7 id with
  | none =>
    split
    · rename_i h
      rw [if_neg]
      intro e
      obtain ⟨v, hv⟩ := (rfHas_mem hr id).1 (rfHas_iff.2 ⟨h, e⟩)
      rw [mem_of_get hw hi, hg] at hv
      cases hv
    · rfl
  | some v =>
    obtain ⟨h, e⟩ := (rfPl_mem hr id v).1 ((mem_of_get hw hi).2 hg)
    rw [dif_pos h, if_pos (by rw [e]), e]
theorem drop_from {L : Es} (hr : Rises L) (id : Nat) : L.drop (rfPl L id) = L.filter (fun e => decide (id ≤ e.1)) := by
  have h1 := filter_lt_take (id := id) hr
  have hs : ∀ (M : Es), Rises M → M.drop (rfPl M id) = M.filter (fun e => decide (id ≤ e.1)) := by
    intro M
    induction M with
    | nil => intro _; rfl
    | cons a M ih =>
      intro hM
      have hM' := List.pairwise_cons.1 hM
      by_cases ha : a.1 < id
      · have e : rfPl (a :: M) id = rfPl M id + 1 := by unfold rfPl; rw [List.takeWhile_cons, decide_eq_true ha]; simp
        rw [e, List.drop_succ_cons, ih hM'.2, List.filter_cons_of_neg (by simpa using ha)]
      · have e : rfPl (a :: M) id = 0 := by unfold rfPl; rw [List.takeWhile_cons, decide_eq_false ha]; simp
        rw [e, List.drop_zero, List.filter_eq_self.2]
        intro b hb
        rcases List.mem_cons.1 hb with rfl | hb
        · simpa using ha
        · have := hM'.1 b hb
          simp
          omega
  exact hs L hr

/-- What a Put makes, with its tree. -/
theorem mput_k (mb id : Nat) (hi : id < 4294967296) (v : Int × Int) (t : Tr) (w : World) (h : MapT w mb t) : Calls Tryd.prog 9 #[.pointer (some ⟨mb, 0, none⟩), .int .u32 (id : Int), .agg #[.int .i64 v.1, .int .i64 v.2]] w fun e w' => ∃ mb' t', e = .returned (.pointer (some ⟨mb', 0, none⟩)) ∧ MapT w' mb' t' ∧ t'.ents 7 0 = ins (t.ents 7 0) id v ∧ ((t.get 7 id = some v ∧ t' = t) ∨ (t.get 7 id ≠ some v ∧ PutR w.heap.size id v 7 t' t)) ∧ Below w.heap.size w w' := by
  have hw := h.2.2.2.2
  have hlen := length_ins (t.ents 7 0) id v
  cases hg : t.get 7 id with
  | none =>
    refine (put_none mb id v t w h hg).mono ?_
    rintro e w' ⟨mb', t', rfl, -, h1, h2, h3, h4, h5, h6⟩
    have he := ents_put h5 hw hi
    have hf : (t.ents 7 0).filter (fun e => decide (e.1 = id)) = [] := filter_none fun x hx => by rw [mem_of_get hw hi, hg] at hx; cases hx
    rw [hf] at hlen
    refine ⟨mb', t', rfl, ⟨h1, h2, ?_, h4, put_wf 7 h5 hw⟩, he, .inr ⟨by simp, h5⟩, h6⟩
    rw [h3, he, ← hlen]
    simp
  | some x =>
    have hf := filter_one (ents_rises 7 hw 0) ((mem_of_get hw hi).2 hg)
    by_cases hx : x = v
    · subst hx
      refine (put_same mb id x t w h hg).mono ?_
      rintro e w' ⟨rfl, hb⟩
      exact ⟨mb, t, rfl, h.later hb, (ins_same (ents_rises 7 hw 0) ((mem_of_get hw hi).2 hg)).symm, .inl ⟨rfl, rfl⟩, hb⟩
    · refine (put_other mb id v t w h x hx hg).mono ?_
      rintro e w' ⟨mb', t', rfl, -, h1, h2, h3, h4, h5, h6⟩
      have he := ents_put h5 hw hi
      refine ⟨mb', t', rfl, ⟨h1, h2, ?_, h4, put_wf 7 h5 hw⟩, he, .inr ⟨fun e => hx (Option.some.inj e), h5⟩, h6⟩
      rw [h3, he]
      congr 3
      omega
/-- What a Drop makes, with its tree. -/
theorem mdrop_k (mb id : Nat) (hi : id < 4294967296) (t : Tr) (w : World) (h : MapT w mb t) : Calls Tryd.prog 16 #[.pointer (some ⟨mb, 0, none⟩), .int .u32 (id : Int)] w fun e w' => ∃ mb' t', e = .returned (.pointer (some ⟨mb', 0, none⟩)) ∧ MapT w' mb' t' ∧ t'.ents 7 0 = del (t.ents 7 0) id ∧ ((t.get 7 id = none ∧ t' = t) ∨ (t.get 7 id ≠ none ∧ DropR w.heap.size id 7 t' t)) ∧ Below w.heap.size w w' := by
  have hw := h.2.2.2.2
  have hlen := length_del (t.ents 7 0) id
  cases hg : t.get 7 id with
  | none =>
    refine (drop_none mb id t w h hg).mono ?_
    rintro e w' ⟨rfl, hb⟩
    exact ⟨mb, t, rfl, h.later hb, (del_none fun x hx => by rw [mem_of_get hw hi, hg] at hx; cases hx).symm, .inl ⟨rfl, rfl⟩, hb⟩
  | some x =>
    have hf := filter_one (ents_rises 7 hw 0) ((mem_of_get hw hi).2 hg)
    refine (drop_some mb id (del (t.ents 7 0) id).length t w h x hg (by omega)).mono ?_
    rintro e w' ⟨mb', t', rfl, -, h1, h2, h3, h4, h5, h6⟩
    have he := ents_drop h5 hw hi
    refine ⟨mb', t', rfl, ⟨h1, h2, ?_, h4, drop_wf 7 h5 hw⟩, he, .inr ⟨by simp, h5⟩, h6⟩
    rw [h3, he]

/-- A version: the program's map and its tree, the document's map and its stamps. -/
abbrev Pv := Nat × Tr × Nat × (Nat → Nat → Int)
def PvAt (W : World) (x : Pv) : Prop := MapT W x.1 x.2.1 ∧ RsAt W x.2.2.1 (x.2.1.ents 7 0) x.2.2.2
theorem PvAt.later {W W' : World} {x : Pv} (h : PvAt W x) (hb : Below W.heap.size W W') : PvAt W' x := ⟨h.1.later hb, h.2.later hb⟩
/-- All versions: each two keyed, all stamps below the next call's. -/
structure Pvs (W : World) (s : Int) (vs : List Pv) : Prop where
  at' : ∀ x ∈ vs, PvAt W x
  low : ∀ x ∈ vs, ∀ l q, x.2.2.2 l q < s
  keyed : ∀ x ∈ vs, ∀ y ∈ vs, Keyed x.2.1 y.2.1 x.2.2.2 y.2.2.2
theorem Pvs.later {W W' : World} {s s' : Int} {vs : List Pv} (h : Pvs W s vs) (hb : Below W.heap.size W W') (hs : s ≤ s') : Pvs W' s' vs := ⟨fun x hx => (h.at' x hx).later hb, fun x hx l q => Int.lt_of_lt_of_le (h.low x hx l q) hs, h.keyed⟩
/-- A new version joins. -/
theorem Pvs.join {W W' : World} {s : Int} {vs : List Pv} (h : Pvs W s vs) (hb : Below W.heap.size W W') {x : Pv} (hx : x ∈ vs) {x' : Pv} (h' : PvAt W' x') {id : Nat} (hid : id < 4294967296)
    (hs : (x'.2.1 = x.2.1 ∧ x'.2.2.2 = x.2.2.2) ∨ (((∃ v, PutR W.heap.size id v 7 x'.2.1 x.2.1) ∨ DropR W.heap.size id 7 x'.2.1 x.2.1) ∧ x'.2.2.2 = updS x.2.2.2 id s)) : Pvs W' (s + 1) (vs ++ [x']) := by
  have hl := h.later hb (show s ≤ s + 1 by omega)
  have hlow : ∀ l q, x'.2.2.2 l q < s + 1 := by
    rcases hs with ⟨-, e⟩ | ⟨-, e⟩
    · rw [e]; exact hl.low x hx
    · rw [e]; exact updS_lt (hl.low x hx) (by omega)
  have hk : ∀ y ∈ vs, Keyed x'.2.1 y.2.1 x'.2.2.2 y.2.2.2 := fun y hy => by
    rcases hs with ⟨e1, e2⟩ | ⟨hp, e2⟩
    · rw [e1, e2]; exact h.keyed x hx y hy
    · rw [e2]
      have ho : y.2.1.old W.heap.size := lies_old (h.at' y hy).1.2.2.2.1
      rcases hp with ⟨v, hp⟩ | hp
      · exact keyed_put hp hid ho (h.low y hy) (h.keyed x hx y hy)
      · exact keyed_drop hp hid ho (h.low y hy) (h.keyed x hx y hy)
  refine ⟨fun y hy => ?_, fun y hy => ?_, fun y hy z hz => ?_⟩
  · rcases List.mem_append.1 hy with hy | hy
    · exact hl.at' y hy
    · rw [List.mem_singleton.1 hy]; exact h'
  · rcases List.mem_append.1 hy with hy | hy
    · exact hl.low y hy
    · rw [List.mem_singleton.1 hy]; exact hlow
  · rcases List.mem_append.1 hy with hy | hy <;> rcases List.mem_append.1 hz with hz | hz
    · exact h.keyed y hy z hz
    · rw [List.mem_singleton.1 hz]; exact keyed_symm (hk y hy)
    · rw [List.mem_singleton.1 hy]; exact hk z hz
    · rw [List.mem_singleton.1 hy, List.mem_singleton.1 hz]; exact keyed_self _ _
/-- What Shared tells of two versions. -/
theorem Pvs.shared {W : World} {s : Int} {vs : List Pv} (h : Pvs W s vs) {x y : Pv} (hx : x ∈ vs) (hy : y ∈ vs) : shC (x.2.1.ents 7 0) x.2.2.2 (y.2.1.ents 7 0) y.2.2.2 ((y.2.1.ents 7 0).length * 8) = (y.2.1.sme x.2.1, y.2.1.frs x.2.1) :=
  shC_tr (R := fun t a => Lies W t ∧ Lies W a) (fun h _ hi => ⟨h.1.kid hi, h.2.kid hi⟩) (fun h e => lies_eqv _ _ h.1 h.2 e) (h.at' y hy).1.2.2.2.2 (h.at' x hx).1.2.2.2.2 ⟨(h.at' y hy).1.2.2.2.1, (h.at' x hx).1.2.2.2.1⟩ (h.keyed y hy x hx)

end Go.Proofs.YtmppgcijbeipfaaDoor


/- A script of TrieAll that came in. -/
namespace Go.Proofs.YtmppgcijbeipfaaDoor
open Go.ChangeShapes Go.WideShapes Go.ChangeAt Go.WideMaps Go.WideElems Go.RowKit Go.Joins

/-- A step of the script. -/
abbrev OpT := Int × Int × Int × Nat × Int × Int
def OpA (W : World) (b off : Nat) (o : OpT) : Prop := o.2.2.2.1 < 4294967296 ∧ W.cell? ⟨b, off, none⟩ = some (.int .i64 o.1) ∧ W.cell? ⟨b, off + 1, none⟩ = some (.int .i64 o.2.1) ∧ W.cell? ⟨b, off + 2, none⟩ = some (.int .i64 o.2.2.1) ∧ W.cell? ⟨b, off + 3, none⟩ = some (.int .u32 (o.2.2.2.1 : Int)) ∧ W.cell? ⟨b, off + 4, none⟩ = some (.int .i64 o.2.2.2.2.1) ∧ W.cell? ⟨b, off + 5, none⟩ = some (.int .i64 o.2.2.2.2.2)
def OpsT (W : World) (v : Value) (L : List OpT) : Prop := ∃ a cap, v = .slice a L.length cap ∧ L.length * 48 ≤ 140737488351232 ∧ (L = [] ∨ ∃ g off, a = some ⟨g, off, none⟩ ∧ g < W.heap.size ∧ ∀ i (h : i < L.length), OpA W g (off + i * 6) L[i])
theorem cOp3 : Tryd.prog.cellsOf 31 = 6 := by kernel_rfl
theorem bOp3 : Tryd.prog.bytesOf 31 = 48 := by kernel_rfl

set_option maxRecDepth 100000 in
set_option maxHeartbeats 1000000 in
theorem op_of3 {H : Type} {enc : TypeId × Value → H} {W : World} {fuel : Nat} {cs : List Value} {x : DataW H × List MemPlace} {b off : Nat} (hc : ∀ j, j < 6 → W.cell? ⟨b, off + j, none⟩ = cs[j]?) (hcl : cs.length = 6)
    (hf : DataW.trod enc Tryd.prog W 0 (fun _ => true) true fuel 31 cs = some x) : ∃ o, OpA W b off o := by
  obtain ⟨xs, n, -, -, -, hl, hg⟩ := DataW.trod_struct Tryd.underlying31 hf
  match cs, hcl, xs, hl with
  | [v0, v1, v2, v3, v4, v5], _, [y0, y1, y2, y3, y4], _ =>
    have g0 := hg 0 _ rfl
    have g1 := hg 1 _ rfl
    have g2 := hg 2 _ rfl
    have g3 := hg 3 _ rfl
    have g4 := hg 4 _ rfl
    simp [cellsI] at g0 g1 g2
    simp [cU32] at g3
    simp [cVal] at g4
    obtain ⟨k, e0, _, _⟩ := DataW.trod_int Tryd.underlying3 g0
    obtain ⟨m, e1, _, _⟩ := DataW.trod_int Tryd.underlying3 g1
    obtain ⟨n, e2, _, _⟩ := DataW.trod_int Tryd.underlying3 g2
    obtain ⟨id, e3, _, wi⟩ := DataW.trod_int Tryd.underlying27 g3
    obtain ⟨p, q, e4, e5⟩ := val_of g4
    simp at e0 e1 e2 e3
    subst e0 e1 e2 e3 e4 e5
    have hr := u32_range wi
    have hn : ((id.toNat : Nat) : Int) = id := by omega
    refine ⟨(k, m, n, id.toNat, p, q), by simp; omega, hc 0 (by omega), hc 1 (by omega), hc 2 (by omega), ?_, hc 4 (by omega), hc 5 (by omega)⟩
    simp only [hn]
    exact hc 3 (by omega)

set_option maxRecDepth 100000 in
set_option maxHeartbeats 1000000 in
/-- A script that came in. -/
theorem open_ops3 {H : Type} {enc : TypeId × Value → H} {W : World} {base : Nat} {v : Value} {d : DataW H} {ps : List MemPlace} (hval : Value.okWide Tryd.prog W .any base 22 v)
    (h : DataW.Trod enc Tryd.prog W 0 (fun _ => true) true 22 v d ps) (hz : ∀ n ∈ d.weights Tryd.prog 22, n ≤ reachBytes) : ∃ L, OpsT W v L := by
  obtain ⟨a0, len, cap, rfl⟩ := okWide_slice Tryd.underlying22 hval
  obtain ⟨fuel, hf⟩ := h
  rcases Go.Deep.open_slice Tryd.underlying22 hf with ⟨hcs, hx⟩ | ⟨a, len', cap', m, n, D, Pl, hcs, _, hl, hm, hmm, hx, hcell⟩
  · simp [Value.cells] at hcs
    obtain ⟨rfl, rfl, rfl⟩ := hcs
    exact ⟨[], none, 0, rfl, by simp, .inl rfl⟩
  · simp [Value.cells] at hcs
    obtain ⟨rfl, rfl, rfl⟩ := hcs
    simp only [if_true] at hmm
    rw [hmm] at hcell
    simp only [Prod.mk.injEq] at hx
    have hw0 : len * 48 ≤ 140737488351232 := by
      have h1 : ∀ n, n ∈ d.weights Tryd.prog 22 → n ≤ 140737488351232 := hz
      rw [hx.1] at h1
      simp only [DataW.weights, Tryd.underlying22, bOp3] at h1
      have h2 := h1 _ List.mem_cons_self
      simp at h2
      omega
    by_cases h0 : len = 0
    · subst h0
      exact ⟨[], some a, cap, rfl, by simp, .inl rfl⟩
    obtain ⟨b, off, spot⟩ := a
    have hspot : spot = none := by
      obtain ⟨cs', h1, -⟩ := hcell 0 (by omega)
      rw [cOp3] at h1
      obtain ⟨_, hlen, hc⟩ := World.cells?_some h1
      have h2 := hc 0 (by omega)
      obtain ⟨c, hcc⟩ : ∃ c, cs'[0]? = some c := ⟨cs'[0]'(by omega), List.getElem?_eq_getElem _⟩
      rw [hcc] at h2
      simpa [Addr.add] using World.cell?_spot h2
    subst hspot
    have key : ∀ i, i < len → ∃ o, OpA W b (off + i * 6) o := fun i hi => by
      obtain ⟨cs', h1, h2⟩ := hcell i (by omega)
      rw [cOp3] at h1
      obtain ⟨_, hlen, hc⟩ := World.cells?_some h1
      refine op_of3 (fun j hj => ?_) hlen h2
      have := hc j hj
      rwa [add_plain, add_plain] at this
    obtain ⟨q, hq⟩ : ∃ q : Nat → OpT, ∀ i, i < len → OpA W b (off + i * 6) (q i) := Go.Deep.choose_lt key
    have hlen : ((List.range len).map q).length = len := by simp
    have hb : b < W.heap.size := World.block_lt_of_cell? _ _ (hq 0 (by omega)).2.1
    refine ⟨(List.range len).map q, some ⟨b, off, none⟩, cap, by rw [hlen], by rw [hlen]; exact hw0, .inr ⟨b, off, rfl, hb, fun i hi => ?_⟩⟩
    rw [hlen] at hi
    have := hq i hi
    unfold OpA at this
    unfold OpA
    simpa using this

end Go.Proofs.YtmppgcijbeipfaaDoor


namespace Go.Proofs.YtmppgcijbeipfaaDoor
open Go.RowKit

theorem rises_inj {L : Es} (h : Rises L) {i j : Nat} (hi : i < L.length) (hj : j < L.length) (e : L[i].1 = L[j].1) : i = j := by
  rcases Nat.lt_trichotomy i j with h1 | h1 | h1
  · have := List.pairwise_iff_getElem.1 h i j hi hj h1; omega
  · exact h1
  · have := List.pairwise_iff_getElem.1 h j i hj hi h1; omega
theorem del_snocR (L : Es) (id i : Nat) (hi : i < L.length) : del (L.take (i + 1)) id = del (L.take i) id ++ (if L[i].1 = id then [] else [L[i]]) := by
  unfold del
  rw [List.take_succ_eq_append_getElem hi, List.filter_append]
  congr 1
  by_cases h : L[i].1 = id
  · simp [h]
  · simp [h]
theorem del_at {L : Es} {id i : Nat} (hr : Rises L) (hp : rfPl L id < L.length) (he : L[rfPl L id].1 = id) (hi : i < L.length) : del (L.take (i + 1)) id = if i = rfPl L id then del (L.take i) id else del (L.take i) id ++ [L[i]] := by
  rw [del_snocR L id i hi]
  by_cases h : i = rfPl L id
  · subst h
    rw [if_pos he, if_pos rfl, List.append_nil]
  · rw [if_neg h, if_neg (fun e => h (rises_inj hr hi hp (e.trans he.symm)))]
theorem del_len (L : Es) (id i : Nat) : (del (L.take i) id).length ≤ i := by
  have h1 : (del (L.take i) id).length ≤ (L.take i).length := List.length_filter_le _ _
  rw [List.length_take] at h1
  omega
theorem del_none_rf {L : Es} {id : Nat} (hr : Rises L) (h : rfHas L id = false) : del L id = L := by
  unfold del
  rw [List.filter_eq_self]
  intro e he
  obtain ⟨i, hi, rfl⟩ := List.mem_iff_getElem.1 he
  rw [decide_eq_true_eq]
  intro e2
  have hn : rfHas L id = true := by
    by_cases h1 : i < rfPl L id
    · have := rfPl_lt L id i h1 hi; omega
    · by_cases h2 : i = rfPl L id
      · subst h2
        exact rfHas_iff.2 ⟨hi, e2⟩
      · have hp : rfPl L id < L.length := by omega
        have h3 := List.pairwise_iff_getElem.1 hr (rfPl L id) i hp hi (by omega)
        have h4 := rfPl_ge L id hp
        omega
  rw [h] at hn
  cases hn

set_option maxRecDepth 4000 in
set_option maxHeartbeats 80000000 in
theorem dropAs_rf (b id : Nat) (hid : id < 4294967296) (stamp : Int) (L : Es) (hk : ∀ e ∈ L, e.1 < 4294967296) (hl : L.length ≤ 5000000000) (w : World) (h : RfAt w b L) : Calls Tryd.prog 17 #[.pointer (some ⟨b, 0, none⟩), .int .u32 (id : Int), .int .i64 stamp] w fun e w' => ∃ nb, e = .returned (.pointer (some ⟨nb, 0, none⟩)) ∧ RfAt w' nb (del L id) ∧ Below w.heap.size w w' := by
  have hpl := place_rf b id L hl w h
  go_enter Tryd.func17, Tryd.ntmps17
  go_wp2_with (go_at_call 35; fail)
  refine hpl.mono ?_
  rintro e w1 ⟨rfl, m1, rfl⟩
  clear hpl
  have hrs : Hid (Rises L) := by obtain ⟨_, _, _, _, _, _, _, _, _, hr⟩ := h; exact hr
  have hb3 := below_drewN (Below.refl w.heap.size w) m1
  have h3 := h.later hb3
  clear h
  generalize w.drewN m1 = V at *
  cases hhas : rfHas L id with
  | false =>
    have hd := del_none_rf hrs.out hhas
    clear hhas hk
    go_wp2
    go_ret
    exact ⟨b, rfl, by rw [hd]; exact h3, hb3⟩
  | true =>
    obtain ⟨hp', he'⟩ := rfHas_iff.1 hhas
    obtain ⟨at', hat⟩ : ∃ at', at' = rfPl L id := ⟨_, rfl⟩
    have hp : Hid (rfPl L id < L.length) := hp'
    have he : Hid (L[rfPl L id].1 = id) := he'
    rw [← hat]
    have hatH : Hid (at' = rfPl L id) := hat
    clear hp' he' hat hhas
    go_wp2_with fail
    obtain ⟨nb, hnb⟩ : ∃ nb, nb = V.heap.size := ⟨_, rfl⟩
    rw [← hnb]
    have hrow := heap_alloc_last V (.cells #[.slice none 0 0, .slice none 0 0, .slice none 0 0] 77)
    rw [← hnb] at hrow
    have hRn : RfR (V.alloc (.cells #[.slice none 0 0, .slice none 0 0, .slice none 0 0] 77)) nb (.slice none 0 0) (.slice none 0 0) (.slice none 0 0) [] [] 0 [] := ⟨hrow, World.ownsRow_nil _ _ _ _, World.ownsRow_nil _ _ _ _, World.ownsRow_nil _ _ _ _, rfl⟩
    have hbV1 := (Below.refl V.heap.size V).alloc (Nat.le_refl _) (.cells #[.slice none 0 0, .slice none 0 0, .slice none 0 0] 77)
    have hnbV : Hid (V.heap.size ≤ nb ∧ nb = V.heap.size) := ⟨by rw [hnb]; exact Nat.le_refl _, hnb⟩
    clear hnb
    generalize V.alloc (.cells #[.slice none 0 0, .slice none 0 0, .slice none 0 0] 77) = V1 at *
    obtain ⟨ik0, hik0, hz00, hz01, hz02⟩ := info_parts infoU4
    obtain ⟨ik1, hik1, hz10, hz11, hz12⟩ := info_parts infoV2
    obtain ⟨ik2, hik2, hz20, hz21, hz22⟩ := info_parts infoA8
    have hbV : Hid (b < V.heap.size) := h3.lt
    obtain ⟨ai, av, az, ci, cv, cs, c0, c1, c2, hc⟩ := h3.cells
    go_loopw [10] (fun iv X => ∃ i : Nat, Hid (i ≤ L.length) ∧ iv = .int .i64 (i : Int) ∧ (∃ vi vv vs st, RfR X nb vi vv vs (del (L.take i) id) (del (L.take i) id) (del (L.take i) id).length st) ∧ Below V.heap.size V X) (fun iv _ => L.length - (intOf iv).toNat)
    case atStart => exact ⟨0, Nat.zero_le _, rfl, ⟨_, _, _, _, hRn⟩, hbV1⟩
    case round =>
      clear hRn hrow hbV1
      obtain ⟨i, hi, rfl, ⟨wi, wv, ws, sm, hR⟩, hB⟩ := hrel
      have d0 := (hB.cell (p := ⟨b, 0, none⟩) hbV.out).trans c0
      have hnN : Hid ((del (L.take i) id).length ≤ 5000000003) := by have h1 := del_len L id i; have h2 := hi.out; show _ ≤ 5000000003; omega
      by_cases hil : i < L.length
      · by_cases hia : i = rfPl L id
        · have hil' : (i : Int) < (L.length : Int) := Int.ofNat_lt.2 hil
          have hia2 : i = at' := by rw [hatH.out]; exact hia
          subst hia2
          have hde := del_at hrs.out hp.out he.out hil
          rw [if_pos hia] at hde
          have hdeH : Hid (_) := hde
          clear hde hc c0 c1 c2 hnN
          go_wp2
          exact ⟨⟨i + 1, hil, by go_num, ⟨_, _, _, _, by rw [hdeH.out]; exact hR⟩, hB⟩, by simp [intOf]; omega⟩
        · have hia' : ¬ (i : Int) = (at' : Int) := fun h => hia (by rw [← hatH.out]; exact Int.ofNat_inj.1 h)
          obtain ⟨N, hN⟩ : ∃ N, Hid (del (L.take i) id = N) := ⟨_, show _ = _ from rfl⟩
          rw [hN.out] at hR hnN
          obtain ⟨gi, gv, gs, rfl, rfl, rfl, hgi, hgv, hgs, hcc, hss⟩ := hc (Nat.lt_of_le_of_lt (Nat.zero_le _) hil)
          obtain ⟨a0, a1, a2⟩ := hcc i hil
          obtain ⟨t0, t1, t2, t3, t4, t5, t6, t7, s0, s1, s2, s3, s4, s5, s6, s7⟩ := st_eight hss hil
          have hil' : (i : Int) < (L.length : Int) := Int.ofNat_lt.2 hil
          have hi0 : (0 : Int) ≤ (i : Int) := Int.natCast_nonneg _
          have hLi : Hid (L[i] = (L[i].1, (L[i].2.1, L[i].2.2))) := (rfl : L[i] = (L[i].1, (L[i].2.1, L[i].2.2)))
          obtain ⟨key, hkey⟩ : ∃ key, key = L[i].1 := ⟨_, rfl⟩
          obtain ⟨kx, hkx⟩ : ∃ kx, kx = L[i].2.1 := ⟨_, rfl⟩
          obtain ⟨ky, hky⟩ : ∃ ky, ky = L[i].2.2 := ⟨_, rfl⟩
          rw [← hkey] at a0 hLi
          rw [← hkx] at a1 hLi
          rw [← hky] at a2 hLi
          have hmc : Hid (∀ Y, Below V.heap.size V Y → Y.cell? ⟨b, 0, none⟩ = some (.slice (some ⟨gi, 0, none⟩) L.length ci) ∧ Y.cell? ⟨b, 1, none⟩ = some (.slice (some ⟨gv, 0, none⟩) L.length cv) ∧ Y.cell? ⟨b, 2, none⟩ = some (.slice (some ⟨gs, 0, none⟩) L.length cs) ∧ Y.cell? ⟨gi, i, none⟩ = some (.int .u32 (key : Int)) ∧ Y.cell? ⟨gv, i * 2, none⟩ = some (.int .i64 kx) ∧ Y.cell? ⟨gv, i * 2 + 1, none⟩ = some (.int .i64 ky) ∧ Y.cell? ⟨gs, i * 8, none⟩ = some (.int .i64 t0) ∧ Y.cell? ⟨gs, i * 8 + 1, none⟩ = some (.int .i64 t1) ∧ Y.cell? ⟨gs, i * 8 + 2, none⟩ = some (.int .i64 t2) ∧ Y.cell? ⟨gs, i * 8 + 3, none⟩ = some (.int .i64 t3) ∧ Y.cell? ⟨gs, i * 8 + 4, none⟩ = some (.int .i64 t4) ∧ Y.cell? ⟨gs, i * 8 + 5, none⟩ = some (.int .i64 t5) ∧ Y.cell? ⟨gs, i * 8 + 6, none⟩ = some (.int .i64 t6) ∧ Y.cell? ⟨gs, i * 8 + 7, none⟩ = some (.int .i64 t7)) := fun Y hY => by
            have kc : ∀ (g o : Nat), g < V.heap.size → Y.cell? ⟨g, o, none⟩ = V.cell? ⟨g, o, none⟩ := fun g o hg => hY.cell (p := ⟨g, o, none⟩) hg
            exact ⟨(kc _ _ hbV.out).trans c0, (kc _ _ hbV.out).trans c1, (kc _ _ hbV.out).trans c2, (kc _ _ hgi).trans a0, (kc _ _ hgv).trans a1, (kc _ _ hgv).trans a2, (kc _ _ hgs).trans s0, (kc _ _ hgs).trans s1, (kc _ _ hgs).trans s2, (kc _ _ hgs).trans s3, (kc _ _ hgs).trans s4, (kc _ _ hgs).trans s5, (kc _ _ hgs).trans s6, (kc _ _ hgs).trans s7⟩
          clear hkey hkx hky a0 a1 a2 s0 s1 s2 s3 s4 s5 s6 s7 hcc hss hc
          go_upto_region 9 with fail
          go_cut [34] (fun _ wx => ∃ v', RfR wx nb v' wv ws (N ++ [(key, (kx, ky))]) N N.length sm ∧ Below nb wr wx)
          case first =>
            obtain ⟨ea, ec, hea, -⟩ := own_sl hR.ids
            subst hea
            have cN : wr.cell? ⟨nb, 0, none⟩ = some (.slice ea N.length ec) := cell_of_row _ _ 0 _ _ _ hR.row
            have hbA : Below wr.heap.size wr (wr.alloc (.cells #[.int .u32 (key : Int)] 27)).drew := ((Below.refl wr.heap.size wr).alloc (Nat.le_refl _) (.cells #[.int .u32 (key : Int)] 27)).drew
            have hA := hR.later hbA
            have hzA : nb + 1 ≤ (wr.alloc (.cells #[.int .u32 (key : Int)] 27)).drew.heap.size := by have h1 := hbA.size; have h2 := (Array.getElem?_eq_some_iff.1 hR.row).1; omega
            have hnl : N.length + 1 ≤ maxLen ∧ (N.length + 1) * 4 ≤ 140737488355328 := by have := hnN.out; unfold maxLen; omega
            have hba : ∀ o, Below wr.heap.size wr (wr.alloc o) := fun o => (Below.refl _ _).alloc (Nat.le_refl _) o
            have cN' : ∀ o, (wr.alloc o).cell? ⟨nb, 0, none⟩ = some (.slice ea N.length ec) := fun o => ((hba o).cell (p := ⟨nb, 0, none⟩) (Array.getElem?_eq_some_iff.1 hR.row).1).trans cN
            obtain ⟨m0, m1, m2, m3, m4, m5, -⟩ := hmc.out _ hB
            go_region_law (refine step_append_own _ rfl _ _ 73 rfl (nb + 1) 27 ik0 _ 1 4 Tryd.underlying73 hik0 hz00 hz01 hz02 rfl (by decide) _ N.length (idV N) rfl hA.ids ⟨wr.heap.size, 0, none⟩ 1 1 [.int .u32 (key : Int)] rfl rfl (rf_alloc wr [.int .u32 (key : Int)] 27 _ rfl) (by intro u hu; simp only [List.mem_cons, List.not_mem_nil, or_false] at hu; (repeat (first | (rcases hu with rfl | hu; rfl) | (subst hu; rfl)))) hnl.1 hnl.2 hzA ?_; intro v2 w2 hown2 hgrow2; obtain ⟨g2, cap2, rfl⟩ := own_some hown2 (by omega); obtain ⟨hM1, hBn, cS, fS⟩ := hA.app0 (key, (kx, ky)) hown2 hgrow2)
            all_goals
              have hBY : Below nb wr (w2.setCell ⟨nb, 0, none⟩ (.slice (some ⟨g2, 0, none⟩) (N.length + 1) cap2)) := (hbA.mono (Nat.le_of_lt (Array.getElem?_eq_some_iff.1 hR.row).1)).trans hBn
              clear cS fS hown2 hgrow2 hA hbA hzA hnl cN cN' hba
              go_wp2_with fail
              go_meet
              exact ⟨_, hM1, hBY⟩
          case rest =>
            obtain ⟨vZ1, hM1, hBZ1⟩ := hcut
            obtain ⟨Z1, hZ1⟩ : ∃ Y, Y = wc := ⟨_, rfl⟩
            subst hZ1
            have hBq1 : Below V.heap.size V Z1 := hB.trans (hBZ1.mono hnbV.out.1)
            go_upto_region 10 with fail
            go_cut [50] (fun _ wx => ∃ v', RfR wx nb vZ1 v' ws (N ++ [(key, (kx, ky))]) (N ++ [(key, (kx, ky))]) N.length sm ∧ Below nb Z1 wx)
            case first =>
              obtain ⟨ea, ec, hea, -⟩ := own_sl hM1.vals
              subst hea
              have cN : Z1.cell? ⟨nb, 1, none⟩ = some (.slice ea N.length ec) := cell_of_row _ _ 1 _ _ _ hM1.row
              have hbA : Below Z1.heap.size Z1 (Z1.alloc (.cells #[.int .i64 kx, .int .i64 ky] 29)).drew := ((Below.refl Z1.heap.size Z1).alloc (Nat.le_refl _) (.cells #[.int .i64 kx, .int .i64 ky] 29)).drew
              have hA := hM1.later hbA
              have hzA : nb + 1 ≤ (Z1.alloc (.cells #[.int .i64 kx, .int .i64 ky] 29)).drew.heap.size := by have h1 := hbA.size; have h2 := (Array.getElem?_eq_some_iff.1 hM1.row).1; omega
              have hnl : N.length + 1 ≤ maxLen ∧ (N.length + 1) * 16 ≤ 140737488355328 := by have := hnN.out; unfold maxLen; omega
              have hba : ∀ o, Below Z1.heap.size Z1 (Z1.alloc o) := fun o => (Below.refl _ _).alloc (Nat.le_refl _) o
              have cN' : ∀ o, (Z1.alloc o).cell? ⟨nb, 1, none⟩ = some (.slice ea N.length ec) := fun o => ((hba o).cell (p := ⟨nb, 1, none⟩) (Array.getElem?_eq_some_iff.1 hM1.row).1).trans cN
              obtain ⟨m0, m1, m2, m3, m4, m5, -⟩ := hmc.out _ hBq1
              go_region_law (refine step_append_own _ rfl _ _ 74 rfl (nb + 1) 29 ik1 _ 2 16 Tryd.underlying74 hik1 hz10 hz11 hz12 rfl (by decide) _ N.length (vaV N) rfl hA.vals ⟨Z1.heap.size, 0, none⟩ 1 1 [.int .i64 kx, .int .i64 ky] rfl rfl (rf_alloc Z1 [.int .i64 kx, .int .i64 ky] 29 _ rfl) (by intro u hu; simp only [List.mem_cons, List.not_mem_nil, or_false] at hu; (repeat (first | (rcases hu with rfl | hu; rfl) | (subst hu; rfl)))) hnl.1 hnl.2 hzA ?_; intro v2 w2 hown2 hgrow2; obtain ⟨g2, cap2, rfl⟩ := own_some hown2 (by omega); obtain ⟨hM2, hBn, cS, fS⟩ := hA.app1 (key, (kx, ky)) hown2 hgrow2)
              all_goals
                have hBY : Below nb Z1 (w2.setCell ⟨nb, 1, none⟩ (.slice (some ⟨g2, 0, none⟩) (N.length + 1) cap2)) := (hbA.mono (Nat.le_of_lt (Array.getElem?_eq_some_iff.1 hM1.row).1)).trans hBn
                clear cS fS hown2 hgrow2 hA hbA hzA hnl cN cN' hba
                go_wp2_with fail
                go_meet
                exact ⟨_, hM2, hBY⟩
            case rest =>
              obtain ⟨vZ2, hM2, hBZ2⟩ := hcut
              obtain ⟨Z2, hZ2⟩ : ∃ Y, Y = wc := ⟨_, rfl⟩
              subst hZ2
              have hBq2 : Below V.heap.size V Z2 := hBq1.trans (hBZ2.mono hnbV.out.1)
              go_upto_region 11 with fail
              obtain ⟨ea, ec, hea, -⟩ := own_sl hM2.sts
              subst hea
              have cN : Z2.cell? ⟨nb, 2, none⟩ = some (.slice ea N.length ec) := cell_of_row _ _ 2 _ _ _ hM2.row
              have hbA : Below Z2.heap.size Z2 (Z2.alloc (.cells #[.int .i64 t0, .int .i64 t1, .int .i64 t2, .int .i64 t3, .int .i64 t4, .int .i64 t5, .int .i64 t6, .int .i64 t7] 87)).drew := ((Below.refl Z2.heap.size Z2).alloc (Nat.le_refl _) (.cells #[.int .i64 t0, .int .i64 t1, .int .i64 t2, .int .i64 t3, .int .i64 t4, .int .i64 t5, .int .i64 t6, .int .i64 t7] 87)).drew
              have hA := hM2.later hbA
              have hzA : nb + 1 ≤ (Z2.alloc (.cells #[.int .i64 t0, .int .i64 t1, .int .i64 t2, .int .i64 t3, .int .i64 t4, .int .i64 t5, .int .i64 t6, .int .i64 t7] 87)).drew.heap.size := by have h1 := hbA.size; have h2 := (Array.getElem?_eq_some_iff.1 hM2.row).1; omega
              have hnl : N.length + 1 ≤ maxLen ∧ (N.length + 1) * 64 ≤ 140737488355328 := by have := hnN.out; unfold maxLen; omega
              have hba : ∀ o, Below Z2.heap.size Z2 (Z2.alloc o) := fun o => (Below.refl _ _).alloc (Nat.le_refl _) o
              have cN' : ∀ o, (Z2.alloc o).cell? ⟨nb, 2, none⟩ = some (.slice ea N.length ec) := fun o => ((hba o).cell (p := ⟨nb, 2, none⟩) (Array.getElem?_eq_some_iff.1 hM2.row).1).trans cN
              obtain ⟨m0, m1, m2, m3, m4, m5, s0, s1, s2, s3, s4, s5, s6, s7⟩ := hmc.out _ hBq2
              go_region_law (refine step_append_own _ rfl _ _ 75 rfl (nb + 1) 87 ik2 _ 8 64 Tryd.underlying75 hik2 hz20 hz21 hz22 rfl (by decide) _ N.length (stV sm) rfl hA.sts ⟨Z2.heap.size, 0, none⟩ 1 1 [.int .i64 t0, .int .i64 t1, .int .i64 t2, .int .i64 t3, .int .i64 t4, .int .i64 t5, .int .i64 t6, .int .i64 t7] rfl rfl (rf_alloc Z2 [.int .i64 t0, .int .i64 t1, .int .i64 t2, .int .i64 t3, .int .i64 t4, .int .i64 t5, .int .i64 t6, .int .i64 t7] 87 _ rfl) (by intro u hu; simp only [List.mem_cons, List.not_mem_nil, or_false] at hu; (repeat (first | (rcases hu with rfl | hu; rfl) | (subst hu; rfl)))) hnl.1 hnl.2 hzA ?_; intro v2 w2 hown2 hgrow2; obtain ⟨g2, cap2, rfl⟩ := own_some hown2 (by omega); obtain ⟨hM3, hBn, cS, fS⟩ := hA.app2 [t0, t1, t2, t3, t4, t5, t6, t7] rfl hown2 hgrow2)
              all_goals
                have hBY : Below nb Z2 (w2.setCell ⟨nb, 2, none⟩ (.slice (some ⟨g2, 0, none⟩) (N.length + 1) cap2)) := (hbA.mono (Nat.le_of_lt (Array.getElem?_eq_some_iff.1 hM2.row).1)).trans hBn
                clear cS fS hown2 hgrow2 hA hbA hzA hnl cN cN' hba hBn
                obtain ⟨vZ3, hvZ3⟩ : ∃ v, v = Value.slice (some ⟨g2, 0, none⟩) (N.length + 1) cap2 := ⟨_, rfl⟩
                rw [← hvZ3] at hM3 hBY ⊢
                clear hvZ3
                generalize w2.setCell ⟨nb, 2, none⟩ vZ3 = Z3 at *
                have hBZ3 := hBY
                clear hBY
                have hBq3 : Below V.heap.size V Z3 := hBq2.trans (hBZ3.mono hnbV.out.1)
                rw [show N.length + 1 = (N ++ [(key, (kx, ky))]).length from by simp] at hM3
                go_wp2
                exact ⟨⟨i + 1, hil, by go_num, ⟨_, _, _, _, by rw [del_at hrs.out hp.out he.out hil, if_neg hia, hN.out, hLi.out]; exact hM3⟩, hBq3⟩, by simp [intOf]; omega⟩
      · have hil' : ¬ (i : Int) < (L.length : Int) := fun h => hil (Int.ofNat_lt.1 h)
        obtain rfl : i = L.length := by have := hi.out; omega
        rw [List.take_length] at hR
        have hkI : ∀ e ∈ del L id, e.1 < 4294967296 := fun e he => hk e (mem_del.1 he).2
        have hlI : (del L id).length ≤ 6000000000 := Nat.le_trans (List.length_filter_le _ _) (by omega)
        have hst := stamped_rf nb id hid stamp _ _ _ _ hkI hlI _ wr hR
        have hrI := rises_del hrs.out id
        have hBw := below_step hb3 hB
        have hwn : Hid (w.heap.size ≤ nb) := Nat.le_trans hb3.size hnbV.out.1
        clear hkI hlI hk hid hi hnN hc c0 c1 c2
        go_wp2_with (go_at_call 36; fail)
        refine hst.mono ?_
        rintro e w9 ⟨rfl, ⟨st', hR9⟩, hB9⟩
        clear hst d0
        go_wp2
        go_ret
        exact ⟨nb, rfl, hR9.done hrI, hBw.trans (hB9.mono hwn.out)⟩

end Go.Proofs.YtmppgcijbeipfaaDoor

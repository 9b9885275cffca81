import Derived.Test.YthbojlbgjmecoaaGreatJoin31
import Derived.Test.YthbojlbgjmecoaaGreatJoin29
import Derived.Test.YthbojlbgjmecoaaGreatJoin28
import Derived.Deep.RegionHeld3
/- pieceAt. -/
namespace Go.Proofs.YthbojlbgjmecoaaGreat.DJ
open Go.RowKit

end Go.Proofs.YthbojlbgjmecoaaGreat.DJ


/- RECORDS IN MEMORY OF THEIR OWN. -/
namespace Go.Proofs.YthbojlbgjmecoaaGreat.DJ
open Go.RowKit

theorem own_rowT {W : World} {base n size : Nat} {e : TypeId} {v : Value} {xs : List Value} {g : Nat} (h : W.ownsRow base e size v n xs) (hg : v.ownBlock = some g) : base ≤ g ∧ ∃ cs, W.heap[g]? = some (.cells cs e (0, 0)) := by
  obtain ⟨q1, ⟨rfl, -⟩ | ⟨g', cap, cur, rfl, hb, r, rest⟩⟩ := h
  · cases hg
  · obtain rfl : g' = g := by simpa [Value.ownBlock] using hg
    exact ⟨hb, _, r⟩

/-- The cells of records whose bodies are these slices. -/
def rcV (L : List (Rec × Value)) : List Value := L.flatMap fun x => [.int .u8 (x.1.1 : Int), x.2]
theorem rcV_snoc (L : List (Rec × Value)) (r : Rec) (v : Value) : rcV (L ++ [(r, v)]) = rcV L ++ [.int .u8 (r.1 : Int), v] := by unfold rcV; rw [List.flatMap_append]; rfl
theorem rcV_get : ∀ (L : List (Rec × Value)) (i : Nat) (h : i < L.length), (rcV L)[i * 2]? = some (.int .u8 (L[i].1.1 : Int)) ∧ (rcV L)[i * 2 + 1]? = some L[i].2
  | d :: D, 0, _ => ⟨rfl, rfl⟩
  | d :: D, i + 1, h => by
    have := rcV_get D i (by simpa using h)
    rw [show (i + 1) * 2 = i * 2 + 2 by omega]
    exact this

/-- One record and its body. -/
structure RcB (w : World) (base : Nat) (x : Rec × Value) : Prop where
  kd : x.1.1 < 256
  byt : ∀ y ∈ x.1.2, y < 256
  own : w.ownsRow base 5 1 x.2 x.1.2.length (bysV x.1.2)
def RcO (w : World) (base : Nat) (v : Value) (R : List Rec) : Prop := ∃ L : List (Rec × Value), L.map Prod.fst = R ∧ w.ownsRow base 150 2 v R.length (rcV L) ∧ ∀ x ∈ L, RcB w base x
theorem RcO.nil (w : World) (base : Nat) : RcO w base (.slice none 0 0) [] := ⟨[], rfl, World.ownsRow_nil _ _ _ _, fun x hx => by simp at hx⟩
theorem RcB.grS {S : Nat → Prop} {w w' : World} {base : Nat} {x : Rec × Value} (h : RcB w base x) (hg : GrS S w w') (hS : ∀ g cs, base ≤ g → w.heap[g]? = some (.cells cs 5 (0, 0)) → ¬ S g) : RcB w' base x :=
  ⟨h.kd, h.byt, hg.own h.own (fun g e => by obtain ⟨q, cs, r⟩ := own_rowT h.own e; exact hS g cs q r)⟩
theorem RcO.grS {S : Nat → Prop} {w w' : World} {base : Nat} {v : Value} {R : List Rec} (h : RcO w base v R) (hg : GrS S w w') (hS : ∀ g cs t, base ≤ g → w.heap[g]? = some (.cells cs t (0, 0)) → (t = 150 ∨ t = 5) → ¬ S g) : RcO w' base v R := by
  obtain ⟨L, h1, h2, h3⟩ := h
  refine ⟨L, h1, hg.own h2 (fun g e => ?_), fun x hx => (h3 x hx).grS hg (fun g cs q r => hS g cs _ q r (.inr rfl))⟩
  obtain ⟨q, cs, r⟩ := own_rowT h2 e
  exact hS g cs _ q r (.inl rfl)
theorem RcO.later {w w' : World} {base : Nat} {v : Value} {R : List Rec} (h : RcO w base v R) (hb : Below w.heap.size w w') : RcO w' base v R := h.grS (S := fun _ => False) (.of_below hb) (fun _ _ _ _ _ _ h => h)
theorem RcO.mono {w : World} {base base' : Nat} {v : Value} {R : List Rec} (h : RcO w base v R) (hb : base' ≤ base) : RcO w base' v R := by
  obtain ⟨L, h1, h2, h3⟩ := h
  exact ⟨L, h1, h2.mono hb, fun x hx => ⟨(h3 x hx).kd, (h3 x hx).byt, (h3 x hx).own.mono hb⟩⟩
theorem rc_snoc {w w' : World} {base : Nat} {v v' bv : Value} {L : List (Rec × Value)} {r : Rec} (ho : w.ownsRow base 150 2 v L.length (rcV L)) (hL : ∀ x ∈ L, RcB w base x) (hr : RcB w base (r, bv)) (hg : w.grownBy w' v.ownBlock) (ho' : w'.ownsRow base 150 2 v' (L.length + 1) (rcV L ++ [.int .u8 (r.1 : Int), bv])) : RcO w' base v' (L.map Prod.fst ++ [r]) := by
  have hG : GrS (fun k => v.ownBlock = some k) w w' := .of_grown' hg (fun k e => e)
  have hS : ∀ g cs, base ≤ g → w.heap[g]? = some (.cells cs 5 (0, 0)) → ¬ v.ownBlock = some g := fun g cs _ hc e => by
    obtain ⟨-, cs', r'⟩ := own_rowT ho e
    rw [hc] at r'
    simp at r'
  refine ⟨L ++ [(r, bv)], by simp, ?_, fun x hx => ?_⟩
  · rw [rcV_snoc, List.length_append, List.length_map]
    exact ho'
  · rcases List.mem_append.1 hx with hx | hx
    · exact (hL x hx).grS hG hS
    · rw [List.mem_singleton.1 hx]
      exact hr.grS hG hS
theorem RcO.len {w : World} {base : Nat} {v : Value} {R : List Rec} (h : RcO w base v R) : ∃ a c, v = .slice a R.length c ∧ (a = none → c = 0) ∧ R.length ≤ c ∧ ∀ p, a = some p → base ≤ p.block := by
  obtain ⟨L, h1, h2, h3⟩ := h
  obtain ⟨q1, ⟨rfl, h0⟩ | ⟨g, cap, cur, rfl, hb, r, h4, -⟩⟩ := h2
  · rw [h0]
    exact ⟨none, 0, rfl, fun _ => rfl, Nat.le_refl _, fun p e => by cases e⟩
  · exact ⟨_, _, rfl, fun e => (by cases e), by omega, fun p e => by cases e; exact hb⟩
theorem RcO.at_ {w : World} {base : Nat} {a : Option Addr} {n c : Nat} {R : List Rec} (h : RcO w base (.slice a n c) R) : RcAt w a R := by
  obtain ⟨L, rfl, h2, h3⟩ := h
  refine ⟨fun r hr => ?_, ?_⟩
  · obtain ⟨x, hx, rfl⟩ := List.mem_map.1 hr
    exact (h3 x hx).kd
  · have h0 := h2
    obtain ⟨q1, ⟨e, hn⟩ | ⟨g, cap, cur, e, hb, r, -⟩⟩ := h0
    · exact .inl (List.length_eq_zero_iff.1 hn)
    · injection e with e1 e2 e3
      subst e1
      rw [e2] at h2
      refine .inr ⟨g, 0, rfl, (h2.lt g rfl).2, fun i hi => ?_⟩
      rw [List.length_map] at hi
      obtain ⟨g1, g2⟩ := rcV_get L i hi
      have hl : (rcV L).length = (L.map Prod.fst).length * 2 := h2.1
      rw [List.length_map] at hl
      have hx := h3 L[i] (List.getElem_mem hi)
      obtain ⟨p, cc, hp⟩ := own_lenB hx.own
      have k1 := h2.cellAt (i * 2) (by rw [List.length_map]; omega)
      have k2 := h2.cellAt (i * 2 + 1) (by rw [List.length_map]; omega)
      rw [Nat.zero_add, List.getElem_map]
      refine ⟨k1.trans g1, p, cc, ?_, byts_of_own (n := L[i].1.2.length) hx.byt (by rw [← hp]; exact hx.own)⟩
      rw [← hp]
      exact k2.trans g2
theorem byts_drop {W : World} {a : Option Addr} {bs : List Nat} (h : Byts W a bs) (k : Nat) (hk : k < bs.length) : ∃ b off, a = some ⟨b, off, none⟩ ∧ Byts W (some ⟨b, off + k, none⟩) (bs.drop k) := by
  obtain ⟨h0, rfl | ⟨b, off, rfl, hlt, hc⟩⟩ := h
  · simp at hk
  · refine ⟨b, off, rfl, fun x hx => h0 x (List.mem_of_mem_drop hx), .inr ⟨b, off + k, rfl, hlt, fun i hi => ?_⟩⟩
    rw [List.length_drop] at hi
    have := hc (k + i) (by omega)
    rw [List.getElem_drop, Nat.add_assoc]
    exact this
end Go.Proofs.YthbojlbgjmecoaaGreat.DJ


/- FILES IN MEMORY OF THEIR OWN; Disk.Files. -/
namespace Go.Proofs.YthbojlbgjmecoaaGreat.DJ
open Go.RowKit
set_option linter.constructorNameAsVariable false

theorem own_later {W X : World} {base n size : Nat} {e : TypeId} {v : Value} {xs : List Value} (ho : W.ownsRow base e size v n xs) (hb : Below W.heap.size W X) : X.ownsRow base e size v n xs := (GrS.of_below (S := fun _ => False) hb).own ho (fun _ _ h => h)

theorem step_append_own {P : Program} {ops : Array Oper} {o : Oper} {a : Act} (w : World) {K : Act → World → Prop} {Q : Exit → Act → World → Prop} {E : Prop}
    (hg : o.guard = none) (s x : Operand) (t : TypeId) (ho : o.op = .call { callee := .builtin .append, args := #[s, x], argTypes := #[t, t] })
    (base : Nat) (e : TypeId) (i : TypeInfo) (z : Value) (size bytes : Nat) (ht : P.underlying t = some (.slice e)) (hi : P.info? e = some i) (hz : i.zero = some z)
    (hsize : i.size = size) (hby : i.bytes = bytes) (hzs : z.cells.size = size) (hsz : 0 < size)
    (v : Value) (n : Nat) (xs : List Value) (hs : a.eval s = v) (hown : w.ownsRow base e size v n xs)
    (ad : Addr) (m c : Nat) (news : List Value) (hx : a.eval x = .slice (some ad) m c) (hl : news.length = m * size) (hnews : ∀ j u, news[j]? = some u → w.cell? (ad.add j) = some u) (h1 : ∀ u ∈ news, u.oneCell' = true)
    (h63 : n + m ≤ maxLen) (hbytes : (n + m) * bytes ≤ 140737488355328) (hbase : base ≤ w.heap.size)
    (h : ∀ v' w', w'.ownsRow base e size v' (n + m) (xs ++ news) → w.grownBy w' v.ownBlock → K (a.put o.dst v') w') : if Region.wanted o (yielded ops a.tmps) = true then Oper.wp P o a w K Q else E := by
  rw [if_pos (by simp [Region.wanted, hg])]
  exact wp_append_own w s x t ho base e i z size bytes ht hi hz hsize hby hzs hsz v n xs hs hown ad m c news hx hl hnews h1 h63 hbytes hbase (fun v' w' h1 h2 _ => h v' w' h1 h2)

theorem lit_at (W : World) (cs : List Value) (t : TypeId) : ∀ j u, cs[j]? = some u → (W.alloc (.cells cs.toArray t)).cell? ((⟨W.heap.size, 0, none⟩ : Addr).add j) = some u := fun j u h => by
  have e : ((⟨W.heap.size, 0, none⟩ : Addr).add j) = ⟨W.heap.size, j, none⟩ := by rw [Go.WideShapes.add_plain, Nat.zero_add]
  rw [e]
  simpa using h

def FfAt (w : World) (a : Option Addr) (L : List Fl) : Prop := L = [] ∨ ∃ b off, a = some ⟨b, off, none⟩ ∧ b < w.heap.size ∧ ∀ i (h : i < L.length), w.cell? ⟨b, off + i * 3, none⟩ = some (.string (strB L[i].nm)) ∧ (∃ p c, w.cell? ⟨b, off + i * 3 + 1, none⟩ = some (.slice p L[i].dat.length c) ∧ (p = none → c = 0) ∧ L[i].dat.length ≤ c ∧ Byts w p L[i].dat) ∧ w.cell? ⟨b, off + i * 3 + 2, none⟩ = some (.int .i64 (L[i].sure : Int))

def ffV (L : List (Fl × Value)) : List Value := L.flatMap fun x => [.string (strB x.1.nm), x.2, .int .i64 (x.1.sure : Int)]
theorem ffV_snoc (L : List (Fl × Value)) (r : Fl) (v : Value) : ffV (L ++ [(r, v)]) = ffV L ++ [.string (strB r.nm), v, .int .i64 (r.sure : Int)] := by unfold ffV; rw [List.flatMap_append]; rfl
theorem ffV_get : ∀ (L : List (Fl × Value)) (i : Nat) (h : i < L.length), (ffV L)[i * 3]? = some (.string (strB L[i].1.nm)) ∧ (ffV L)[i * 3 + 1]? = some L[i].2 ∧ (ffV L)[i * 3 + 2]? = some (.int .i64 (L[i].1.sure : Int))
  | d :: D, 0, _ => ⟨rfl, rfl, rfl⟩
  | d :: D, i + 1, h => by
    have := ffV_get D i (by simpa using h)
    rw [show (i + 1) * 3 = i * 3 + 3 by omega]
    exact this

/-- One file and its bytes. -/
structure FfB (w : World) (base : Nat) (x : Fl × Value) : Prop where
  byt : ∀ y ∈ x.1.dat, y < 256
  own : w.ownsRow base 5 1 x.2 x.1.dat.length (bysV x.1.dat)
def FfO (w : World) (base : Nat) (v : Value) (R : List Fl) : Prop := ∃ L : List (Fl × Value), L.map Prod.fst = R ∧ w.ownsRow base 74 3 v R.length (ffV L) ∧ ∀ x ∈ L, FfB w base x
theorem FfO.nil (w : World) (base : Nat) : FfO w base (.slice none 0 0) [] := ⟨[], rfl, World.ownsRow_nil _ _ _ _, fun x hx => by simp at hx⟩
theorem FfB.grS {S : Nat → Prop} {w w' : World} {base : Nat} {x : Fl × Value} (h : FfB w base x) (hg : GrS S w w') (hS : ∀ g cs, base ≤ g → w.heap[g]? = some (.cells cs 5 (0, 0)) → ¬ S g) : FfB w' base x :=
  ⟨h.byt, hg.own h.own (fun g e => by obtain ⟨q, cs, r⟩ := own_rowT h.own e; exact hS g cs q r)⟩
theorem FfO.later {w w' : World} {base : Nat} {v : Value} {R : List Fl} (h : FfO w base v R) (hb : Below w.heap.size w w') : FfO w' base v R := by
  obtain ⟨L, h1, h2, h3⟩ := h
  exact ⟨L, h1, own_later h2 hb, fun x hx => (h3 x hx).grS (S := fun _ => False) (.of_below hb) (fun _ _ _ _ h => h)⟩
theorem FfO.mono {w : World} {base base' : Nat} {v : Value} {R : List Fl} (h : FfO w base v R) (hb : base' ≤ base) : FfO w base' v R := by
  obtain ⟨L, h1, h2, h3⟩ := h
  exact ⟨L, h1, h2.mono hb, fun x hx => ⟨(h3 x hx).byt, (h3 x hx).own.mono hb⟩⟩
theorem ff_snoc {w w' : World} {base : Nat} {v v' bv : Value} {L : List (Fl × Value)} {r : Fl} (ho : w.ownsRow base 74 3 v L.length (ffV L)) (hL : ∀ x ∈ L, FfB w base x) (hr : FfB w base (r, bv)) (hg : w.grownBy w' v.ownBlock) (ho' : w'.ownsRow base 74 3 v' (L.length + 1) (ffV L ++ [.string (strB r.nm), bv, .int .i64 (r.sure : Int)])) : FfO w' base v' (L.map Prod.fst ++ [r]) := by
  have hG : GrS (fun k => v.ownBlock = some k) w w' := .of_grown' hg (fun k e => e)
  have hS : ∀ g cs, base ≤ g → w.heap[g]? = some (.cells cs 5 (0, 0)) → ¬ v.ownBlock = some g := fun g cs _ hc e => by
    obtain ⟨-, cs', r'⟩ := own_rowT ho e
    rw [hc] at r'
    simp at r'
  refine ⟨L ++ [(r, bv)], by simp, ?_, fun x hx => ?_⟩
  · rw [ffV_snoc, List.length_append, List.length_map]
    exact ho'
  · rcases List.mem_append.1 hx with hx | hx
    · exact (hL x hx).grS hG hS
    · rw [List.mem_singleton.1 hx]
      exact hr.grS hG hS
theorem FfO.len {w : World} {base : Nat} {v : Value} {R : List Fl} (h : FfO w base v R) : ∃ a c, v = .slice a R.length c ∧ (a = none → c = 0) ∧ R.length ≤ c ∧ ∀ p, a = some p → base ≤ p.block := by
  obtain ⟨L, h1, h2, h3⟩ := h
  obtain ⟨q1, ⟨rfl, h0⟩ | ⟨g, cap, cur, rfl, hb, r, h4, -⟩⟩ := h2
  · rw [h0]
    exact ⟨none, 0, rfl, fun _ => rfl, Nat.le_refl _, fun p e => by cases e⟩
  · exact ⟨_, _, rfl, fun e => (by cases e), by omega, fun p e => by cases e; exact hb⟩
theorem FfO.at_ {w : World} {base : Nat} {a : Option Addr} {n c : Nat} {R : List Fl} (h : FfO w base (.slice a n c) R) : FfAt w a R := by
  obtain ⟨L, rfl, h2, h3⟩ := h
  have h0 := h2
  obtain ⟨q1, ⟨e, hn⟩ | ⟨g, cap, cur, e, hb, r, -⟩⟩ := h0
  · exact .inl (List.length_eq_zero_iff.1 hn)
  · injection e with e1 e2 e3
    subst e1
    rw [e2] at h2
    refine .inr ⟨g, 0, rfl, (h2.lt g rfl).2, fun i hi => ?_⟩
    rw [List.length_map] at hi
    obtain ⟨g1, g2, g3⟩ := ffV_get L i hi
    have hl : (ffV L).length = (L.map Prod.fst).length * 3 := h2.1
    rw [List.length_map] at hl
    have hx := h3 L[i] (List.getElem_mem hi)
    obtain ⟨p, cc, hp⟩ := own_lenB hx.own
    have k1 := h2.cellAt (i * 3) (by rw [List.length_map]; omega)
    have k2 := h2.cellAt (i * 3 + 1) (by rw [List.length_map]; omega)
    have k3 := h2.cellAt (i * 3 + 2) (by rw [List.length_map]; omega)
    have ho := hx.own
    rw [hp] at ho
    rw [Nat.zero_add, List.getElem_map]
    refine ⟨k1.trans g1, ⟨p, cc, ?_, (own_pos ho).1, (own_pos ho).2.1, byts_of_own (n := L[i].1.dat.length) hx.byt ho⟩, k3.trans g3⟩
    rw [← hp]
    exact k2.trans g2

theorem infoFf : (Tryz.prog.info? 74).map (fun i => (i.zero, i.size, i.bytes)) = some (some (.agg #[.string "".toUTF8, .slice none 0 0, .int .i64 0]), 3, 48) := by kernel_rfl

set_option maxRecDepth 8000 in
set_option maxHeartbeats 1000000 in
theorem files_any {lo db : Nat} {S : Nat → Prop} {d : Dk} (w : World) (h : DiskAt w lo S db d) :
    Calls Tryz.prog 7 #[.pointer (some ⟨db, 0, none⟩)] w fun e w' => ∃ a c, e = .returned (.slice a d.fs.length c) ∧ FfO w' w.heap.size (.slice a d.fs.length c) d.fs ∧ Below w.heap.size w w' := by
  have hN := names_any w h
  have h40 : d.fs.length ≤ 40 := by obtain ⟨mb, D, fb, vv, h⟩ := h; exact h.ok.len
  go_enter Tryz.func7, Tryz.ntmps7
  go_wp2_with (go_at_call 34; refine hN.mono ?_; rintro e w2 ⟨v, rfl, hrow, hb2⟩; obtain ⟨p, c, rfl⟩ := own_lenB hrow)
  obtain ⟨mb, D, fb, vv, hL2⟩ := h.later hb2
  clear hN h
  obtain ⟨i0, hi5, hz0, hz1, hz2⟩ := info_parts infoFf
  have hI : Hid (∃ a c, (Value.slice none 0 0 = .slice a 0 c) ∧ FfO w2 w2.heap.size (.slice a 0 c) []) := ⟨none, 0, rfl, FfO.nil _ _⟩
  go_loopw [10, 3] (fun v u wr => ∃ i : Nat, i ≤ d.fs.length ∧ v = .int .i64 (i : Int) ∧ (∃ a c, u = .slice a i c ∧ FfO wr w2.heap.size (.slice a i c) (d.fs.take i)) ∧ Below w2.heap.size w2 wr) (fun v _ _ => d.fs.length - (intOf v).toNat)
  case atStart => exact ⟨0, Nat.zero_le _, rfl, hI.out, Below.refl _ _⟩
  case round =>
    clear hI
    obtain ⟨i, hi, rfl, ⟨ua, uc, rfl, hF⟩, hb⟩ := hrel
    by_cases hlt : i < d.fs.length
    · have hlt' : (i : Int) < (d.fs.length : Int) := by omega
      have hi0 : (0 : Int) ≤ (i : Int) := by omega
      obtain ⟨gp, hgp⟩ : ∃ gp, p = some ⟨gp, 0, none⟩ := by
        obtain ⟨-, ⟨e, h0⟩ | ⟨gg, cc, cur, e, -⟩⟩ := hrow
        · omega
        · injection e with e1
          exact ⟨gg, e1⟩
      subst hgp
      have hnm := (hb.cell (p := ⟨gp, i, none⟩) (World.block_lt_of_cell? _ _ (name_at hrow hlt rfl))).trans (name_at hrow hlt rfl)
      have hS : d.fs.take (i + 1) = d.fs.take i ++ [d.fs[i]] := List.take_succ_eq_append_getElem hlt
      have hin : d.fs[i] ∈ d.fs := List.getElem_mem hlt
      have htl : (d.fs.take i).length = i := by rw [List.length_take]; omega
      generalize d.fs[i] = f at *
      have hL := hL2.grS (T := fun _ => False) (.of_below hb) (fun _ _ h => h)
      obtain ⟨c0, -⟩ := hL.cells
      have hlk := hL.look hin
      have hFA := hL2.fil f hin
      obtain ⟨k0, k1, -, -⟩ := hFA.cells
      have hsiz := hL.ok.siz f hin
      have hbyt := hL.ok.byt f hin
      have hfl : fb f.nm < w2.heap.size := hL2.hi _ (hL2.Sfb _ hin)
      obtain ⟨pv, cv, hv⟩ := own_lenB hFA.dat
      have hFd := hFA.dat
      rw [hv] at k0 hFd
      generalize fb f.nm = b at *
      have hK := Hid.mk (fun X (hX : Below w2.heap.size w2 X) => And.intro ((hX.cell (p := ⟨b, 0, none⟩) hfl).trans k0) ((hX.cell (p := ⟨b, 1, none⟩) hfl).trans k1))
      have hby : Hid (∀ X, Below w2.heap.size w2 X → Byts X pv f.dat) := ⟨fun X hX => (byts_of_own (n := f.dat.length) hbyt hFd).later hX⟩
      have hC6 := Hid.mk (fun X (hX : Below w2.heap.size w2 X) => bclone_any pv cv (own_pos hFd).1 f.dat (Nat.le_trans hsiz (by decide)) X (hby.out X hX))
      have bd : Below w2.heap.size w2 wr.drew := below_step hb ((Below.refl _ _).drew)
      have bw : Below wr.heap.size wr wr.drew := (Below.refl _ _).drew
      have S0 := hK.out _ hb
      have S0' := hK.out _ bd
      have hbase : w2.heap.size ≤ wr.heap.size := hb.size
      replace hF := Hid.mk hF
      replace hbyt := Hid.mk hbyt
      replace hb := Hid.mk hb
      replace hrow := Hid.mk hrow
      clear hL hFA k0 k1 hsiz hFd hby
      generalize hsn : strB f.nm = sn at *
      replace hsn := Hid.mk hsn
      go_upto_region 6 with fail
      go_region_held3 (fun X => X.cell? ⟨b, 0, none⟩ = some (.slice pv f.dat.length cv) ∧ X.cell? ⟨b, 1, none⟩ = some (.int .i64 (f.sure : Int))) (with_reducible assumption) (first | (go_at_call 35; refine (hC6.out _ bd).mono ?_; rintro e w8 ⟨p8, c8, rfl, ho8, hb8⟩; have Q8 := below_step bw hb8; have A8 : Below w8.heap.size w8 (w8.alloc (.cells #[.string sn, .slice p8 f.dat.length c8, .int .i64 (f.sure : Int)] 74)) := (Below.refl _ _).alloc (Nat.le_refl _) _; have D8 := below_step bd hb8; have D9 := below_step D8 A8; have S8 := hK.out _ D8; have S9 := hK.out _ D9; obtain ⟨L, hLm, hoL, hbL⟩ := (hF.out.later Q8).later A8; rw [htl] at hoL; have hR8 := Hid.mk (FfB.mk (x := (f, .slice p8 f.dat.length c8)) hbyt.out (own_later (ho8.mono hbase) A8)); replace hbL := Hid.mk hbL; replace hLm := Hid.mk hLm) | (refine step_append_own (P := Tryz.prog) _ rfl _ _ 22 rfl w2.heap.size 74 i0 _ 3 48 Tryz.underlying22 hi5 hz0 hz1 hz2 rfl (by decide) _ i (ffV L) rfl hoL ⟨w8.heap.size, 0, none⟩ 1 1 [.string sn, .slice p8 f.dat.length c8, .int .i64 (f.sure : Int)] rfl rfl (lit_at w8 _ _) (by simp [Value.oneCell']) (by unfold maxLen; omega) (by omega) D9.size ?_; intro v' w9 hown' hgrow; have b9 := Hid.mk (D9.trans ((GrS.of_grown' (S := fun k => (Value.slice ua i uc).ownBlock = some k) hgrow (fun k e => e)).below D9.size (fun k e => (own_rowT hoL e).1))); have S10 := hK.out _ b9.out))
      have hl9 : L.length = i := by rw [← htl, ← hLm.out, List.length_map]
      have hrc9 := ff_snoc (r := f) (by rw [hl9]; exact hoL) hbL.out hR8.out hgrow (by rw [hl9, hsn.out]; exact hown')
      rw [hLm.out, ← hS] at hrc9
      have hrow9 := own_lenB hown'
      obtain ⟨a9, c9, rfl⟩ := hrow9
      replace hrc9 := Hid.mk hrc9
      clear hoL hown' hgrow S0 S0' S8 S9 S10 hS htl hlk hl9 hnm
      go_wp2
      go_roundw
      case rel => exact ⟨i + 1, by omega, by first | rfl | go_num, ⟨a9, c9, rfl, hrc9.out⟩, b9.out⟩
      case measure => simp [intOf]; omega
    · have hlt' : ¬ (i : Int) < (d.fs.length : Int) := by omega
      obtain rfl : i = d.fs.length := by omega
      rw [List.take_length] at hF
      replace hF := Hid.mk hF
      go_wp2
      go_ret
      exact ⟨ua, uc, rfl, hF.out.mono hb2.size, below_step hb2 hb⟩
end Go.Proofs.YthbojlbgjmecoaaGreat.DJ

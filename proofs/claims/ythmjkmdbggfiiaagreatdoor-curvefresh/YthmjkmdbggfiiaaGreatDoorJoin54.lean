import Derived.Test.YthmjkmdbggfiiaaGreatDoorJoin53
/- CurveFresh: a round's moves. -/
namespace Go.Proofs.YthmjkmdbggfiiaaGreatDoor.CF
open Go.RowKit KB
set_option linter.constructorNameAsVariable false

/-- The six cells of a box. -/
def BoxC (X : World) (g : Nat) (t : V6) : Prop := (X.cell? ⟨g, 0, none⟩ = some t.1 ∧ X.cell? ⟨g, 1, none⟩ = some t.2.1 ∧ X.cell? ⟨g, 2, none⟩ = some t.2.2.1 ∧ X.cell? ⟨g, 3, none⟩ = some t.2.2.2.1 ∧ X.cell? ⟨g, 4, none⟩ = some t.2.2.2.2.1 ∧ X.cell? ⟨g, 5, none⟩ = some t.2.2.2.2.2) ∧ ∀ o, X.frozen? ⟨g, o, none⟩ = false
section
variable {lo : Nat} {W0 : World} {c : Tol} {ik it iu k : Nat} {X Y : World} {F : List (Value × Nat × List Value)} {KV : List V6} {kv : Value} {is js : List Nat} {t u tb : V6} {gt gu m : Nat}
theorem v6Ls_snoc (l : List V6) (t : V6) : v6Ls (l ++ [t]) = v6Ls l ++ v6L t := by simp [v6Ls]
theorem RdS.kept_own (h : RdS lo W0 c ik it iu k X F KV kv is js t u gt gu m) : X.ownsRow lo 57 6 kv k (v6Ls KV) := h.b.res (.inl ⟨rfl, rfl⟩)
theorem RdS.t_own (h : RdS lo W0 c ik it iu k X F KV kv is js t u gt gu m) (hx : IxS ik it iu is js) : ∀ x ∈ tolRows c t.1 t.2.1 t.2.2.1 t.2.2.2.1 t.2.2.2.2.1 t.2.2.2.2.2, X.ownsRow lo x.e x.k x.v x.n x.xs := fun x hm => by
  obtain ⟨q, hq⟩ := Zip.row (is := is) (l := tolRows c t.1 t.2.1 t.2.2.1 t.2.2.2.1 t.2.2.2.2.1 t.2.2.2.2.2) hx.li hm
  exact h.b.res (.inr (.inl hq))
theorem RdS.u_own (h : RdS lo W0 c ik it iu k X F KV kv is js t u gt gu m) (hx : IxS ik it iu is js) : ∀ x ∈ tolRows c u.1 u.2.1 u.2.2.1 u.2.2.2.1 u.2.2.2.2.1 u.2.2.2.2.2, X.ownsRow lo x.e x.k x.v x.n x.xs := fun x hm => by
  obtain ⟨q, hq⟩ := Zip.row (is := js) (l := tolRows c u.1 u.2.1 u.2.2.1 u.2.2.2.1 u.2.2.2.2.1 u.2.2.2.2.2) hx.lj hm
  exact h.b.res (.inr (.inr (.inl hq)))
theorem RdS.tbox (h : RdS lo W0 c ik it iu k X F KV kv is js t u gt gu m) : BoxC X gt t := box_cells (h.b.res (i := it) (.inr (.inr (.inr (.inl ⟨rfl, rfl⟩)))))
theorem RdS.ubox (h : RdS lo W0 c ik it iu k X F KV kv is js t u gt gu m) : BoxC X gu u := box_cells (h.b.res (i := iu) (.inr (.inr (.inr (.inr ⟨rfl, rfl⟩)))))
/-- A copy stands. -/
theorem RdS.add (h : RdS lo W0 c ik it iu k X F KV kv is js t u gt gu m) (hlo : lo ≤ W0.heap.size) (hX : Below X.heap.size X Y) {a b d e j t' : Value} (hl : KB.Rows X.heap.size Y (tolRows c a b d e j t')) : ∃ F', RdS lo W0 c ik it iu k Y F' KV kv is js t u gt gu m ∧ InF F' c (a, b, d, e, j, t') := by
  obtain ⟨F', h1, h2, h3⟩ := BkC_adds h.b hlo hX hl
  exact ⟨F', ⟨h1, fun x hx => (h.f x hx).mono h2, h.l⟩, InF.of h3⟩
/-- It is kept. -/
theorem RdS.app (h : RdS lo W0 c ik it iu k X F KV kv is js t u gt gu m) (hx : IxS ik it iu is js) (hlo : lo ≤ W0.heap.size) {w6 : V6} (hf : InF F c w6) {kv' : Value} (ho : Y.ownsRow lo 57 6 kv' (k + 1) (v6Ls KV ++ v6L w6)) (hg : X.grownBy Y kv.ownBlock) (hat : kv'.ownBlock = kv.ownBlock ∨ kv'.ownBlock = some X.heap.size) : RdS lo W0 c ik it iu (k + 1) Y F (KV ++ [w6]) kv' is js t u gt gu m := by
  have hA := h.b.app hlo (i := ik) (.inl ⟨rfl, rfl⟩) (x' := ⟨57, 6, kv', k + 1, v6Ls KV ++ v6L w6⟩) ho (show 0 < 6 by decide) hg hat
  refine ⟨hA.less (fun y hy => hy) (fun q x hq => ?_), fun x hx => ?_, by simp [h.l]⟩
  · rcases hq with ⟨rfl, rfl⟩ | hq | hq | ⟨rfl, rfl⟩ | ⟨rfl, rfl⟩
    · exact .inr ⟨rfl, by rw [v6Ls_snoc]⟩
    · exact .inl ⟨.inr (.inl hq), fun e => hx.ki (e ▸ hq.mem)⟩
    · exact .inl ⟨.inr (.inr (.inl hq)), fun e => hx.kj (e ▸ hq.mem)⟩
    · exact .inl ⟨.inr (.inr (.inr (.inl ⟨rfl, rfl⟩))), hx.tk⟩
    · exact .inl ⟨.inr (.inr (.inr (.inr ⟨rfl, rfl⟩))), hx.uk⟩
  · rcases List.mem_append.1 hx with hx | hx
    · exact h.f x hx
    · rw [List.mem_singleton.1 hx]
      exact hf
/-- What is left when t's lists have come into the book. -/
def RU (c : Tol) (ik it iu k : Nat) (KV : List V6) (kv : Value) (js : List Nat) (tb u : V6) (gt gu : Nat) (q : Nat) (x : Row) : Prop := (q = ik ∧ x = ⟨57, 6, kv, k, v6Ls KV⟩) ∨ Zip js (tolRows c u.1 u.2.1 u.2.2.1 u.2.2.2.1 u.2.2.2.2.1 u.2.2.2.2.2) q x ∨ (q = it ∧ x = ⟨57, 6, .slice (some ⟨gt, 0, none⟩) 1 1, 1, v6L tb⟩) ∨ (q = iu ∧ x = ⟨57, 6, .slice (some ⟨gu, 0, none⟩) 1 1, 1, v6L u⟩)
def RV (ik it iu k : Nat) (KV : List V6) (kv : Value) (tb u : V6) (gt gu : Nat) (q : Nat) (x : Row) : Prop := (q = ik ∧ x = ⟨57, 6, kv, k, v6Ls KV⟩) ∨ (q = it ∧ x = ⟨57, 6, .slice (some ⟨gt, 0, none⟩) 1 1, 1, v6L tb⟩) ∨ (q = iu ∧ x = ⟨57, 6, .slice (some ⟨gu, 0, none⟩) 1 1, 1, v6L u⟩)
theorem RdS.into (h : RdS lo W0 c ik it iu k X F KV kv is js t u gt gu m) (hx : IxS ik it iu is js) (hc : TolOk c) (hlo : lo ≤ W0.heap.size) (hm : m ≤ 150) (mark : Int) (hTab : ∀ X, Below lo W0 X → Go.Lib.TabIs Tryz.prog X "internal/strconv.uint64pow10" .u64 Go.Lib.pow10Tab) :
    Calls Tryz.prog 10 #[.agg #[t.1, t.2.1, t.2.2.1, t.2.2.2.1, t.2.2.2.2.1, t.2.2.2.2.2], .pointer (some ⟨lo, 0, none⟩), .int .i64 mark] X fun e Y => e = .returned (.tuple #[]) ∧ BkC lo lo W0 F (RU c ik it iu k KV kv js t u gt gu) (m + 6) Y := by
  refine into_any hc (R0 := RU c ik it iu k KV kv js t u gt gu) (is := is) hlo hm _ _ _ _ _ _ mark X hTab hx.li hx.ni (fun i hi x hq => ?_) (h.b.less (fun y hy => hy) (fun q x hq => ?_))
  · rcases hq with ⟨rfl, -⟩ | hq | ⟨rfl, -⟩ | ⟨rfl, -⟩
    · exact hx.ki hi
    · exact hx.ij _ hq.mem hi
    · exact hx.ti hi
    · exact hx.ui hi
  · rcases hq with (hq | hq | hq | hq) | hq
    · exact .inl hq
    · exact .inr (.inr (.inl hq))
    · exact .inr (.inr (.inr (.inl hq)))
    · exact .inr (.inr (.inr (.inr hq)))
    · exact .inr (.inl hq)
theorem RU.kept_own (h : BkC lo lo W0 F (RU c ik it iu k KV kv js tb u gt gu) m X) : X.ownsRow lo 57 6 kv k (v6Ls KV) := h.res (.inl ⟨rfl, rfl⟩)
theorem RU.u_own (h : BkC lo lo W0 F (RU c ik it iu k KV kv js tb u gt gu) m X) (hx : IxS ik it iu is js) : ∀ x ∈ tolRows c u.1 u.2.1 u.2.2.1 u.2.2.2.1 u.2.2.2.2.1 u.2.2.2.2.2, X.ownsRow lo x.e x.k x.v x.n x.xs := fun x hm => by
  obtain ⟨q, hq⟩ := Zip.row (is := js) (l := tolRows c u.1 u.2.1 u.2.2.1 u.2.2.2.1 u.2.2.2.2.1 u.2.2.2.2.2) hx.lj hm
  exact h.res (.inr (.inl hq))
theorem RU.tbox (h : BkC lo lo W0 F (RU c ik it iu k KV kv js tb u gt gu) m X) : BoxC X gt tb := box_cells (h.res (i := it) (.inr (.inr (.inl ⟨rfl, rfl⟩))))
theorem RU.ubox (h : BkC lo lo W0 F (RU c ik it iu k KV kv js tb u gt gu) m X) : BoxC X gu u := box_cells (h.res (i := iu) (.inr (.inr (.inr ⟨rfl, rfl⟩))))
/-- t = u. -/
theorem RU.write (h : BkC lo lo W0 F (RU c ik it iu k KV kv js tb u gt gu) m X) (hx : IxS ik it iu is js) (hlo : lo ≤ W0.heap.size) : BkC lo lo W0 F (RU c ik it iu k KV kv js u u gt gu) m (put6 X gt u.1 u.2.1 u.2.2.1 u.2.2.2.1 u.2.2.2.2.1 u.2.2.2.2.2) := by
  refine (BkC_write6 h hlo (i := it) (.inr (.inr (.inl ⟨rfl, rfl⟩))) u.1 u.2.1 u.2.2.1 u.2.2.2.1 u.2.2.2.2.1 u.2.2.2.2.2).less (fun y hy => hy) (fun q x hq => ?_)
  rcases hq with ⟨rfl, rfl⟩ | hq | ⟨rfl, rfl⟩ | ⟨rfl, rfl⟩
  · exact .inl ⟨.inl ⟨rfl, rfl⟩, fun e => hx.tk e.symm⟩
  · exact .inl ⟨.inr (.inl hq), fun e => hx.tj (e ▸ hq.mem)⟩
  · exact .inr ⟨rfl, rfl⟩
  · exact .inl ⟨.inr (.inr (.inr ⟨rfl, rfl⟩)), hx.ut⟩
theorem RU.into (h : BkC lo lo W0 F (RU c ik it iu k KV kv js tb u gt gu) m X) (hx : IxS ik it iu is js) (hc : TolOk c) (hlo : lo ≤ W0.heap.size) (hm : m ≤ 150) (mark : Int) (hTab : ∀ X, Below lo W0 X → Go.Lib.TabIs Tryz.prog X "internal/strconv.uint64pow10" .u64 Go.Lib.pow10Tab) :
    Calls Tryz.prog 10 #[.agg #[u.1, u.2.1, u.2.2.1, u.2.2.2.1, u.2.2.2.2.1, u.2.2.2.2.2], .pointer (some ⟨lo, 0, none⟩), .int .i64 mark] X fun e Y => e = .returned (.tuple #[]) ∧ BkC lo lo W0 F (RV ik it iu k KV kv tb u gt gu) (m + 6) Y := by
  refine into_any hc (R0 := RV ik it iu k KV kv tb u gt gu) (is := js) hlo hm _ _ _ _ _ _ mark X hTab hx.lj hx.nj (fun i hi x hq => ?_) (h.less (fun y hy => hy) (fun q x hq => ?_))
  · rcases hq with ⟨rfl, -⟩ | ⟨rfl, -⟩ | ⟨rfl, -⟩
    · exact hx.kj hi
    · exact hx.tj hi
    · exact hx.uj hi
  · rcases hq with (hq | hq | hq) | hq
    · exact .inl hq
    · exact .inr (.inr (.inl hq))
    · exact .inr (.inr (.inr hq))
    · exact .inr (.inl hq)
theorem RV.done (h : BkC lo lo W0 F (RV ik it iu (k + 1) KV kv tb u gt gu) m X) (hf : ∀ x ∈ KV, InF F c x) (hl : KV.length = k + 1) (hm : m = 12 * (k + 1)) : FrS lo W0 c ik (k + 1) kv X := ⟨KV, F, hl, hm ▸ h.less (fun _ hy => hy) (fun _ _ hq => .inl hq), hf⟩
end
end Go.Proofs.YthmjkmdbggfiiaaGreatDoor.CF


/- CurveFresh: what a round looks at. -/
namespace Go.Proofs.YthmjkmdbggfiiaaGreatDoor.CF
open Go.RowKit KB
set_option linter.constructorNameAsVariable false

/-- The six cells of a list's place j. -/
def At6 (X : World) (g j : Nat) (t : V6) : Prop := X.cell? ⟨g, j * 6, none⟩ = some t.1 ∧ X.cell? ⟨g, j * 6 + 1, none⟩ = some t.2.1 ∧ X.cell? ⟨g, j * 6 + 2, none⟩ = some t.2.2.1 ∧ X.cell? ⟨g, j * 6 + 3, none⟩ = some t.2.2.2.1 ∧ X.cell? ⟨g, j * 6 + 4, none⟩ = some t.2.2.2.2.1 ∧ X.cell? ⟨g, j * 6 + 5, none⟩ = some t.2.2.2.2.2
theorem kept_at {X : World} {lo g n cap : Nat} {e : TypeId} {l : List V6} (h : X.ownsRow lo e 6 (.slice (some ⟨g, 0, none⟩) n cap) n (v6Ls l)) (hl : l.length = n) {j : Nat} {t : V6} (ht : l[j]? = some t) : At6 X g j t := by
  obtain ⟨a, c, e1, hc⟩ := KB.own_len h
  simp only [Value.slice.injEq, true_and] at e1
  obtain ⟨rfl, rfl⟩ := e1
  obtain ⟨hj, rfl⟩ := List.getElem?_eq_some_iff.1 ht
  obtain ⟨g', e2, -, hcell⟩ := hc (by omega)
  simp only [Option.some.injEq, Addr.mk.injEq, and_true] at e2
  subst e2
  have key : ∀ i u, i < 6 → (v6L l[j])[i]? = some u → X.cell? ⟨g, j * 6 + i, none⟩ = some u := fun i u hi hu => hcell _ _ (by omega) ((v6Ls_get l j i hj hi).trans hu)
  exact ⟨key 0 _ (by decide) rfl, key 1 _ (by decide) rfl, key 2 _ (by decide) rfl, key 3 _ (by decide) rfl, key 4 _ (by decide) rfl, key 5 _ (by decide) rfl⟩
/-- A value of six lists. -/
def aggV (t : V6) : Value := .agg #[t.1, t.2.1, t.2.2.1, t.2.2.2.1, t.2.2.2.2.1, t.2.2.2.2.2]
def SameC (X : World) (t s : V6) : Prop := Calls Tryz.prog 9 #[aggV t, aggV s] X fun e Y => e = .returned (.bool true) ∧ Below X.heap.size X Y
section
variable {lo : Nat} {W0 : World} {c : Tol} {ik it iu k : Nat} {X Y : World} {F : List (Value × Nat × List Value)} {KV : List V6} {kv : Value} {is js : List Nat} {t u tb : V6} {gt gu m g cap : Nat}
/-- What region 14 looks at. -/
theorem RdS.look (h : RdS lo W0 c ik it iu k X F KV (.slice (some ⟨g, 0, none⟩) k cap) is js t u gt gu m) (hx : IxS ik it iu is js) (hc : TolOk c) (hlo : lo ≤ W0.heap.size) {j : Nat} {s s0 : V6} (hs : KV[j]? = some s) (h0 : KV[0]? = some s0) (hX : Below X.heap.size X Y) : (At6 Y g j s ∧ At6 Y g 0 s0 ∧ BoxC Y gu u) ∧ SameC Y s s0 ∧ SameC Y u s0 := by
  have h' := h.later hlo hX
  have f0 := (h'.f _ (List.mem_of_getElem? h0)).at h'.b
  exact ⟨⟨kept_at h'.kept_own h'.l hs, kept_at h'.kept_own h'.l h0, h'.ubox⟩, same_any6 hc _ _ _ _ _ _ _ _ _ _ _ _ Y ((h'.f _ (List.mem_of_getElem? hs)).at h'.b) f0, same_any6 hc _ _ _ _ _ _ _ _ _ _ _ _ Y (TolAt.of (h'.u_own hx)) f0⟩
/-- What region 17 looks at. -/
theorem RU.look (h : BkC lo lo W0 F (RU c ik it iu k KV (.slice (some ⟨g, 0, none⟩) k cap) js tb u gt gu) m X) (hf : ∀ x ∈ KV, InF F c x) (hl : KV.length = k) (hx : IxS ik it iu is js) (hc : TolOk c) (hlo : lo ≤ W0.heap.size) {s0 : V6} (h0 : KV[0]? = some s0) (hX : Below X.heap.size X Y) : (At6 Y g 0 s0 ∧ BoxC Y gu u) ∧ SameC Y u s0 := by
  have h' := h.later hlo hX
  have f0 := (hf _ (List.mem_of_getElem? h0)).at h'
  exact ⟨⟨kept_at (RU.kept_own h') hl h0, RU.ubox h'⟩, same_any6 hc _ _ _ _ _ _ _ _ _ _ _ _ Y (TolAt.of (RU.u_own h' hx)) f0⟩
end
theorem one6 {u : Value} {p0 p1 p2 p3 p4 p5 : Option Addr} {n0 n1 n2 n3 n4 n5 q0 q1 q2 q3 q4 q5 : Nat} (h : u ∈ [Value.slice p0 n0 q0, .slice p1 n1 q1, .slice p2 n2 q2, .slice p3 n3 q3, .slice p4 n4 q4, .slice p5 n5 q5]) : u.oneCell' = true := by
  simp only [List.mem_cons, List.not_mem_nil, or_false] at h
  rcases h with rfl | rfl | rfl | rfl | rfl | rfl <;> rfl
end Go.Proofs.YthmjkmdbggfiiaaGreatDoor.CF

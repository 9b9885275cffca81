import Derived.Test.YtmklkcefbabhbaaGreatTurnYrX1
import Derived.Test.YtmklkcefbabhbaaGreatTurnYrX2
import Derived.Deep.RegionHeld3
import Derived.Deep.DeepCutAuto
/- The expressions of a pack. -/
namespace Go.Proofs.YtmklkcefbabhbaaGreat.R6
open Go.RowKit

theorem box2 (W : World) (a b : Array Value) (t u : TypeId) : ∃ X, (W.alloc (.cells a t)).alloc (.cells b u) = X ∧ Below W.heap.size W X ∧ X.heap.size = W.heap.size + 2 ∧ Hid (∀ w, Below X.heap.size X w → Bx w W.heap.size a.toList ∧ w.heap[W.heap.size + 1]? = some (.cells b u (0, 0))) := by
  have s1 : (W.alloc (.cells a t)).heap.size = W.heap.size + 1 := by simp
  have g1 := World.grownBy_alloc (W.alloc (.cells a t)) (.cells b u) none
  have h1 := (bx_new W a t).kept g1 (by simp)
  have h2 := heap_alloc_new (W.alloc (.cells a t)) (.cells b u)
  rw [s1] at h2
  exact ⟨_, rfl, ((Below.refl _ _).alloc (Nat.le_refl _) _).alloc (by simp) _, by simp, ⟨fun w hw => ⟨h1.kept (gr_bel hw) (by simp), (hw.block _ (by simp)).trans h2⟩⟩⟩
/-- What a look for faults answers. -/
def FaP (W : World) (r : Fau) (e : Ending) (W' : World) : Prop := Below W.heap.size W W' ∧ match r with
  | none => e = .returned (.tuple #[.agg #[.int .i64 0, .int .i64 0, .int .i64 0, .slice none 0 0], .int .i64 0])
  | some f => ∃ pv, e = .returned (.tuple #[.agg #[.int .i64 f.1.part, .int .i64 f.1.at_, .int .i64 f.1.clause, pv], .int .i64 (f.2 : Int)]) ∧ PtAt W' W.heap.size pv f.1.path
theorem info_sp : (Tryz.prog.info? 33).map (·.size) = some 4 := by kernel_rfl
theorem row_four {w : World} {b : Nat} {u0 u1 u2 u3 : Value} {t : TypeId} (h : w.heap[b]? = some (.cells #[u0, u1, u2, u3] t (0, 0))) (v0 v1 v2 v3 : Value) : ((((w.setCell ⟨b, 0, none⟩ v0).setCell ⟨b, 1, none⟩ v1).setCell ⟨b, 2, none⟩ v2).setCell ⟨b, 3, none⟩ v3).heap[b]? = some (.cells #[v0, v1, v2, v3] t (0, 0)) := by
  have h1 := heap_setCell_same w b 0 _ _ v0 h
  have h2 := heap_setCell_same _ b 1 _ _ v1 h1
  have h3 := heap_setCell_same _ b 2 _ _ v2 h2
  have h4 := heap_setCell_same _ b 3 _ _ v3 h3
  exact h4
theorem bel_four {X w : World} {b n : Nat} (h : Below n X w) (hb : n ≤ b) (v0 v1 v2 v3 : Value) : Below n X ((((w.setCell ⟨b, 0, none⟩ v0).setCell ⟨b, 1, none⟩ v1).setCell ⟨b, 2, none⟩ v2).setCell ⟨b, 3, none⟩ v3) := (((h.setCell (p := ⟨b, 0, none⟩) hb v0).setCell (p := ⟨b, 1, none⟩) hb v1).setCell (p := ⟨b, 2, none⟩) hb v2).setCell (p := ⟨b, 3, none⟩) hb v3
theorem gr_four (w : World) (b : Nat) (v0 v1 v2 v3 : Value) : w.grownBy ((((w.setCell ⟨b, 0, none⟩ v0).setCell ⟨b, 1, none⟩ v1).setCell ⟨b, 2, none⟩ v2).setCell ⟨b, 3, none⟩ v3) (some b) :=
  (((gr_set w b 0 v0).andThen (gr_set _ b 1 v1) (fun _ hj => .inr hj)).andThen (gr_set _ b 2 v2) (fun _ hj => .inr hj)).andThen (gr_set _ b 3 v3) (fun _ hj => .inr hj)
theorem PtAt.sl {W : World} {base : Nat} {pv : Value} {l : List Nat} (h : PtAt W base pv l) : ∃ a n c, pv = .slice a n c := by
  obtain ⟨a, c, h⟩ := h.slice
  exact ⟨a, _, c, h⟩
theorem fa_err {W w : World} {b base : Nat} {pv : Value} {f : Sp × Nat} (hB : Below W.heap.size W w) (hb : W.heap.size ≤ b) (hp : PtAt w base pv f.1.path) (hbase : b < base) : FaP W (some f) (.returned (.tuple #[.agg #[.int .i64 f.1.part, .int .i64 f.1.at_, .int .i64 f.1.clause, pv], .int .i64 (f.2 : Int)])) ((((w.setCell ⟨b, 0, none⟩ (.int .i64 f.1.part)).setCell ⟨b, 1, none⟩ (.int .i64 f.1.at_)).setCell ⟨b, 2, none⟩ (.int .i64 f.1.clause)).setCell ⟨b, 3, none⟩ pv) := by
  refine ⟨bel_four hB hb _ _ _ _, pv, rfl, ?_⟩
  have hq := World.ownsRow.kept hp (gr_four w b (.int .i64 f.1.part) (.int .i64 f.1.at_) (.int .i64 f.1.clause) pv) (by
    cases hv : pv.ownBlock with
    | none => exact .inl rfl
    | some c =>
      refine .inr (fun e => ?_)
      have h1 := (World.ownsRow.lt hp c hv).1
      injection e with e
      omega)
  exact PtAt.mono hq (by omega)
theorem fa_ok {W w : World} {b : Nat} (hB : Below W.heap.size W w) (hb : W.heap.size ≤ b) : FaP W none (.returned (.tuple #[.agg #[.int .i64 0, .int .i64 0, .int .i64 0, .slice none 0 0], .int .i64 0])) ((((w.setCell ⟨b, 0, none⟩ (.int .i64 0)).setCell ⟨b, 1, none⟩ (.int .i64 0)).setCell ⟨b, 2, none⟩ (.int .i64 0)).setCell ⟨b, 3, none⟩ (.slice none 0 0)) := ⟨bel_four hB hb _ _ _ _, rfl⟩
def orF (a b : Fau) : Fau := match a with
  | some f => some f
  | none => b
theorem orF_assoc (a b c : Fau) : orF (orF a b) c = orF a (orF b c) := by cases a <;> rfl
/-- The first fault of the expressions. -/
def exF (p : Pk) : Fau := orF (leF p p.lns 0) (keF p p.cks 0)
theorem le_step (p : Pk) (l : List Ln) {i : Nat} (h : i < l.length) : leF p (l.drop i) i = orF (lcF p l[i] i l[i].cls 0 0) (leF p (l.drop (i + 1)) (i + 1)) := by
  rw [List.drop_eq_getElem_cons h]
  rfl
theorem lc_step (p : Pk) (y : Ln) (i : Nat) (l : List Cl) {j : Nat} (h : j < l.length) (n : Nat) : lcF p y i (l.drop j) j n = match (if 0 < j then tdF p y.group (3, -1) l[j].guard n else .ok n) with
    | .error er => some (⟨5, i, j, 0 :: er.1⟩, er.2)
    | .ok n1 => match tdF p y.group (lineK y) l[j].body n1 with
      | .error er => some (⟨5, i, j, 1 :: er.1⟩, er.2)
      | .ok n2 => lcF p y i (l.drop (j + 1)) (j + 1) n2 := by
  rw [List.drop_eq_getElem_cons h]
  rfl
theorem ke_step (p : Pk) (l : List Ck) {i : Nat} (h : i < l.length) : keF p (l.drop i) i = match tdF p l[i].group (3, -1) l[i].when_ 0 with
    | .error er => some (⟨6, i, -1, er.1⟩, er.2)
    | .ok _ => keF p (l.drop (i + 1)) (i + 1) := by
  rw [List.drop_eq_getElem_cons h]
  rfl
theorem td_le {p : Pk} {g : Int} {must : Kd} {e : Ex} {n n' : Nat} (h : tdF p g must e n = .ok n') : n' ≤ 60 := by
  unfold tdF at h
  cases ht : tyF p g e with
  | error er => rw [ht] at h; cases h
  | ok k =>
    rw [ht] at h
    simp only at h
    split at h
    · split at h
      · cases h
      · cases h
        omega
    · cases h
theorem td_er {p : Pk} {g : Int} {must : Kd} {e : Ex} {n : Nat} {er : Ft} (h : tdF p g must e n = .error er) : 0 < er.2 ∧ er.1.length ≤ 8 := by
  unfold tdF at h
  cases ht : tyF p g e with
  | error er1 =>
    rw [ht] at h
    cases h
    exact ty_er ht
  | ok k =>
    rw [ht] at h
    simp only at h
    split at h
    · split at h
      · cases h
        exact ⟨by decide, by decide⟩
      · cases h
    · cases h
      exact ⟨by decide, by decide⟩
set_option maxRecDepth 20000 in
set_option maxHeartbeats 4000000 in
theorem exprs_any (p : Pk) (a3 a4 a5 a6 a7 : Option Addr) (c3 c4 c5 c6 c7 : Nat) (W : World) (hL : RowR eL W AnyB p.lns a6) (hO : RowR eO W AnyB p.opts a3) (hK : RowR eK W AnyB p.cks a7) (hl48 : p.lns.length ≤ 48) (hk16 : p.cks.length ≤ 16) (h6 : ∀ y ∈ p.lns, y.cls.length ≤ 6) : Calls Tryz.prog 17 #[.agg #[.string ⟨p.name.toArray⟩, .int .i64 p.year, .slice a3 p.opts.length c3, .slice a4 p.tabs.length c4, .slice a5 p.grps.length c5, .slice a6 p.lns.length c6, .slice a7 p.cks.length c7]] W (FaP W (exF p)) := by
  obtain ⟨X, hXe, hb0, hXs, hBxH⟩ := box2 W #[.string ⟨p.name.toArray⟩, .int .i64 p.year, .slice a3 p.opts.length c3, .slice a4 p.tabs.length c4, .slice a5 p.grps.length c5, .slice a6 p.lns.length c6, .slice a7 p.cks.length c7] #[.int .i64 0, .int .i64 0, .int .i64 0, .slice none 0 0] 28 33
  have hX1 : W.heap.size + 1 < X.heap.size := by omega
  have hl48' : (p.lns.length : Int) ≤ 48 := by omega
  have hk16' : (p.cks.length : Int) ≤ 16 := by omega
  clear hXs
  have hLX := row_bel hL hb0 (Nat.le_refl _)
  have hOX := row_bel hO hb0 (Nat.le_refl _)
  have hKX := row_bel hK hb0 (Nat.le_refl _)
  have hPH : Hid (∀ w, Below X.heap.size X w → w.cell? ⟨W.heap.size, 0, none⟩ = some (.string ⟨p.name.toArray⟩) ∧ w.cell? ⟨W.heap.size, 1, none⟩ = some (.int .i64 p.year) ∧ w.cell? ⟨W.heap.size, 2, none⟩ = some (.slice a3 p.opts.length c3) ∧ w.cell? ⟨W.heap.size, 3, none⟩ = some (.slice a4 p.tabs.length c4) ∧ w.cell? ⟨W.heap.size, 4, none⟩ = some (.slice a5 p.grps.length c5) ∧ w.cell? ⟨W.heap.size, 5, none⟩ = some (.slice a6 p.lns.length c6) ∧ w.cell? ⟨W.heap.size, 6, none⟩ = some (.slice a7 p.cks.length c7)) := ⟨fun w hw => by
    have h := (hBxH.out w hw).1
    exact ⟨h.2.1 0 (by simp), h.2.1 1 (by simp), h.2.1 2 (by simp), h.2.1 3 (by simp), h.2.1 4 (by simp), h.2.1 5 (by simp), h.2.1 6 (by simp)⟩⟩
  obtain ⟨x0, x1, x2, x3, x4, x5, x6⟩ := hPH.out X (Below.refl _ _)
  obtain ⟨R, hR⟩ : ∃ R, exF p = R := ⟨_, rfl⟩
  rw [hR]
  have hst0 : Hid (orF (leF p (p.lns.drop 0) 0) (keF p p.cks 0) = R) := ⟨hR⟩
  obtain ⟨QQ, hQQ⟩ : ∃ QQ, FaP W R = QQ := ⟨_, rfl⟩
  rw [hQQ]
  have hQH := Hid.mk hQQ
  clear hR hQQ hL hO hK
  go_enter Tryz.func17, Tryz.ntmps17
  go_wp2
  clear x0 x1 x2 x3 x4 x5 x6
  go_loopw [4] (fun iv wr => ∃ i : Nat, iv = .int .i64 (i : Int) ∧ i ≤ p.lns.length ∧ Below X.heap.size X wr ∧ Hid (orF (leF p (p.lns.drop i) i) (keF p p.cks 0) = R)) (fun iv _ => p.lns.length - (intOf iv).toNat)
  case atStart => exact ⟨0, rfl, Nat.zero_le _, Below.refl _ _, hst0⟩
  case round =>
    clear hst0
    obtain ⟨i, rfl, hi, hbr, hinv⟩ := hrel
    obtain ⟨wz, hwz⟩ : ∃ wz, wz = wr := ⟨_, rfl⟩
    subst hwz
    obtain ⟨q0, q1, q2, q3, q4, q5, q6⟩ := hPH.out wz hbr
    by_cases hlt : i < p.lns.length
    · have hlt' : (i : Int) < (p.lns.length : Int) := by omega
      have hi0 : (0 : Int) ≤ (i : Int) := by omega
      replace hinv := hinv.out
      rw [le_step p p.lns hlt, orF_assoc] at hinv
      have hLz := row_bel hLX hbr (Nat.le_refl _)
      have hOz := row_bel hOX hbr (Nat.le_refl _)
      obtain ⟨ga, oa, rfl⟩ := hLz.some hlt
      obtain ⟨cs, -, hga, ⟨ay, cy, rfl, -, hRy⟩, hcs⟩ := hLz.item hlt
      have hl6 := h6 _ (List.getElem_mem hlt)
      have kx : wz.cell? ⟨ga, oa + i * 7, none⟩ = some (.string ⟨(p.lns[i]).name.toArray⟩) ∧ wz.cell? ⟨ga, oa + i * 7 + 1, none⟩ = some (.bool (p.lns[i]).input) ∧ wz.cell? ⟨ga, oa + i * 7 + 2, none⟩ = some (.bool (p.lns[i]).must) ∧ wz.cell? ⟨ga, oa + i * 7 + 3, none⟩ = some (.int .i64 (p.lns[i]).type) ∧ wz.cell? ⟨ga, oa + i * 7 + 4, none⟩ = some (.int .i64 (p.lns[i]).opts) ∧ wz.cell? ⟨ga, oa + i * 7 + 5, none⟩ = some (.int .i64 (p.lns[i]).group) ∧ wz.cell? ⟨ga, oa + i * 7 + 6, none⟩ = some (.slice ay (p.lns[i]).cls.length cy) := ⟨hcs 0 (by decide), hcs 1 (by decide), hcs 2 (by decide), hcs 3 (by decide), hcs 4 (by decide), hcs 5 (by decide), hcs 6 (by decide)⟩
      generalize p.lns[i] = y at kx hRy hinv hl6
      obtain ⟨u0, u1, u2, u3, u4, u5, u6⟩ := kx
      obtain ⟨L, hL⟩ : ∃ L, lcF p y i y.cls 0 0 = L := ⟨_, rfl⟩
      rw [hL] at hinv
      have hLR := Hid.mk hinv
      have hinn : Hid (lcF p y i (y.cls.drop 0) 0 0 = L) := ⟨hL⟩
      obtain ⟨kd, hkd⟩ : ∃ kd, lineK y = kd := ⟨_, rfl⟩
      have hkH := Hid.mk hkd
      obtain ⟨Y, hYe⟩ : ∃ Y, wz.alloc (.cells #[.string ⟨y.name.toArray⟩, .bool y.input, .bool y.must, .int .i64 y.type, .int .i64 y.opts, .int .i64 y.group, .slice ay y.cls.length cy] 55) = Y := ⟨_, rfl⟩
      have hYB : Below wz.heap.size wz Y := by rw [← hYe]; exact (Below.refl _ _).alloc (Nat.le_refl _) _
      have hYl : wz.heap.size < Y.heap.size := by rw [← hYe]; simp
      have hYx : Bx Y wz.heap.size (#[.string ⟨y.name.toArray⟩, .bool y.input, .bool y.must, .int .i64 y.type, .int .i64 y.opts, .int .i64 y.group, .slice ay y.cls.length cy] : Array Value).toList := by rw [← hYe]; exact bx_new _ _ _
      have hbY := belT hbr hYB
      have hLH : Hid (∀ w, Below Y.heap.size Y w → w.cell? ⟨wz.heap.size, 0, none⟩ = some (.string ⟨y.name.toArray⟩) ∧ w.cell? ⟨wz.heap.size, 1, none⟩ = some (.bool y.input) ∧ w.cell? ⟨wz.heap.size, 2, none⟩ = some (.bool y.must) ∧ w.cell? ⟨wz.heap.size, 3, none⟩ = some (.int .i64 y.type) ∧ w.cell? ⟨wz.heap.size, 4, none⟩ = some (.int .i64 y.opts) ∧ w.cell? ⟨wz.heap.size, 5, none⟩ = some (.int .i64 y.group) ∧ w.cell? ⟨wz.heap.size, 6, none⟩ = some (.slice ay y.cls.length cy)) := ⟨fun w hw => by
        have h := hYx.kept (gr_bel hw) (by simp)
        exact ⟨h.2.1 0 (by simp), h.2.1 1 (by simp), h.2.1 2 (by simp), h.2.1 3 (by simp), h.2.1 4 (by simp), h.2.1 5 (by simp), h.2.1 6 (by simp)⟩⟩
      clear hL hinv hkd hcs hYx
      have hYH := Hid.mk hYe
      clear hYe
      go_wp2_with fail
      rw [hYH.out]
      clear u0 u1 u2 u3 u4 u5 u6 q0 q1 q2 q3 q4 q5 q6
      go_loopw [6, 7] (fun nv kv wr => ∃ (k n : Nat), kv = .int .i64 (k : Int) ∧ nv = .int .i64 (n : Int) ∧ k ≤ y.cls.length ∧ n ≤ 60 ∧ Below Y.heap.size Y wr ∧ Hid (lcF p y i (y.cls.drop k) k n = L)) (fun _ kv _ => y.cls.length - (intOf kv).toNat)
      case atStart => exact ⟨0, 0, rfl, rfl, Nat.zero_le _, Nat.zero_le _, Below.refl _ _, hinn⟩
      case round =>
        clear hinn
        obtain ⟨k, n, rfl, rfl, hkl, hn, hbi, hst⟩ := hrel
        obtain ⟨wi, hwi⟩ : ∃ wi, wi = wr := ⟨_, rfl⟩
        subst hwi
        by_cases hlk : k < y.cls.length
        · have hlk' : (k : Int) < (y.cls.length : Int) := by omega
          have hk0 : (0 : Int) ≤ (k : Int) := by omega
          have hst2 := hst.out
          rw [lc_step p y i y.cls hlk, hkH.out] at hst2
          obtain ⟨gc, oc, rfl⟩ := hRy.some hlk
          obtain ⟨cs, -, -, ⟨a1, c1, a2, c2, rfl, -, -, hF1, hF2⟩, hcs⟩ := hRy.item hlk
          have hgc : gc < wz.heap.size := World.block_lt_of_cell? _ _ (hcs 2 (by decide))
          have hCz : wz.cell? ⟨gc, oc + k * 12 + 2, none⟩ = some (.int .i64 (y.cls[k]).guard.op) ∧ wz.cell? ⟨gc, oc + k * 12 + 3, none⟩ = some (.int .i64 (y.cls[k]).guard.num) ∧ wz.cell? ⟨gc, oc + k * 12 + 4, none⟩ = some (.int .i64 (y.cls[k]).guard.den) ∧ wz.cell? ⟨gc, oc + k * 12 + 5, none⟩ = some (.int .i64 (y.cls[k]).guard.mode) ∧ wz.cell? ⟨gc, oc + k * 12 + 6, none⟩ = some (.slice a1 (y.cls[k]).guard.args.len c1) ∧ wz.cell? ⟨gc, oc + k * 12 + 7, none⟩ = some (.int .i64 (y.cls[k]).body.op) ∧ wz.cell? ⟨gc, oc + k * 12 + 8, none⟩ = some (.int .i64 (y.cls[k]).body.num) ∧ wz.cell? ⟨gc, oc + k * 12 + 9, none⟩ = some (.int .i64 (y.cls[k]).body.den) ∧ wz.cell? ⟨gc, oc + k * 12 + 10, none⟩ = some (.int .i64 (y.cls[k]).body.mode) ∧ wz.cell? ⟨gc, oc + k * 12 + 11, none⟩ = some (.slice a2 (y.cls[k]).body.args.len c2) := ⟨hcs 2 (by decide), hcs 3 (by decide), hcs 4 (by decide), hcs 5 (by decide), hcs 6 (by decide), hcs 7 (by decide), hcs 8 (by decide), hcs 9 (by decide), hcs 10 (by decide), hcs 11 (by decide)⟩
          generalize hxe : (y.cls[k]).guard = x at hCz hF1 hst2
          generalize hze : (y.cls[k]).body = z at hCz hF2 hst2
          have hSH : Hid (∀ w, Below Y.heap.size Y w → w.cell? ⟨W.heap.size, 0, none⟩ = some (.string ⟨p.name.toArray⟩) ∧ w.cell? ⟨W.heap.size, 1, none⟩ = some (.int .i64 p.year) ∧ w.cell? ⟨W.heap.size, 2, none⟩ = some (.slice a3 p.opts.length c3) ∧ w.cell? ⟨W.heap.size, 3, none⟩ = some (.slice a4 p.tabs.length c4) ∧ w.cell? ⟨W.heap.size, 4, none⟩ = some (.slice a5 p.grps.length c5) ∧ w.cell? ⟨W.heap.size, 5, none⟩ = some (.slice (some ⟨ga, oa, none⟩) p.lns.length c6) ∧ w.cell? ⟨W.heap.size, 6, none⟩ = some (.slice a7 p.cks.length c7) ∧ w.cell? ⟨wz.heap.size, 0, none⟩ = some (.string ⟨y.name.toArray⟩) ∧ w.cell? ⟨wz.heap.size, 1, none⟩ = some (.bool y.input) ∧ w.cell? ⟨wz.heap.size, 2, none⟩ = some (.bool y.must) ∧ w.cell? ⟨wz.heap.size, 3, none⟩ = some (.int .i64 y.type) ∧ w.cell? ⟨wz.heap.size, 4, none⟩ = some (.int .i64 y.opts) ∧ w.cell? ⟨wz.heap.size, 5, none⟩ = some (.int .i64 y.group) ∧ w.cell? ⟨wz.heap.size, 6, none⟩ = some (.slice (some ⟨gc, oc, none⟩) y.cls.length cy) ∧ w.cell? ⟨gc, oc + k * 12 + 2, none⟩ = some (.int .i64 x.op) ∧ w.cell? ⟨gc, oc + k * 12 + 3, none⟩ = some (.int .i64 x.num) ∧ w.cell? ⟨gc, oc + k * 12 + 4, none⟩ = some (.int .i64 x.den) ∧ w.cell? ⟨gc, oc + k * 12 + 5, none⟩ = some (.int .i64 x.mode) ∧ w.cell? ⟨gc, oc + k * 12 + 6, none⟩ = some (.slice a1 x.args.len c1) ∧ w.cell? ⟨gc, oc + k * 12 + 7, none⟩ = some (.int .i64 z.op) ∧ w.cell? ⟨gc, oc + k * 12 + 8, none⟩ = some (.int .i64 z.num) ∧ w.cell? ⟨gc, oc + k * 12 + 9, none⟩ = some (.int .i64 z.den) ∧ w.cell? ⟨gc, oc + k * 12 + 10, none⟩ = some (.int .i64 z.mode) ∧ w.cell? ⟨gc, oc + k * 12 + 11, none⟩ = some (.slice a2 z.args.len c2)) := ⟨fun w hw => by
            obtain ⟨p0, p1, p2, p3, p4, p5, p6⟩ := hPH.out w (belT hbY hw)
            obtain ⟨l0, l1, l2, l3, l4, l5, l6⟩ := hLH.out w hw
            obtain ⟨d0, d1, d2, d3, d4, d5, d6, d7, d8, d9⟩ := hCz
            have hm : ∀ j, w.cell? ⟨gc, j, none⟩ = wz.cell? ⟨gc, j, none⟩ := fun j => bel_cell (belT hYB hw) hgc j
            exact ⟨p0, p1, p2, p3, p4, p5, p6, l0, l1, l2, l3, l4, l5, l6, (hm _).trans d0, (hm _).trans d1, (hm _).trans d2, (hm _).trans d3, (hm _).trans d4, (hm _).trans d5, (hm _).trans d6, (hm _).trans d7, (hm _).trans d8, (hm _).trans d9⟩⟩
          have hF1Y := fo_fr hF1 hYB
          have hF2Y := fo_fr hF2 hYB
          have hLYr := row_bel hLz hYB (Nat.le_refl _)
          have hOYr := row_bel hOz hYB (Nat.le_refl _)
          have hT1n : Hid (∀ w, Below Y.heap.size Y w → Calls Tryz.prog 30 #[.agg #[.string ⟨p.name.toArray⟩, .int .i64 p.year, .slice a3 p.opts.length c3, .slice a4 p.tabs.length c4, .slice a5 p.grps.length c5, .slice (some ⟨ga, oa, none⟩) p.lns.length c6, .slice a7 p.cks.length c7], .int .i64 y.group, .agg #[.int .i64 x.op, .int .i64 x.num, .int .i64 x.den, .int .i64 x.mode, .slice a1 x.args.len c1], .agg #[.int .i64 3, .int .i64 (-1)], .int .i64 (n : Int)] w (TdP w (tdF p y.group (3, -1) x n))) := ⟨fun w hw => typed_any p a3 a4 a5 (some ⟨ga, oa, none⟩) a7 c3 c4 c5 c6 c7 y.group x a1 c1 (3, -1) n hn w (row_bel hLYr hw (Nat.le_refl _)) (row_bel hOYr hw (Nat.le_refl _)) (fo_fr hF1Y hw)⟩
          have hT2n : Hid (∀ w, Below Y.heap.size Y w → ∀ n1 : Nat, n1 ≤ 60 → Calls Tryz.prog 30 #[.agg #[.string ⟨p.name.toArray⟩, .int .i64 p.year, .slice a3 p.opts.length c3, .slice a4 p.tabs.length c4, .slice a5 p.grps.length c5, .slice (some ⟨ga, oa, none⟩) p.lns.length c6, .slice a7 p.cks.length c7], .int .i64 y.group, .agg #[.int .i64 z.op, .int .i64 z.num, .int .i64 z.den, .int .i64 z.mode, .slice a2 z.args.len c2], .agg #[.int .i64 kd.1, .int .i64 kd.2], .int .i64 (n1 : Int)] w (TdP w (tdF p y.group kd z n1))) := ⟨fun w hw n1 hn1 => typed_any p a3 a4 a5 (some ⟨ga, oa, none⟩) a7 c3 c4 c5 c6 c7 y.group z a2 c2 kd n1 hn1 w (row_bel hLYr hw (Nat.le_refl _)) (row_bel hOYr hw (Nat.le_refl _)) (fo_fr hF2Y hw)⟩
          have hOf : Hid (∀ w, Below Y.heap.size Y w → Calls Tryz.prog 32 #[.agg #[.string ⟨y.name.toArray⟩, .bool y.input, .bool y.must, .int .i64 y.type, .int .i64 y.opts, .int .i64 y.group, .slice (some ⟨gc, oc, none⟩) y.cls.length cy]] w (Lk (.agg #[.int .i64 kd.1, .int .i64 kd.2]) w)) := ⟨fun w _ => by
            rw [← hkH.out]
            exact of_any y (some ⟨gc, oc, none⟩) cy w⟩
          obtain ⟨s0, s1, s2, s3, s4, s5, s6, s7, s8, s9, s10, s11, s12, s13, s14, s15, s16, s17, s18, s19, s20, s21, s22, s23⟩ := hSH.out wi hbi
          have hBd : Below wi.heap.size wi wi.drew := (Below.refl _ _).drew
          have hbD := belT hbi hBd
          have hS0 := hSH.out wi.drew hbD
          have hRnd : Hid (∀ f, L = some f → some f = R) := ⟨fun f hf => by have := hLR.out; rw [hf] at this; exact this⟩
          clear hst hcs hCz hF1 hF2 hxe hze
          by_cases hk1 : 0 < k
          · have hk1' : (0 : Int) < (k : Int) := by omega
            rw [if_pos hk1] at hst2
            obtain ⟨r1, hr1⟩ : ∃ r1, tdF p y.group (3, -1) x n = r1 := ⟨_, rfl⟩
            rw [hr1] at hst2
            have hT1 : Hid (∀ w, Below Y.heap.size Y w → Calls Tryz.prog 30 #[.agg #[.string ⟨p.name.toArray⟩, .int .i64 p.year, .slice a3 p.opts.length c3, .slice a4 p.tabs.length c4, .slice a5 p.grps.length c5, .slice (some ⟨ga, oa, none⟩) p.lns.length c6, .slice a7 p.cks.length c7], .int .i64 y.group, .agg #[.int .i64 x.op, .int .i64 x.num, .int .i64 x.den, .int .i64 x.mode, .slice a1 x.args.len c1], .agg #[.int .i64 3, .int .i64 (-1)], .int .i64 (n : Int)] w (TdP w (r1))) := ⟨fun w hw => hr1 ▸ hT1n.out w hw⟩
            cases r1 with
            | error er =>
              have hp := td_er hr1
              have he' : ((er.2 : Int) != 0) = true := by simp; omega
              have hRe : R = some (⟨5, i, k, 0 :: er.1⟩, er.2) := (hRnd.out _ hst2.symm).symm
              replace hRe := Hid.mk hRe
              clear hst2 hr1 hRnd hLR
              clear hT1n hT2n hOf
              go_wp2_with fail
              go_region_held3 (fun Z => Z.cell? ⟨W.heap.size, 0, none⟩ = some (.string ⟨p.name.toArray⟩) ∧ Z.cell? ⟨W.heap.size, 1, none⟩ = some (.int .i64 p.year) ∧ Z.cell? ⟨W.heap.size, 2, none⟩ = some (.slice a3 p.opts.length c3) ∧ Z.cell? ⟨W.heap.size, 3, none⟩ = some (.slice a4 p.tabs.length c4) ∧ Z.cell? ⟨W.heap.size, 4, none⟩ = some (.slice a5 p.grps.length c5) ∧ Z.cell? ⟨W.heap.size, 5, none⟩ = some (.slice (some ⟨ga, oa, none⟩) p.lns.length c6) ∧ Z.cell? ⟨W.heap.size, 6, none⟩ = some (.slice a7 p.cks.length c7) ∧ Z.cell? ⟨wz.heap.size, 0, none⟩ = some (.string ⟨y.name.toArray⟩) ∧ Z.cell? ⟨wz.heap.size, 1, none⟩ = some (.bool y.input) ∧ Z.cell? ⟨wz.heap.size, 2, none⟩ = some (.bool y.must) ∧ Z.cell? ⟨wz.heap.size, 3, none⟩ = some (.int .i64 y.type) ∧ Z.cell? ⟨wz.heap.size, 4, none⟩ = some (.int .i64 y.opts) ∧ Z.cell? ⟨wz.heap.size, 5, none⟩ = some (.int .i64 y.group) ∧ Z.cell? ⟨wz.heap.size, 6, none⟩ = some (.slice (some ⟨gc, oc, none⟩) y.cls.length cy) ∧ Z.cell? ⟨gc, oc + k * 12 + 2, none⟩ = some (.int .i64 x.op) ∧ Z.cell? ⟨gc, oc + k * 12 + 3, none⟩ = some (.int .i64 x.num) ∧ Z.cell? ⟨gc, oc + k * 12 + 4, none⟩ = some (.int .i64 x.den) ∧ Z.cell? ⟨gc, oc + k * 12 + 5, none⟩ = some (.int .i64 x.mode) ∧ Z.cell? ⟨gc, oc + k * 12 + 6, none⟩ = some (.slice a1 x.args.len c1) ∧ Z.cell? ⟨gc, oc + k * 12 + 7, none⟩ = some (.int .i64 z.op) ∧ Z.cell? ⟨gc, oc + k * 12 + 8, none⟩ = some (.int .i64 z.num) ∧ Z.cell? ⟨gc, oc + k * 12 + 9, none⟩ = some (.int .i64 z.den) ∧ Z.cell? ⟨gc, oc + k * 12 + 10, none⟩ = some (.int .i64 z.mode) ∧ Z.cell? ⟨gc, oc + k * 12 + 11, none⟩ = some (.slice a2 z.args.len c2)) (with_reducible assumption)
                (first | (go_at_call 30; refine (hT1.out _ hbD).mono ?_; rintro e w5 ⟨hb5, pv5, rfl, hpt5⟩; have hbE := belT hbD hb5; have hS5 := hSH.out w5 hbE; have hbF := belT hbE ((Below.refl _ _).drew); have hS6 := hSH.out w5.drew hbF))
              clear hS0 hS6
              have hah := ahead_any 0 er.1 pv5 _ _ hpt5 (by omega)
              have hszH : W.heap.size + 1 < w5.heap.size := Nat.lt_of_lt_of_le (by omega) (belT hbY hbE).size
              go_wp2_with (go_at_call 31; refine hah.mono ?_; rintro e w9 ⟨v9, rfl, hpt9, hb9⟩; obtain ⟨av, nv, cv, rfl⟩ := hpt9.sl; have hbJ := belT (belT hbY hbE) hb9; have rkj := (hBxH.out w9 hbJ).2; have fkj0 := frozen_of_row _ _ 0 _ _ rkj; have fkj1 := frozen_of_row _ _ 1 _ _ rkj; have fkj2 := frozen_of_row _ _ 2 _ _ rkj; have fkj3 := frozen_of_row _ _ 3 _ _ rkj; have ckj0 : w9.cell? ⟨W.heap.size + 1, 0, none⟩ = some (.int .i64 0) := cell_of_row _ _ 0 _ _ _ rkj; have ckj1 : w9.cell? ⟨W.heap.size + 1, 1, none⟩ = some (.int .i64 0) := cell_of_row _ _ 1 _ _ _ rkj; have ckj2 : w9.cell? ⟨W.heap.size + 1, 2, none⟩ = some (.int .i64 0) := cell_of_row _ _ 2 _ _ _ rkj; have ckj3 : w9.cell? ⟨W.heap.size + 1, 3, none⟩ = some (.slice none 0 0) := cell_of_row _ _ 3 _ _ _ rkj)
              refine bodyPost_ret (v := .tuple #[.agg #[.int .i64 5, .int .i64 (i : Int), .int .i64 (k : Int), .slice av nv cv], .int .i64 (er.2 : Int)]) (results_cellK Tryz.results17 _ _ (W.heap.size + 1) 33 _ (0, 0) _ rfl (row_four rkj _ _ _ _) Tryz.underlying33 rfl info_sp) rfl ?_
              rw [← hQH.out, hRe.out]
              exact fa_err (f := (⟨5, i, k, 0 :: er.1⟩, er.2)) (belT hb0 hbJ) (by omega) hpt9 hszH
            | ok n1 =>
              have hn1 := td_le hr1
              simp only at hst2
              clear hr1
              obtain ⟨r2, hr2⟩ : ∃ r2, tdF p y.group kd z n1 = r2 := ⟨_, rfl⟩
              rw [hr2] at hst2
              have hT2 : Hid (∀ w, Below Y.heap.size Y w → Calls Tryz.prog 30 #[.agg #[.string ⟨p.name.toArray⟩, .int .i64 p.year, .slice a3 p.opts.length c3, .slice a4 p.tabs.length c4, .slice a5 p.grps.length c5, .slice (some ⟨ga, oa, none⟩) p.lns.length c6, .slice a7 p.cks.length c7], .int .i64 y.group, .agg #[.int .i64 z.op, .int .i64 z.num, .int .i64 z.den, .int .i64 z.mode, .slice a2 z.args.len c2], .agg #[.int .i64 kd.1, .int .i64 kd.2], .int .i64 (n1 : Int)] w (TdP w (r2))) := ⟨fun w hw => hr2 ▸ hT2n.out w hw n1 hn1⟩
              clear hT2n hT1n
              cases r2 with
              | error er =>
                have hp := td_er hr2
                have he' : ((er.2 : Int) != 0) = true := by simp; omega
                have hRe : R = some (⟨5, i, k, 1 :: er.1⟩, er.2) := (hRnd.out _ hst2.symm).symm
                replace hRe := Hid.mk hRe
                clear hst2 hr2 hRnd hLR
                go_wp2_with fail
                go_region_held3 (fun Z => Z.cell? ⟨W.heap.size, 0, none⟩ = some (.string ⟨p.name.toArray⟩) ∧ Z.cell? ⟨W.heap.size, 1, none⟩ = some (.int .i64 p.year) ∧ Z.cell? ⟨W.heap.size, 2, none⟩ = some (.slice a3 p.opts.length c3) ∧ Z.cell? ⟨W.heap.size, 3, none⟩ = some (.slice a4 p.tabs.length c4) ∧ Z.cell? ⟨W.heap.size, 4, none⟩ = some (.slice a5 p.grps.length c5) ∧ Z.cell? ⟨W.heap.size, 5, none⟩ = some (.slice (some ⟨ga, oa, none⟩) p.lns.length c6) ∧ Z.cell? ⟨W.heap.size, 6, none⟩ = some (.slice a7 p.cks.length c7) ∧ Z.cell? ⟨wz.heap.size, 0, none⟩ = some (.string ⟨y.name.toArray⟩) ∧ Z.cell? ⟨wz.heap.size, 1, none⟩ = some (.bool y.input) ∧ Z.cell? ⟨wz.heap.size, 2, none⟩ = some (.bool y.must) ∧ Z.cell? ⟨wz.heap.size, 3, none⟩ = some (.int .i64 y.type) ∧ Z.cell? ⟨wz.heap.size, 4, none⟩ = some (.int .i64 y.opts) ∧ Z.cell? ⟨wz.heap.size, 5, none⟩ = some (.int .i64 y.group) ∧ Z.cell? ⟨wz.heap.size, 6, none⟩ = some (.slice (some ⟨gc, oc, none⟩) y.cls.length cy) ∧ Z.cell? ⟨gc, oc + k * 12 + 2, none⟩ = some (.int .i64 x.op) ∧ Z.cell? ⟨gc, oc + k * 12 + 3, none⟩ = some (.int .i64 x.num) ∧ Z.cell? ⟨gc, oc + k * 12 + 4, none⟩ = some (.int .i64 x.den) ∧ Z.cell? ⟨gc, oc + k * 12 + 5, none⟩ = some (.int .i64 x.mode) ∧ Z.cell? ⟨gc, oc + k * 12 + 6, none⟩ = some (.slice a1 x.args.len c1) ∧ Z.cell? ⟨gc, oc + k * 12 + 7, none⟩ = some (.int .i64 z.op) ∧ Z.cell? ⟨gc, oc + k * 12 + 8, none⟩ = some (.int .i64 z.num) ∧ Z.cell? ⟨gc, oc + k * 12 + 9, none⟩ = some (.int .i64 z.den) ∧ Z.cell? ⟨gc, oc + k * 12 + 10, none⟩ = some (.int .i64 z.mode) ∧ Z.cell? ⟨gc, oc + k * 12 + 11, none⟩ = some (.slice a2 z.args.len c2)) (with_reducible assumption)
                  (first | (go_at_call 30; refine (hT1.out _ hbD).mono ?_; rintro e w5 ⟨hb5, rfl⟩; have hbE := belT hbD hb5; have hS5 := hSH.out w5 hbE; have hbF := belT hbE ((Below.refl _ _).drew); have hS6 := hSH.out w5.drew hbF))
                clear hS0 hS5
                go_wp2_with fail
                go_region_held3 (fun Z => Z.cell? ⟨W.heap.size, 0, none⟩ = some (.string ⟨p.name.toArray⟩) ∧ Z.cell? ⟨W.heap.size, 1, none⟩ = some (.int .i64 p.year) ∧ Z.cell? ⟨W.heap.size, 2, none⟩ = some (.slice a3 p.opts.length c3) ∧ Z.cell? ⟨W.heap.size, 3, none⟩ = some (.slice a4 p.tabs.length c4) ∧ Z.cell? ⟨W.heap.size, 4, none⟩ = some (.slice a5 p.grps.length c5) ∧ Z.cell? ⟨W.heap.size, 5, none⟩ = some (.slice (some ⟨ga, oa, none⟩) p.lns.length c6) ∧ Z.cell? ⟨W.heap.size, 6, none⟩ = some (.slice a7 p.cks.length c7) ∧ Z.cell? ⟨wz.heap.size, 0, none⟩ = some (.string ⟨y.name.toArray⟩) ∧ Z.cell? ⟨wz.heap.size, 1, none⟩ = some (.bool y.input) ∧ Z.cell? ⟨wz.heap.size, 2, none⟩ = some (.bool y.must) ∧ Z.cell? ⟨wz.heap.size, 3, none⟩ = some (.int .i64 y.type) ∧ Z.cell? ⟨wz.heap.size, 4, none⟩ = some (.int .i64 y.opts) ∧ Z.cell? ⟨wz.heap.size, 5, none⟩ = some (.int .i64 y.group) ∧ Z.cell? ⟨wz.heap.size, 6, none⟩ = some (.slice (some ⟨gc, oc, none⟩) y.cls.length cy) ∧ Z.cell? ⟨gc, oc + k * 12 + 2, none⟩ = some (.int .i64 x.op) ∧ Z.cell? ⟨gc, oc + k * 12 + 3, none⟩ = some (.int .i64 x.num) ∧ Z.cell? ⟨gc, oc + k * 12 + 4, none⟩ = some (.int .i64 x.den) ∧ Z.cell? ⟨gc, oc + k * 12 + 5, none⟩ = some (.int .i64 x.mode) ∧ Z.cell? ⟨gc, oc + k * 12 + 6, none⟩ = some (.slice a1 x.args.len c1) ∧ Z.cell? ⟨gc, oc + k * 12 + 7, none⟩ = some (.int .i64 z.op) ∧ Z.cell? ⟨gc, oc + k * 12 + 8, none⟩ = some (.int .i64 z.num) ∧ Z.cell? ⟨gc, oc + k * 12 + 9, none⟩ = some (.int .i64 z.den) ∧ Z.cell? ⟨gc, oc + k * 12 + 10, none⟩ = some (.int .i64 z.mode) ∧ Z.cell? ⟨gc, oc + k * 12 + 11, none⟩ = some (.slice a2 z.args.len c2)) (with_reducible assumption)
                  (first | (go_at_call 32; refine (hOf.out _ hbF).mono ?_; rintro e w7 ⟨rfl, hb7⟩; have hbG := belT hbF hb7; have hS7 := hSH.out w7 hbG; have hT2w := hT2.out w7 hbG) | (go_at_call 30; refine hT2w.mono ?_; rintro e w8 ⟨hb8, pv8, rfl, hpt8⟩; have hbH := belT hbG hb8; have hS8 := hSH.out w8 hbH))
                clear hS6 hS7 hS8
                have hah := ahead_any 1 er.1 pv8 _ _ hpt8 (by omega)
                have hszH : W.heap.size + 1 < w8.heap.size := Nat.lt_of_lt_of_le (by omega) (belT hbY hbH).size
                go_wp2_with (go_at_call 31; refine hah.mono ?_; rintro e w9 ⟨v9, rfl, hpt9, hb9⟩; obtain ⟨av, nv, cv, rfl⟩ := hpt9.sl; have hbJ := belT (belT hbY hbH) hb9; have rkj := (hBxH.out w9 hbJ).2; have fkj0 := frozen_of_row _ _ 0 _ _ rkj; have fkj1 := frozen_of_row _ _ 1 _ _ rkj; have fkj2 := frozen_of_row _ _ 2 _ _ rkj; have fkj3 := frozen_of_row _ _ 3 _ _ rkj; have ckj0 : w9.cell? ⟨W.heap.size + 1, 0, none⟩ = some (.int .i64 0) := cell_of_row _ _ 0 _ _ _ rkj; have ckj1 : w9.cell? ⟨W.heap.size + 1, 1, none⟩ = some (.int .i64 0) := cell_of_row _ _ 1 _ _ _ rkj; have ckj2 : w9.cell? ⟨W.heap.size + 1, 2, none⟩ = some (.int .i64 0) := cell_of_row _ _ 2 _ _ _ rkj; have ckj3 : w9.cell? ⟨W.heap.size + 1, 3, none⟩ = some (.slice none 0 0) := cell_of_row _ _ 3 _ _ _ rkj)
                refine bodyPost_ret (v := .tuple #[.agg #[.int .i64 5, .int .i64 (i : Int), .int .i64 (k : Int), .slice av nv cv], .int .i64 (er.2 : Int)]) (results_cellK Tryz.results17 _ _ (W.heap.size + 1) 33 _ (0, 0) _ rfl (row_four rkj _ _ _ _) Tryz.underlying33 rfl info_sp) rfl ?_
                rw [← hQH.out, hRe.out]
                exact fa_err (f := (⟨5, i, k, 1 :: er.1⟩, er.2)) (belT hb0 hbJ) (by omega) hpt9 hszH
              | ok n2 =>
                have hn2 := td_le hr2
                have hnx := Hid.mk hst2
                clear hst2 hr2 hRnd
                go_wp2_with fail
                go_region_held3 (fun Z => Z.cell? ⟨W.heap.size, 0, none⟩ = some (.string ⟨p.name.toArray⟩) ∧ Z.cell? ⟨W.heap.size, 1, none⟩ = some (.int .i64 p.year) ∧ Z.cell? ⟨W.heap.size, 2, none⟩ = some (.slice a3 p.opts.length c3) ∧ Z.cell? ⟨W.heap.size, 3, none⟩ = some (.slice a4 p.tabs.length c4) ∧ Z.cell? ⟨W.heap.size, 4, none⟩ = some (.slice a5 p.grps.length c5) ∧ Z.cell? ⟨W.heap.size, 5, none⟩ = some (.slice (some ⟨ga, oa, none⟩) p.lns.length c6) ∧ Z.cell? ⟨W.heap.size, 6, none⟩ = some (.slice a7 p.cks.length c7) ∧ Z.cell? ⟨wz.heap.size, 0, none⟩ = some (.string ⟨y.name.toArray⟩) ∧ Z.cell? ⟨wz.heap.size, 1, none⟩ = some (.bool y.input) ∧ Z.cell? ⟨wz.heap.size, 2, none⟩ = some (.bool y.must) ∧ Z.cell? ⟨wz.heap.size, 3, none⟩ = some (.int .i64 y.type) ∧ Z.cell? ⟨wz.heap.size, 4, none⟩ = some (.int .i64 y.opts) ∧ Z.cell? ⟨wz.heap.size, 5, none⟩ = some (.int .i64 y.group) ∧ Z.cell? ⟨wz.heap.size, 6, none⟩ = some (.slice (some ⟨gc, oc, none⟩) y.cls.length cy) ∧ Z.cell? ⟨gc, oc + k * 12 + 2, none⟩ = some (.int .i64 x.op) ∧ Z.cell? ⟨gc, oc + k * 12 + 3, none⟩ = some (.int .i64 x.num) ∧ Z.cell? ⟨gc, oc + k * 12 + 4, none⟩ = some (.int .i64 x.den) ∧ Z.cell? ⟨gc, oc + k * 12 + 5, none⟩ = some (.int .i64 x.mode) ∧ Z.cell? ⟨gc, oc + k * 12 + 6, none⟩ = some (.slice a1 x.args.len c1) ∧ Z.cell? ⟨gc, oc + k * 12 + 7, none⟩ = some (.int .i64 z.op) ∧ Z.cell? ⟨gc, oc + k * 12 + 8, none⟩ = some (.int .i64 z.num) ∧ Z.cell? ⟨gc, oc + k * 12 + 9, none⟩ = some (.int .i64 z.den) ∧ Z.cell? ⟨gc, oc + k * 12 + 10, none⟩ = some (.int .i64 z.mode) ∧ Z.cell? ⟨gc, oc + k * 12 + 11, none⟩ = some (.slice a2 z.args.len c2)) (with_reducible assumption)
                  (first | (go_at_call 30; refine (hT1.out _ hbD).mono ?_; rintro e w5 ⟨hb5, rfl⟩; have hbE := belT hbD hb5; have hS5 := hSH.out w5 hbE; have hbF := belT hbE ((Below.refl _ _).drew); have hS6 := hSH.out w5.drew hbF))
                clear hS0 hS5
                go_wp2_with fail
                go_region_held3 (fun Z => Z.cell? ⟨W.heap.size, 0, none⟩ = some (.string ⟨p.name.toArray⟩) ∧ Z.cell? ⟨W.heap.size, 1, none⟩ = some (.int .i64 p.year) ∧ Z.cell? ⟨W.heap.size, 2, none⟩ = some (.slice a3 p.opts.length c3) ∧ Z.cell? ⟨W.heap.size, 3, none⟩ = some (.slice a4 p.tabs.length c4) ∧ Z.cell? ⟨W.heap.size, 4, none⟩ = some (.slice a5 p.grps.length c5) ∧ Z.cell? ⟨W.heap.size, 5, none⟩ = some (.slice (some ⟨ga, oa, none⟩) p.lns.length c6) ∧ Z.cell? ⟨W.heap.size, 6, none⟩ = some (.slice a7 p.cks.length c7) ∧ Z.cell? ⟨wz.heap.size, 0, none⟩ = some (.string ⟨y.name.toArray⟩) ∧ Z.cell? ⟨wz.heap.size, 1, none⟩ = some (.bool y.input) ∧ Z.cell? ⟨wz.heap.size, 2, none⟩ = some (.bool y.must) ∧ Z.cell? ⟨wz.heap.size, 3, none⟩ = some (.int .i64 y.type) ∧ Z.cell? ⟨wz.heap.size, 4, none⟩ = some (.int .i64 y.opts) ∧ Z.cell? ⟨wz.heap.size, 5, none⟩ = some (.int .i64 y.group) ∧ Z.cell? ⟨wz.heap.size, 6, none⟩ = some (.slice (some ⟨gc, oc, none⟩) y.cls.length cy) ∧ Z.cell? ⟨gc, oc + k * 12 + 2, none⟩ = some (.int .i64 x.op) ∧ Z.cell? ⟨gc, oc + k * 12 + 3, none⟩ = some (.int .i64 x.num) ∧ Z.cell? ⟨gc, oc + k * 12 + 4, none⟩ = some (.int .i64 x.den) ∧ Z.cell? ⟨gc, oc + k * 12 + 5, none⟩ = some (.int .i64 x.mode) ∧ Z.cell? ⟨gc, oc + k * 12 + 6, none⟩ = some (.slice a1 x.args.len c1) ∧ Z.cell? ⟨gc, oc + k * 12 + 7, none⟩ = some (.int .i64 z.op) ∧ Z.cell? ⟨gc, oc + k * 12 + 8, none⟩ = some (.int .i64 z.num) ∧ Z.cell? ⟨gc, oc + k * 12 + 9, none⟩ = some (.int .i64 z.den) ∧ Z.cell? ⟨gc, oc + k * 12 + 10, none⟩ = some (.int .i64 z.mode) ∧ Z.cell? ⟨gc, oc + k * 12 + 11, none⟩ = some (.slice a2 z.args.len c2)) (with_reducible assumption)
                  (first | (go_at_call 32; refine (hOf.out _ hbF).mono ?_; rintro e w7 ⟨rfl, hb7⟩; have hbG := belT hbF hb7; have hS7 := hSH.out w7 hbG; have hT2w := hT2.out w7 hbG) | (go_at_call 30; refine hT2w.mono ?_; rintro e w8 ⟨hb8, rfl⟩; have hbH := belT hbG hb8; have hS8 := hSH.out w8 hbH))
                clear hS6 hS7 hS8
                go_wp2
                exact ⟨⟨k + 1, n2, rfl, rfl, hlk, hn2, hbH, hnx⟩, by simp only [intOf]; omega⟩
          · have hk1' : ¬ (0 : Int) < (k : Int) := by omega
            rw [if_neg hk1] at hst2
            simp only at hst2
            obtain ⟨r2, hr2⟩ : ∃ r2, tdF p y.group kd z n = r2 := ⟨_, rfl⟩
            rw [hr2] at hst2
            have hT2 : Hid (∀ w, Below Y.heap.size Y w → Calls Tryz.prog 30 #[.agg #[.string ⟨p.name.toArray⟩, .int .i64 p.year, .slice a3 p.opts.length c3, .slice a4 p.tabs.length c4, .slice a5 p.grps.length c5, .slice (some ⟨ga, oa, none⟩) p.lns.length c6, .slice a7 p.cks.length c7], .int .i64 y.group, .agg #[.int .i64 z.op, .int .i64 z.num, .int .i64 z.den, .int .i64 z.mode, .slice a2 z.args.len c2], .agg #[.int .i64 kd.1, .int .i64 kd.2], .int .i64 (n : Int)] w (TdP w (r2))) := ⟨fun w hw => hr2 ▸ hT2n.out w hw n hn⟩
            clear hT2n hT1n
            cases r2 with
            | error er =>
              have hp := td_er hr2
              have he' : ((er.2 : Int) != 0) = true := by simp; omega
              have hRe : R = some (⟨5, i, k, 1 :: er.1⟩, er.2) := (hRnd.out _ hst2.symm).symm
              replace hRe := Hid.mk hRe
              clear hst2 hr2 hRnd hLR
              go_wp2_with fail
              go_region_held3 (fun Z => Z.cell? ⟨W.heap.size, 0, none⟩ = some (.string ⟨p.name.toArray⟩) ∧ Z.cell? ⟨W.heap.size, 1, none⟩ = some (.int .i64 p.year) ∧ Z.cell? ⟨W.heap.size, 2, none⟩ = some (.slice a3 p.opts.length c3) ∧ Z.cell? ⟨W.heap.size, 3, none⟩ = some (.slice a4 p.tabs.length c4) ∧ Z.cell? ⟨W.heap.size, 4, none⟩ = some (.slice a5 p.grps.length c5) ∧ Z.cell? ⟨W.heap.size, 5, none⟩ = some (.slice (some ⟨ga, oa, none⟩) p.lns.length c6) ∧ Z.cell? ⟨W.heap.size, 6, none⟩ = some (.slice a7 p.cks.length c7) ∧ Z.cell? ⟨wz.heap.size, 0, none⟩ = some (.string ⟨y.name.toArray⟩) ∧ Z.cell? ⟨wz.heap.size, 1, none⟩ = some (.bool y.input) ∧ Z.cell? ⟨wz.heap.size, 2, none⟩ = some (.bool y.must) ∧ Z.cell? ⟨wz.heap.size, 3, none⟩ = some (.int .i64 y.type) ∧ Z.cell? ⟨wz.heap.size, 4, none⟩ = some (.int .i64 y.opts) ∧ Z.cell? ⟨wz.heap.size, 5, none⟩ = some (.int .i64 y.group) ∧ Z.cell? ⟨wz.heap.size, 6, none⟩ = some (.slice (some ⟨gc, oc, none⟩) y.cls.length cy) ∧ Z.cell? ⟨gc, oc + k * 12 + 2, none⟩ = some (.int .i64 x.op) ∧ Z.cell? ⟨gc, oc + k * 12 + 3, none⟩ = some (.int .i64 x.num) ∧ Z.cell? ⟨gc, oc + k * 12 + 4, none⟩ = some (.int .i64 x.den) ∧ Z.cell? ⟨gc, oc + k * 12 + 5, none⟩ = some (.int .i64 x.mode) ∧ Z.cell? ⟨gc, oc + k * 12 + 6, none⟩ = some (.slice a1 x.args.len c1) ∧ Z.cell? ⟨gc, oc + k * 12 + 7, none⟩ = some (.int .i64 z.op) ∧ Z.cell? ⟨gc, oc + k * 12 + 8, none⟩ = some (.int .i64 z.num) ∧ Z.cell? ⟨gc, oc + k * 12 + 9, none⟩ = some (.int .i64 z.den) ∧ Z.cell? ⟨gc, oc + k * 12 + 10, none⟩ = some (.int .i64 z.mode) ∧ Z.cell? ⟨gc, oc + k * 12 + 11, none⟩ = some (.slice a2 z.args.len c2)) (with_reducible assumption)
                (first | (go_at_call 32; refine (hOf.out _ hbD).mono ?_; rintro e w7 ⟨rfl, hb7⟩; have hbG := belT hbD hb7; have hS7 := hSH.out w7 hbG; have hT2w := hT2.out w7 hbG) | (go_at_call 30; refine hT2w.mono ?_; rintro e w8 ⟨hb8, pv8, rfl, hpt8⟩; have hbH := belT hbG hb8; have hS8 := hSH.out w8 hbH))
              clear hS0 hS7 hS8
              have hah := ahead_any 1 er.1 pv8 _ _ hpt8 (by omega)
              have hszH : W.heap.size + 1 < w8.heap.size := Nat.lt_of_lt_of_le (by omega) (belT hbY hbH).size
              go_wp2_with (go_at_call 31; refine hah.mono ?_; rintro e w9 ⟨v9, rfl, hpt9, hb9⟩; obtain ⟨av, nv, cv, rfl⟩ := hpt9.sl; have hbJ := belT (belT hbY hbH) hb9; have rkj := (hBxH.out w9 hbJ).2; have fkj0 := frozen_of_row _ _ 0 _ _ rkj; have fkj1 := frozen_of_row _ _ 1 _ _ rkj; have fkj2 := frozen_of_row _ _ 2 _ _ rkj; have fkj3 := frozen_of_row _ _ 3 _ _ rkj; have ckj0 : w9.cell? ⟨W.heap.size + 1, 0, none⟩ = some (.int .i64 0) := cell_of_row _ _ 0 _ _ _ rkj; have ckj1 : w9.cell? ⟨W.heap.size + 1, 1, none⟩ = some (.int .i64 0) := cell_of_row _ _ 1 _ _ _ rkj; have ckj2 : w9.cell? ⟨W.heap.size + 1, 2, none⟩ = some (.int .i64 0) := cell_of_row _ _ 2 _ _ _ rkj; have ckj3 : w9.cell? ⟨W.heap.size + 1, 3, none⟩ = some (.slice none 0 0) := cell_of_row _ _ 3 _ _ _ rkj)
              refine bodyPost_ret (v := .tuple #[.agg #[.int .i64 5, .int .i64 (i : Int), .int .i64 (k : Int), .slice av nv cv], .int .i64 (er.2 : Int)]) (results_cellK Tryz.results17 _ _ (W.heap.size + 1) 33 _ (0, 0) _ rfl (row_four rkj _ _ _ _) Tryz.underlying33 rfl info_sp) rfl ?_
              rw [← hQH.out, hRe.out]
              exact fa_err (f := (⟨5, i, k, 1 :: er.1⟩, er.2)) (belT hb0 hbJ) (by omega) hpt9 hszH
            | ok n2 =>
              have hn2 := td_le hr2
              have hnx := Hid.mk hst2
              clear hst2 hr2 hRnd
              go_wp2_with fail
              go_region_held3 (fun Z => Z.cell? ⟨W.heap.size, 0, none⟩ = some (.string ⟨p.name.toArray⟩) ∧ Z.cell? ⟨W.heap.size, 1, none⟩ = some (.int .i64 p.year) ∧ Z.cell? ⟨W.heap.size, 2, none⟩ = some (.slice a3 p.opts.length c3) ∧ Z.cell? ⟨W.heap.size, 3, none⟩ = some (.slice a4 p.tabs.length c4) ∧ Z.cell? ⟨W.heap.size, 4, none⟩ = some (.slice a5 p.grps.length c5) ∧ Z.cell? ⟨W.heap.size, 5, none⟩ = some (.slice (some ⟨ga, oa, none⟩) p.lns.length c6) ∧ Z.cell? ⟨W.heap.size, 6, none⟩ = some (.slice a7 p.cks.length c7) ∧ Z.cell? ⟨wz.heap.size, 0, none⟩ = some (.string ⟨y.name.toArray⟩) ∧ Z.cell? ⟨wz.heap.size, 1, none⟩ = some (.bool y.input) ∧ Z.cell? ⟨wz.heap.size, 2, none⟩ = some (.bool y.must) ∧ Z.cell? ⟨wz.heap.size, 3, none⟩ = some (.int .i64 y.type) ∧ Z.cell? ⟨wz.heap.size, 4, none⟩ = some (.int .i64 y.opts) ∧ Z.cell? ⟨wz.heap.size, 5, none⟩ = some (.int .i64 y.group) ∧ Z.cell? ⟨wz.heap.size, 6, none⟩ = some (.slice (some ⟨gc, oc, none⟩) y.cls.length cy) ∧ Z.cell? ⟨gc, oc + k * 12 + 2, none⟩ = some (.int .i64 x.op) ∧ Z.cell? ⟨gc, oc + k * 12 + 3, none⟩ = some (.int .i64 x.num) ∧ Z.cell? ⟨gc, oc + k * 12 + 4, none⟩ = some (.int .i64 x.den) ∧ Z.cell? ⟨gc, oc + k * 12 + 5, none⟩ = some (.int .i64 x.mode) ∧ Z.cell? ⟨gc, oc + k * 12 + 6, none⟩ = some (.slice a1 x.args.len c1) ∧ Z.cell? ⟨gc, oc + k * 12 + 7, none⟩ = some (.int .i64 z.op) ∧ Z.cell? ⟨gc, oc + k * 12 + 8, none⟩ = some (.int .i64 z.num) ∧ Z.cell? ⟨gc, oc + k * 12 + 9, none⟩ = some (.int .i64 z.den) ∧ Z.cell? ⟨gc, oc + k * 12 + 10, none⟩ = some (.int .i64 z.mode) ∧ Z.cell? ⟨gc, oc + k * 12 + 11, none⟩ = some (.slice a2 z.args.len c2)) (with_reducible assumption)
                (first | (go_at_call 32; refine (hOf.out _ hbD).mono ?_; rintro e w7 ⟨rfl, hb7⟩; have hbG := belT hbD hb7; have hS7 := hSH.out w7 hbG; have hT2w := hT2.out w7 hbG) | (go_at_call 30; refine hT2w.mono ?_; rintro e w8 ⟨hb8, rfl⟩; have hbH := belT hbG hb8; have hS8 := hSH.out w8 hbH))
              clear hS0 hS7 hS8
              go_wp2
              exact ⟨⟨k + 1, n2, rfl, rfl, hlk, hn2, hbH, hnx⟩, by simp only [intOf]; omega⟩
        · have hlk' : ¬ (k : Int) < (y.cls.length : Int) := by omega
          obtain rfl : k = y.cls.length := by omega
          have hLn : L = none := by rw [← hst.out, List.drop_length]; rfl
          have hnx : Hid (orF (leF p (p.lns.drop (i + 1)) (i + 1)) (keF p p.cks 0) = R) := ⟨by have := hLR.out; rw [hLn] at this; exact this⟩
          obtain ⟨l0, l1, l2, l3, l4, l5, l6⟩ := hLH.out wi hbi
          have hbN := belT hbY hbi
          clear hst hLR hLn
          go_wp2
          exact ⟨⟨i + 1, rfl, hlt, hbN, hnx⟩, by simp only [intOf]; omega⟩
    · have hlt' : ¬ (i : Int) < (p.lns.length : Int) := by omega
      have hkst : Hid (keF p (p.cks.drop 0) 0 = R) := ⟨by
        have := hinv.out
        rw [List.drop_eq_nil_of_le (by omega)] at this
        exact this⟩
      clear hinv hlt hi
      go_wp2
      clear q0 q1 q2 q3 q4 q5 q6
      go_loopw [10] (fun jv wr => ∃ j : Nat, jv = .int .i64 (j : Int) ∧ j ≤ p.cks.length ∧ Below X.heap.size X wr ∧ Hid (keF p (p.cks.drop j) j = R)) (fun jv _ => p.cks.length - (intOf jv).toNat)
      case atStart => exact ⟨0, rfl, Nat.zero_le _, hbr, hkst⟩
      case round =>
        clear hkst
        obtain ⟨j, rfl, hj, hbj, hkv⟩ := hrel
        obtain ⟨wj, hwj⟩ : ∃ wj, wj = wr := ⟨_, rfl⟩
        subst hwj
        by_cases hlj : j < p.cks.length
        · have hlj' : (j : Int) < (p.cks.length : Int) := by omega
          have hj0 : (0 : Int) ≤ (j : Int) := by omega
          have hkv2 := hkv.out
          rw [ke_step p p.cks hlj] at hkv2
          have hKj := row_bel hKX hbj (Nat.le_refl _)
          have hLj := row_bel hLX hbj (Nat.le_refl _)
          have hOj := row_bel hOX hbj (Nat.le_refl _)
          obtain ⟨gk, ok, rfl⟩ := hKj.some hlj
          obtain ⟨cs, -, -, ⟨a1, c1, rfl, -, -, hF1⟩, hcs⟩ := hKj.item hlj
          have hgk : gk < wj.heap.size := World.block_lt_of_cell? _ _ (hcs 2 (by decide))
          have hCz : wj.cell? ⟨gk, ok + j * 9 + 2, none⟩ = some (.int .i64 (p.cks[j]).group) ∧ wj.cell? ⟨gk, ok + j * 9 + 3, none⟩ = some (.int .i64 (p.cks[j]).when_.op) ∧ wj.cell? ⟨gk, ok + j * 9 + 4, none⟩ = some (.int .i64 (p.cks[j]).when_.num) ∧ wj.cell? ⟨gk, ok + j * 9 + 5, none⟩ = some (.int .i64 (p.cks[j]).when_.den) ∧ wj.cell? ⟨gk, ok + j * 9 + 6, none⟩ = some (.int .i64 (p.cks[j]).when_.mode) ∧ wj.cell? ⟨gk, ok + j * 9 + 7, none⟩ = some (.slice a1 (p.cks[j]).when_.args.len c1) := ⟨hcs 2 (by decide), hcs 3 (by decide), hcs 4 (by decide), hcs 5 (by decide), hcs 6 (by decide), hcs 7 (by decide)⟩
          generalize hge : (p.cks[j]).group = g at hCz hkv2
          generalize hxe : (p.cks[j]).when_ = x at hCz hF1 hkv2
          have hSH : Hid (∀ w, Below wj.heap.size wj w → w.cell? ⟨W.heap.size, 0, none⟩ = some (.string ⟨p.name.toArray⟩) ∧ w.cell? ⟨W.heap.size, 1, none⟩ = some (.int .i64 p.year) ∧ w.cell? ⟨W.heap.size, 2, none⟩ = some (.slice a3 p.opts.length c3) ∧ w.cell? ⟨W.heap.size, 3, none⟩ = some (.slice a4 p.tabs.length c4) ∧ w.cell? ⟨W.heap.size, 4, none⟩ = some (.slice a5 p.grps.length c5) ∧ w.cell? ⟨W.heap.size, 5, none⟩ = some (.slice a6 p.lns.length c6) ∧ w.cell? ⟨W.heap.size, 6, none⟩ = some (.slice (some ⟨gk, ok, none⟩) p.cks.length c7) ∧ w.cell? ⟨gk, ok + j * 9 + 2, none⟩ = some (.int .i64 g) ∧ w.cell? ⟨gk, ok + j * 9 + 3, none⟩ = some (.int .i64 x.op) ∧ w.cell? ⟨gk, ok + j * 9 + 4, none⟩ = some (.int .i64 x.num) ∧ w.cell? ⟨gk, ok + j * 9 + 5, none⟩ = some (.int .i64 x.den) ∧ w.cell? ⟨gk, ok + j * 9 + 6, none⟩ = some (.int .i64 x.mode) ∧ w.cell? ⟨gk, ok + j * 9 + 7, none⟩ = some (.slice a1 x.args.len c1)) := ⟨fun w hw => by
            obtain ⟨p0, p1, p2, p3, p4, p5, p6⟩ := hPH.out w (belT hbj hw)
            obtain ⟨d0, d1, d2, d3, d4, d5⟩ := hCz
            have hm : ∀ q, w.cell? ⟨gk, q, none⟩ = wj.cell? ⟨gk, q, none⟩ := fun q => bel_cell hw hgk q
            exact ⟨p0, p1, p2, p3, p4, p5, p6, (hm _).trans d0, (hm _).trans d1, (hm _).trans d2, (hm _).trans d3, (hm _).trans d4, (hm _).trans d5⟩⟩
          obtain ⟨r, hr⟩ : ∃ r, tdF p g (3, -1) x 0 = r := ⟨_, rfl⟩
          rw [hr] at hkv2
          have hBd : Below wj.heap.size wj wj.drew := (Below.refl _ _).drew
          have hbD := belT hbj hBd
          have hT : Calls Tryz.prog 30 #[.agg #[.string ⟨p.name.toArray⟩, .int .i64 p.year, .slice a3 p.opts.length c3, .slice a4 p.tabs.length c4, .slice a5 p.grps.length c5, .slice a6 p.lns.length c6, .slice (some ⟨gk, ok, none⟩) p.cks.length c7], .int .i64 g, .agg #[.int .i64 x.op, .int .i64 x.num, .int .i64 x.den, .int .i64 x.mode, .slice a1 x.args.len c1], .agg #[.int .i64 3, .int .i64 (-1)], .int .i64 0] wj.drew (TdP wj.drew r) := by
            rw [← hr]
            exact typed_any p a3 a4 a5 a6 (some ⟨gk, ok, none⟩) c3 c4 c5 c6 c7 g x a1 c1 (3, -1) 0 (by decide) wj.drew (row_bel hLj hBd (Nat.le_refl _)) (row_bel hOj hBd (Nat.le_refl _)) (fo_fr hF1 hBd)
          obtain ⟨e0, e1, e2, e3, e4, e5, e6, e7, e8, e9, ea, eb, ec⟩ := hSH.out wj (Below.refl _ _)
          have hS0 := hSH.out wj.drew hBd
          clear hkv hcs hCz hF1 hge hxe
          cases r with
          | error er =>
            have hp := td_er hr
            have he' : ((er.2 : Int) != 0) = true := by simp; omega
            have hRe : R = some (⟨6, j, -1, er.1⟩, er.2) := hkv2.symm
            have hReH := Hid.mk hRe
            clear hRe hkv2 hr
            go_wp2_with fail
            go_region_held3 (fun Z => Z.cell? ⟨W.heap.size, 0, none⟩ = some (.string ⟨p.name.toArray⟩) ∧ Z.cell? ⟨W.heap.size, 1, none⟩ = some (.int .i64 p.year) ∧ Z.cell? ⟨W.heap.size, 2, none⟩ = some (.slice a3 p.opts.length c3) ∧ Z.cell? ⟨W.heap.size, 3, none⟩ = some (.slice a4 p.tabs.length c4) ∧ Z.cell? ⟨W.heap.size, 4, none⟩ = some (.slice a5 p.grps.length c5) ∧ Z.cell? ⟨W.heap.size, 5, none⟩ = some (.slice a6 p.lns.length c6) ∧ Z.cell? ⟨W.heap.size, 6, none⟩ = some (.slice (some ⟨gk, ok, none⟩) p.cks.length c7) ∧ Z.cell? ⟨gk, ok + j * 9 + 2, none⟩ = some (.int .i64 g) ∧ Z.cell? ⟨gk, ok + j * 9 + 3, none⟩ = some (.int .i64 x.op) ∧ Z.cell? ⟨gk, ok + j * 9 + 4, none⟩ = some (.int .i64 x.num) ∧ Z.cell? ⟨gk, ok + j * 9 + 5, none⟩ = some (.int .i64 x.den) ∧ Z.cell? ⟨gk, ok + j * 9 + 6, none⟩ = some (.int .i64 x.mode) ∧ Z.cell? ⟨gk, ok + j * 9 + 7, none⟩ = some (.slice a1 x.args.len c1)) (with_reducible assumption)
              (first | (go_at_call 30; refine hT.mono ?_; rintro e w5 ⟨hb5, pv5, rfl, hpt5⟩; obtain ⟨av, nv, cv, rfl⟩ := hpt5.sl; have hS5 := hSH.out w5 (belT hBd hb5); have hbJ := belT hbj (belT hBd hb5); have rkj := (hBxH.out w5 hbJ).2; have fkj0 := frozen_of_row _ _ 0 _ _ rkj; have fkj1 := frozen_of_row _ _ 1 _ _ rkj; have fkj2 := frozen_of_row _ _ 2 _ _ rkj; have fkj3 := frozen_of_row _ _ 3 _ _ rkj; have ckj0 : w5.cell? ⟨W.heap.size + 1, 0, none⟩ = some (.int .i64 0) := cell_of_row _ _ 0 _ _ _ rkj; have ckj1 : w5.cell? ⟨W.heap.size + 1, 1, none⟩ = some (.int .i64 0) := cell_of_row _ _ 1 _ _ _ rkj; have ckj2 : w5.cell? ⟨W.heap.size + 1, 2, none⟩ = some (.int .i64 0) := cell_of_row _ _ 2 _ _ _ rkj; have ckj3 : w5.cell? ⟨W.heap.size + 1, 3, none⟩ = some (.slice none 0 0) := cell_of_row _ _ 3 _ _ _ rkj))
            have hszH : W.heap.size + 1 < wj.drew.heap.size := Nat.lt_of_lt_of_le (by omega) hbD.size
            clear hS0 hS5 hT
            go_wp2
            refine bodyPost_ret (v := .tuple #[.agg #[.int .i64 6, .int .i64 (j : Int), .int .i64 (-1), .slice av nv cv], .int .i64 (er.2 : Int)]) (results_cellK Tryz.results17 _ _ (W.heap.size + 1) 33 _ (0, 0) _ rfl (row_four rkj _ _ _ _) Tryz.underlying33 rfl info_sp) rfl ?_
            rw [← hQH.out, hReH.out]
            exact fa_err (f := (⟨6, j, -1, er.1⟩, er.2)) (belT hb0 hbJ) (by omega) hpt5 hszH
          | ok n1 =>
            have hnx := Hid.mk hkv2
            clear hkv2 hr
            go_wp2_with fail
            go_region_held3 (fun Z => Z.cell? ⟨W.heap.size, 0, none⟩ = some (.string ⟨p.name.toArray⟩) ∧ Z.cell? ⟨W.heap.size, 1, none⟩ = some (.int .i64 p.year) ∧ Z.cell? ⟨W.heap.size, 2, none⟩ = some (.slice a3 p.opts.length c3) ∧ Z.cell? ⟨W.heap.size, 3, none⟩ = some (.slice a4 p.tabs.length c4) ∧ Z.cell? ⟨W.heap.size, 4, none⟩ = some (.slice a5 p.grps.length c5) ∧ Z.cell? ⟨W.heap.size, 5, none⟩ = some (.slice a6 p.lns.length c6) ∧ Z.cell? ⟨W.heap.size, 6, none⟩ = some (.slice (some ⟨gk, ok, none⟩) p.cks.length c7) ∧ Z.cell? ⟨gk, ok + j * 9 + 2, none⟩ = some (.int .i64 g) ∧ Z.cell? ⟨gk, ok + j * 9 + 3, none⟩ = some (.int .i64 x.op) ∧ Z.cell? ⟨gk, ok + j * 9 + 4, none⟩ = some (.int .i64 x.num) ∧ Z.cell? ⟨gk, ok + j * 9 + 5, none⟩ = some (.int .i64 x.den) ∧ Z.cell? ⟨gk, ok + j * 9 + 6, none⟩ = some (.int .i64 x.mode) ∧ Z.cell? ⟨gk, ok + j * 9 + 7, none⟩ = some (.slice a1 x.args.len c1)) (with_reducible assumption)
              (first | (go_at_call 30; refine hT.mono ?_; rintro e w5 ⟨hb5, rfl⟩; have hS5 := hSH.out w5 (belT hBd hb5); have hbJ := belT hbj (belT hBd hb5)))
            clear hS0 hS5 hT
            go_wp2
            exact ⟨⟨j + 1, rfl, hlj, hbJ, hnx⟩, by simp only [intOf]; omega⟩
        · have hlj' : ¬ (j : Int) < (p.cks.length : Int) := by omega
          have hRn : R = none := by
            rw [← hkv.out, List.drop_eq_nil_of_le (by omega)]
            rfl
          have hRH := Hid.mk hRn
          obtain ⟨q0, q1, q2, q3, q4, q5, q6⟩ := hPH.out wj hbj
          have rkj := (hBxH.out wj hbj).2
          have fkj0 := frozen_of_row _ _ 0 _ _ rkj
          have fkj1 := frozen_of_row _ _ 1 _ _ rkj
          have fkj2 := frozen_of_row _ _ 2 _ _ rkj
          have fkj3 := frozen_of_row _ _ 3 _ _ rkj
          have ckj0 : wj.cell? ⟨W.heap.size + 1, 0, none⟩ = some (.int .i64 0) := cell_of_row _ _ 0 _ _ _ rkj
          have ckj1 : wj.cell? ⟨W.heap.size + 1, 1, none⟩ = some (.int .i64 0) := cell_of_row _ _ 1 _ _ _ rkj
          have ckj2 : wj.cell? ⟨W.heap.size + 1, 2, none⟩ = some (.int .i64 0) := cell_of_row _ _ 2 _ _ _ rkj
          have ckj3 : wj.cell? ⟨W.heap.size + 1, 3, none⟩ = some (.slice none 0 0) := cell_of_row _ _ 3 _ _ _ rkj
          clear hkv hRn
          go_wp2
          refine bodyPost_ret (v := .tuple #[.agg #[.int .i64 0, .int .i64 0, .int .i64 0, .slice none 0 0], .int .i64 0]) (results_cellK Tryz.results17 _ _ (W.heap.size + 1) 33 _ (0, 0) _ rfl (row_four rkj _ _ _ _) Tryz.underlying33 rfl info_sp) rfl ?_
          rw [← hQH.out, hRH.out]
          exact fa_ok (belT hb0 hbj) (by omega)
end Go.Proofs.YtmklkcefbabhbaaGreat.R6

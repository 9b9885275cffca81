import Derived.Test.YtjgngmmepheioaaGwH
import Derived.Test.YtjgngmmepheioaaPSumV
namespace Go.Proofs.Ytjgngmmepheioaa.G
open Go.RowKit

/-- A call under way: the cursor, a variable's block. -/
structure EG (c : Rc) (W : World) (eb : Nat) (vs : List Value) (at_ ft er : Nat) (w : World) : Prop where
  cs : CS c w at_ ft er
  gr : W.grownBy w (some c.r)
  ex : Bx w eb vs
  k1 : c.r < W.heap.size
  k2 : c.l ≠ [] → ∀ b off, c.a = some ⟨b, off, none⟩ → b < W.heap.size
  k4 : W.heap.size ≤ eb
theorem EG.call {c : Rc} {W : World} {eb : Nat} {vs : List Value} {a f e a2 f2 e2 : Nat} {w w' : World} (h : EG c W eb vs a f e w) (h2 : CS c w' a2 f2 e2) (hg : w.grownBy w' (some c.r)) : EG c W eb vs a2 f2 e2 w' := ⟨h2, h.gr.trans hg, h.ex.kept hg (fun e => by have := Option.some.inj e; have := h.k1; have := h.k4; omega), h.k1, h.k2, h.k4⟩
theorem EG.sete {c : Rc} {W : World} {eb : Nat} {vs : List Value} {a f e : Nat} {w : World} (h : EG c W eb vs a f e w) (i : Nat) (v : Value) : EG c W eb (vs.set i v) a f e (w.setCell ⟨eb, i, none⟩ v) := ⟨h.cs.setO h.k4 h.k1 h.k2, gr_setO h.gr h.k4, h.ex.set i v, h.k1, h.k2, h.k4⟩
theorem EG.drew {c : Rc} {W : World} {eb : Nat} {vs : List Value} {a f e : Nat} {w : World} (h : EG c W eb vs a f e w) : EG c W eb vs a f e w.drew := h.call h.cs.drew1 ⟨rfl, rfl, rfl, Nat.le_refl _, fun _ _ _ => rfl⟩
theorem EG.alloc {c : Rc} {W : World} {eb : Nat} {vs : List Value} {a f e : Nat} {w : World} (h : EG c W eb vs a f e w) (ob : Obj) : EG c W eb vs a f e (w.alloc ob) := h.call (h.cs.alloc ob) (World.grownBy_alloc w ob _)
theorem EG.other {c : Rc} {W : World} {eb : Nat} {vs : List Value} {a f e : Nat} {w w' : World} {r : Option Nat} (h : EG c W eb vs a f e w) (hg : w.grownBy w' r) (hr : ∀ g, r = some g → W.heap.size ≤ g ∧ g ≠ eb) : EG c W eb vs a f e w' := by
  refine ⟨h.cs.other hg (fun e => ?_) (fun h0 b off ha e => ?_), h.gr.andThen hg (fun j hj => .inl (hr j hj).1), h.ex.kept hg (fun e => (hr eb e.symm).2 rfl), h.k1, h.k2, h.k4⟩
  · have := (hr _ e.symm).1
    have := h.k1
    omega
  · have := (hr _ e.symm).1
    have := h.k2 h0 b off ha
    omega
/-- A round under way since W2: a variable of its own. -/
structure E4 (c : Rc) (W W2 : World) (eb kb : Nat) (vs kv : List Value) (at_ ft er : Nat) (w : World) : Prop where
  es : EG c W eb vs at_ ft er w
  kx : Bx w kb kv
  gw : W2.grownBy w (some c.r)
  h1 : W2.heap.size ≤ kb
  h3 : eb < W2.heap.size
  h4 : W.heap.size ≤ W2.heap.size
theorem E4.call {c : Rc} {W W2 : World} {eb kb : Nat} {vs kv : List Value} {a f e a2 f2 e2 : Nat} {w w' : World} (h : E4 c W W2 eb kb vs kv a f e w) (h2 : CS c w' a2 f2 e2) (hg : w.grownBy w' (some c.r)) : E4 c W W2 eb kb vs kv a2 f2 e2 w' := ⟨h.es.call h2 hg, h.kx.kept hg (fun e => by have := Option.some.inj e; have := h.es.k1; have := h.h1; have := h.h4; omega), h.gw.trans hg, h.h1, h.h3, h.h4⟩
theorem E4.setk {c : Rc} {W W2 : World} {eb kb : Nat} {vs kv : List Value} {a f e : Nat} {w : World} (h : E4 c W W2 eb kb vs kv a f e w) (i : Nat) (v : Value) : E4 c W W2 eb kb vs (kv.set i v) a f e (w.setCell ⟨kb, i, none⟩ v) := ⟨h.es.other (gr_set w kb i v) (fun g e => by have := Option.some.inj e; have := h.h1; have := h.h3; have := h.h4; omega), h.kx.set i v, gr_setO h.gw h.h1, h.h1, h.h3, h.h4⟩
theorem E4.alloc {c : Rc} {W W2 : World} {eb kb : Nat} {vs kv : List Value} {a f e : Nat} {w : World} (h : E4 c W W2 eb kb vs kv a f e w) (ob : Obj) : E4 c W W2 eb kb vs kv a f e (w.alloc ob) := h.call (h.es.cs.alloc ob) (World.grownBy_alloc w ob _)
theorem E4.new {c : Rc} {W : World} {eb : Nat} {vs : List Value} {a f e : Nat} {w : World} (h : EG c W eb vs a f e w) (cs : Array Value) (t : TypeId) : E4 c W w eb w.heap.size vs cs.toList a f e (w.alloc (.cells cs t)) := ⟨h.alloc _, bx_new w cs t, World.grownBy_alloc w _ _, Nat.le_refl _, h.ex.1, h.gr.size⟩
theorem cs_new {W : World} {c : Rc} (hr : c.r = W.heap.size + 1) (h : InB W c.a c.cap c.l) (hl : c.l.length ≤ 262144) : CS c ((W.alloc (.cells #[.string ⟨#[]⟩, .int .i64 0, .slice none 0 0, .slice none 0 0, .slice none 0 0, .slice none 0 0, .slice none 0 0] 29)).alloc (.cells #[.slice c.a c.l.length c.cap, .int .i64 0, .int .i64 0, .int .i64 0] 67)) 0 0 0 := by
  have hs1 : (W.alloc (.cells #[.string ⟨#[]⟩, .int .i64 0, .slice none 0 0, .slice none 0 0, .slice none 0 0, .slice none 0 0, .slice none 0 0] 29)).heap.size = W.heap.size + 1 := by simp
  have hb := bx_new (W.alloc (.cells #[.string ⟨#[]⟩, .int .i64 0, .slice none 0 0, .slice none 0 0, .slice none 0 0, .slice none 0 0, .slice none 0 0] 29)) #[.slice c.a c.l.length c.cap, .int .i64 0, .int .i64 0, .int .i64 0] 67
  rw [hs1, ← hr] at hb
  have hg := (World.grownBy_alloc W (.cells #[.string ⟨#[]⟩, .int .i64 0, .slice none 0 0, .slice none 0 0, .slice none 0 0, .slice none 0 0, .slice none 0 0] 29) none).trans (World.grownBy_alloc (W.alloc (.cells #[.string ⟨#[]⟩, .int .i64 0, .slice none 0 0, .slice none 0 0, .slice none 0 0, .slice none 0 0, .slice none 0 0] 29)) (.cells #[.slice c.a c.l.length c.cap, .int .i64 0, .int .i64 0, .int .i64 0] 67) none)
  refine ⟨hb.2.1 0 (by simp), hb.2.1 1 (by simp), hb.2.1 2 (by simp), hb.2.1 3 (by simp), hb.2.2, ?_, fun _ => Nat.zero_le _, Nat.zero_le _, by omega, hl, h.2.1, h.2.2, Nat.zero_le _⟩
  rcases h.1 with h0 | ⟨b, off, ha, hlt, hc⟩
  · exact .inl h0
  · exact .inr ⟨b, off, ha, Nat.lt_of_lt_of_le hlt hg.size, by omega, fun i hi => (gr_cell hg hlt (by simp) _).trans (hc i hi)⟩
/-- The cursor is put behind the head. -/
theorem CS.four {c : Rc} {W : World} {at_ ft er : Nat} (h : CS c W at_ ft er) (h2 : er = 0 → 4 ≤ c.l.length) : CS c (W.setCell ⟨c.r, 1, none⟩ (.int .i64 4)) 4 ft er := by
  have o : ∀ i, i ≠ 1 → (W.setCell ⟨c.r, 1, none⟩ (.int .i64 4)).cell? ⟨c.r, i, none⟩ = W.cell? ⟨c.r, i, none⟩ := fun i hi => World.cell?_setCell_other _ _ _ _ (fun e => hi (by cases e; rfl))
  exact ⟨(o 0 (by decide)).trans h.c0, World.cell?_setCell_same _ _ _ h.c1, (o 2 (by decide)).trans h.c2, (o 3 (by decide)).trans h.c3, fun j => by rw [World.frozen?_setCell]; exact h.fz j, byr_set h.by_, h2, h.fl, h.e9, h.ln, h.cp, h.lc, by omega⟩

theorem bd_assoc {α β γ : Type} (m : Rd α) (k : α → Nat → Rd β) (k' : β → Nat → Rd γ) : bd (bd m k) k' = bd m (fun x a => bd (k x a) k') := by
  cases m with
  | ok p => rfl
  | error e => rfl
theorem rPack_heads (l : List UInt8) (a : Nat) : rPack l a = bd (rHead l a) fun _ a => bd (rHeads l a) fun x a => bd (rLst rLine l a) fun x6 a => bd (rLst rCheck l a) fun x7 a => bd (rSum l a) fun _ a => .ok (⟨x.name, x.year, x.opts, x.tabs, x.grps, x6, x7⟩, a) := by
  unfold rPack rHeads
  simp only [bd_assoc]
  rfl
theorem byts_cs {c : Rc} {W : World} {at_ ft er : Nat} (h : CS c W at_ ft er) : Byts W c.a ((c.l.take at_).map UInt8.toNat) := by
  refine ⟨fun n hn => ?_, ?_⟩
  · obtain ⟨x, _, rfl⟩ := List.mem_map.1 hn
    exact x.toNat_lt
  · rcases h.by_ with h0 | ⟨b, off, ha, hlt, -, hc⟩
    · left
      rw [h0]
      simp
    · right
      refine ⟨b, off, ha, hlt, fun i hi => ?_⟩
      have hi2 : i < c.l.length := by
        rw [List.length_map, List.length_take] at hi
        omega
      rw [hc i hi2]
      simp
/-- Four bytes as a number, the last first. -/
def tq (d : Nat → Nat) : Nat → Nat
  | 0 => 0
  | n + 1 => 256 * tq d n + d (3 - n)
theorem tq_lt (d : Nat → Nat) (h : ∀ j, d j < 256) : ∀ q, q ≤ 3 → tq d q < 16777216 := by
  intro q hq
  have h3 := h 3
  have h2 := h 2
  have h1 := h 1
  match q, hq with
  | 0, _ => show 0 < 16777216; decide
  | 1, _ => show 256 * 0 + d 3 < _; omega
  | 2, _ => show 256 * (256 * 0 + d 3) + d 2 < _; omega
  | 3, _ => show 256 * (256 * (256 * 0 + d 3) + d 2) + d 1 < _; omega
theorem rsum_tq (l : List UInt8) (a : Nat) (h : 4 ≤ l.length - a) : rSum l a = if tq (fun j => ((l.drop a).getD j 0).toNat) 4 = fnv ((l.take a).map UInt8.toNat) then (if 0 < l.length - (a + 4) then .error (a + 4, 73) else .ok ((), a + 4)) else .error (a, 74) := by
  have hlt := fnv_lt ((l.take a).map UInt8.toNat)
  have hM : rSum l a = if (l.drop a).take 4 = sum4 (fnv ((l.take a).map UInt8.toNat)) then (if 0 < l.length - (a + 4) then .error (a + 4, 73) else .ok ((), a + 4)) else .error (a, 74) := by
    unfold rSum rRaw
    rw [if_neg (by omega)]
    rfl
  rw [hM]
  generalize fnv ((l.take a).map UInt8.toNat) = N at *
  have hl4 : 4 ≤ (l.drop a).length := by rw [List.length_drop]; exact h
  match hd : l.drop a, hl4 with
  | x0 :: x1 :: x2 :: x3 :: r, _ =>
    have e1 : List.take 4 (x0 :: x1 :: x2 :: x3 :: r) = [x0, x1, x2, x3] := rfl
    have e2 : tq (fun j => ((x0 :: x1 :: x2 :: x3 :: r).getD j 0).toNat) 4 = 256 * (256 * (256 * (256 * 0 + x3.toNat) + x2.toNat) + x1.toNat) + x0.toNat := rfl
    have l0 := x0.toNat_lt
    have l1 := x1.toNat_lt
    have l2 := x2.toNat_lt
    have l3 := x3.toNat_lt
    have hiff : ([x0, x1, x2, x3] = sum4 N) ↔ 256 * (256 * (256 * (256 * 0 + x3.toNat) + x2.toNat) + x1.toNat) + x0.toNat = N := by
      have hu : ∀ (x : UInt8) (n : Nat), n < 256 → (x = UInt8.ofNat n ↔ x.toNat = n) := fun x n hn => ⟨fun e => by rw [e, UInt8.toNat_ofNat']; omega, fun e => by rw [← e]; simp⟩
      unfold sum4
      simp only [List.cons.injEq, and_true]
      rw [hu x0 _ (by omega), hu x1 _ (by omega), hu x2 _ (by omega), hu x3 _ (by omega)]
      omega
    rw [e1, e2]
    by_cases hc : 256 * (256 * (256 * (256 * 0 + x3.toNat) + x2.toNat) + x1.toNat) + x0.toNat = N
    · rw [if_pos (hiff.2 hc), if_pos hc]
    · rw [if_neg (fun e => hc (hiff.1 e)), if_neg hc]

set_option maxRecDepth 8000 in
set_option maxHeartbeats 16000000 in
theorem rget_any (a : Option Addr) (cap : Nat) (l : List UInt8) (W : World) (h : InB W a cap l) : Calls Try.prog 4 #[.slice a l.length cap] W (GetP l W) := by
  by_cases hbig : 131072 < l.length
  · have hbig' : (131072 : Int) < (l.length : Int) := by omega
    have hfin : ∀ X : World, Below W.heap.size W X → GetP l W (.returned (.tuple #[.agg #[.string ⟨#[]⟩, .int .i64 0, .slice none 0 0, .slice none 0 0, .slice none 0 0, .slice none 0 0, .slice none 0 0], .int .i64 0, .int .i64 72])) X := fun X hX => ⟨hX, .inl ⟨hbig, rfl⟩⟩
    clear h hbig
    go_enter Try.func4, Try.ntmps4
    go_wp2
    exact bodyPost_ret (v := .tuple #[.agg #[.string ⟨#[]⟩, .int .i64 0, .slice none 0 0, .slice none 0 0, .slice none 0 0, .slice none 0 0, .slice none 0 0], .int .i64 0, .int .i64 72]) (by simp [results, Try.results4, go_sem]) rfl (hfin _ ((Below.refl _ _).alloc (Nat.le_refl _) _))
  have hbig' : ¬ (131072 : Int) < (l.length : Int) := by omega
  obtain ⟨c, hcr, rfl, rfl, rfl⟩ : ∃ c : Rc, c.r = W.heap.size + 1 ∧ c.a = a ∧ c.cap = cap ∧ c.l = l := ⟨⟨W.heap.size + 1, a, cap, l⟩, rfl, rfl, rfl, rfl⟩
  have hC0 := cs_new hcr h (by omega)
  have hb0 := (bx_new W #[.string ⟨#[]⟩, .int .i64 0, .slice none 0 0, .slice none 0 0, .slice none 0 0, .slice none 0 0, .slice none 0 0] 29).kept (World.grownBy_alloc (W.alloc (.cells #[.string ⟨#[]⟩, .int .i64 0, .slice none 0 0, .slice none 0 0, .slice none 0 0, .slice none 0 0, .slice none 0 0] 29)) (.cells #[.slice c.a c.l.length c.cap, .int .i64 0, .int .i64 0, .int .i64 0] 67) none) (by simp)
  have hgW : W.grownBy ((W.alloc (.cells #[.string ⟨#[]⟩, .int .i64 0, .slice none 0 0, .slice none 0 0, .slice none 0 0, .slice none 0 0, .slice none 0 0] 29)).alloc (.cells #[.slice c.a c.l.length c.cap, .int .i64 0, .int .i64 0, .int .i64 0] 67)) none := (World.grownBy_alloc W (.cells #[.string ⟨#[]⟩, .int .i64 0, .slice none 0 0, .slice none 0 0, .slice none 0 0, .slice none 0 0, .slice none 0 0] 29) none).trans (World.grownBy_alloc (W.alloc (.cells #[.string ⟨#[]⟩, .int .i64 0, .slice none 0 0, .slice none 0 0, .slice none 0 0, .slice none 0 0, .slice none 0 0] 29)) (.cells #[.slice c.a c.l.length c.cap, .int .i64 0, .int .i64 0, .int .i64 0] 67) none)
  obtain ⟨X2, hX⟩ : ∃ X, (W.alloc (.cells #[.string ⟨#[]⟩, .int .i64 0, .slice none 0 0, .slice none 0 0, .slice none 0 0, .slice none 0 0, .slice none 0 0] 29)).alloc (.cells #[.slice c.a c.l.length c.cap, .int .i64 0, .int .i64 0, .int .i64 0] 67) = X := ⟨_, rfl⟩
  rw [hX] at hC0 hb0 hgW
  clear h
  go_enter Try.func4, Try.ntmps4
  go_upto_if 23 with fail
  clear hX
  go_cut [0, 5] (fun sv cv wx => sv = .slice c.a c.l.length c.cap ∧ cv = .pointer (some ⟨c.r, 0, none⟩) ∧ ∃ f1 e1 : Nat, CS c wx 0 f1 e1 ∧ X2.grownBy wx (some c.r) ∧ (e1 = 0 → 4 ≤ c.l.length) ∧ Hid (Xp (rHead c.l 0) 0 0 4 f1 e1 ()))
  case first =>
    by_cases h4 : c.l.length < 4
    · have h4' : (c.l.length : Int) < 4 := by omega
      have hsh := short_any c X2 hC0
      have hM : Hid (Xp (rHead c.l 0) 0 0 4 c.l.length 70 ()) := ⟨by simpa using Xp.fail (M := rHead c.l 0) (x := ()) (ft := 0) (er := 0) (a := 4) (p := c.l.length) (n := 70) (fun _ => by unfold rHead rRaw; rw [if_pos (by omega)]; rfl) (by decide)⟩
      rw [hcr] at hsh
      go_wp2_with (go_at_call 11; fail)
      refine hsh.mono ?_
      rintro e w1 ⟨rfl, hF, hgF⟩
      rw [if_pos rfl, if_pos rfl] at hF
      clear hsh
      go_wp2_with fail
      go_meet
      exact ⟨rfl, by rw [hcr], _, _, hF, hgF, fun h => absurd h (by decide), hM⟩
    · have h4' : ¬ (c.l.length : Int) < 4 := by omega
      rcases hC0.by_ with hnil | ⟨b, off, ha, hblt, hne, hcb⟩
      · rw [hnil] at h4; exact absurd (show [].length < 4 by decide) h4
      obtain ⟨s, hs⟩ : ∃ s, c.l.take 4 = s := ⟨_, rfl⟩
      have hsl : s.length = 4 := by rw [← hs, List.length_take]; omega
      have hcv : (convert 22 9 (.slice (some ⟨b, off, none⟩) 4 c.cap)).run Try.prog X2 = .ok (.string ⟨s.toArray⟩) X2 := by
        have := conv_at X2 ⟨b, off, none⟩ c.cap s (fun j hj => by
          rw [Go.WideShapes.add_plain]
          rw [show s[j] = c.l[j]'(by omega) from by subst hs; rw [List.getElem_take]]
          exact hcb j (by omega))
        rw [hsl] at this
        exact this
      have hcap : (4 : Int) ≤ (c.cap : Int) := by have := hC0.lc; omega
      have hft := fault_any c 0 71 (Nat.zero_le _) (by omega) X2 hC0
      rw [hcr] at hft
      have hM : rHead c.l 0 = if s = [76, 86, 89, 49] then .ok ((), 4) else .error (0, 71) := by unfold rHead rRaw; rw [if_neg (by omega), List.drop_zero, hs]; rfl
      rw [ha]
      rcases beq_or s [76, 86, 89, 49] with hs0 | hs0
      · have hMH : Hid (Xp (rHead c.l 0) 0 0 4 0 0 ()) := ⟨by rw [hM, if_pos hs0]; exact Xp.pure⟩
        subst hs0
        clear hM hs hft hsl
        go_wp2_with fail
        go_meet
        exact ⟨by rw [ha], by rw [hcr], 0, 0, hC0, gr_refl _ _, fun _ => by omega, hMH⟩
      · have hMH : Hid (Xp (rHead c.l 0) 0 0 4 0 71 ()) := ⟨by simpa using Xp.fail (M := rHead c.l 0) (x := ()) (ft := 0) (er := 0) (a := 4) (p := 0) (n := 71) (fun _ => by rw [hM, if_neg (fun e => by rw [e] at hs0; exact absurd hs0 (by decide))]) (by decide)⟩
        clear hM hs hsl
        go_wp2_with (go_at_call 12; fail)
        refine hft.mono ?_
        rintro e w1 ⟨rfl, hF, hgF⟩
        rw [if_pos rfl, if_pos rfl] at hF
        clear hft
        go_wp2_with fail
        go_meet
        exact ⟨by rw [ha], by rw [hcr], _, _, hF, hgF, fun h => absurd h (by decide), hMH⟩
  case rest =>
  replace hcr := Hid.mk hcr
  obtain ⟨rfl, rfl, f1, e1, hC1, hg1, h4, hpH⟩ := hcut
  obtain ⟨w1, hw1⟩ : ∃ w, w = wc := ⟨_, rfl⟩
  rw [← hw1] at hC1 hg1 ⊢
  have c1 := hC1.c1
  have f1' := hC1.fz 1
  have hC2 := hC1.four h4
  have hg2 := hg1.trans (gr_set w1 c.r 1 (.int .i64 4))
  obtain ⟨w2, hw2⟩ : ∃ Y, w1.setCell ⟨c.r, 1, none⟩ (.int .i64 4) = Y := ⟨_, rfl⟩
  rw [hw2] at hC2 hg2
  clear hw1 hC1 hg1 h4 hC0
  have hc := heads_any c w2 hC2
  go_wp2_with (go_at_call 13; fail)
  clear hw2 c1 f1'
  refine hc.mono ?_
  rintro e B ⟨x, v, a3, f3, e3, rfl, ⟨la1, la2, la3, lc1, lc2, lc3, rfl, rgy, hR1, hR2, hR3⟩, hC3, hg3, hpP⟩
  clear hc
  have hwB := hg3.size
  have hrw : c.r < w2.heap.size := hC2.lt
  have hrB : c.r < B.heap.size := hC3.lt
  have hE0 : EG c B B.heap.size [.string ⟨x.name.toArray⟩, .int .i64 x.year, .slice la1 x.opts.length lc1, .slice la2 x.tabs.length lc2, .slice la3 x.grps.length lc3, .slice none 0 0, .slice none 0 0] a3 f3 e3 (B.alloc (.cells #[.string ⟨x.name.toArray⟩, .int .i64 x.year, .slice la1 x.opts.length lc1, .slice la2 x.tabs.length lc2, .slice la3 x.grps.length lc3, .slice none 0 0, .slice none 0 0] 29)) := ⟨hC3.alloc _, World.grownBy_alloc _ _ _, bx_new B #[.string ⟨x.name.toArray⟩, .int .i64 x.year, .slice la1 x.opts.length lc1, .slice la2 x.tabs.length lc2, .slice la3 x.grps.length lc3, .slice none 0 0, .slice none 0 0] 29, hrB, hC3.below, Nat.le_refl _⟩
  have halB := World.grownBy_alloc B (.cells #[.string ⟨x.name.toArray⟩, .int .i64 x.year, .slice la1 x.opts.length lc1, .slice la2 x.tabs.length lc2, .slice la3 x.grps.length lc3, .slice none 0 0, .slice none 0 0] 29) none
  replace hR1 := row_high (hR1.mo (S' := SB w2.heap.size B.heap.size) (fun b hlt hb => ⟨hb, hlt⟩)) halB (fun g e => by cases e)
  replace hR2 := row_high (hR2.mo (S' := SB w2.heap.size B.heap.size) (fun b hlt hb => ⟨hb, hlt⟩)) halB (fun g e => by cases e)
  replace hR3 := row_high (hR3.mo (S' := SB w2.heap.size B.heap.size) (fun b hlt hb => ⟨hb, hlt⟩)) halB (fun g e => by cases e)
  have hg4 := hg2.trans hg3
  clear hC2 hC3 hg2 hg3 halB
  obtain ⟨V1, hV1⟩ : ∃ Y, Y = B.alloc (.cells #[.string ⟨x.name.toArray⟩, .int .i64 x.year, .slice la1 x.opts.length lc1, .slice la2 x.tabs.length lc2, .slice la3 x.grps.length lc3, .slice none 0 0, .slice none 0 0] 29) := ⟨_, rfl⟩
  rw [← hV1] at hE0 hR1 hR2 hR3
  have hVl1 : B.heap.size + 1 ≤ V1.heap.size := hE0.ex.1
  replace hV1 := Hid.mk hV1
  have hc := list_any c V1 hE0.cs
  go_wp2_with (go_at_call 14; fail)
  rw [← hV1.out]
  clear hV1
  refine hc.mono ?_
  rintro e wl ⟨n, at7, ft7, er7, rfl, hn2, hn0, hC, hg, hp⟩
  have hS7 := hE0.call hC hg
  have hsz7 := hg.size
  have hrl : c.r < V1.heap.size := by omega
  have heb : B.heap.size < V1.heap.size := by omega
  replace hR1 := row_low hR1 hg (show c.r < w2.heap.size by omega)
  replace hR2 := row_low hR2 hg (show c.r < w2.heap.size by omega)
  replace hR3 := row_low hR3 hg (show c.r < w2.heap.size by omega)
  have hq7 := Lq.start (item := rLine) hp hn0
  clear hc hC hg hE0 hp
  replace hq7 := Hid.mk hq7
  go_upto_block 0 with fail
  go_cut [7] (fun nv wx => nv = .int .i64 (n : Int) ∧ ∃ (xs : List Ln) (la : Option Addr) (lc a2 f2 e2 : Nat), EG c B B.heap.size [.string ⟨x.name.toArray⟩, .int .i64 x.year, .slice la1 x.opts.length lc1, .slice la2 x.tabs.length lc2, .slice la3 x.grps.length lc3, .slice la xs.length lc, .slice none 0 0] a2 f2 e2 wx ∧ V1.heap.size ≤ wx.heap.size ∧ RowR eL wx (SB (B.heap.size + 1) wx.heap.size) xs la ∧ RowR eO wx (SB (w2.heap.size) B.heap.size) x.opts la1 ∧ RowR eT wx (SB (w2.heap.size) B.heap.size) x.tabs la2 ∧ RowR eG wx (SB (w2.heap.size) B.heap.size) x.grps la3 ∧ Hid (Xp (rLst rLine c.l a3) f3 e3 a2 f2 e2 xs))
  case first =>
    go_wp2_with fail
    go_loopw [8] (fun iv wr => ∃ (i : Nat) (xs : List Ln) (lv : Value) (at2 ft2 er2 : Nat), i ≤ n ∧ iv = .int .i64 (i : Int) ∧ Hid (xs.length = i) ∧ EG c B B.heap.size [.string ⟨x.name.toArray⟩, .int .i64 x.year, .slice la1 x.opts.length lc1, .slice la2 x.tabs.length lc2, .slice la3 x.grps.length lc3, lv, .slice none 0 0] at2 ft2 er2 wr ∧ V1.heap.size ≤ wr.heap.size ∧ GS eL 73 V1.heap.size wr lv xs ∧ RowR eO wr (SB (w2.heap.size) B.heap.size) x.opts la1 ∧ RowR eT wr (SB (w2.heap.size) B.heap.size) x.tabs la2 ∧ RowR eG wr (SB (w2.heap.size) B.heap.size) x.grps la3 ∧ Hid (Lq (rLine c.l) (rLst rLine c.l a3) n i f3 e3 at2 ft2 er2 xs)) (fun iv _ => n - (intOf iv).toNat)
    case atStart => exact ⟨0, [], .slice none 0 0, at7, ft7, er7, Nat.zero_le _, rfl, ⟨rfl⟩, hS7, hsz7, gs_nil _ _ _ _, hR1, hR2, hR3, hq7⟩
    case round =>
      clear hS7 hsz7 hq7 hR1 hR2 hR3
      obtain ⟨i, xs, lv, at8, ft8, er8, hin, rfl, hxl, hS8, hlo, hG8, hR1, hR2, hR3, hq8⟩ := hrel
      obtain ⟨wz, hwz⟩ : ∃ w, w = wr := ⟨_, rfl⟩
      rw [← hwz] at hS8 hlo hG8 hR1 hR2 hR3 ⊢
      clear hwz
      have c3 := hS8.cs.c3
      obtain ⟨la, lc, hlv⟩ : ∃ la lc, lv = .slice la xs.length lc := by obtain ⟨cs, ho, -⟩ := hG8; exact own_shapeG ho
      subst hlv
      by_cases hgo : i < n ∧ er8 = 0
      · obtain ⟨hlt, rfl⟩ := hgo
        have hlt' : (i : Int) < (n : Int) := by omega
        have hxl1 : xs.length ≤ 262144 := by have := hxl.out; omega
        have hown := fun g (e : (Value.slice la xs.length lc).ownBlock = some g) => hG8.choose_spec.1.lt g e
        have c3 : wz.cell? ⟨c.r, 3, none⟩ = some (.int .i64 0) := c3
        obtain ⟨i0, hi, hz0, hz1, hz2⟩ := info_parts info_line
        have hSd := hS8.drew
        have hcall := line_any c wz.drew hSd.cs
        have s4 : wz.drew.cell? ⟨B.heap.size, 5, none⟩ = some (.slice la xs.length lc) := hSd.ex.2.1 5 (show 5 < 7 by decide)
        have hGd := gs_kept hG8 hrl (⟨rfl, rfl, rfl, Nat.le_refl _, fun _ _ _ => rfl⟩ : wz.grownBy wz.drew (some c.r))
        go_wp2_with fail
        go_region_law
          (first
            | (go_simp; go_at_call 15; refine hcall.mono ?_; rintro e w9 ⟨y, v, at9, ft9, er9, rfl, ⟨cs9, rfl, ya, yc, rfl, rg9, hF9⟩, hC9, hg9, hp9⟩; have hS9 := hSd.call hC9 hg9; have s9 : w9.cell? ⟨B.heap.size, 5, none⟩ = some (.slice la xs.length lc) := hS9.ex.2.1 5 (show 5 < 7 by decide); have hGA := gs_alloc (gs_kept hGd hrl hg9) (.cells #[.string ⟨y.name.toArray⟩, .bool y.input, .bool y.must, .int .i64 y.type, .int .i64 y.opts, .int .i64 y.group, .slice ya y.cls.length yc] 73); have hSA := hS9.alloc (.cells #[.string ⟨y.name.toArray⟩, .bool y.input, .bool y.must, .int .i64 y.type, .int .i64 y.opts, .int .i64 y.group, .slice ya y.cls.length yc] 73); have sA : (w9.alloc (.cells #[.string ⟨y.name.toArray⟩, .bool y.input, .bool y.must, .int .i64 y.type, .int .i64 y.opts, .int .i64 y.group, .slice ya y.cls.length yc] 73)).cell? ⟨B.heap.size, 5, none⟩ = some (.slice la xs.length lc) := hSA.ex.2.1 5 (show 5 < 7 by decide); obtain ⟨cs, ho, hEl⟩ := hGA; have hsz : V1.heap.size ≤ (w9.alloc (.cells #[.string ⟨y.name.toArray⟩, .bool y.input, .bool y.must, .int .i64 y.type, .int .i64 y.opts, .int .i64 y.group, .slice ya y.cls.length yc] 73)).heap.size := Nat.le_trans hlo (Nat.le_trans hg9.size (World.grownBy_alloc w9 (.cells #[.string ⟨y.name.toArray⟩, .bool y.input, .bool y.must, .int .i64 y.type, .int .i64 y.opts, .int .i64 y.group, .slice ya y.cls.length yc] 73) none).size))
            | (refine step_append_g (P := Try.prog) _ rfl _ _ 26 rfl V1.heap.size 73 i0 _ 7 72 Try.underlying26 hi hz0 hz1 hz2 rfl (by decide) _ xs.length cs rfl ho ⟨w9.heap.size, 0, none⟩ 1 1 [.string ⟨y.name.toArray⟩, .bool y.input, .bool y.must, .int .i64 y.type, .int .i64 y.opts, .int .i64 y.group, .slice ya y.cls.length yc] rfl rfl (lit_at w9 _ _) (by simp [Value.oneCell']) (by unfold maxLen; omega) (by omega) hsz ?_; intro v' w10 hown' hgrow hat; obtain ⟨ga, ca, rfl⟩ := own_shapeG hown'; have hne10 : some (B.heap.size) ≠ (Value.slice la xs.length lc).ownBlock := (fun e => by have := (hown _ e.symm).1; have := heb; omega); have s10 : w10.cell? ⟨B.heap.size, 5, none⟩ = some (.slice la xs.length lc) := (gr_cell hgrow hSA.ex.1 hne10 5).trans sA; have sf10 : w10.frozen? ⟨B.heap.size, 5, none⟩ = false := (gr_frozen hgrow hSA.ex.1 hne10 5).trans (hSA.ex.2.2 5)))
        all_goals
          have hS10 : EG c B B.heap.size [.string ⟨x.name.toArray⟩, .int .i64 x.year, .slice la1 x.opts.length lc1, .slice la2 x.tabs.length lc2, .slice la3 x.grps.length lc3, .slice la xs.length lc, .slice none 0 0] at9 ft9 er9 w10 := hSA.other hgrow (fun g e => by have h1 := (hown g e).1; omega)
          have hal := World.grownBy_alloc w9 (.cells #[.string ⟨y.name.toArray⟩, .bool y.input, .bool y.must, .int .i64 y.type, .int .i64 y.opts, .int .i64 y.group, .slice ya y.cls.length yc] 73) none
          have hEx : eL.E (w9.alloc (.cells #[.string ⟨y.name.toArray⟩, .bool y.input, .bool y.must, .int .i64 y.type, .int .i64 y.opts, .int .i64 y.group, .slice ya y.cls.length yc] 73)) (fun b => wz.heap.size ≤ b) y [.string ⟨y.name.toArray⟩, .bool y.input, .bool y.must, .int .i64 y.type, .int .i64 y.opts, .int .i64 y.group, .slice ya y.cls.length yc] := eL.fr (show eL.E w9 (fun b => wz.heap.size ≤ b) y [.string ⟨y.name.toArray⟩, .bool y.input, .bool y.must, .int .i64 y.type, .int .i64 y.opts, .int .i64 y.group, .slice ya y.cls.length yc] from ⟨ya, yc, rfl, rg9, hF9⟩) hal.size (fun b _ hlt => hal.block b hlt (by simp))
          replace hR1 := row_low hR1 (⟨rfl, rfl, rfl, Nat.le_refl _, fun _ _ _ => rfl⟩ : wz.grownBy wz.drew (some c.r)) (show c.r < w2.heap.size by omega)
          replace hR2 := row_low hR2 (⟨rfl, rfl, rfl, Nat.le_refl _, fun _ _ _ => rfl⟩ : wz.grownBy wz.drew (some c.r)) (show c.r < w2.heap.size by omega)
          replace hR3 := row_low hR3 (⟨rfl, rfl, rfl, Nat.le_refl _, fun _ _ _ => rfl⟩ : wz.grownBy wz.drew (some c.r)) (show c.r < w2.heap.size by omega)
          replace hR1 := row_low hR1 hg9 (show c.r < w2.heap.size by omega)
          replace hR2 := row_low hR2 hg9 (show c.r < w2.heap.size by omega)
          replace hR3 := row_low hR3 hg9 (show c.r < w2.heap.size by omega)
          replace hR1 := row_high hR1 hal (fun g e => by cases e)
          replace hR2 := row_high hR2 hal (fun g e => by cases e)
          replace hR3 := row_high hR3 hal (fun g e => by cases e)
          replace hR1 := row_high hR1 hgrow (fun g e => by have := (hown g e).1; omega)
          replace hR2 := row_high hR2 hgrow (fun g e => by have := (hown g e).1; omega)
          replace hR3 := row_high hR3 hgrow (fun g e => by have := (hown g e).1; omega)
          have hS11 : EG c B B.heap.size [.string ⟨x.name.toArray⟩, .int .i64 x.year, .slice la1 x.opts.length lc1, .slice la2 x.tabs.length lc2, .slice la3 x.grps.length lc3, .slice ga (xs.length + 1) ca, .slice none 0 0] at9 ft9 er9 (w10.setCell ⟨B.heap.size, 5, none⟩ (.slice ga (xs.length + 1) ca)) := hS10.sete 5 (.slice ga (xs.length + 1) ca)
          have hG10 := gs_step (b0 := wz.heap.size) hEl hEx hlo (fun g e => (hown g e).2) hgrow hat hown'
          have hG11 := gs_kept hG10 heb (gr_set w10 (B.heap.size) 5 (.slice ga (xs.length + 1) ca))
          have hsz11 : V1.heap.size ≤ (w10.setCell ⟨B.heap.size, 5, none⟩ (.slice ga (xs.length + 1) ca)).heap.size := Nat.le_trans hsz (Nat.le_trans hgrow.size (gr_set w10 (B.heap.size) 5 (.slice ga (xs.length + 1) ca)).size)
          replace hR1 := row_high hR1 (gr_set w10 (B.heap.size) 5 (.slice ga (xs.length + 1) ca)) (fun g e => by have := Option.some.inj e; omega)
          replace hR2 := row_high hR2 (gr_set w10 (B.heap.size) 5 (.slice ga (xs.length + 1) ca)) (fun g e => by have := Option.some.inj e; omega)
          replace hR3 := row_high hR3 (gr_set w10 (B.heap.size) 5 (.slice ga (xs.length + 1) ca)) (fun g e => by have := Option.some.inj e; omega)
          have hq9 := Hid.mk (hq8.out.step hlt hp9)
          clear hS10 hEl ho hgrow hat hown' hEx hG10 hq8 hSA hS9 hSd hcall hC9 hg9 hp9 hGd sA s9 s4 hS8 hG8 hal hF9
          go_wp2
          go_roundw
          case rel => exact ⟨i + 1, xs ++ [y], _, _, _, _, by omega, by go_num, ⟨by rw [List.length_append, hxl.out]; rfl⟩, hS11, hsz11, hG11, hR1, hR2, hR3, hq9⟩
          case measure => simp [intOf]; omega
      · have hxlo := hxl.out
        have hAx := Hid.mk (hq8.out.done (by by_cases h : er8 = 0; exact .inl (by omega); exact .inr h) hxlo hin)
        have hrow : RowR eL wz (SB (B.heap.size + 1) wz.heap.size) xs la := by
          obtain ⟨a, cap, e, h⟩ := gs_done hG8
          simp only [Value.slice.injEq] at e
          rw [e.1]
          exact h.mo (fun b hlt hb => ⟨Nat.le_trans hVl1 hb, hlt⟩)
        clear hG8 hxlo hq8
        by_cases hlt : i < n
        · have hlt' : (i : Int) < (n : Int) := by omega
          have he8 : er8 ≠ 0 := fun e => hgo ⟨hlt, e⟩
          have he' : ((er8 : Int) == 0) = false := by simp; omega
          clear he8 hgo
          go_wp2_with fail
          go_meet
          exact ⟨rfl, xs, la, lc, at8, ft8, er8, hS8, hlo, hrow, hR1, hR2, hR3, hAx⟩
        · have hlt' : ¬ (i : Int) < (n : Int) := by omega
          clear hgo
          go_wp2_with fail
          go_meet
          exact ⟨rfl, xs, la, lc, at8, ft8, er8, hS8, hlo, hrow, hR1, hR2, hR3, hAx⟩
  case rest =>
  clear hS7 hsz7 hq7 hR1 hR2 hR3
  obtain ⟨rfl, xs4, la4, lc4, aE2, fE2, eE2, hE2, hLe, hR4, hR1, hR2, hR3, hpL1⟩ := hcut
  obtain ⟨Vx2, hVx⟩ : ∃ w, w = wc := ⟨_, rfl⟩
  rw [← hVx] at hE2 hLe hR4 hR1 hR2 hR3 ⊢
  clear hVx hrl heb hn2 hn0
  have hVl2 := Nat.le_trans hVl1 hLe
  clear hLe
  have hc := list_any c Vx2 hE2.cs
  go_wp2_with (go_at_call 14; fail)
  refine hc.mono ?_
  rintro e wl ⟨n, at7, ft7, er7, rfl, hn2, hn0, hC, hg, hp⟩
  have hS7 := hE2.call hC hg
  have hsz7 := hg.size
  have hrl : c.r < Vx2.heap.size := by omega
  have heb : B.heap.size < Vx2.heap.size := by omega
  replace hR1 := row_low hR1 hg (show c.r < w2.heap.size by omega)
  replace hR2 := row_low hR2 hg (show c.r < w2.heap.size by omega)
  replace hR3 := row_low hR3 hg (show c.r < w2.heap.size by omega)
  replace hR4 := row_low hR4 hg (show c.r < B.heap.size + 1 by omega)
  have hq7 := Lq.start (item := rCheck) hp hn0
  clear hc hC hg hE2 hp
  replace hq7 := Hid.mk hq7
  go_upto_block 2 with fail
  go_cut [7] (fun nv wx => nv = .int .i64 (n : Int) ∧ ∃ (xs : List Ck) (la : Option Addr) (lc a2 f2 e2 : Nat), EG c B B.heap.size [.string ⟨x.name.toArray⟩, .int .i64 x.year, .slice la1 x.opts.length lc1, .slice la2 x.tabs.length lc2, .slice la3 x.grps.length lc3, .slice la4 xs4.length lc4, .slice la xs.length lc] a2 f2 e2 wx ∧ Vx2.heap.size ≤ wx.heap.size ∧ RowR eK wx (SB (B.heap.size + 1) wx.heap.size) xs la ∧ RowR eO wx (SB (w2.heap.size) B.heap.size) x.opts la1 ∧ RowR eT wx (SB (w2.heap.size) B.heap.size) x.tabs la2 ∧ RowR eG wx (SB (w2.heap.size) B.heap.size) x.grps la3 ∧ RowR eL wx (SB (B.heap.size + 1) Vx2.heap.size) xs4 la4 ∧ Hid (Xp (rLst rCheck c.l aE2) fE2 eE2 a2 f2 e2 xs))
  case first =>
    go_wp2_with fail
    go_loopw [9] (fun iv wr => ∃ (i : Nat) (xs : List Ck) (lv : Value) (at2 ft2 er2 : Nat), i ≤ n ∧ iv = .int .i64 (i : Int) ∧ Hid (xs.length = i) ∧ EG c B B.heap.size [.string ⟨x.name.toArray⟩, .int .i64 x.year, .slice la1 x.opts.length lc1, .slice la2 x.tabs.length lc2, .slice la3 x.grps.length lc3, .slice la4 xs4.length lc4, lv] at2 ft2 er2 wr ∧ Vx2.heap.size ≤ wr.heap.size ∧ GS eK 79 Vx2.heap.size wr lv xs ∧ RowR eO wr (SB (w2.heap.size) B.heap.size) x.opts la1 ∧ RowR eT wr (SB (w2.heap.size) B.heap.size) x.tabs la2 ∧ RowR eG wr (SB (w2.heap.size) B.heap.size) x.grps la3 ∧ RowR eL wr (SB (B.heap.size + 1) Vx2.heap.size) xs4 la4 ∧ Hid (Lq (rCheck c.l) (rLst rCheck c.l aE2) n i fE2 eE2 at2 ft2 er2 xs)) (fun iv _ => n - (intOf iv).toNat)
    case atStart => exact ⟨0, [], .slice none 0 0, at7, ft7, er7, Nat.zero_le _, rfl, ⟨rfl⟩, hS7, hsz7, gs_nil _ _ _ _, hR1, hR2, hR3, hR4, hq7⟩
    case round =>
      clear hS7 hsz7 hq7 hR1 hR2 hR3 hR4
      obtain ⟨i, xs, lv, at8, ft8, er8, hin, rfl, hxl, hS8, hlo, hG8, hR1, hR2, hR3, hR4, hq8⟩ := hrel
      obtain ⟨wz, hwz⟩ : ∃ w, w = wr := ⟨_, rfl⟩
      rw [← hwz] at hS8 hlo hG8 hR1 hR2 hR3 hR4 ⊢
      clear hwz
      have c3 := hS8.cs.c3
      obtain ⟨la, lc, hlv⟩ : ∃ la lc, lv = .slice la xs.length lc := by obtain ⟨cs, ho, -⟩ := hG8; exact own_shapeG ho
      subst hlv
      by_cases hgo : i < n ∧ er8 = 0
      · obtain ⟨hlt, rfl⟩ := hgo
        have hlt' : (i : Int) < (n : Int) := by omega
        have hxl1 : xs.length ≤ 262144 := by have := hxl.out; omega
        have hown := fun g (e : (Value.slice la xs.length lc).ownBlock = some g) => hG8.choose_spec.1.lt g e
        have c3 : wz.cell? ⟨c.r, 3, none⟩ = some (.int .i64 0) := c3
        obtain ⟨i0, hi, hz0, hz1, hz2⟩ := info_parts info_check
        have hK := E4.new hS8 #[.string ⟨#[]⟩, .bool false, .int .i64 0, .int .i64 0, .int .i64 0, .int .i64 0, .int .i64 0, .slice none 0 0, .string ⟨#[]⟩] 79
        obtain ⟨U0, hU0⟩ : ∃ Y, wz.alloc (.cells #[.string ⟨#[]⟩, .bool false, .int .i64 0, .int .i64 0, .int .i64 0, .int .i64 0, .int .i64 0, .slice none 0 0, .string ⟨#[]⟩] 79) = Y := ⟨_, rfl⟩
        have hK0 : E4 c B wz (B.heap.size) wz.heap.size [.string ⟨x.name.toArray⟩, .int .i64 x.year, .slice la1 x.opts.length lc1, .slice la2 x.tabs.length lc2, .slice la3 x.grps.length lc3, .slice la4 xs4.length lc4, .slice la xs.length lc] [.string ⟨#[]⟩, .bool false, .int .i64 0, .int .i64 0, .int .i64 0, .int .i64 0, .int .i64 0, .slice none 0 0, .string ⟨#[]⟩] at8 ft8 0 U0 := by rw [← hU0]; exact hK
        clear hK
        have hc := text_any c U0 hK0.es.cs
        go_wp2_with (go_at_call 16; fail)
        clear hU0 c3
        refine hc.mono ?_
        rintro e u1 ⟨y1, ak1, fk1, ek1, rfl, hC, hg, hpk1⟩
        have hT := hK0.call hC hg
        have o10 : u1.cell? ⟨wz.heap.size, 0, none⟩ = some (.string ⟨#[]⟩) := hT.kx.2.1 0 (show 0 < 9 by decide)
        have of10 : u1.frozen? ⟨wz.heap.size, 0, none⟩ = false := hT.kx.2.2 0
        have hT := hT.setk 0 (.string ⟨y1.toArray⟩)
        obtain ⟨U10, hU10⟩ : ∃ Y, u1.setCell ⟨wz.heap.size, 0, none⟩ (.string ⟨y1.toArray⟩) = Y := ⟨_, rfl⟩
        have hT : E4 c B wz (B.heap.size) wz.heap.size [.string ⟨x.name.toArray⟩, .int .i64 x.year, .slice la1 x.opts.length lc1, .slice la2 x.tabs.length lc2, .slice la3 x.grps.length lc3, .slice la4 xs4.length lc4, .slice la xs.length lc] [.string ⟨y1.toArray⟩, .bool false, .int .i64 0, .int .i64 0, .int .i64 0, .int .i64 0, .int .i64 0, .slice none 0 0, .string ⟨#[]⟩] ak1 fk1 ek1 U10 := by rw [← hU10]; exact hT
        have hK1 := hT
        clear hc hC hg hT hK0
        have hc := flag_any c U10 hK1.es.cs
        go_wp2_with (go_at_call 17; fail)
        clear  hU10 o10 of10
        refine hc.mono ?_
        rintro e u2 ⟨y2, ak2, fk2, ek2, rfl, hC, hg, hpk2⟩
        have hT := hK1.call hC hg
        have o20 : u2.cell? ⟨wz.heap.size, 1, none⟩ = some (.bool false) := hT.kx.2.1 1 (show 1 < 9 by decide)
        have of20 : u2.frozen? ⟨wz.heap.size, 1, none⟩ = false := hT.kx.2.2 1
        have hT := hT.setk 1 (.bool y2)
        obtain ⟨U20, hU20⟩ : ∃ Y, u2.setCell ⟨wz.heap.size, 1, none⟩ (.bool y2) = Y := ⟨_, rfl⟩
        have hT : E4 c B wz (B.heap.size) wz.heap.size [.string ⟨x.name.toArray⟩, .int .i64 x.year, .slice la1 x.opts.length lc1, .slice la2 x.tabs.length lc2, .slice la3 x.grps.length lc3, .slice la4 xs4.length lc4, .slice la xs.length lc] [.string ⟨y1.toArray⟩, .bool y2, .int .i64 0, .int .i64 0, .int .i64 0, .int .i64 0, .int .i64 0, .slice none 0 0, .string ⟨#[]⟩] ak2 fk2 ek2 U20 := by rw [← hU20]; exact hT
        have hK2 := hT
        clear hc hC hg hT hK1
        have hc := int_any c U20 hK2.es.cs
        go_wp2_with (go_at_call 18; fail)
        clear  hU20 o20 of20
        refine hc.mono ?_
        rintro e u3 ⟨y3, ak3, fk3, ek3, rfl, rgy, hC, hg, hpk3⟩
        have hT := hK2.call hC hg
        have o30 : u3.cell? ⟨wz.heap.size, 2, none⟩ = some (.int .i64 0) := hT.kx.2.1 2 (show 2 < 9 by decide)
        have of30 : u3.frozen? ⟨wz.heap.size, 2, none⟩ = false := hT.kx.2.2 2
        have hT := hT.setk 2 (.int .i64 y3)
        obtain ⟨U30, hU30⟩ : ∃ Y, u3.setCell ⟨wz.heap.size, 2, none⟩ (.int .i64 y3) = Y := ⟨_, rfl⟩
        have hT : E4 c B wz (B.heap.size) wz.heap.size [.string ⟨x.name.toArray⟩, .int .i64 x.year, .slice la1 x.opts.length lc1, .slice la2 x.tabs.length lc2, .slice la3 x.grps.length lc3, .slice la4 xs4.length lc4, .slice la xs.length lc] [.string ⟨y1.toArray⟩, .bool y2, .int .i64 y3, .int .i64 0, .int .i64 0, .int .i64 0, .int .i64 0, .slice none 0 0, .string ⟨#[]⟩] ak3 fk3 ek3 U30 := by rw [← hU30]; exact hT
        have hK3 := hT
        clear hc hC hg hT hK2
        have hc := expr_one c U30 hK3.es.cs
        have hklg := hK3.kx.1
        have hwlg := hK3.gw.size
        go_wp2_with (go_at_call 19; fail)
        clear  hU30 o30 of30
        refine hc.mono ?_
        rintro e u4 ⟨xg, v, ak4, fk4, ek4, rfl, ⟨csg, rfl, ag, cg, rfl, rgg, hFg⟩, hC, hg, hpk4⟩
        obtain ⟨Ug, hUgE⟩ : ∃ Y, Y = U30 := ⟨_, rfl⟩
        rw [← hUgE] at hFg hklg hwlg
        clear hUgE
        have hT := hK3.call hC hg
        have o40 : u4.cell? ⟨wz.heap.size, 3, none⟩ = some (.int .i64 0) := hT.kx.2.1 3 (show 3 < 9 by decide)
        have of40 : u4.frozen? ⟨wz.heap.size, 3, none⟩ = false := hT.kx.2.2 3
        have hT := hT.setk 3 (.int .i64 xg.op)
        obtain ⟨U40, hU40⟩ : ∃ Y, u4.setCell ⟨wz.heap.size, 3, none⟩ (.int .i64 xg.op) = Y := ⟨_, rfl⟩
        have hT : E4 c B wz (B.heap.size) wz.heap.size [.string ⟨x.name.toArray⟩, .int .i64 x.year, .slice la1 x.opts.length lc1, .slice la2 x.tabs.length lc2, .slice la3 x.grps.length lc3, .slice la4 xs4.length lc4, .slice la xs.length lc] [.string ⟨y1.toArray⟩, .bool y2, .int .i64 y3, .int .i64 xg.op, .int .i64 0, .int .i64 0, .int .i64 0, .slice none 0 0, .string ⟨#[]⟩] ak4 fk4 ek4 U40 := by rw [← hU40]; exact hT
        have hFg' : FoAt U40 (fun b => Ug.heap.size ≤ b) xg.args ag := by rw [← hU40]; exact fo_keep hFg (gr_set _ _ _ _) hklg
        replace hFg := hFg'
        clear hFg'
        have o41 : U40.cell? ⟨wz.heap.size, 4, none⟩ = some (.int .i64 0) := hT.kx.2.1 4 (show 4 < 9 by decide)
        have of41 : U40.frozen? ⟨wz.heap.size, 4, none⟩ = false := hT.kx.2.2 4
        have hT := hT.setk 4 (.int .i64 xg.num)
        obtain ⟨U41, hU41⟩ : ∃ Y, U40.setCell ⟨wz.heap.size, 4, none⟩ (.int .i64 xg.num) = Y := ⟨_, rfl⟩
        have hT : E4 c B wz (B.heap.size) wz.heap.size [.string ⟨x.name.toArray⟩, .int .i64 x.year, .slice la1 x.opts.length lc1, .slice la2 x.tabs.length lc2, .slice la3 x.grps.length lc3, .slice la4 xs4.length lc4, .slice la xs.length lc] [.string ⟨y1.toArray⟩, .bool y2, .int .i64 y3, .int .i64 xg.op, .int .i64 xg.num, .int .i64 0, .int .i64 0, .slice none 0 0, .string ⟨#[]⟩] ak4 fk4 ek4 U41 := by rw [← hU41]; exact hT
        have hFg' : FoAt U41 (fun b => Ug.heap.size ≤ b) xg.args ag := by rw [← hU41]; exact fo_keep hFg (gr_set _ _ _ _) hklg
        replace hFg := hFg'
        clear hFg'
        have o42 : U41.cell? ⟨wz.heap.size, 5, none⟩ = some (.int .i64 0) := hT.kx.2.1 5 (show 5 < 9 by decide)
        have of42 : U41.frozen? ⟨wz.heap.size, 5, none⟩ = false := hT.kx.2.2 5
        have hT := hT.setk 5 (.int .i64 xg.den)
        obtain ⟨U42, hU42⟩ : ∃ Y, U41.setCell ⟨wz.heap.size, 5, none⟩ (.int .i64 xg.den) = Y := ⟨_, rfl⟩
        have hT : E4 c B wz (B.heap.size) wz.heap.size [.string ⟨x.name.toArray⟩, .int .i64 x.year, .slice la1 x.opts.length lc1, .slice la2 x.tabs.length lc2, .slice la3 x.grps.length lc3, .slice la4 xs4.length lc4, .slice la xs.length lc] [.string ⟨y1.toArray⟩, .bool y2, .int .i64 y3, .int .i64 xg.op, .int .i64 xg.num, .int .i64 xg.den, .int .i64 0, .slice none 0 0, .string ⟨#[]⟩] ak4 fk4 ek4 U42 := by rw [← hU42]; exact hT
        have hFg' : FoAt U42 (fun b => Ug.heap.size ≤ b) xg.args ag := by rw [← hU42]; exact fo_keep hFg (gr_set _ _ _ _) hklg
        replace hFg := hFg'
        clear hFg'
        have o43 : U42.cell? ⟨wz.heap.size, 6, none⟩ = some (.int .i64 0) := hT.kx.2.1 6 (show 6 < 9 by decide)
        have of43 : U42.frozen? ⟨wz.heap.size, 6, none⟩ = false := hT.kx.2.2 6
        have hT := hT.setk 6 (.int .i64 xg.mode)
        obtain ⟨U43, hU43⟩ : ∃ Y, U42.setCell ⟨wz.heap.size, 6, none⟩ (.int .i64 xg.mode) = Y := ⟨_, rfl⟩
        have hT : E4 c B wz (B.heap.size) wz.heap.size [.string ⟨x.name.toArray⟩, .int .i64 x.year, .slice la1 x.opts.length lc1, .slice la2 x.tabs.length lc2, .slice la3 x.grps.length lc3, .slice la4 xs4.length lc4, .slice la xs.length lc] [.string ⟨y1.toArray⟩, .bool y2, .int .i64 y3, .int .i64 xg.op, .int .i64 xg.num, .int .i64 xg.den, .int .i64 xg.mode, .slice none 0 0, .string ⟨#[]⟩] ak4 fk4 ek4 U43 := by rw [← hU43]; exact hT
        have hFg' : FoAt U43 (fun b => Ug.heap.size ≤ b) xg.args ag := by rw [← hU43]; exact fo_keep hFg (gr_set _ _ _ _) hklg
        replace hFg := hFg'
        clear hFg'
        have o44 : U43.cell? ⟨wz.heap.size, 7, none⟩ = some (.slice none 0 0) := hT.kx.2.1 7 (show 7 < 9 by decide)
        have of44 : U43.frozen? ⟨wz.heap.size, 7, none⟩ = false := hT.kx.2.2 7
        have hT := hT.setk 7 (.slice ag xg.args.len cg)
        obtain ⟨U44, hU44⟩ : ∃ Y, U43.setCell ⟨wz.heap.size, 7, none⟩ (.slice ag xg.args.len cg) = Y := ⟨_, rfl⟩
        have hT : E4 c B wz (B.heap.size) wz.heap.size [.string ⟨x.name.toArray⟩, .int .i64 x.year, .slice la1 x.opts.length lc1, .slice la2 x.tabs.length lc2, .slice la3 x.grps.length lc3, .slice la4 xs4.length lc4, .slice la xs.length lc] [.string ⟨y1.toArray⟩, .bool y2, .int .i64 y3, .int .i64 xg.op, .int .i64 xg.num, .int .i64 xg.den, .int .i64 xg.mode, .slice ag xg.args.len cg, .string ⟨#[]⟩] ak4 fk4 ek4 U44 := by rw [← hU44]; exact hT
        have hFg' : FoAt U44 (fun b => Ug.heap.size ≤ b) xg.args ag := by rw [← hU44]; exact fo_keep hFg (gr_set _ _ _ _) hklg
        replace hFg := hFg'
        clear hFg'
        have hK4 := hT
        clear hc hC hg hT hK3
        have hc := text_any c U44 hK4.es.cs
        go_wp2_with (go_at_call 16; fail)
        clear  hU40 o40 of40 hU41 o41 of41 hU42 o42 of42 hU43 o43 of43 hU44 o44 of44
        refine hc.mono ?_
        rintro e u5 ⟨y5, ak5, fk5, ek5, rfl, hC, hg, hpk5⟩
        replace hFg : FoAt u5 (fun b => Ug.heap.size ≤ b) xg.args ag := fo_keep hFg hg (by omega)
        have hT := hK4.call hC hg
        have o50 : u5.cell? ⟨wz.heap.size, 8, none⟩ = some (.string ⟨#[]⟩) := hT.kx.2.1 8 (show 8 < 9 by decide)
        have of50 : u5.frozen? ⟨wz.heap.size, 8, none⟩ = false := hT.kx.2.2 8
        have hT := hT.setk 8 (.string ⟨y5.toArray⟩)
        obtain ⟨U50, hU50⟩ : ∃ Y, u5.setCell ⟨wz.heap.size, 8, none⟩ (.string ⟨y5.toArray⟩) = Y := ⟨_, rfl⟩
        have hT : E4 c B wz (B.heap.size) wz.heap.size [.string ⟨x.name.toArray⟩, .int .i64 x.year, .slice la1 x.opts.length lc1, .slice la2 x.tabs.length lc2, .slice la3 x.grps.length lc3, .slice la4 xs4.length lc4, .slice la xs.length lc] [.string ⟨y1.toArray⟩, .bool y2, .int .i64 y3, .int .i64 xg.op, .int .i64 xg.num, .int .i64 xg.den, .int .i64 xg.mode, .slice ag xg.args.len cg, .string ⟨y5.toArray⟩] ak5 fk5 ek5 U50 := by rw [← hU50]; exact hT
        have hFg' : FoAt U50 (fun b => Ug.heap.size ≤ b) xg.args ag := by rw [← hU50]; exact fo_keep hFg (gr_set _ _ _ _) hklg
        replace hFg := hFg'
        clear hFg'
        have hK5 := hT
        clear hc hC hg hT hK4
        have hKA := hK5.alloc (.cells #[.string ⟨y1.toArray⟩, .bool y2, .int .i64 y3, .int .i64 xg.op, .int .i64 xg.num, .int .i64 xg.den, .int .i64 xg.mode, .slice ag xg.args.len cg, .string ⟨y5.toArray⟩] 79)
        have hGA := gs_alloc (gs_kept hG8 hrl hK5.gw) (.cells #[.string ⟨y1.toArray⟩, .bool y2, .int .i64 y3, .int .i64 xg.op, .int .i64 xg.num, .int .i64 xg.den, .int .i64 xg.mode, .slice ag xg.args.len cg, .string ⟨y5.toArray⟩] 79)
        obtain ⟨cs, ho, hEl⟩ := hGA
        have k0 : U50.cell? ⟨wz.heap.size, 0, none⟩ = some (.string ⟨y1.toArray⟩) := hK5.kx.2.1 0 (show 0 < 9 by decide)
        have k1 : U50.cell? ⟨wz.heap.size, 1, none⟩ = some (.bool y2) := hK5.kx.2.1 1 (show 1 < 9 by decide)
        have k2 : U50.cell? ⟨wz.heap.size, 2, none⟩ = some (.int .i64 y3) := hK5.kx.2.1 2 (show 2 < 9 by decide)
        have k3 : U50.cell? ⟨wz.heap.size, 3, none⟩ = some (.int .i64 xg.op) := hK5.kx.2.1 3 (show 3 < 9 by decide)
        have k4 : U50.cell? ⟨wz.heap.size, 4, none⟩ = some (.int .i64 xg.num) := hK5.kx.2.1 4 (show 4 < 9 by decide)
        have k5 : U50.cell? ⟨wz.heap.size, 5, none⟩ = some (.int .i64 xg.den) := hK5.kx.2.1 5 (show 5 < 9 by decide)
        have k6 : U50.cell? ⟨wz.heap.size, 6, none⟩ = some (.int .i64 xg.mode) := hK5.kx.2.1 6 (show 6 < 9 by decide)
        have k7 : U50.cell? ⟨wz.heap.size, 7, none⟩ = some (.slice ag xg.args.len cg) := hK5.kx.2.1 7 (show 7 < 9 by decide)
        have k8 : U50.cell? ⟨wz.heap.size, 8, none⟩ = some (.string ⟨y5.toArray⟩) := hK5.kx.2.1 8 (show 8 < 9 by decide)
        have l6 : U50.cell? ⟨B.heap.size, 6, none⟩ = some (.slice la xs.length lc) := hK5.es.ex.2.1 6 (show 6 < 7 by decide)
        have hsz : Vx2.heap.size ≤ (U50.alloc (.cells #[.string ⟨y1.toArray⟩, .bool y2, .int .i64 y3, .int .i64 xg.op, .int .i64 xg.num, .int .i64 xg.den, .int .i64 xg.mode, .slice ag xg.args.len cg, .string ⟨y5.toArray⟩] 79)).heap.size := Nat.le_trans hlo hKA.gw.size
        have lA : (U50.alloc (.cells #[.string ⟨y1.toArray⟩, .bool y2, .int .i64 y3, .int .i64 xg.op, .int .i64 xg.num, .int .i64 xg.den, .int .i64 xg.mode, .slice ag xg.args.len cg, .string ⟨y5.toArray⟩] 79)).cell? ⟨B.heap.size, 6, none⟩ = some (.slice la xs.length lc) := hKA.es.ex.2.1 6 (show 6 < 7 by decide)
        go_wp2_with (at_builtin; refine wpList_append_own_at (P := Try.prog) _ rfl _ _ 27 rfl Vx2.heap.size 79 i0 _ 9 104 Try.underlying27 hi hz0 hz1 hz2 rfl (by decide) _ xs.length cs rfl ho ⟨U50.heap.size, 0, none⟩ 1 1 [.string ⟨y1.toArray⟩, .bool y2, .int .i64 y3, .int .i64 xg.op, .int .i64 xg.num, .int .i64 xg.den, .int .i64 xg.mode, .slice ag xg.args.len cg, .string ⟨y5.toArray⟩] rfl rfl (lit_at U50 _ _) (by simp [Value.oneCell']) (by unfold maxLen; omega) (by omega) hsz ?_; intro v' w10 hown' hgrow _h hat; clear _h; obtain ⟨ga, ca, rfl⟩ := own_shapeG hown'; have hne10 : some (B.heap.size) ≠ (Value.slice la xs.length lc).ownBlock := (fun e => by have := (hown _ e.symm).1; omega); have s10 : w10.cell? ⟨B.heap.size, 6, none⟩ = some (.slice la xs.length lc) := (gr_cell hgrow hKA.es.ex.1 hne10 6).trans lA; have sf10 : w10.frozen? ⟨B.heap.size, 6, none⟩ = false := (gr_frozen hgrow hKA.es.ex.1 hne10 6).trans (hKA.es.ex.2.2 6); refine dbgM ?_)
        unfold Marker
        have hS10 : EG c B B.heap.size [.string ⟨x.name.toArray⟩, .int .i64 x.year, .slice la1 x.opts.length lc1, .slice la2 x.tabs.length lc2, .slice la3 x.grps.length lc3, .slice la4 xs4.length lc4, .slice la xs.length lc] ak5 fk5 ek5 w10 := hKA.es.other hgrow (fun g e => by have h1 := (hown g e).1; omega)
        have hal := World.grownBy_alloc U50 (.cells #[.string ⟨y1.toArray⟩, .bool y2, .int .i64 y3, .int .i64 xg.op, .int .i64 xg.num, .int .i64 xg.den, .int .i64 xg.mode, .slice ag xg.args.len cg, .string ⟨y5.toArray⟩] 79) none
        have hEx : eK.E (U50.alloc (.cells #[.string ⟨y1.toArray⟩, .bool y2, .int .i64 y3, .int .i64 xg.op, .int .i64 xg.num, .int .i64 xg.den, .int .i64 xg.mode, .slice ag xg.args.len cg, .string ⟨y5.toArray⟩] 79)) (fun b => wz.heap.size ≤ b) ⟨y1, y2, y3, xg, y5⟩ [.string ⟨y1.toArray⟩, .bool y2, .int .i64 y3, .int .i64 xg.op, .int .i64 xg.num, .int .i64 xg.den, .int .i64 xg.mode, .slice ag xg.args.len cg, .string ⟨y5.toArray⟩] := eK.fr (show eK.E U50 (fun b => wz.heap.size ≤ b) ⟨y1, y2, y3, xg, y5⟩ [.string ⟨y1.toArray⟩, .bool y2, .int .i64 y3, .int .i64 xg.op, .int .i64 xg.num, .int .i64 xg.den, .int .i64 xg.mode, .slice ag xg.args.len cg, .string ⟨y5.toArray⟩] from ⟨ag, cg, rfl, rgy, rgg, FoAt.mo (fun b _ hb => Nat.le_trans hwlg hb) _ _ hFg⟩) hal.size (fun b _ hlt => hal.block b hlt (by simp))
        replace hR1 := row_low hR1 hK5.gw (show c.r < w2.heap.size by omega)
        replace hR2 := row_low hR2 hK5.gw (show c.r < w2.heap.size by omega)
        replace hR3 := row_low hR3 hK5.gw (show c.r < w2.heap.size by omega)
        replace hR4 := row_low hR4 hK5.gw (show c.r < B.heap.size + 1 by omega)
        replace hR1 := row_high hR1 hal (fun g e => by cases e)
        replace hR2 := row_high hR2 hal (fun g e => by cases e)
        replace hR3 := row_high hR3 hal (fun g e => by cases e)
        replace hR4 := row_high hR4 hal (fun g e => by cases e)
        replace hR1 := row_high hR1 hgrow (fun g e => by have := (hown g e).1; omega)
        replace hR2 := row_high hR2 hgrow (fun g e => by have := (hown g e).1; omega)
        replace hR3 := row_high hR3 hgrow (fun g e => by have := (hown g e).1; omega)
        replace hR4 := row_high hR4 hgrow (fun g e => by have := (hown g e).1; omega)
        have hS11 : EG c B B.heap.size [.string ⟨x.name.toArray⟩, .int .i64 x.year, .slice la1 x.opts.length lc1, .slice la2 x.tabs.length lc2, .slice la3 x.grps.length lc3, .slice la4 xs4.length lc4, .slice ga (xs.length + 1) ca] ak5 fk5 ek5 (w10.setCell ⟨B.heap.size, 6, none⟩ (.slice ga (xs.length + 1) ca)) := hS10.sete 6 (.slice ga (xs.length + 1) ca)
        have hG10 := gs_step (b0 := wz.heap.size) hEl hEx hlo (fun g e => (hown g e).2) hgrow hat hown'
        have hG11 := gs_kept hG10 heb (gr_set w10 (B.heap.size) 6 (.slice ga (xs.length + 1) ca))
        have hsz11 : Vx2.heap.size ≤ (w10.setCell ⟨B.heap.size, 6, none⟩ (.slice ga (xs.length + 1) ca)).heap.size := Nat.le_trans hsz (Nat.le_trans hgrow.size (gr_set w10 (B.heap.size) 6 (.slice ga (xs.length + 1) ca)).size)
        replace hR1 := row_high hR1 (gr_set w10 (B.heap.size) 6 (.slice ga (xs.length + 1) ca)) (fun g e => by have := Option.some.inj e; omega)
        replace hR2 := row_high hR2 (gr_set w10 (B.heap.size) 6 (.slice ga (xs.length + 1) ca)) (fun g e => by have := Option.some.inj e; omega)
        replace hR3 := row_high hR3 (gr_set w10 (B.heap.size) 6 (.slice ga (xs.length + 1) ca)) (fun g e => by have := Option.some.inj e; omega)
        replace hR4 := row_low hR4 (gr_set w10 (B.heap.size) 6 (.slice ga (xs.length + 1) ca)) (show B.heap.size < B.heap.size + 1 by omega)
        have hq9 := Hid.mk (hq8.out.step hlt (hpk1.bd (hpk2.bd (hpk3.bd (hpk4.bd (hpk5.bd Xp.pure))))))
        clear hS10 hEl ho hgrow hat hown' hEx hG10 hq8 hKA hK5 hFg hS8 hG8 lA l6 hal k0 k1 k2 k3 k4 k5 k6 k7 k8 hpk1 hpk2 hpk3 hpk4 hpk5 hU50 o50 of50
        go_wp2
        go_roundw
        case rel => exact ⟨i + 1, xs ++ [⟨y1, y2, y3, xg, y5⟩], _, _, _, _, by omega, by go_num, ⟨by rw [List.length_append, hxl.out]; rfl⟩, hS11, hsz11, hG11, hR1, hR2, hR3, hR4, hq9⟩
        case measure => simp [intOf]; omega
      · have hxlo := hxl.out
        have hAx := Hid.mk (hq8.out.done (by by_cases h : er8 = 0; exact .inl (by omega); exact .inr h) hxlo hin)
        have hrow : RowR eK wz (SB (B.heap.size + 1) wz.heap.size) xs la := by
          obtain ⟨a, cap, e, h⟩ := gs_done hG8
          simp only [Value.slice.injEq] at e
          rw [e.1]
          exact h.mo (fun b hlt hb => ⟨Nat.le_trans hVl2 hb, hlt⟩)
        clear hG8 hxlo hq8
        by_cases hlt : i < n
        · have hlt' : (i : Int) < (n : Int) := by omega
          have he8 : er8 ≠ 0 := fun e => hgo ⟨hlt, e⟩
          have he' : ((er8 : Int) == 0) = false := by simp; omega
          clear he8 hgo
          go_wp2_with fail
          go_meet
          exact ⟨rfl, xs, la, lc, at8, ft8, er8, hS8, hlo, hrow, hR1, hR2, hR3, hR4, hAx⟩
        · have hlt' : ¬ (i : Int) < (n : Int) := by omega
          clear hgo
          go_wp2_with fail
          go_meet
          exact ⟨rfl, xs, la, lc, at8, ft8, er8, hS8, hlo, hrow, hR1, hR2, hR3, hR4, hAx⟩
  case rest =>
  clear hS7 hsz7 hq7 hR1 hR2 hR3 hR4
  obtain ⟨rfl, xs5, la5, lc5, aE3, fE3, eE3, hE3, hLe, hR5, hR1, hR2, hR3, hR4, hpL2⟩ := hcut
  obtain ⟨Vx3, hVx⟩ : ∃ w, w = wc := ⟨_, rfl⟩
  rw [← hVx] at hE3 hLe hR5 hR1 hR2 hR3 hR4 ⊢
  clear hVx hrl heb hn2 hn0
  have hVl3 := Nat.le_trans hVl2 hLe
  clear hLe
  have hAll : Hid (∀ (at2 ft2 er2 : Nat), Xp (rSum c.l aE3) fE3 eE3 at2 ft2 er2 () → Xp (rPack c.l 0) 0 0 at2 ft2 er2 ⟨x.name, x.year, x.opts, x.tabs, x.grps, xs4, xs5⟩) := ⟨fun at2 ft2 er2 hS => by rw [rPack_heads]; exact hpH.out.bd (hpP.bd (hpL1.out.bd (hpL2.out.bd (hS.bd Xp.pure))))⟩
  have hlen : c.l.length ≤ 131072 := by omega
  have hWr : W.heap.size ≠ c.r := by have := hcr.out; omega
  have hWr2 : W.heap.size ≤ c.r := by have := hcr.out; omega
  have hXV := hg4.trans hE3.gr
  have hb3 : Bx Vx3 W.heap.size [.string ⟨#[]⟩, .int .i64 0, .slice none 0 0, .slice none 0 0, .slice none 0 0, .slice none 0 0, .slice none 0 0] := hb0.kept hXV (fun e => hWr (Option.some.inj e))
  have hW3 : W.grownBy Vx3 (some c.r) := (hgW.but _).trans hXV
  have hC := hE3.cs
  clear hpH hpP hpL1 hpL2 hg4 hgW hb0 hXV hcr 
  have c1 := hC.c1
  by_cases he : eE3 = 0
  · subst he
    have hle := hC.le rfl
    have c3 := hC.c3
    by_cases hsh : c.l.length - aE3 < 4
    · have hsh' : (c.l.length : Int) - (aE3 : Int) < 4 := by omega
      have hs := short_any c Vx3 hC
      have hXs : Xp (rSum c.l aE3) fE3 0 aE3 c.l.length 70 () := by simpa using Xp.fail (M := rSum c.l aE3) (x := ()) (ft := fE3) (er := 0) (a := aE3) (p := c.l.length) (n := 70) (fun _ => by unfold rSum rRaw; rw [if_pos hsh]; rfl) (by decide)
      go_wp2_with (go_at_call 11; fail)
      refine hs.mono ?_
      rintro e w4 ⟨rfl, hF, hgF⟩
      rw [if_pos rfl, if_pos rfl] at hF
      have hb4 : Bx w4 W.heap.size [.string ⟨#[]⟩, .int .i64 0, .slice none 0 0, .slice none 0 0, .slice none 0 0, .slice none 0 0, .slice none 0 0] := hb3.kept hgF (fun e => hWr (Option.some.inj e))
      have hW4 := hW3.trans hgF
      have herr : (70 : Nat) ≠ 0 := by decide
      have hfl : c.l.length ≤ c.l.length := hF.fl
      have hB0 := below_gr hW4 hWr2
      have k3 : w4.cell? ⟨c.r, 3, none⟩ = some (.int .i64 (70 : Int)) := hF.c3
      have q0 : w4.cell? ⟨W.heap.size, 0, none⟩ = some (.string ⟨#[]⟩) := hb4.2.1 0 (show 0 < 7 by decide)
      have q1 : w4.cell? ⟨W.heap.size, 1, none⟩ = some (.int .i64 0) := hb4.2.1 1 (show 1 < 7 by decide)
      have q2 : w4.cell? ⟨W.heap.size, 2, none⟩ = some (.slice none 0 0) := hb4.2.1 2 (show 2 < 7 by decide)
      have q3 : w4.cell? ⟨W.heap.size, 3, none⟩ = some (.slice none 0 0) := hb4.2.1 3 (show 3 < 7 by decide)
      have q4 : w4.cell? ⟨W.heap.size, 4, none⟩ = some (.slice none 0 0) := hb4.2.1 4 (show 4 < 7 by decide)
      have q5 : w4.cell? ⟨W.heap.size, 5, none⟩ = some (.slice none 0 0) := hb4.2.1 5 (show 5 < 7 by decide)
      have q6 : w4.cell? ⟨W.heap.size, 6, none⟩ = some (.slice none 0 0) := hb4.2.1 6 (show 6 < 7 by decide)
      have fz0 : w4.frozen? ⟨W.heap.size, 0, none⟩ = false := hb4.2.2 0
      have fz1 : w4.frozen? ⟨W.heap.size, 1, none⟩ = false := hb4.2.2 1
      have fz2 : w4.frozen? ⟨W.heap.size, 2, none⟩ = false := hb4.2.2 2
      have fz3 : w4.frozen? ⟨W.heap.size, 3, none⟩ = false := hb4.2.2 3
      have fz4 : w4.frozen? ⟨W.heap.size, 4, none⟩ = false := hb4.2.2 4
      have fz5 : w4.frozen? ⟨W.heap.size, 5, none⟩ = false := hb4.2.2 5
      have fz6 : w4.frozen? ⟨W.heap.size, 6, none⟩ = false := hb4.2.2 6
      have hS0 : w4.drew.cell? ⟨c.r, 2, none⟩ = some (.int .i64 (c.l.length : Int)) ∧ w4.drew.cell? ⟨c.r, 3, none⟩ = some (.int .i64 (70 : Int)) ∧ w4.drew.cell? ⟨W.heap.size, 0, none⟩ = some (.string ⟨#[]⟩) ∧ w4.drew.cell? ⟨W.heap.size, 1, none⟩ = some (.int .i64 0) ∧ w4.drew.cell? ⟨W.heap.size, 2, none⟩ = some (.slice none 0 0) ∧ w4.drew.cell? ⟨W.heap.size, 3, none⟩ = some (.slice none 0 0) ∧ w4.drew.cell? ⟨W.heap.size, 4, none⟩ = some (.slice none 0 0) ∧ w4.drew.cell? ⟨W.heap.size, 5, none⟩ = some (.slice none 0 0) ∧ w4.drew.cell? ⟨W.heap.size, 6, none⟩ = some (.slice none 0 0) ∧ w4.drew.frozen? ⟨W.heap.size, 0, none⟩ = false ∧ w4.drew.frozen? ⟨W.heap.size, 1, none⟩ = false ∧ w4.drew.frozen? ⟨W.heap.size, 2, none⟩ = false ∧ w4.drew.frozen? ⟨W.heap.size, 3, none⟩ = false ∧ w4.drew.frozen? ⟨W.heap.size, 4, none⟩ = false ∧ w4.drew.frozen? ⟨W.heap.size, 5, none⟩ = false ∧ w4.drew.frozen? ⟨W.heap.size, 6, none⟩ = false ∧ w4.drew.setCell ⟨W.heap.size, 0, none⟩ (.string ⟨#[]⟩) = w4.drew ∧ w4.drew.setCell ⟨W.heap.size, 1, none⟩ (.int .i64 0) = w4.drew ∧ w4.drew.setCell ⟨W.heap.size, 2, none⟩ (.slice none 0 0) = w4.drew ∧ w4.drew.setCell ⟨W.heap.size, 3, none⟩ (.slice none 0 0) = w4.drew ∧ w4.drew.setCell ⟨W.heap.size, 4, none⟩ (.slice none 0 0) = w4.drew ∧ w4.drew.setCell ⟨W.heap.size, 5, none⟩ (.slice none 0 0) = w4.drew ∧ w4.drew.setCell ⟨W.heap.size, 6, none⟩ (.slice none 0 0) = w4.drew ∧ Below W.heap.size W w4.drew := ⟨hF.c2, k3, q0, q1, q2, q3, q4, q5, q6, fz0, fz1, fz2, fz3, fz4, fz5, fz6, set_id q0, set_id q1, set_id q2, set_id q3, set_id q4, set_id q5, set_id q6, hB0.drew⟩
      have hok2 : Hid ((70 : Nat) ≠ 0 ∧ rPack c.l 0 = .error (c.l.length, 70)) := ⟨herr, xp_err (hAll.out _ _ _ hXs) herr⟩
      clear hAll herr hXs hE3 hC hb3 hW3 c1 c3 hR1 hR2 hR3 hR4 hR5 hF hgF hb4 hW4 hs hsh hB0 q0 q1 q2 q3 q4 q5 q6 fz0 fz1 fz2 fz3 fz4 fz5 fz6
      go_wp2_with fail
      go_region_held3 (fun X => X.cell? ⟨c.r, 2, none⟩ = some (.int .i64 (c.l.length : Int)) ∧ X.cell? ⟨c.r, 3, none⟩ = some (.int .i64 (70 : Int)) ∧ X.cell? ⟨W.heap.size, 0, none⟩ = some (.string ⟨#[]⟩) ∧ X.cell? ⟨W.heap.size, 1, none⟩ = some (.int .i64 0) ∧ X.cell? ⟨W.heap.size, 2, none⟩ = some (.slice none 0 0) ∧ X.cell? ⟨W.heap.size, 3, none⟩ = some (.slice none 0 0) ∧ X.cell? ⟨W.heap.size, 4, none⟩ = some (.slice none 0 0) ∧ X.cell? ⟨W.heap.size, 5, none⟩ = some (.slice none 0 0) ∧ X.cell? ⟨W.heap.size, 6, none⟩ = some (.slice none 0 0) ∧ X.frozen? ⟨W.heap.size, 0, none⟩ = false ∧ X.frozen? ⟨W.heap.size, 1, none⟩ = false ∧ X.frozen? ⟨W.heap.size, 2, none⟩ = false ∧ X.frozen? ⟨W.heap.size, 3, none⟩ = false ∧ X.frozen? ⟨W.heap.size, 4, none⟩ = false ∧ X.frozen? ⟨W.heap.size, 5, none⟩ = false ∧ X.frozen? ⟨W.heap.size, 6, none⟩ = false ∧ X.setCell ⟨W.heap.size, 0, none⟩ (.string ⟨#[]⟩) = X ∧ X.setCell ⟨W.heap.size, 1, none⟩ (.int .i64 0) = X ∧ X.setCell ⟨W.heap.size, 2, none⟩ (.slice none 0 0) = X ∧ X.setCell ⟨W.heap.size, 3, none⟩ (.slice none 0 0) = X ∧ X.setCell ⟨W.heap.size, 4, none⟩ (.slice none 0 0) = X ∧ X.setCell ⟨W.heap.size, 5, none⟩ (.slice none 0 0) = X ∧ X.setCell ⟨W.heap.size, 6, none⟩ (.slice none 0 0) = X ∧ Below W.heap.size W X) (assumption)
        (first | (fail))
      obtain ⟨-, -, p0, p1, p2, p3, p4, p5, p6, -, -, -, -, -, -, -, -, -, -, -, -, -, -, hBz⟩ := hS0
      have hfin : GetP c.l W (.returned (.tuple #[.agg #[.string ⟨#[]⟩, .int .i64 0, .slice none 0 0, .slice none 0 0, .slice none 0 0, .slice none 0 0, .slice none 0 0], .int .i64 (c.l.length : Int), .int .i64 (70 : Int)])) w4.drew := ⟨hBz, .inr (.inl ⟨hlen, c.l.length, 70, hok2.out.2, hok2.out.1, hfl, rfl⟩)⟩
      go_wp2
      exact bodyPost_ret (v := .tuple #[.agg #[.string ⟨#[]⟩, .int .i64 0, .slice none 0 0, .slice none 0 0, .slice none 0 0, .slice none 0 0, .slice none 0 0], .int .i64 (c.l.length : Int), .int .i64 (70 : Int)]) (by simp [results, Try.results4, go_sem, p0, p1, p2, p3, p4, p5, p6]) rfl hfin
    · have hsh' : ¬ (c.l.length : Int) - (aE3 : Int) < 4 := by omega
      rcases hC.by_ with hnil | ⟨b, off, ha, hblt, hne, hcb⟩
      · rw [hnil] at hsh; exact absurd (show 0 - aE3 < 4 by omega) hsh
      have hl2 : ((c.l.take aE3).map UInt8.toNat).length = aE3 := by rw [List.length_map, List.length_take]; omega
      have hsum := V.rsum_any c.a c.cap ((c.l.take aE3).map UInt8.toNat) (by rw [hl2]; omega) Vx3 (byts_cs hC)
      rw [hl2, ha] at hsum
      obtain ⟨N, hNe⟩ : ∃ N, N = fnv ((c.l.take aE3).map UInt8.toNat) := ⟨_, rfl⟩
      rw [← hNe] at hsum
      have hN : N < 4294967296 := by rw [hNe]; exact fnv_lt _
      obtain ⟨dd, hdd⟩ : ∃ dd : Nat → Nat, dd = fun j => ((c.l.drop aE3).getD j 0).toNat := ⟨_, rfl⟩
      have hd : ∀ j, dd j < 256 := fun j => by rw [hdd]; exact UInt8.toNat_lt _
      have hcell : ∀ j, j < 4 → Vx3.cell? ⟨b, off + (aE3 + j), none⟩ = some (.int .u8 (dd j : Int)) := fun j hj => by
        rw [hcb (aE3 + j) (by omega), hdd]
        simp [List.getD, List.getElem?_drop, List.getElem?_eq_getElem (show aE3 + j < c.l.length by omega)]
      have hSM : Hid (rSum c.l aE3 = if tq dd 4 = N then (if 0 < c.l.length - (aE3 + 4) then .error (aE3 + 4, 73) else .ok ((), aE3 + 4)) else .error (aE3, 74)) := ⟨by rw [hNe, hdd]; exact rsum_tq c.l aE3 (by omega)⟩
      have a0 : (0 : Int) ≤ (aE3 : Int) := by omega
      have hlc := hC.lc
      have a1 : (aE3 : Int) ≤ (c.cap : Int) := by omega
      have c1' := hC.c1
      have hcellH := Hid.mk hcell
      have hdH := Hid.mk hd
      clear hcell hd hdd hNe hl2 hcb
      rw [ha]
      go_wp2_with (go_at_call 20; fail)
      refine hsum.mono ?_
      rintro e wS ⟨rfl, rfl⟩
      clear hsum
      go_wp2_with fail
      go_loopw [12, 13] (fun tv kv wr => ∃ q : Nat, q ≤ 4 ∧ kv = .int .i64 (3 - (q : Int)) ∧ tv = .int .u32 (tq dd q : Int) ∧ wr = wS) (fun _ kv _ => (intOf kv + 1).toNat)
      case atStart => exact ⟨0, Nat.zero_le _, rfl, rfl, rfl⟩
      case round =>
        obtain ⟨q, hq, rfl, rfl, rfl⟩ := hrel
        by_cases hq4 : q < 4
        · have hk0 : (0 : Int) ≤ 3 - (q : Int) := by omega
          have ci := hcellH.out (3 - q) (by omega)
          have hb1 := hdH.out (3 - q)
          have hb2 := tq_lt dd hdH.out q (by omega)
          have hst : tq dd (q + 1) = 256 * tq dd q + dd (3 - q) := rfl
          obtain ⟨j, hj⟩ : ∃ j, j = aE3 + (3 - q) := ⟨_, rfl⟩
          have hjI : (aE3 : Int) + (3 - (q : Int)) = (j : Int) := by omega
          have hj0 : (0 : Int) ≤ (j : Int) := by omega
          have hjl : (j : Int) < (c.l.length : Int) := by omega
          rw [← hj] at ci
          have hstH := Hid.mk hst
          clear hst hj
          obtain ⟨d1, hd1⟩ : ∃ d, d = dd (3 - q) := ⟨_, rfl⟩
          obtain ⟨t1, ht1⟩ : ∃ d, d = tq dd q := ⟨_, rfl⟩
          rw [← hd1] at ci hb1 hstH
          rw [← ht1] at hb2 hstH ⊢
          clear hd1 ht1
          have hq3 : (q : Int) ≤ 3 := by omega
          go_wp2
          go_roundw
          case rel => exact ⟨q + 1, by omega, by go_num, by rw [hstH.out]; go_num, trivial⟩
          case measure => simp [intOf]; omega
        · have hk0 : ¬ (0 : Int) ≤ 3 - (q : Int) := by omega
          obtain rfl : q = 4 := by omega
          obtain ⟨T, hT⟩ : ∃ T, T = tq dd 4 := ⟨_, rfl⟩
          rw [← hT] at hSM ⊢
          clear hT hcellH hdH
          by_cases hNT : T = N
          · subst hNT
            by_cases hmo : aE3 + 4 < c.l.length
            · obtain ⟨pq4, hp4⟩ : ∃ p, p = aE3 + 4 := ⟨_, rfl⟩
              have hpI : (aE3 : Int) + 4 = (pq4 : Int) := by omega
              have hmo' : (pq4 : Int) < (c.l.length : Int) := by omega
              have hft := fault_any c pq4 73 (by omega) (by omega) wr hC
              have hXs : Xp (rSum c.l aE3) fE3 0 aE3 pq4 73 () := by simpa using Xp.fail (M := rSum c.l aE3) (x := ()) (ft := fE3) (er := 0) (a := aE3) (p := pq4) (n := 73) (fun _ => by rw [hSM.out, if_pos rfl, if_pos (by omega), hp4]) (by decide)
              clear hp4 hSM
              go_wp2_with (go_at_call 12; fail)
              refine hft.mono ?_
              rintro e w4 ⟨rfl, hF, hgF⟩
              rw [if_pos rfl, if_pos rfl] at hF
              have hb4 : Bx w4 W.heap.size [.string ⟨#[]⟩, .int .i64 0, .slice none 0 0, .slice none 0 0, .slice none 0 0, .slice none 0 0, .slice none 0 0] := hb3.kept hgF (fun e => hWr (Option.some.inj e))
              have hW4 := hW3.trans hgF
              have herr : (73 : Nat) ≠ 0 := by decide
              have hfl : pq4 ≤ c.l.length := hF.fl
              have hB0 := below_gr hW4 hWr2
              have k3 : w4.cell? ⟨c.r, 3, none⟩ = some (.int .i64 (73 : Int)) := hF.c3
              have q0 : w4.cell? ⟨W.heap.size, 0, none⟩ = some (.string ⟨#[]⟩) := hb4.2.1 0 (show 0 < 7 by decide)
              have q1 : w4.cell? ⟨W.heap.size, 1, none⟩ = some (.int .i64 0) := hb4.2.1 1 (show 1 < 7 by decide)
              have q2 : w4.cell? ⟨W.heap.size, 2, none⟩ = some (.slice none 0 0) := hb4.2.1 2 (show 2 < 7 by decide)
              have q3 : w4.cell? ⟨W.heap.size, 3, none⟩ = some (.slice none 0 0) := hb4.2.1 3 (show 3 < 7 by decide)
              have q4 : w4.cell? ⟨W.heap.size, 4, none⟩ = some (.slice none 0 0) := hb4.2.1 4 (show 4 < 7 by decide)
              have q5 : w4.cell? ⟨W.heap.size, 5, none⟩ = some (.slice none 0 0) := hb4.2.1 5 (show 5 < 7 by decide)
              have q6 : w4.cell? ⟨W.heap.size, 6, none⟩ = some (.slice none 0 0) := hb4.2.1 6 (show 6 < 7 by decide)
              have fz0 : w4.frozen? ⟨W.heap.size, 0, none⟩ = false := hb4.2.2 0
              have fz1 : w4.frozen? ⟨W.heap.size, 1, none⟩ = false := hb4.2.2 1
              have fz2 : w4.frozen? ⟨W.heap.size, 2, none⟩ = false := hb4.2.2 2
              have fz3 : w4.frozen? ⟨W.heap.size, 3, none⟩ = false := hb4.2.2 3
              have fz4 : w4.frozen? ⟨W.heap.size, 4, none⟩ = false := hb4.2.2 4
              have fz5 : w4.frozen? ⟨W.heap.size, 5, none⟩ = false := hb4.2.2 5
              have fz6 : w4.frozen? ⟨W.heap.size, 6, none⟩ = false := hb4.2.2 6
              have hS0 : w4.drew.cell? ⟨c.r, 2, none⟩ = some (.int .i64 (pq4 : Int)) ∧ w4.drew.cell? ⟨c.r, 3, none⟩ = some (.int .i64 (73 : Int)) ∧ w4.drew.cell? ⟨W.heap.size, 0, none⟩ = some (.string ⟨#[]⟩) ∧ w4.drew.cell? ⟨W.heap.size, 1, none⟩ = some (.int .i64 0) ∧ w4.drew.cell? ⟨W.heap.size, 2, none⟩ = some (.slice none 0 0) ∧ w4.drew.cell? ⟨W.heap.size, 3, none⟩ = some (.slice none 0 0) ∧ w4.drew.cell? ⟨W.heap.size, 4, none⟩ = some (.slice none 0 0) ∧ w4.drew.cell? ⟨W.heap.size, 5, none⟩ = some (.slice none 0 0) ∧ w4.drew.cell? ⟨W.heap.size, 6, none⟩ = some (.slice none 0 0) ∧ w4.drew.frozen? ⟨W.heap.size, 0, none⟩ = false ∧ w4.drew.frozen? ⟨W.heap.size, 1, none⟩ = false ∧ w4.drew.frozen? ⟨W.heap.size, 2, none⟩ = false ∧ w4.drew.frozen? ⟨W.heap.size, 3, none⟩ = false ∧ w4.drew.frozen? ⟨W.heap.size, 4, none⟩ = false ∧ w4.drew.frozen? ⟨W.heap.size, 5, none⟩ = false ∧ w4.drew.frozen? ⟨W.heap.size, 6, none⟩ = false ∧ w4.drew.setCell ⟨W.heap.size, 0, none⟩ (.string ⟨#[]⟩) = w4.drew ∧ w4.drew.setCell ⟨W.heap.size, 1, none⟩ (.int .i64 0) = w4.drew ∧ w4.drew.setCell ⟨W.heap.size, 2, none⟩ (.slice none 0 0) = w4.drew ∧ w4.drew.setCell ⟨W.heap.size, 3, none⟩ (.slice none 0 0) = w4.drew ∧ w4.drew.setCell ⟨W.heap.size, 4, none⟩ (.slice none 0 0) = w4.drew ∧ w4.drew.setCell ⟨W.heap.size, 5, none⟩ (.slice none 0 0) = w4.drew ∧ w4.drew.setCell ⟨W.heap.size, 6, none⟩ (.slice none 0 0) = w4.drew ∧ Below W.heap.size W w4.drew := ⟨hF.c2, k3, q0, q1, q2, q3, q4, q5, q6, fz0, fz1, fz2, fz3, fz4, fz5, fz6, set_id q0, set_id q1, set_id q2, set_id q3, set_id q4, set_id q5, set_id q6, hB0.drew⟩
              have hok2 : Hid ((73 : Nat) ≠ 0 ∧ rPack c.l 0 = .error (pq4, 73)) := ⟨herr, xp_err (hAll.out _ _ _ hXs) herr⟩
              clear hAll herr hXs hE3 hC hb3 hW3 c1 c1' c3 hR1 hR2 hR3 hR4 hR5 hF hgF hb4 hW4 hft hsh hne hblt hB0 q0 q1 q2 q3 q4 q5 q6 fz0 fz1 fz2 fz3 fz4 fz5 fz6
              go_wp2_with fail
              go_region_held3 (fun X => X.cell? ⟨c.r, 2, none⟩ = some (.int .i64 (pq4 : Int)) ∧ X.cell? ⟨c.r, 3, none⟩ = some (.int .i64 (73 : Int)) ∧ X.cell? ⟨W.heap.size, 0, none⟩ = some (.string ⟨#[]⟩) ∧ X.cell? ⟨W.heap.size, 1, none⟩ = some (.int .i64 0) ∧ X.cell? ⟨W.heap.size, 2, none⟩ = some (.slice none 0 0) ∧ X.cell? ⟨W.heap.size, 3, none⟩ = some (.slice none 0 0) ∧ X.cell? ⟨W.heap.size, 4, none⟩ = some (.slice none 0 0) ∧ X.cell? ⟨W.heap.size, 5, none⟩ = some (.slice none 0 0) ∧ X.cell? ⟨W.heap.size, 6, none⟩ = some (.slice none 0 0) ∧ X.frozen? ⟨W.heap.size, 0, none⟩ = false ∧ X.frozen? ⟨W.heap.size, 1, none⟩ = false ∧ X.frozen? ⟨W.heap.size, 2, none⟩ = false ∧ X.frozen? ⟨W.heap.size, 3, none⟩ = false ∧ X.frozen? ⟨W.heap.size, 4, none⟩ = false ∧ X.frozen? ⟨W.heap.size, 5, none⟩ = false ∧ X.frozen? ⟨W.heap.size, 6, none⟩ = false ∧ X.setCell ⟨W.heap.size, 0, none⟩ (.string ⟨#[]⟩) = X ∧ X.setCell ⟨W.heap.size, 1, none⟩ (.int .i64 0) = X ∧ X.setCell ⟨W.heap.size, 2, none⟩ (.slice none 0 0) = X ∧ X.setCell ⟨W.heap.size, 3, none⟩ (.slice none 0 0) = X ∧ X.setCell ⟨W.heap.size, 4, none⟩ (.slice none 0 0) = X ∧ X.setCell ⟨W.heap.size, 5, none⟩ (.slice none 0 0) = X ∧ X.setCell ⟨W.heap.size, 6, none⟩ (.slice none 0 0) = X ∧ Below W.heap.size W X) (assumption)
                (first | (fail))
              obtain ⟨-, -, p0, p1, p2, p3, p4, p5, p6, -, -, -, -, -, -, -, -, -, -, -, -, -, -, hBz⟩ := hS0
              have hfin : GetP c.l W (.returned (.tuple #[.agg #[.string ⟨#[]⟩, .int .i64 0, .slice none 0 0, .slice none 0 0, .slice none 0 0, .slice none 0 0, .slice none 0 0], .int .i64 (pq4 : Int), .int .i64 (73 : Int)])) w4.drew := ⟨hBz, .inr (.inl ⟨hlen, pq4, 73, hok2.out.2, hok2.out.1, hfl, rfl⟩)⟩
              go_wp2
              exact bodyPost_ret (v := .tuple #[.agg #[.string ⟨#[]⟩, .int .i64 0, .slice none 0 0, .slice none 0 0, .slice none 0 0, .slice none 0 0, .slice none 0 0], .int .i64 (pq4 : Int), .int .i64 (73 : Int)]) (by simp [results, Try.results4, go_sem, p0, p1, p2, p3, p4, p5, p6]) rfl hfin
            · have hmo' : ¬ (aE3 : Int) + 4 < (c.l.length : Int) := by omega
              have hXs : Xp (rSum c.l aE3) fE3 0 (aE3 + 4) fE3 0 () := by rw [hSM.out, if_pos rfl, if_neg (by omega)]; exact Xp.pure
              have hok := xp_ok (hAll.out _ _ _ hXs)
              have e0 : wr.cell? ⟨B.heap.size, 0, none⟩ = some (.string ⟨x.name.toArray⟩) := hE3.ex.2.1 0 (show 0 < 7 by decide)
              have e1 : wr.cell? ⟨B.heap.size, 1, none⟩ = some (.int .i64 x.year) := hE3.ex.2.1 1 (show 1 < 7 by decide)
              have e2 : wr.cell? ⟨B.heap.size, 2, none⟩ = some (.slice la1 x.opts.length lc1) := hE3.ex.2.1 2 (show 2 < 7 by decide)
              have e3 : wr.cell? ⟨B.heap.size, 3, none⟩ = some (.slice la2 x.tabs.length lc2) := hE3.ex.2.1 3 (show 3 < 7 by decide)
              have e4 : wr.cell? ⟨B.heap.size, 4, none⟩ = some (.slice la3 x.grps.length lc3) := hE3.ex.2.1 4 (show 4 < 7 by decide)
              have e5 : wr.cell? ⟨B.heap.size, 5, none⟩ = some (.slice la4 xs4.length lc4) := hE3.ex.2.1 5 (show 5 < 7 by decide)
              have e6 : wr.cell? ⟨B.heap.size, 6, none⟩ = some (.slice la5 xs5.length lc5) := hE3.ex.2.1 6 (show 6 < 7 by decide)
              have r0 : wr.cell? ⟨W.heap.size, 0, none⟩ = some (.string ⟨#[]⟩) := hb3.2.1 0 (show 0 < 7 by decide)
              have rf0 : wr.frozen? ⟨W.heap.size, 0, none⟩ = false := hb3.2.2 0
              have hy0 := hb3.set 0 (.string ⟨x.name.toArray⟩)
              have hx0 := gr_setO (i := 0) (v := .string ⟨x.name.toArray⟩) hW3 (Nat.le_refl _)
              obtain ⟨Y0, hY0⟩ : ∃ Y, wr.setCell ⟨W.heap.size, 0, none⟩ (.string ⟨x.name.toArray⟩) = Y := ⟨_, rfl⟩
              have hy0 : Bx Y0 W.heap.size [.string ⟨x.name.toArray⟩, .int .i64 0, .slice none 0 0, .slice none 0 0, .slice none 0 0, .slice none 0 0, .slice none 0 0] := by rw [← hY0]; exact hy0
              rw [hY0] at hx0
              have r1 : Y0.cell? ⟨W.heap.size, 1, none⟩ = some (.int .i64 0) := hy0.2.1 1 (show 1 < 7 by decide)
              have rf1 : Y0.frozen? ⟨W.heap.size, 1, none⟩ = false := hy0.2.2 1
              have hy1 := hy0.set 1 (.int .i64 x.year)
              have hx1 := gr_setO (i := 1) (v := .int .i64 x.year) hx0 (Nat.le_refl _)
              obtain ⟨Y1, hY1⟩ : ∃ Y, Y0.setCell ⟨W.heap.size, 1, none⟩ (.int .i64 x.year) = Y := ⟨_, rfl⟩
              have hy1 : Bx Y1 W.heap.size [.string ⟨x.name.toArray⟩, .int .i64 x.year, .slice none 0 0, .slice none 0 0, .slice none 0 0, .slice none 0 0, .slice none 0 0] := by rw [← hY1]; exact hy1
              rw [hY1] at hx1
              have r2 : Y1.cell? ⟨W.heap.size, 2, none⟩ = some (.slice none 0 0) := hy1.2.1 2 (show 2 < 7 by decide)
              have rf2 : Y1.frozen? ⟨W.heap.size, 2, none⟩ = false := hy1.2.2 2
              have hy2 := hy1.set 2 (.slice la1 x.opts.length lc1)
              have hx2 := gr_setO (i := 2) (v := .slice la1 x.opts.length lc1) hx1 (Nat.le_refl _)
              obtain ⟨Y2, hY2⟩ : ∃ Y, Y1.setCell ⟨W.heap.size, 2, none⟩ (.slice la1 x.opts.length lc1) = Y := ⟨_, rfl⟩
              have hy2 : Bx Y2 W.heap.size [.string ⟨x.name.toArray⟩, .int .i64 x.year, .slice la1 x.opts.length lc1, .slice none 0 0, .slice none 0 0, .slice none 0 0, .slice none 0 0] := by rw [← hY2]; exact hy2
              rw [hY2] at hx2
              have r3 : Y2.cell? ⟨W.heap.size, 3, none⟩ = some (.slice none 0 0) := hy2.2.1 3 (show 3 < 7 by decide)
              have rf3 : Y2.frozen? ⟨W.heap.size, 3, none⟩ = false := hy2.2.2 3
              have hy3 := hy2.set 3 (.slice la2 x.tabs.length lc2)
              have hx3 := gr_setO (i := 3) (v := .slice la2 x.tabs.length lc2) hx2 (Nat.le_refl _)
              obtain ⟨Y3, hY3⟩ : ∃ Y, Y2.setCell ⟨W.heap.size, 3, none⟩ (.slice la2 x.tabs.length lc2) = Y := ⟨_, rfl⟩
              have hy3 : Bx Y3 W.heap.size [.string ⟨x.name.toArray⟩, .int .i64 x.year, .slice la1 x.opts.length lc1, .slice la2 x.tabs.length lc2, .slice none 0 0, .slice none 0 0, .slice none 0 0] := by rw [← hY3]; exact hy3
              rw [hY3] at hx3
              have r4 : Y3.cell? ⟨W.heap.size, 4, none⟩ = some (.slice none 0 0) := hy3.2.1 4 (show 4 < 7 by decide)
              have rf4 : Y3.frozen? ⟨W.heap.size, 4, none⟩ = false := hy3.2.2 4
              have hy4 := hy3.set 4 (.slice la3 x.grps.length lc3)
              have hx4 := gr_setO (i := 4) (v := .slice la3 x.grps.length lc3) hx3 (Nat.le_refl _)
              obtain ⟨Y4, hY4⟩ : ∃ Y, Y3.setCell ⟨W.heap.size, 4, none⟩ (.slice la3 x.grps.length lc3) = Y := ⟨_, rfl⟩
              have hy4 : Bx Y4 W.heap.size [.string ⟨x.name.toArray⟩, .int .i64 x.year, .slice la1 x.opts.length lc1, .slice la2 x.tabs.length lc2, .slice la3 x.grps.length lc3, .slice none 0 0, .slice none 0 0] := by rw [← hY4]; exact hy4
              rw [hY4] at hx4
              have r5 : Y4.cell? ⟨W.heap.size, 5, none⟩ = some (.slice none 0 0) := hy4.2.1 5 (show 5 < 7 by decide)
              have rf5 : Y4.frozen? ⟨W.heap.size, 5, none⟩ = false := hy4.2.2 5
              have hy5 := hy4.set 5 (.slice la4 xs4.length lc4)
              have hx5 := gr_setO (i := 5) (v := .slice la4 xs4.length lc4) hx4 (Nat.le_refl _)
              obtain ⟨Y5, hY5⟩ : ∃ Y, Y4.setCell ⟨W.heap.size, 5, none⟩ (.slice la4 xs4.length lc4) = Y := ⟨_, rfl⟩
              have hy5 : Bx Y5 W.heap.size [.string ⟨x.name.toArray⟩, .int .i64 x.year, .slice la1 x.opts.length lc1, .slice la2 x.tabs.length lc2, .slice la3 x.grps.length lc3, .slice la4 xs4.length lc4, .slice none 0 0] := by rw [← hY5]; exact hy5
              rw [hY5] at hx5
              have r6 : Y5.cell? ⟨W.heap.size, 6, none⟩ = some (.slice none 0 0) := hy5.2.1 6 (show 6 < 7 by decide)
              have rf6 : Y5.frozen? ⟨W.heap.size, 6, none⟩ = false := hy5.2.2 6
              have hy6 := hy5.set 6 (.slice la5 xs5.length lc5)
              have hx6 := gr_setO (i := 6) (v := .slice la5 xs5.length lc5) hx5 (Nat.le_refl _)
              obtain ⟨Y6, hY6⟩ : ∃ Y, Y5.setCell ⟨W.heap.size, 6, none⟩ (.slice la5 xs5.length lc5) = Y := ⟨_, rfl⟩
              have hy6 : Bx Y6 W.heap.size [.string ⟨x.name.toArray⟩, .int .i64 x.year, .slice la1 x.opts.length lc1, .slice la2 x.tabs.length lc2, .slice la3 x.grps.length lc3, .slice la4 xs4.length lc4, .slice la5 xs5.length lc5] := by rw [← hY6]; exact hy6
              rw [hY6] at hx6
              have q0 : Y6.cell? ⟨W.heap.size, 0, none⟩ = some (.string ⟨x.name.toArray⟩) := hy6.2.1 0 (show 0 < 7 by decide)
              have q1 : Y6.cell? ⟨W.heap.size, 1, none⟩ = some (.int .i64 x.year) := hy6.2.1 1 (show 1 < 7 by decide)
              have q2 : Y6.cell? ⟨W.heap.size, 2, none⟩ = some (.slice la1 x.opts.length lc1) := hy6.2.1 2 (show 2 < 7 by decide)
              have q3 : Y6.cell? ⟨W.heap.size, 3, none⟩ = some (.slice la2 x.tabs.length lc2) := hy6.2.1 3 (show 3 < 7 by decide)
              have q4 : Y6.cell? ⟨W.heap.size, 4, none⟩ = some (.slice la3 x.grps.length lc3) := hy6.2.1 4 (show 4 < 7 by decide)
              have q5 : Y6.cell? ⟨W.heap.size, 5, none⟩ = some (.slice la4 xs4.length lc4) := hy6.2.1 5 (show 5 < 7 by decide)
              have q6 : Y6.cell? ⟨W.heap.size, 6, none⟩ = some (.slice la5 xs5.length lc5) := hy6.2.1 6 (show 6 < 7 by decide)
              have hgY : wr.grownBy Y6 (some W.heap.size) := by rw [← hY6, ← hY5, ← hY4, ← hY3, ← hY2, ← hY1, ← hY0]; exact (((((((gr_set _ _ _ _).trans (gr_set _ _ _ _)).trans (gr_set _ _ _ _)).trans (gr_set _ _ _ _)).trans (gr_set _ _ _ _)).trans (gr_set _ _ _ _)).trans (gr_set _ _ _ _))
              have hWB : W.heap.size ≤ w2.heap.size ∧ W.heap.size < w2.heap.size ∧ W.heap.size < B.heap.size := by omega
              have hfin : GetP c.l W (.returned (.tuple #[.agg #[.string ⟨x.name.toArray⟩, .int .i64 x.year, .slice la1 x.opts.length lc1, .slice la2 x.tabs.length lc2, .slice la3 x.grps.length lc3, .slice la4 xs4.length lc4, .slice la5 xs5.length lc5], .int .i64 0, .int .i64 0])) Y6 := ⟨below_gr hx6 hWr2, .inr (.inr ⟨hlen, _, _, [.string ⟨x.name.toArray⟩, .int .i64 x.year, .slice la1 x.opts.length lc1, .slice la2 x.tabs.length lc2, .slice la3 x.grps.length lc3, .slice la4 xs4.length lc4, .slice la5 xs5.length lc5], hok, rfl, la1, lc1, la2, lc2, la3, lc3, la4, lc4, la5, lc5, rfl, rgy, (row_low hR1 hgY (by omega)).mo (fun b _ hb => by have := hb.1; omega), (row_low hR2 hgY (by omega)).mo (fun b _ hb => by have := hb.1; omega), (row_low hR3 hgY (by omega)).mo (fun b _ hb => by have := hb.1; omega), (row_low hR4 hgY (by omega)).mo (fun b _ hb => by have := hb.1; omega), (row_low hR5 hgY (by omega)).mo (fun b _ hb => by have := hb.1; omega)⟩)⟩
              clear hAll hok hXs hE3 hC hb3 hW3 hR1 hR2 hR3 hR4 hR5 hgY hy0 hx0 hy1 hx1 hy2 hx2 hy3 hx3 hy4 hx4 hy5 hx5 hy6 hx6
              go_wp2
              exact bodyPost_ret (v := .tuple #[.agg #[.string ⟨x.name.toArray⟩, .int .i64 x.year, .slice la1 x.opts.length lc1, .slice la2 x.tabs.length lc2, .slice la3 x.grps.length lc3, .slice la4 xs4.length lc4, .slice la5 xs5.length lc5], .int .i64 0, .int .i64 0]) (by simp [results, Try.results4, go_sem, q0, q1, q2, q3, q4, q5, q6]) rfl hfin
          · have hNT' : ((N : Int) != (T : Int)) = true := by simp; omega
            have hft := fault_any c aE3 74 hle (by omega) wr hC
            have hXs : Xp (rSum c.l aE3) fE3 0 aE3 aE3 74 () := by simpa using Xp.fail (M := rSum c.l aE3) (x := ()) (ft := fE3) (er := 0) (a := aE3) (p := aE3) (n := 74) (fun _ => by rw [hSM.out, if_neg hNT]) (by decide)
            clear hSM hNT
            go_wp2_with (go_at_call 12; fail)
            refine hft.mono ?_
            rintro e w4 ⟨rfl, hF, hgF⟩
            rw [if_pos rfl, if_pos rfl] at hF
            have hb4 : Bx w4 W.heap.size [.string ⟨#[]⟩, .int .i64 0, .slice none 0 0, .slice none 0 0, .slice none 0 0, .slice none 0 0, .slice none 0 0] := hb3.kept hgF (fun e => hWr (Option.some.inj e))
            have hW4 := hW3.trans hgF
            have herr : (74 : Nat) ≠ 0 := by decide
            have hfl : aE3 ≤ c.l.length := hF.fl
            have hB0 := below_gr hW4 hWr2
            have k3 : w4.cell? ⟨c.r, 3, none⟩ = some (.int .i64 (74 : Int)) := hF.c3
            have q0 : w4.cell? ⟨W.heap.size, 0, none⟩ = some (.string ⟨#[]⟩) := hb4.2.1 0 (show 0 < 7 by decide)
            have q1 : w4.cell? ⟨W.heap.size, 1, none⟩ = some (.int .i64 0) := hb4.2.1 1 (show 1 < 7 by decide)
            have q2 : w4.cell? ⟨W.heap.size, 2, none⟩ = some (.slice none 0 0) := hb4.2.1 2 (show 2 < 7 by decide)
            have q3 : w4.cell? ⟨W.heap.size, 3, none⟩ = some (.slice none 0 0) := hb4.2.1 3 (show 3 < 7 by decide)
            have q4 : w4.cell? ⟨W.heap.size, 4, none⟩ = some (.slice none 0 0) := hb4.2.1 4 (show 4 < 7 by decide)
            have q5 : w4.cell? ⟨W.heap.size, 5, none⟩ = some (.slice none 0 0) := hb4.2.1 5 (show 5 < 7 by decide)
            have q6 : w4.cell? ⟨W.heap.size, 6, none⟩ = some (.slice none 0 0) := hb4.2.1 6 (show 6 < 7 by decide)
            have fz0 : w4.frozen? ⟨W.heap.size, 0, none⟩ = false := hb4.2.2 0
            have fz1 : w4.frozen? ⟨W.heap.size, 1, none⟩ = false := hb4.2.2 1
            have fz2 : w4.frozen? ⟨W.heap.size, 2, none⟩ = false := hb4.2.2 2
            have fz3 : w4.frozen? ⟨W.heap.size, 3, none⟩ = false := hb4.2.2 3
            have fz4 : w4.frozen? ⟨W.heap.size, 4, none⟩ = false := hb4.2.2 4
            have fz5 : w4.frozen? ⟨W.heap.size, 5, none⟩ = false := hb4.2.2 5
            have fz6 : w4.frozen? ⟨W.heap.size, 6, none⟩ = false := hb4.2.2 6
            have hS0 : w4.drew.cell? ⟨c.r, 2, none⟩ = some (.int .i64 (aE3 : Int)) ∧ w4.drew.cell? ⟨c.r, 3, none⟩ = some (.int .i64 (74 : Int)) ∧ w4.drew.cell? ⟨W.heap.size, 0, none⟩ = some (.string ⟨#[]⟩) ∧ w4.drew.cell? ⟨W.heap.size, 1, none⟩ = some (.int .i64 0) ∧ w4.drew.cell? ⟨W.heap.size, 2, none⟩ = some (.slice none 0 0) ∧ w4.drew.cell? ⟨W.heap.size, 3, none⟩ = some (.slice none 0 0) ∧ w4.drew.cell? ⟨W.heap.size, 4, none⟩ = some (.slice none 0 0) ∧ w4.drew.cell? ⟨W.heap.size, 5, none⟩ = some (.slice none 0 0) ∧ w4.drew.cell? ⟨W.heap.size, 6, none⟩ = some (.slice none 0 0) ∧ w4.drew.frozen? ⟨W.heap.size, 0, none⟩ = false ∧ w4.drew.frozen? ⟨W.heap.size, 1, none⟩ = false ∧ w4.drew.frozen? ⟨W.heap.size, 2, none⟩ = false ∧ w4.drew.frozen? ⟨W.heap.size, 3, none⟩ = false ∧ w4.drew.frozen? ⟨W.heap.size, 4, none⟩ = false ∧ w4.drew.frozen? ⟨W.heap.size, 5, none⟩ = false ∧ w4.drew.frozen? ⟨W.heap.size, 6, none⟩ = false ∧ w4.drew.setCell ⟨W.heap.size, 0, none⟩ (.string ⟨#[]⟩) = w4.drew ∧ w4.drew.setCell ⟨W.heap.size, 1, none⟩ (.int .i64 0) = w4.drew ∧ w4.drew.setCell ⟨W.heap.size, 2, none⟩ (.slice none 0 0) = w4.drew ∧ w4.drew.setCell ⟨W.heap.size, 3, none⟩ (.slice none 0 0) = w4.drew ∧ w4.drew.setCell ⟨W.heap.size, 4, none⟩ (.slice none 0 0) = w4.drew ∧ w4.drew.setCell ⟨W.heap.size, 5, none⟩ (.slice none 0 0) = w4.drew ∧ w4.drew.setCell ⟨W.heap.size, 6, none⟩ (.slice none 0 0) = w4.drew ∧ Below W.heap.size W w4.drew := ⟨hF.c2, k3, q0, q1, q2, q3, q4, q5, q6, fz0, fz1, fz2, fz3, fz4, fz5, fz6, set_id q0, set_id q1, set_id q2, set_id q3, set_id q4, set_id q5, set_id q6, hB0.drew⟩
            have hok2 : Hid ((74 : Nat) ≠ 0 ∧ rPack c.l 0 = .error (aE3, 74)) := ⟨herr, xp_err (hAll.out _ _ _ hXs) herr⟩
            clear hAll herr hXs hE3 hC hb3 hW3 c1 c1' c3 hR1 hR2 hR3 hR4 hR5 hF hgF hb4 hW4 hft hsh hne hblt hB0 q0 q1 q2 q3 q4 q5 q6 fz0 fz1 fz2 fz3 fz4 fz5 fz6
            go_wp2_with fail
            go_region_held3 (fun X => X.cell? ⟨c.r, 2, none⟩ = some (.int .i64 (aE3 : Int)) ∧ X.cell? ⟨c.r, 3, none⟩ = some (.int .i64 (74 : Int)) ∧ X.cell? ⟨W.heap.size, 0, none⟩ = some (.string ⟨#[]⟩) ∧ X.cell? ⟨W.heap.size, 1, none⟩ = some (.int .i64 0) ∧ X.cell? ⟨W.heap.size, 2, none⟩ = some (.slice none 0 0) ∧ X.cell? ⟨W.heap.size, 3, none⟩ = some (.slice none 0 0) ∧ X.cell? ⟨W.heap.size, 4, none⟩ = some (.slice none 0 0) ∧ X.cell? ⟨W.heap.size, 5, none⟩ = some (.slice none 0 0) ∧ X.cell? ⟨W.heap.size, 6, none⟩ = some (.slice none 0 0) ∧ X.frozen? ⟨W.heap.size, 0, none⟩ = false ∧ X.frozen? ⟨W.heap.size, 1, none⟩ = false ∧ X.frozen? ⟨W.heap.size, 2, none⟩ = false ∧ X.frozen? ⟨W.heap.size, 3, none⟩ = false ∧ X.frozen? ⟨W.heap.size, 4, none⟩ = false ∧ X.frozen? ⟨W.heap.size, 5, none⟩ = false ∧ X.frozen? ⟨W.heap.size, 6, none⟩ = false ∧ X.setCell ⟨W.heap.size, 0, none⟩ (.string ⟨#[]⟩) = X ∧ X.setCell ⟨W.heap.size, 1, none⟩ (.int .i64 0) = X ∧ X.setCell ⟨W.heap.size, 2, none⟩ (.slice none 0 0) = X ∧ X.setCell ⟨W.heap.size, 3, none⟩ (.slice none 0 0) = X ∧ X.setCell ⟨W.heap.size, 4, none⟩ (.slice none 0 0) = X ∧ X.setCell ⟨W.heap.size, 5, none⟩ (.slice none 0 0) = X ∧ X.setCell ⟨W.heap.size, 6, none⟩ (.slice none 0 0) = X ∧ Below W.heap.size W X) (assumption)
              (first | (fail))
            obtain ⟨-, -, p0, p1, p2, p3, p4, p5, p6, -, -, -, -, -, -, -, -, -, -, -, -, -, -, hBz⟩ := hS0
            have hfin : GetP c.l W (.returned (.tuple #[.agg #[.string ⟨#[]⟩, .int .i64 0, .slice none 0 0, .slice none 0 0, .slice none 0 0, .slice none 0 0, .slice none 0 0], .int .i64 (aE3 : Int), .int .i64 (74 : Int)])) w4.drew := ⟨hBz, .inr (.inl ⟨hlen, aE3, 74, hok2.out.2, hok2.out.1, hfl, rfl⟩)⟩
            go_wp2
            exact bodyPost_ret (v := .tuple #[.agg #[.string ⟨#[]⟩, .int .i64 0, .slice none 0 0, .slice none 0 0, .slice none 0 0, .slice none 0 0, .slice none 0 0], .int .i64 (aE3 : Int), .int .i64 (74 : Int)]) (by simp [results, Try.results4, go_sem, p0, p1, p2, p3, p4, p5, p6]) rfl hfin
  · have he1 : ((eE3 : Int) == 0) = false := by simp; omega
    have he2 : ((eE3 : Int) != 0) = true := by simp; omega
    have herr : eE3 ≠ 0 := he
    have hXs : Xp (rSum c.l aE3) fE3 eE3 aE3 fE3 eE3 () := Xp.stuck he
    clear he
    have hfl : fE3 ≤ c.l.length := hC.fl
    have hB0 := below_gr hW3 hWr2
    have k3 : Vx3.cell? ⟨c.r, 3, none⟩ = some (.int .i64 (eE3 : Int)) := hC.c3
    have q0 : Vx3.cell? ⟨W.heap.size, 0, none⟩ = some (.string ⟨#[]⟩) := hb3.2.1 0 (show 0 < 7 by decide)
    have q1 : Vx3.cell? ⟨W.heap.size, 1, none⟩ = some (.int .i64 0) := hb3.2.1 1 (show 1 < 7 by decide)
    have q2 : Vx3.cell? ⟨W.heap.size, 2, none⟩ = some (.slice none 0 0) := hb3.2.1 2 (show 2 < 7 by decide)
    have q3 : Vx3.cell? ⟨W.heap.size, 3, none⟩ = some (.slice none 0 0) := hb3.2.1 3 (show 3 < 7 by decide)
    have q4 : Vx3.cell? ⟨W.heap.size, 4, none⟩ = some (.slice none 0 0) := hb3.2.1 4 (show 4 < 7 by decide)
    have q5 : Vx3.cell? ⟨W.heap.size, 5, none⟩ = some (.slice none 0 0) := hb3.2.1 5 (show 5 < 7 by decide)
    have q6 : Vx3.cell? ⟨W.heap.size, 6, none⟩ = some (.slice none 0 0) := hb3.2.1 6 (show 6 < 7 by decide)
    have fz0 : Vx3.frozen? ⟨W.heap.size, 0, none⟩ = false := hb3.2.2 0
    have fz1 : Vx3.frozen? ⟨W.heap.size, 1, none⟩ = false := hb3.2.2 1
    have fz2 : Vx3.frozen? ⟨W.heap.size, 2, none⟩ = false := hb3.2.2 2
    have fz3 : Vx3.frozen? ⟨W.heap.size, 3, none⟩ = false := hb3.2.2 3
    have fz4 : Vx3.frozen? ⟨W.heap.size, 4, none⟩ = false := hb3.2.2 4
    have fz5 : Vx3.frozen? ⟨W.heap.size, 5, none⟩ = false := hb3.2.2 5
    have fz6 : Vx3.frozen? ⟨W.heap.size, 6, none⟩ = false := hb3.2.2 6
    have hS0 : Vx3.drew.cell? ⟨c.r, 2, none⟩ = some (.int .i64 (fE3 : Int)) ∧ Vx3.drew.cell? ⟨c.r, 3, none⟩ = some (.int .i64 (eE3 : Int)) ∧ Vx3.drew.cell? ⟨W.heap.size, 0, none⟩ = some (.string ⟨#[]⟩) ∧ Vx3.drew.cell? ⟨W.heap.size, 1, none⟩ = some (.int .i64 0) ∧ Vx3.drew.cell? ⟨W.heap.size, 2, none⟩ = some (.slice none 0 0) ∧ Vx3.drew.cell? ⟨W.heap.size, 3, none⟩ = some (.slice none 0 0) ∧ Vx3.drew.cell? ⟨W.heap.size, 4, none⟩ = some (.slice none 0 0) ∧ Vx3.drew.cell? ⟨W.heap.size, 5, none⟩ = some (.slice none 0 0) ∧ Vx3.drew.cell? ⟨W.heap.size, 6, none⟩ = some (.slice none 0 0) ∧ Vx3.drew.frozen? ⟨W.heap.size, 0, none⟩ = false ∧ Vx3.drew.frozen? ⟨W.heap.size, 1, none⟩ = false ∧ Vx3.drew.frozen? ⟨W.heap.size, 2, none⟩ = false ∧ Vx3.drew.frozen? ⟨W.heap.size, 3, none⟩ = false ∧ Vx3.drew.frozen? ⟨W.heap.size, 4, none⟩ = false ∧ Vx3.drew.frozen? ⟨W.heap.size, 5, none⟩ = false ∧ Vx3.drew.frozen? ⟨W.heap.size, 6, none⟩ = false ∧ Vx3.drew.setCell ⟨W.heap.size, 0, none⟩ (.string ⟨#[]⟩) = Vx3.drew ∧ Vx3.drew.setCell ⟨W.heap.size, 1, none⟩ (.int .i64 0) = Vx3.drew ∧ Vx3.drew.setCell ⟨W.heap.size, 2, none⟩ (.slice none 0 0) = Vx3.drew ∧ Vx3.drew.setCell ⟨W.heap.size, 3, none⟩ (.slice none 0 0) = Vx3.drew ∧ Vx3.drew.setCell ⟨W.heap.size, 4, none⟩ (.slice none 0 0) = Vx3.drew ∧ Vx3.drew.setCell ⟨W.heap.size, 5, none⟩ (.slice none 0 0) = Vx3.drew ∧ Vx3.drew.setCell ⟨W.heap.size, 6, none⟩ (.slice none 0 0) = Vx3.drew ∧ Below W.heap.size W Vx3.drew := ⟨hC.c2, k3, q0, q1, q2, q3, q4, q5, q6, fz0, fz1, fz2, fz3, fz4, fz5, fz6, set_id q0, set_id q1, set_id q2, set_id q3, set_id q4, set_id q5, set_id q6, hB0.drew⟩
    have hok2 : Hid ((eE3 : Nat) ≠ 0 ∧ rPack c.l 0 = .error (fE3, eE3)) := ⟨herr, xp_err (hAll.out _ _ _ hXs) herr⟩
    clear hAll herr hXs hE3 hC hb3 hW3 c1 hR1 hR2 hR3 hR4 hR5 hB0 q0 q1 q2 q3 q4 q5 q6 fz0 fz1 fz2 fz3 fz4 fz5 fz6
    go_wp2_with fail
    go_region_held3 (fun X => X.cell? ⟨c.r, 2, none⟩ = some (.int .i64 (fE3 : Int)) ∧ X.cell? ⟨c.r, 3, none⟩ = some (.int .i64 (eE3 : Int)) ∧ X.cell? ⟨W.heap.size, 0, none⟩ = some (.string ⟨#[]⟩) ∧ X.cell? ⟨W.heap.size, 1, none⟩ = some (.int .i64 0) ∧ X.cell? ⟨W.heap.size, 2, none⟩ = some (.slice none 0 0) ∧ X.cell? ⟨W.heap.size, 3, none⟩ = some (.slice none 0 0) ∧ X.cell? ⟨W.heap.size, 4, none⟩ = some (.slice none 0 0) ∧ X.cell? ⟨W.heap.size, 5, none⟩ = some (.slice none 0 0) ∧ X.cell? ⟨W.heap.size, 6, none⟩ = some (.slice none 0 0) ∧ X.frozen? ⟨W.heap.size, 0, none⟩ = false ∧ X.frozen? ⟨W.heap.size, 1, none⟩ = false ∧ X.frozen? ⟨W.heap.size, 2, none⟩ = false ∧ X.frozen? ⟨W.heap.size, 3, none⟩ = false ∧ X.frozen? ⟨W.heap.size, 4, none⟩ = false ∧ X.frozen? ⟨W.heap.size, 5, none⟩ = false ∧ X.frozen? ⟨W.heap.size, 6, none⟩ = false ∧ X.setCell ⟨W.heap.size, 0, none⟩ (.string ⟨#[]⟩) = X ∧ X.setCell ⟨W.heap.size, 1, none⟩ (.int .i64 0) = X ∧ X.setCell ⟨W.heap.size, 2, none⟩ (.slice none 0 0) = X ∧ X.setCell ⟨W.heap.size, 3, none⟩ (.slice none 0 0) = X ∧ X.setCell ⟨W.heap.size, 4, none⟩ (.slice none 0 0) = X ∧ X.setCell ⟨W.heap.size, 5, none⟩ (.slice none 0 0) = X ∧ X.setCell ⟨W.heap.size, 6, none⟩ (.slice none 0 0) = X ∧ Below W.heap.size W X) (assumption)
      (first | (fail))
    obtain ⟨-, -, p0, p1, p2, p3, p4, p5, p6, -, -, -, -, -, -, -, -, -, -, -, -, -, -, hBz⟩ := hS0
    have hfin : GetP c.l W (.returned (.tuple #[.agg #[.string ⟨#[]⟩, .int .i64 0, .slice none 0 0, .slice none 0 0, .slice none 0 0, .slice none 0 0, .slice none 0 0], .int .i64 (fE3 : Int), .int .i64 (eE3 : Int)])) Vx3.drew := ⟨hBz, .inr (.inl ⟨hlen, fE3, eE3, hok2.out.2, hok2.out.1, hfl, rfl⟩)⟩
    go_wp2
    exact bodyPost_ret (v := .tuple #[.agg #[.string ⟨#[]⟩, .int .i64 0, .slice none 0 0, .slice none 0 0, .slice none 0 0, .slice none 0 0, .slice none 0 0], .int .i64 (fE3 : Int), .int .i64 (eE3 : Int)]) (by simp [results, Try.results4, go_sem, p0, p1, p2, p3, p4, p5, p6]) rfl hfin

end Go.Proofs.Ytjgngmmepheioaa.G

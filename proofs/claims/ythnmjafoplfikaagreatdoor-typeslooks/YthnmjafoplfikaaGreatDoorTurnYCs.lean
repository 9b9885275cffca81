import Derived.Test.YthnmjafoplfikaaGreatDoorJoin50
namespace Go.Proofs.YthnmjafoplfikaaGreatDoor
open Go.RowKit

theorem fr_pos {α : Type} {f : α → Sn → Sn × Nat} : ∀ (l : List α) (i : Nat) (s : Sn) (j e : Nat), (frF f l i s).2 = some (j, e) → 0 < e
  | [], i, s, j, e, h => by cases h
  | x :: l, i, s, j, e, h => by
    unfold frF at h
    rcases hx : f x s with ⟨s1, _ | e1⟩
    · rw [hx] at h
      exact fr_pos l (i + 1) s1 j e h
    · rw [hx] at h
      injection h with h
      injection h with _ h
      omega
theorem ito_pos {n : Nat} {o : Option (Nat × Nat)} {f : Sp × Nat} (ho : ∀ j e, o = some (j, e) → 0 < e) (h : itO n o = some f) : 0 < f.2 := by
  cases o with
  | none => cases h
  | some ie =>
    injection h with h
    subst h
    exact ho ie.1 ie.2 rfl
theorem ls_pos (p : Pk) : ∀ (l : List Ln) (i : Nat) (s : Sn) (f : Sp × Nat), (lsF p l i s).2 = some f → 0 < f.2
  | [], i, s, f, h => by cases h
  | y :: l, i, s, f, h => by
    unfold lsF at h
    rcases hx : lnE p y s with ⟨s1, _ | e⟩
    · rw [hx] at h
      simp only at h
      cases hc : clF y.cls y.cls 0 with
      | some j =>
        rw [hc] at h
        injection h with h
        subst h
        exact Nat.zero_lt_succ _
      | none =>
        rw [hc] at h
        exact ls_pos p l (i + 1) s1 f h
    · rw [hx] at h
      injection h with h
      subst h
      exact Nat.zero_lt_succ _
theorem lc_pos (p : Pk) (y : Ln) (i : Nat) : ∀ (l : List Cl) (j n : Nat) (f : Sp × Nat), lcF p y i l j n = some f → 0 < f.2
  | [], j, n, f, h => by cases h
  | c :: l, j, n, f, h => by
    unfold lcF at h
    rcases hx : (if c.guarded then nxF p y.group ⟨5, i, j, [0]⟩ (3, -1) c.guard n else (n, none)) with ⟨n1, _ | f1⟩
    · rw [hx] at h
      simp only at h
      rcases hy : nxF p y.group ⟨5, i, j, [1]⟩ (lineK y) c.body n1 with ⟨n2, _ | f2⟩
      · rw [hy] at h
        exact lc_pos p y i l (j + 1) n2 f h
      · rw [hy] at h
        injection h with h
        subst h
        exact nxF_pos hy
    · rw [hx] at h
      injection h with h
      subst h
      split at hx
      · exact nxF_pos hx
      · injection hx with _ hx
        cases hx
theorem le_pos (p : Pk) : ∀ (l : List Ln) (i : Nat) (f : Sp × Nat), leF p l i = some f → 0 < f.2
  | [], i, f, h => by cases h
  | y :: l, i, f, h => by
    unfold leF at h
    cases hc : lcF p y i y.cls 0 0 with
    | some g =>
      rw [hc] at h
      injection h with h
      subst h
      exact lc_pos p y i _ _ _ _ hc
    | none =>
      rw [hc] at h
      exact le_pos p l (i + 1) f h
theorem ke_pos (p : Pk) : ∀ (l : List Ck) (i : Nat) (f : Sp × Nat), keF p l i = some f → 0 < f.2
  | [], i, f, h => by cases h
  | k :: l, i, f, h => by
    unfold keF at h
    rcases hx : nxF p k.group (itF 6 i) (3, -1) k.when_ 0 with ⟨n1, _ | f1⟩
    · rw [hx] at h
      exact ke_pos p l (i + 1) f h
    · rw [hx] at h
      injection h with h
      subst h
      exact nxF_pos hx
theorem stg_pos {p : Pk} {k : Nat} {seen s' : Sn} {f : Sp × Nat} (hk : k < 10) (hs : stg p k seen = (s', some f)) : 0 < f.2 := by
  rcases (show k = 0 ∨ k = 1 ∨ k = 2 ∨ k = 3 ∨ k = 4 ∨ k = 5 ∨ k = 6 ∨ k = 7 ∨ k = 8 ∨ k = 9 by omega) with rfl | rfl | rfl | rfl | rfl | rfl | rfl | rfl | rfl | rfl
  · injection hs with _ h
    unfold szF at h
    repeat (split at h; (injection h with h; subst h; exact Nat.zero_lt_succ _))
    cases h
  · injection hs with _ h
    unfold hdF at h
    split at h
    · split at h
      · injection h with h; subst h; exact Nat.zero_lt_succ _
      · cases h
    · injection h with h; subst h; exact Nat.zero_lt_succ _
  · injection hs with _ h
    exact ito_pos (fun j e ho => fr_pos _ _ _ _ _ ho) h
  · injection hs with _ h
    exact ito_pos (fun j e ho => fr_pos _ _ _ _ _ ho) h
  · injection hs with _ h
    exact ito_pos (fun j e ho => fr_pos _ _ _ _ _ ho) h
  · exact ls_pos p _ _ _ _ (by show (lsF p p.lns 0 seen).2 = some f; have h2 : lsF p p.lns 0 seen = (s', some f) := hs; rw [h2])
  · injection hs with _ h
    exact ito_pos (fun j e ho => fr_pos _ _ _ _ _ ho) h
  · injection hs with _ h
    unfold celF at h
    split at h
    · injection h with h; subst h; exact Nat.zero_lt_succ _
    · cases h
  · injection hs with _ h
    exact le_pos p _ _ _ h
  · injection hs with _ h
    exact ke_pos p _ _ _ h
theorem ch_step (p : Pk) {i : Nat} (hi : i < 10) (s : Sn) : chR p (10 - i) s = match stg p i s with
    | (_, some f) => some f
    | (s', none) => chR p (10 - (i + 1)) s' := by
  have e : ∀ m, chR p (m + 1) s = (match stg p (9 - m) s with
    | (_, some f) => some f
    | (s', none) => chR p m s') := fun _ => rfl
  rw [show 10 - i = (9 - i) + 1 by omega, e, show 9 - (9 - i) = i by omega, show 10 - (i + 1) = 9 - i by omega]
def ChP (r : Option (Sp × Nat)) (W : World) (e : Ending) (W' : World) : Prop := Below W.heap.size W W' ∧ (match r with
  | none => e = .returned (.tuple #[.agg #[.int .i64 0, .int .i64 0, .int .i64 0, .slice none 0 0], .int .i64 0])
  | some f => ∃ pv, e = .returned (.tuple #[.agg #[.int .i64 f.1.part, .int .i64 f.1.at_, .int .i64 f.1.clause, pv], .int .i64 (f.2 : Int)]) ∧ W'.ownsRow W.heap.size 3 1 pv f.1.path.length (ptC f.1.path))
theorem cks_new {p : Pk} {a3 a4 a5 a6 a7 : Option Addr} {c3 c4 c5 c6 c7 : Nat} {W Y : World} {cb s : Nat} (hp : PkE W AnyB p [.string ⟨p.name.toArray⟩, .int .i64 p.year, .slice a3 p.opts.length c3, .slice a4 p.tabs.length c4, .slice a5 p.grps.length c5, .slice a6 p.lns.length c6, .slice a7 p.cks.length c7]) (hpc : PkC W AnyB p [.string ⟨p.name.toArray⟩, .int .i64 p.year, .slice a3 p.opts.length c3, .slice a4 p.tabs.length c4, .slice a5 p.grps.length c5, .slice a6 p.lns.length c6, .slice a7 p.cks.length c7]) (hB : Below W.heap.size W Y) (hlb : W.heap.size ≤ cb) (hbx : Bx Y cb [.string ⟨p.name.toArray⟩, .int .i64 p.year, .slice a3 p.opts.length c3, .slice a4 p.tabs.length c4, .slice a5 p.grps.length c5, .slice a6 p.lns.length c6, .slice a7 p.cks.length c7, .slice (some ⟨s + 29, 0, none⟩) 42 42, .slice none 0 0]) (hops : OpsAt Y s) (hlo : s + 30 ≤ cb) : CkS p [.string ⟨p.name.toArray⟩, .int .i64 p.year, .slice a3 p.opts.length c3, .slice a4 p.tabs.length c4, .slice a5 p.grps.length c5, .slice a6 p.lns.length c6, .slice a7 p.cks.length c7] cb s Y [] (.slice none 0 0) :=
  ⟨fun j hj => by
    have := hbx.2.1 j (by simp; omega)
    rw [this]
    rcases (show j = 0 ∨ j = 1 ∨ j = 2 ∨ j = 3 ∨ j = 4 ∨ j = 5 ∨ j = 6 by omega) with rfl | rfl | rfl | rfl | rfl | rfl | rfl <;> rfl, hbx.2.1 7 (by simp), hbx.2.1 8 (by simp), hbx.2.2, World.ownsRow_nil _ _ _ _, hops, hlo, pke_fr (pke_mo hp (fun b hb _ => Nat.lt_of_lt_of_le hb hlb)) hB.size (fun b hb hlt => hB.block b hlt), pkc_fr (pkc_mo hpc (fun b hb _ => Nat.lt_of_lt_of_le hb hlb)) hB.size (fun b hb hlt => hB.block b hlt)⟩
set_option maxRecDepth 20000 in
set_option maxHeartbeats 3000000 in
theorem Check_any (p : Pk) (a3 a4 a5 a6 a7 : Option Addr) (c3 c4 c5 c6 c7 : Nat) (W : World) (hp : PkE W AnyB p [.string ⟨p.name.toArray⟩, .int .i64 p.year, .slice a3 p.opts.length c3, .slice a4 p.tabs.length c4, .slice a5 p.grps.length c5, .slice a6 p.lns.length c6, .slice a7 p.cks.length c7]) (hpc : PkC W AnyB p [.string ⟨p.name.toArray⟩, .int .i64 p.year, .slice a3 p.opts.length c3, .slice a4 p.tabs.length c4, .slice a5 p.grps.length c5, .slice a6 p.lns.length c6, .slice a7 p.cks.length c7]) (hz : SzP p) : Calls Tryz.prog 61 #[.agg #[.string ⟨p.name.toArray⟩, .int .i64 p.year, .slice a3 p.opts.length c3, .slice a4 p.tabs.length c4, .slice a5 p.grps.length c5, .slice a6 p.lns.length c6, .slice a7 p.cks.length c7]] W (ChP (ckP p) W) := by
  obtain ⟨W2, hW2⟩ : ∃ W2, W2 = (W.alloc (.cells #[.string ⟨p.name.toArray⟩, .int .i64 p.year, .slice a3 p.opts.length c3, .slice a4 p.tabs.length c4, .slice a5 p.grps.length c5, .slice a6 p.lns.length c6, .slice a7 p.cks.length c7] 28)).alloc (.cells #[.int .i64 0, .int .i64 0, .int .i64 0, .slice none 0 0] 105) := ⟨_, rfl⟩
  have hB2 : Below W.heap.size W W2 := by rw [hW2]; exact ((Below.refl _ _).alloc (Nat.le_refl _) _).alloc (by simp) _
  have hs2 : W2.heap.size = W.heap.size + 1 + 1 := by rw [hW2]; simp
  have hbp : Bx W2 W.heap.size [.string ⟨p.name.toArray⟩, .int .i64 p.year, .slice a3 p.opts.length c3, .slice a4 p.tabs.length c4, .slice a5 p.grps.length c5, .slice a6 p.lns.length c6, .slice a7 p.cks.length c7] := by rw [hW2]; exact (bx_new W #[.string ⟨p.name.toArray⟩, .int .i64 p.year, .slice a3 p.opts.length c3, .slice a4 p.tabs.length c4, .slice a5 p.grps.length c5, .slice a6 p.lns.length c6, .slice a7 p.cks.length c7] 28).kept (World.grownBy_alloc _ _ none) (by simp)
  have hbz : Bx W2 (W.heap.size + 1) [.int .i64 0, .int .i64 0, .int .i64 0, .slice none 0 0] := by
    have := bx_new (W.alloc (.cells #[.string ⟨p.name.toArray⟩, .int .i64 p.year, .slice a3 p.opts.length c3, .slice a4 p.tabs.length c4, .slice a5 p.grps.length c5, .slice a6 p.lns.length c6, .slice a7 p.cks.length c7] 28)) #[.int .i64 0, .int .i64 0, .int .i64 0, .slice none 0 0] 105
    rw [show (W.alloc (.cells #[.string ⟨p.name.toArray⟩, .int .i64 p.year, .slice a3 p.opts.length c3, .slice a4 p.tabs.length c4, .slice a5 p.grps.length c5, .slice a6 p.lns.length c6, .slice a7 p.cks.length c7] 28)).heap.size = W.heap.size + 1 by simp, ← hW2] at this
    exact this
  have hSH : Hid (∀ Y, Below W2.heap.size W2 Y → Y.cell? ⟨W.heap.size, 0, none⟩ = some (.string ⟨p.name.toArray⟩) ∧ Y.cell? ⟨W.heap.size, 1, none⟩ = some (.int .i64 p.year) ∧ Y.cell? ⟨W.heap.size, 2, none⟩ = some (.slice a3 p.opts.length c3) ∧ Y.cell? ⟨W.heap.size, 3, none⟩ = some (.slice a4 p.tabs.length c4) ∧ Y.cell? ⟨W.heap.size, 4, none⟩ = some (.slice a5 p.grps.length c5) ∧ Y.cell? ⟨W.heap.size, 5, none⟩ = some (.slice a6 p.lns.length c6) ∧ Y.cell? ⟨W.heap.size, 6, none⟩ = some (.slice a7 p.cks.length c7)) := ⟨fun Y hY => by
    have h2 := hbp.bel hY hbp.1
    exact ⟨h2.2.1 0 (by simp), h2.2.1 1 (by simp), h2.2.1 2 (by simp), h2.2.1 3 (by simp), h2.2.1 4 (by simp), h2.2.1 5 (by simp), h2.2.1 6 (by simp)⟩⟩
  have hbd : Below W2.heap.size W2 W2.drew := (Below.refl _ _).drew
  have hS0 := hSH.out _ hbd
  have hop0 := operators_any W2.drew
  obtain ⟨R, hR⟩ : ∃ R, ckP p = R := ⟨_, rfl⟩
  rw [hR]
  have hst : Hid (chR p (10 - 0) [] = R) := ⟨hR⟩
  obtain ⟨QQ, hQQ⟩ : ∃ QQ, ChP R W = QQ := ⟨_, rfl⟩
  rw [hQQ]
  have hQH := Hid.mk hQQ
  have hW2H := Hid.mk hW2
  have hs2H := Hid.mk hs2
  clear hQQ hW2 hs2 hR
  go_enter Tryz.func61, Tryz.ntmps61
  go_wp2_with fail
  rw [← hW2H.out]
  clear hW2H
  go_region_held3 (fun Y => Y.cell? ⟨W.heap.size, 0, none⟩ = some (.string ⟨p.name.toArray⟩) ∧ Y.cell? ⟨W.heap.size, 1, none⟩ = some (.int .i64 p.year) ∧ Y.cell? ⟨W.heap.size, 2, none⟩ = some (.slice a3 p.opts.length c3) ∧ Y.cell? ⟨W.heap.size, 3, none⟩ = some (.slice a4 p.tabs.length c4) ∧ Y.cell? ⟨W.heap.size, 4, none⟩ = some (.slice a5 p.grps.length c5) ∧ Y.cell? ⟨W.heap.size, 5, none⟩ = some (.slice a6 p.lns.length c6) ∧ Y.cell? ⟨W.heap.size, 6, none⟩ = some (.slice a7 p.cks.length c7)) (assumption)
    (first | (go_at_call 72; refine hop0.mono ?_; clear hop0; rintro e w1 ⟨rfl, hb1, hops⟩; have hb2 := bthr hbd hb1 (Nat.le_refl _); have hb4 : Below W2.heap.size W2 (w1.alloc (.cells #[.string ⟨p.name.toArray⟩, .int .i64 p.year, .slice a3 p.opts.length c3, .slice a4 p.tabs.length c4, .slice a5 p.grps.length c5, .slice a6 p.lns.length c6, .slice a7 p.cks.length c7, .slice (some ⟨W2.heap.size + 29, 0, none⟩) 42 42, .slice none 0 0] 155)) := hb2.alloc hb2.size _; have hSa := hSH.out _ hb2; have hSc := hSH.out _ hb4))
  have hops1 : OpsAt w1 W2.heap.size := hops
  obtain ⟨W3, hW3⟩ : ∃ W3, W3 = w1.alloc (.cells #[.string ⟨p.name.toArray⟩, .int .i64 p.year, .slice a3 p.opts.length c3, .slice a4 p.tabs.length c4, .slice a5 p.grps.length c5, .slice a6 p.lns.length c6, .slice a7 p.cks.length c7, .slice (some ⟨W2.heap.size + 29, 0, none⟩) 42 42, .slice none 0 0] 155) := ⟨_, rfl⟩
  rw [← hW3] at hb4 ⊢
  have hbc : Bx W3 w1.heap.size [.string ⟨p.name.toArray⟩, .int .i64 p.year, .slice a3 p.opts.length c3, .slice a4 p.tabs.length c4, .slice a5 p.grps.length c5, .slice a6 p.lns.length c6, .slice a7 p.cks.length c7, .slice (some ⟨W2.heap.size + 29, 0, none⟩) 42 42, .slice none 0 0] := by rw [hW3]; exact bx_new _ _ _
  have hBW3 : Below W.heap.size W W3 := bthr hB2 hb4 (Nat.le_refl _)
  have hops3 : OpsAt W3 W2.heap.size := by rw [hW3]; exact hops1.bel ((Below.refl _ _).alloc (Nat.le_refl _) _) hops1.1
  have hCk := cks_new (s := W2.heap.size) hp hpc hBW3 (Nat.le_trans hB2.size hb2.size) hbc hops3 hops1.1
  have hrb := hbz.bel hb4 hbz.1
  have hcbW : W.heap.size + 1 < w1.heap.size := by have := hb2.size; have := hs2H.out; omega
  obtain ⟨cb, hcbe⟩ : ∃ cb, cb = w1.heap.size := ⟨_, rfl⟩
  rw [← hcbe] at hCk hcbW ⊢
  obtain ⟨s, hse⟩ : ∃ s, s = W2.heap.size := ⟨_, rfl⟩
  rw [← hse] at hCk
  clear hSa hSc hS0 hSH hb4 hops hops1 hops3 hW3 hbc hb1 hb2 hcbe hse hbd hbp hbz
  obtain ⟨W4, hW4⟩ : ∃ W4, W4 = W3.alloc (.cells #[.func (Fn.func 73) #[.pointer (some ⟨cb, 0, none⟩)] #[], .func (Fn.func 74) #[.pointer (some ⟨cb, 0, none⟩)] #[], .func (Fn.func 75) #[.pointer (some ⟨cb, 0, none⟩)] #[], .func (Fn.func 76) #[.pointer (some ⟨cb, 0, none⟩)] #[], .func (Fn.func 77) #[.pointer (some ⟨cb, 0, none⟩)] #[], .func (Fn.func 78) #[.pointer (some ⟨cb, 0, none⟩)] #[], .func (Fn.func 79) #[.pointer (some ⟨cb, 0, none⟩)] #[], .func (Fn.func 80) #[.pointer (some ⟨cb, 0, none⟩)] #[], .func (Fn.func 81) #[.pointer (some ⟨cb, 0, none⟩)] #[], .func (Fn.func 82) #[.pointer (some ⟨cb, 0, none⟩)] #[]] 156) := ⟨_, rfl⟩
  have hB4 : Below W3.heap.size W3 W4 := by rw [hW4]; exact (Below.refl _ _).alloc (Nat.le_refl _) _
  have hbf : Bx W4 W3.heap.size [.func (Fn.func 73) #[.pointer (some ⟨cb, 0, none⟩)] #[], .func (Fn.func 74) #[.pointer (some ⟨cb, 0, none⟩)] #[], .func (Fn.func 75) #[.pointer (some ⟨cb, 0, none⟩)] #[], .func (Fn.func 76) #[.pointer (some ⟨cb, 0, none⟩)] #[], .func (Fn.func 77) #[.pointer (some ⟨cb, 0, none⟩)] #[], .func (Fn.func 78) #[.pointer (some ⟨cb, 0, none⟩)] #[], .func (Fn.func 79) #[.pointer (some ⟨cb, 0, none⟩)] #[], .func (Fn.func 80) #[.pointer (some ⟨cb, 0, none⟩)] #[], .func (Fn.func 81) #[.pointer (some ⟨cb, 0, none⟩)] #[], .func (Fn.func 82) #[.pointer (some ⟨cb, 0, none⟩)] #[]] := by rw [hW4]; exact bx_new _ _ _
  have hCk4 := hCk.bel hB4
  have hrb4 := hrb.bel hB4 hrb.1
  have hBW4 : Below W.heap.size W W4 := bthr hBW3 hB4 (Nat.le_refl _)
  have hcb3 := hCk.lt
  have hfc : Hid (∀ i, i < 10 → W4.cell? ⟨W3.heap.size, i, none⟩ = some (.func (Fn.func (fnOf i)) #[.pointer (some ⟨cb, 0, none⟩)] #[])) := ⟨fun i hi => by
    rcases (show i = 0 ∨ i = 1 ∨ i = 2 ∨ i = 3 ∨ i = 4 ∨ i = 5 ∨ i = 6 ∨ i = 7 ∨ i = 8 ∨ i = 9 by omega) with rfl | rfl | rfl | rfl | rfl | rfl | rfl | rfl | rfl | rfl
    all_goals first | exact hbf.2.1 0 (by simp) | exact hbf.2.1 1 (by simp) | exact hbf.2.1 2 (by simp) | exact hbf.2.1 3 (by simp) | exact hbf.2.1 4 (by simp) | exact hbf.2.1 5 (by simp) | exact hbf.2.1 6 (by simp) | exact hbf.2.1 7 (by simp) | exact hbf.2.1 8 (by simp) | exact hbf.2.1 9 (by simp)⟩
  have hfl : W3.heap.size < W4.heap.size := hbf.1
  have hW4H := Hid.mk hW4
  clear hW4 hbf hCk hrb
  go_wp2
  rw [← hW4H.out]
  clear hW4H
  go_loopw [35] (fun iv wr => ∃ (i : Nat) (sn : Sn) (sv : Value), iv = .int .i64 (i : Int) ∧ i ≤ 10 ∧ CkS p [.string ⟨p.name.toArray⟩, .int .i64 p.year, .slice a3 p.opts.length c3, .slice a4 p.tabs.length c4, .slice a5 p.grps.length c5, .slice a6 p.lns.length c6, .slice a7 p.cks.length c7] cb s wr sn sv ∧ Fr cb W4 (.slice none 0 0) wr sv ∧ Hid (Cnd p i sn) ∧ Hid (chR p (10 - i) sn = R)) (fun iv _ => 10 - (intOf iv).toNat)
  case atStart => exact ⟨0, [], .slice none 0 0, rfl, by decide, hCk4, Fr.refl _ _ _, ⟨⟨fun h => by omega, Nat.zero_le _, fun h => by omega⟩⟩, hst⟩
  case round =>
    obtain ⟨i, sn, sv, rfl, hi, hkr, hFr, hcn, hinv⟩ := hrel
    have hBr : Below W.heap.size W wr := hBW4.trans (hFr.below (by omega) hBW4.size (fun q hq => by cases hq))
    have hrr := hFr.box hrb4 (by omega) (by intro e; cases e)
    by_cases hlt : i < 10
    · have hlt' : (i : Int) < 10 := by omega
      have hi0 : (0 : Int) ≤ (i : Int) := by omega
      have hcell : wr.cell? ⟨W3.heap.size, i, none⟩ = some (.func (Fn.func (fnOf i)) #[.pointer (some ⟨cb, 0, none⟩)] #[]) := (World.cell?_of_block (a := ⟨W3.heap.size, i, none⟩) (hFr.blk W3.heap.size hfl (by omega) (by intro e; cases e))).trans (hfc.out i hlt)
      have hcall := stage_any p a3 a4 a5 a6 a7 c3 c4 c5 c6 c7 cb s i hlt wr sn sv hkr hcn.out hz
      have hinv2 := hinv.out
      rw [ch_step p hlt] at hinv2
      have hcs : Hid (∀ s', stg p i sn = (s', none) → Cnd p (i + 1) s') := ⟨fun s' hh => cnd_step hlt hcn.out hh⟩
      have hps : Hid (∀ s' f, stg p i sn = (s', some f) → 0 < f.2) := ⟨fun s' f hh => stg_pos hlt hh⟩
      clear hi hi0 hlt'
      rcases (show i = 0 ∨ i = 1 ∨ i = 2 ∨ i = 3 ∨ i = 4 ∨ i = 5 ∨ i = 6 ∨ i = 7 ∨ i = 8 ∨ i = 9 by omega) with rfl | rfl | rfl | rfl | rfl | rfl | rfl | rfl | rfl | rfl
      · obtain ⟨RR, hRR⟩ : ∃ RR, stg p 0 sn = RR := ⟨_, rfl⟩
        rw [hRR] at hcall hinv2 hcs hps
        rw [show fnOf 0 = 73 from rfl] at hcell hcall
        obtain ⟨s2, o2⟩ := RR
        clear hRR hinv
        cases o2 with
        | none =>
          have hs2 := Hid.mk hinv2
          have hc2 := Hid.mk (hcs.out s2 rfl)
          clear hinv2 hcs hps
          go_wp2_with fail
          refine hcall.mono ?_
          clear hcall
          rintro e w5 ⟨rfl, sv5, hk5, hF5⟩
          have hB5 : Below w5.heap.size w5 (w5.alloc (.cells #[.int .i64 0, .int .i64 0, .int .i64 0, .slice none 0 0] 105)) := (Below.refl _ _).alloc (Nat.le_refl _) _
          have hk6 := hk5.bel hB5
          have hF6 := (hFr.trans hF5).trans (Fr.bel hB5 _)
          go_wp2
          exact ⟨⟨0 + 1, s2, sv5, (by first | rfl | go_num), hlt, hk6, hF6, hc2, hs2⟩, by simp only [intOf]; omega⟩
        | some f =>
          have hRH : Hid (R = some f) := ⟨hinv2.symm⟩
          have hpf := hps.out s2 f rfl
          have hne0 : (((f.2 : Nat) : Int) != 0) = true := by simp; omega
          clear hinv2 hcs hps
          go_wp2_with fail
          refine hcall.mono ?_
          clear hcall
          rintro e w5 ⟨⟨pv, rfl, hown⟩, sv5, hk5, hF5⟩
          obtain ⟨pa, pcap, rfl, -, -⟩ := own_int hown
          have hBw5 : Below W.heap.size W w5 := hBW4.trans ((hFr.trans hF5).below (by omega) hBW4.size (fun q hq => by cases hq))
          have hsvn : some (W.heap.size + 1) ≠ sv.ownBlock := fun e => by
            have := (hkr.pg _ e.symm).1
            omega
          have hr5 := hF5.box hrr (by omega) hsvn
          have hst5 : Below W.heap.size W w5 ∧ w5.ownsRow W.heap.size 3 1 (.slice pa f.1.path.length pcap) f.1.path.length (ptC f.1.path) := ⟨hBw5, own_base hown hBr.size⟩
          have hpn : (Value.slice pa f.1.path.length pcap).ownBlock = none ∨ (Value.slice pa f.1.path.length pcap).ownBlock ≠ some (W.heap.size + 1) := own_ge hown hrr.1
          have uq0 := hr5
          have ut0 := hst5
          have ug0 : w5.cell? ⟨W.heap.size + 1, 0, none⟩ = some (.int .i64 0) := uq0.2.1 0 (by simp)
          have uh0 := uq0.2.2 0
          have ul0 := uq0.1
          obtain ⟨U1, ux0⟩ : ∃ U1, w5.setCell ⟨W.heap.size + 1, 0, none⟩ (.int .i64 f.1.part) = U1 := ⟨_, rfl⟩
          have uq1 : Bx U1 (W.heap.size + 1) [(.int .i64 f.1.part), (.int .i64 0), (.int .i64 0), (.slice none 0 0)] := (by rw [← ux0]; exact uq0.set 0 (.int .i64 f.1.part))
          have ut1 : Below W.heap.size W U1 ∧ U1.ownsRow W.heap.size 3 1 (.slice pa f.1.path.length pcap) f.1.path.length (ptC f.1.path) := (by rw [← ux0]; exact ⟨ut0.1.setCell (p := ⟨W.heap.size + 1, 0, none⟩) (by show W.heap.size ≤ W.heap.size + 1; omega) _, ut0.2.kept (gr_set _ _ _ _) hpn⟩)
          have ug1 : U1.cell? ⟨W.heap.size + 1, 1, none⟩ = some (.int .i64 0) := uq1.2.1 1 (by simp)
          have uh1 := uq1.2.2 1
          have ul1 := uq1.1
          obtain ⟨U2, ux1⟩ : ∃ U2, U1.setCell ⟨W.heap.size + 1, 1, none⟩ (.int .i64 f.1.at_) = U2 := ⟨_, rfl⟩
          have uq2 : Bx U2 (W.heap.size + 1) [(.int .i64 f.1.part), (.int .i64 f.1.at_), (.int .i64 0), (.slice none 0 0)] := (by rw [← ux1]; exact uq1.set 1 (.int .i64 f.1.at_))
          have ut2 : Below W.heap.size W U2 ∧ U2.ownsRow W.heap.size 3 1 (.slice pa f.1.path.length pcap) f.1.path.length (ptC f.1.path) := (by rw [← ux1]; exact ⟨ut1.1.setCell (p := ⟨W.heap.size + 1, 1, none⟩) (by show W.heap.size ≤ W.heap.size + 1; omega) _, ut1.2.kept (gr_set _ _ _ _) hpn⟩)
          have ug2 : U2.cell? ⟨W.heap.size + 1, 2, none⟩ = some (.int .i64 0) := uq2.2.1 2 (by simp)
          have uh2 := uq2.2.2 2
          have ul2 := uq2.1
          obtain ⟨U3, ux2⟩ : ∃ U3, U2.setCell ⟨W.heap.size + 1, 2, none⟩ (.int .i64 f.1.clause) = U3 := ⟨_, rfl⟩
          have uq3 : Bx U3 (W.heap.size + 1) [(.int .i64 f.1.part), (.int .i64 f.1.at_), (.int .i64 f.1.clause), (.slice none 0 0)] := (by rw [← ux2]; exact uq2.set 2 (.int .i64 f.1.clause))
          have ut3 : Below W.heap.size W U3 ∧ U3.ownsRow W.heap.size 3 1 (.slice pa f.1.path.length pcap) f.1.path.length (ptC f.1.path) := (by rw [← ux2]; exact ⟨ut2.1.setCell (p := ⟨W.heap.size + 1, 2, none⟩) (by show W.heap.size ≤ W.heap.size + 1; omega) _, ut2.2.kept (gr_set _ _ _ _) hpn⟩)
          have ug3 : U3.cell? ⟨W.heap.size + 1, 3, none⟩ = some (.slice none 0 0) := uq3.2.1 3 (by simp)
          have uh3 := uq3.2.2 3
          have ul3 := uq3.1
          obtain ⟨U4, ux3⟩ : ∃ U4, U3.setCell ⟨W.heap.size + 1, 3, none⟩ (.slice pa f.1.path.length pcap) = U4 := ⟨_, rfl⟩
          have uq4 : Bx U4 (W.heap.size + 1) [(.int .i64 f.1.part), (.int .i64 f.1.at_), (.int .i64 f.1.clause), (.slice pa f.1.path.length pcap)] := (by rw [← ux3]; exact uq3.set 3 (.slice pa f.1.path.length pcap))
          have ut4 : Below W.heap.size W U4 ∧ U4.ownsRow W.heap.size 3 1 (.slice pa f.1.path.length pcap) f.1.path.length (ptC f.1.path) := (by rw [← ux3]; exact ⟨ut3.1.setCell (p := ⟨W.heap.size + 1, 3, none⟩) (by show W.heap.size ≤ W.heap.size + 1; omega) _, ut3.2.kept (gr_set _ _ _ _) hpn⟩)
          have hB5 : Below U4.heap.size U4 (U4.alloc (.cells #[.int .i64 f.1.part, .int .i64 f.1.at_, .int .i64 f.1.clause, .slice pa f.1.path.length pcap] 105)) := (Below.refl _ _).alloc (Nat.le_refl _) _
          have hff : QQ (.returned (.tuple #[.agg #[.int .i64 f.1.part, .int .i64 f.1.at_, .int .i64 f.1.clause, .slice pa f.1.path.length pcap], .int .i64 (f.2 : Int)])) (U4.alloc (.cells #[.int .i64 f.1.part, .int .i64 f.1.at_, .int .i64 f.1.clause, .slice pa f.1.path.length pcap] 105)) := by
            rw [← hQH.out, hRH.out]
            exact ⟨bel_thru ut4.1 ut4.1.size hB5, _, rfl, own_bel ut4.2 hB5⟩
          have uq5 := uq4.bel hB5 uq4.1
          have f0 := uq5.2.1 0 (by simp)
          have f1 := uq5.2.1 1 (by simp)
          have f2 := uq5.2.1 2 (by simp)
          have f3 := uq5.2.1 3 (by simp)
          have l4 := uq4.1
          clear uq0 uq1 uq2 uq3 uq4 uq5 ut0 ut1 ut2 ut3 ut4 hB5
          go_wp2
          exact bodyPost_ret (v := .tuple #[.agg #[.int .i64 f.1.part, .int .i64 f.1.at_, .int .i64 f.1.clause, .slice pa f.1.path.length pcap], .int .i64 (f.2 : Int)]) (by simp [results, Tryz.results61, go_sem, f0, f1, f2, f3]) rfl hff
      · obtain ⟨RR, hRR⟩ : ∃ RR, stg p 1 sn = RR := ⟨_, rfl⟩
        rw [hRR] at hcall hinv2 hcs hps
        rw [show fnOf 1 = 74 from rfl] at hcell hcall
        obtain ⟨s2, o2⟩ := RR
        clear hRR hinv
        cases o2 with
        | none =>
          have hs2 := Hid.mk hinv2
          have hc2 := Hid.mk (hcs.out s2 rfl)
          clear hinv2 hcs hps
          go_wp2_with fail
          refine hcall.mono ?_
          clear hcall
          rintro e w5 ⟨rfl, sv5, hk5, hF5⟩
          have hB5 : Below w5.heap.size w5 (w5.alloc (.cells #[.int .i64 0, .int .i64 0, .int .i64 0, .slice none 0 0] 105)) := (Below.refl _ _).alloc (Nat.le_refl _) _
          have hk6 := hk5.bel hB5
          have hF6 := (hFr.trans hF5).trans (Fr.bel hB5 _)
          go_wp2
          exact ⟨⟨1 + 1, s2, sv5, (by first | rfl | go_num), hlt, hk6, hF6, hc2, hs2⟩, by simp only [intOf]; omega⟩
        | some f =>
          have hRH : Hid (R = some f) := ⟨hinv2.symm⟩
          have hpf := hps.out s2 f rfl
          have hne0 : (((f.2 : Nat) : Int) != 0) = true := by simp; omega
          clear hinv2 hcs hps
          go_wp2_with fail
          refine hcall.mono ?_
          clear hcall
          rintro e w5 ⟨⟨pv, rfl, hown⟩, sv5, hk5, hF5⟩
          obtain ⟨pa, pcap, rfl, -, -⟩ := own_int hown
          have hBw5 : Below W.heap.size W w5 := hBW4.trans ((hFr.trans hF5).below (by omega) hBW4.size (fun q hq => by cases hq))
          have hsvn : some (W.heap.size + 1) ≠ sv.ownBlock := fun e => by
            have := (hkr.pg _ e.symm).1
            omega
          have hr5 := hF5.box hrr (by omega) hsvn
          have hst5 : Below W.heap.size W w5 ∧ w5.ownsRow W.heap.size 3 1 (.slice pa f.1.path.length pcap) f.1.path.length (ptC f.1.path) := ⟨hBw5, own_base hown hBr.size⟩
          have hpn : (Value.slice pa f.1.path.length pcap).ownBlock = none ∨ (Value.slice pa f.1.path.length pcap).ownBlock ≠ some (W.heap.size + 1) := own_ge hown hrr.1
          have uq0 := hr5
          have ut0 := hst5
          have ug0 : w5.cell? ⟨W.heap.size + 1, 0, none⟩ = some (.int .i64 0) := uq0.2.1 0 (by simp)
          have uh0 := uq0.2.2 0
          have ul0 := uq0.1
          obtain ⟨U1, ux0⟩ : ∃ U1, w5.setCell ⟨W.heap.size + 1, 0, none⟩ (.int .i64 f.1.part) = U1 := ⟨_, rfl⟩
          have uq1 : Bx U1 (W.heap.size + 1) [(.int .i64 f.1.part), (.int .i64 0), (.int .i64 0), (.slice none 0 0)] := (by rw [← ux0]; exact uq0.set 0 (.int .i64 f.1.part))
          have ut1 : Below W.heap.size W U1 ∧ U1.ownsRow W.heap.size 3 1 (.slice pa f.1.path.length pcap) f.1.path.length (ptC f.1.path) := (by rw [← ux0]; exact ⟨ut0.1.setCell (p := ⟨W.heap.size + 1, 0, none⟩) (by show W.heap.size ≤ W.heap.size + 1; omega) _, ut0.2.kept (gr_set _ _ _ _) hpn⟩)
          have ug1 : U1.cell? ⟨W.heap.size + 1, 1, none⟩ = some (.int .i64 0) := uq1.2.1 1 (by simp)
          have uh1 := uq1.2.2 1
          have ul1 := uq1.1
          obtain ⟨U2, ux1⟩ : ∃ U2, U1.setCell ⟨W.heap.size + 1, 1, none⟩ (.int .i64 f.1.at_) = U2 := ⟨_, rfl⟩
          have uq2 : Bx U2 (W.heap.size + 1) [(.int .i64 f.1.part), (.int .i64 f.1.at_), (.int .i64 0), (.slice none 0 0)] := (by rw [← ux1]; exact uq1.set 1 (.int .i64 f.1.at_))
          have ut2 : Below W.heap.size W U2 ∧ U2.ownsRow W.heap.size 3 1 (.slice pa f.1.path.length pcap) f.1.path.length (ptC f.1.path) := (by rw [← ux1]; exact ⟨ut1.1.setCell (p := ⟨W.heap.size + 1, 1, none⟩) (by show W.heap.size ≤ W.heap.size + 1; omega) _, ut1.2.kept (gr_set _ _ _ _) hpn⟩)
          have ug2 : U2.cell? ⟨W.heap.size + 1, 2, none⟩ = some (.int .i64 0) := uq2.2.1 2 (by simp)
          have uh2 := uq2.2.2 2
          have ul2 := uq2.1
          obtain ⟨U3, ux2⟩ : ∃ U3, U2.setCell ⟨W.heap.size + 1, 2, none⟩ (.int .i64 f.1.clause) = U3 := ⟨_, rfl⟩
          have uq3 : Bx U3 (W.heap.size + 1) [(.int .i64 f.1.part), (.int .i64 f.1.at_), (.int .i64 f.1.clause), (.slice none 0 0)] := (by rw [← ux2]; exact uq2.set 2 (.int .i64 f.1.clause))
          have ut3 : Below W.heap.size W U3 ∧ U3.ownsRow W.heap.size 3 1 (.slice pa f.1.path.length pcap) f.1.path.length (ptC f.1.path) := (by rw [← ux2]; exact ⟨ut2.1.setCell (p := ⟨W.heap.size + 1, 2, none⟩) (by show W.heap.size ≤ W.heap.size + 1; omega) _, ut2.2.kept (gr_set _ _ _ _) hpn⟩)
          have ug3 : U3.cell? ⟨W.heap.size + 1, 3, none⟩ = some (.slice none 0 0) := uq3.2.1 3 (by simp)
          have uh3 := uq3.2.2 3
          have ul3 := uq3.1
          obtain ⟨U4, ux3⟩ : ∃ U4, U3.setCell ⟨W.heap.size + 1, 3, none⟩ (.slice pa f.1.path.length pcap) = U4 := ⟨_, rfl⟩
          have uq4 : Bx U4 (W.heap.size + 1) [(.int .i64 f.1.part), (.int .i64 f.1.at_), (.int .i64 f.1.clause), (.slice pa f.1.path.length pcap)] := (by rw [← ux3]; exact uq3.set 3 (.slice pa f.1.path.length pcap))
          have ut4 : Below W.heap.size W U4 ∧ U4.ownsRow W.heap.size 3 1 (.slice pa f.1.path.length pcap) f.1.path.length (ptC f.1.path) := (by rw [← ux3]; exact ⟨ut3.1.setCell (p := ⟨W.heap.size + 1, 3, none⟩) (by show W.heap.size ≤ W.heap.size + 1; omega) _, ut3.2.kept (gr_set _ _ _ _) hpn⟩)
          have hB5 : Below U4.heap.size U4 (U4.alloc (.cells #[.int .i64 f.1.part, .int .i64 f.1.at_, .int .i64 f.1.clause, .slice pa f.1.path.length pcap] 105)) := (Below.refl _ _).alloc (Nat.le_refl _) _
          have hff : QQ (.returned (.tuple #[.agg #[.int .i64 f.1.part, .int .i64 f.1.at_, .int .i64 f.1.clause, .slice pa f.1.path.length pcap], .int .i64 (f.2 : Int)])) (U4.alloc (.cells #[.int .i64 f.1.part, .int .i64 f.1.at_, .int .i64 f.1.clause, .slice pa f.1.path.length pcap] 105)) := by
            rw [← hQH.out, hRH.out]
            exact ⟨bel_thru ut4.1 ut4.1.size hB5, _, rfl, own_bel ut4.2 hB5⟩
          have uq5 := uq4.bel hB5 uq4.1
          have f0 := uq5.2.1 0 (by simp)
          have f1 := uq5.2.1 1 (by simp)
          have f2 := uq5.2.1 2 (by simp)
          have f3 := uq5.2.1 3 (by simp)
          have l4 := uq4.1
          clear uq0 uq1 uq2 uq3 uq4 uq5 ut0 ut1 ut2 ut3 ut4 hB5
          go_wp2
          exact bodyPost_ret (v := .tuple #[.agg #[.int .i64 f.1.part, .int .i64 f.1.at_, .int .i64 f.1.clause, .slice pa f.1.path.length pcap], .int .i64 (f.2 : Int)]) (by simp [results, Tryz.results61, go_sem, f0, f1, f2, f3]) rfl hff
      · obtain ⟨RR, hRR⟩ : ∃ RR, stg p 2 sn = RR := ⟨_, rfl⟩
        rw [hRR] at hcall hinv2 hcs hps
        rw [show fnOf 2 = 75 from rfl] at hcell hcall
        obtain ⟨s2, o2⟩ := RR
        clear hRR hinv
        cases o2 with
        | none =>
          have hs2 := Hid.mk hinv2
          have hc2 := Hid.mk (hcs.out s2 rfl)
          clear hinv2 hcs hps
          go_wp2_with fail
          refine hcall.mono ?_
          clear hcall
          rintro e w5 ⟨rfl, sv5, hk5, hF5⟩
          have hB5 : Below w5.heap.size w5 (w5.alloc (.cells #[.int .i64 0, .int .i64 0, .int .i64 0, .slice none 0 0] 105)) := (Below.refl _ _).alloc (Nat.le_refl _) _
          have hk6 := hk5.bel hB5
          have hF6 := (hFr.trans hF5).trans (Fr.bel hB5 _)
          go_wp2
          exact ⟨⟨2 + 1, s2, sv5, (by first | rfl | go_num), hlt, hk6, hF6, hc2, hs2⟩, by simp only [intOf]; omega⟩
        | some f =>
          have hRH : Hid (R = some f) := ⟨hinv2.symm⟩
          have hpf := hps.out s2 f rfl
          have hne0 : (((f.2 : Nat) : Int) != 0) = true := by simp; omega
          clear hinv2 hcs hps
          go_wp2_with fail
          refine hcall.mono ?_
          clear hcall
          rintro e w5 ⟨⟨pv, rfl, hown⟩, sv5, hk5, hF5⟩
          obtain ⟨pa, pcap, rfl, -, -⟩ := own_int hown
          have hBw5 : Below W.heap.size W w5 := hBW4.trans ((hFr.trans hF5).below (by omega) hBW4.size (fun q hq => by cases hq))
          have hsvn : some (W.heap.size + 1) ≠ sv.ownBlock := fun e => by
            have := (hkr.pg _ e.symm).1
            omega
          have hr5 := hF5.box hrr (by omega) hsvn
          have hst5 : Below W.heap.size W w5 ∧ w5.ownsRow W.heap.size 3 1 (.slice pa f.1.path.length pcap) f.1.path.length (ptC f.1.path) := ⟨hBw5, own_base hown hBr.size⟩
          have hpn : (Value.slice pa f.1.path.length pcap).ownBlock = none ∨ (Value.slice pa f.1.path.length pcap).ownBlock ≠ some (W.heap.size + 1) := own_ge hown hrr.1
          have uq0 := hr5
          have ut0 := hst5
          have ug0 : w5.cell? ⟨W.heap.size + 1, 0, none⟩ = some (.int .i64 0) := uq0.2.1 0 (by simp)
          have uh0 := uq0.2.2 0
          have ul0 := uq0.1
          obtain ⟨U1, ux0⟩ : ∃ U1, w5.setCell ⟨W.heap.size + 1, 0, none⟩ (.int .i64 f.1.part) = U1 := ⟨_, rfl⟩
          have uq1 : Bx U1 (W.heap.size + 1) [(.int .i64 f.1.part), (.int .i64 0), (.int .i64 0), (.slice none 0 0)] := (by rw [← ux0]; exact uq0.set 0 (.int .i64 f.1.part))
          have ut1 : Below W.heap.size W U1 ∧ U1.ownsRow W.heap.size 3 1 (.slice pa f.1.path.length pcap) f.1.path.length (ptC f.1.path) := (by rw [← ux0]; exact ⟨ut0.1.setCell (p := ⟨W.heap.size + 1, 0, none⟩) (by show W.heap.size ≤ W.heap.size + 1; omega) _, ut0.2.kept (gr_set _ _ _ _) hpn⟩)
          have ug1 : U1.cell? ⟨W.heap.size + 1, 1, none⟩ = some (.int .i64 0) := uq1.2.1 1 (by simp)
          have uh1 := uq1.2.2 1
          have ul1 := uq1.1
          obtain ⟨U2, ux1⟩ : ∃ U2, U1.setCell ⟨W.heap.size + 1, 1, none⟩ (.int .i64 f.1.at_) = U2 := ⟨_, rfl⟩
          have uq2 : Bx U2 (W.heap.size + 1) [(.int .i64 f.1.part), (.int .i64 f.1.at_), (.int .i64 0), (.slice none 0 0)] := (by rw [← ux1]; exact uq1.set 1 (.int .i64 f.1.at_))
          have ut2 : Below W.heap.size W U2 ∧ U2.ownsRow W.heap.size 3 1 (.slice pa f.1.path.length pcap) f.1.path.length (ptC f.1.path) := (by rw [← ux1]; exact ⟨ut1.1.setCell (p := ⟨W.heap.size + 1, 1, none⟩) (by show W.heap.size ≤ W.heap.size + 1; omega) _, ut1.2.kept (gr_set _ _ _ _) hpn⟩)
          have ug2 : U2.cell? ⟨W.heap.size + 1, 2, none⟩ = some (.int .i64 0) := uq2.2.1 2 (by simp)
          have uh2 := uq2.2.2 2
          have ul2 := uq2.1
          obtain ⟨U3, ux2⟩ : ∃ U3, U2.setCell ⟨W.heap.size + 1, 2, none⟩ (.int .i64 f.1.clause) = U3 := ⟨_, rfl⟩
          have uq3 : Bx U3 (W.heap.size + 1) [(.int .i64 f.1.part), (.int .i64 f.1.at_), (.int .i64 f.1.clause), (.slice none 0 0)] := (by rw [← ux2]; exact uq2.set 2 (.int .i64 f.1.clause))
          have ut3 : Below W.heap.size W U3 ∧ U3.ownsRow W.heap.size 3 1 (.slice pa f.1.path.length pcap) f.1.path.length (ptC f.1.path) := (by rw [← ux2]; exact ⟨ut2.1.setCell (p := ⟨W.heap.size + 1, 2, none⟩) (by show W.heap.size ≤ W.heap.size + 1; omega) _, ut2.2.kept (gr_set _ _ _ _) hpn⟩)
          have ug3 : U3.cell? ⟨W.heap.size + 1, 3, none⟩ = some (.slice none 0 0) := uq3.2.1 3 (by simp)
          have uh3 := uq3.2.2 3
          have ul3 := uq3.1
          obtain ⟨U4, ux3⟩ : ∃ U4, U3.setCell ⟨W.heap.size + 1, 3, none⟩ (.slice pa f.1.path.length pcap) = U4 := ⟨_, rfl⟩
          have uq4 : Bx U4 (W.heap.size + 1) [(.int .i64 f.1.part), (.int .i64 f.1.at_), (.int .i64 f.1.clause), (.slice pa f.1.path.length pcap)] := (by rw [← ux3]; exact uq3.set 3 (.slice pa f.1.path.length pcap))
          have ut4 : Below W.heap.size W U4 ∧ U4.ownsRow W.heap.size 3 1 (.slice pa f.1.path.length pcap) f.1.path.length (ptC f.1.path) := (by rw [← ux3]; exact ⟨ut3.1.setCell (p := ⟨W.heap.size + 1, 3, none⟩) (by show W.heap.size ≤ W.heap.size + 1; omega) _, ut3.2.kept (gr_set _ _ _ _) hpn⟩)
          have hB5 : Below U4.heap.size U4 (U4.alloc (.cells #[.int .i64 f.1.part, .int .i64 f.1.at_, .int .i64 f.1.clause, .slice pa f.1.path.length pcap] 105)) := (Below.refl _ _).alloc (Nat.le_refl _) _
          have hff : QQ (.returned (.tuple #[.agg #[.int .i64 f.1.part, .int .i64 f.1.at_, .int .i64 f.1.clause, .slice pa f.1.path.length pcap], .int .i64 (f.2 : Int)])) (U4.alloc (.cells #[.int .i64 f.1.part, .int .i64 f.1.at_, .int .i64 f.1.clause, .slice pa f.1.path.length pcap] 105)) := by
            rw [← hQH.out, hRH.out]
            exact ⟨bel_thru ut4.1 ut4.1.size hB5, _, rfl, own_bel ut4.2 hB5⟩
          have uq5 := uq4.bel hB5 uq4.1
          have f0 := uq5.2.1 0 (by simp)
          have f1 := uq5.2.1 1 (by simp)
          have f2 := uq5.2.1 2 (by simp)
          have f3 := uq5.2.1 3 (by simp)
          have l4 := uq4.1
          clear uq0 uq1 uq2 uq3 uq4 uq5 ut0 ut1 ut2 ut3 ut4 hB5
          go_wp2
          exact bodyPost_ret (v := .tuple #[.agg #[.int .i64 f.1.part, .int .i64 f.1.at_, .int .i64 f.1.clause, .slice pa f.1.path.length pcap], .int .i64 (f.2 : Int)]) (by simp [results, Tryz.results61, go_sem, f0, f1, f2, f3]) rfl hff
      · obtain ⟨RR, hRR⟩ : ∃ RR, stg p 3 sn = RR := ⟨_, rfl⟩
        rw [hRR] at hcall hinv2 hcs hps
        rw [show fnOf 3 = 76 from rfl] at hcell hcall
        obtain ⟨s2, o2⟩ := RR
        clear hRR hinv
        cases o2 with
        | none =>
          have hs2 := Hid.mk hinv2
          have hc2 := Hid.mk (hcs.out s2 rfl)
          clear hinv2 hcs hps
          go_wp2_with fail
          refine hcall.mono ?_
          clear hcall
          rintro e w5 ⟨rfl, sv5, hk5, hF5⟩
          have hB5 : Below w5.heap.size w5 (w5.alloc (.cells #[.int .i64 0, .int .i64 0, .int .i64 0, .slice none 0 0] 105)) := (Below.refl _ _).alloc (Nat.le_refl _) _
          have hk6 := hk5.bel hB5
          have hF6 := (hFr.trans hF5).trans (Fr.bel hB5 _)
          go_wp2
          exact ⟨⟨3 + 1, s2, sv5, (by first | rfl | go_num), hlt, hk6, hF6, hc2, hs2⟩, by simp only [intOf]; omega⟩
        | some f =>
          have hRH : Hid (R = some f) := ⟨hinv2.symm⟩
          have hpf := hps.out s2 f rfl
          have hne0 : (((f.2 : Nat) : Int) != 0) = true := by simp; omega
          clear hinv2 hcs hps
          go_wp2_with fail
          refine hcall.mono ?_
          clear hcall
          rintro e w5 ⟨⟨pv, rfl, hown⟩, sv5, hk5, hF5⟩
          obtain ⟨pa, pcap, rfl, -, -⟩ := own_int hown
          have hBw5 : Below W.heap.size W w5 := hBW4.trans ((hFr.trans hF5).below (by omega) hBW4.size (fun q hq => by cases hq))
          have hsvn : some (W.heap.size + 1) ≠ sv.ownBlock := fun e => by
            have := (hkr.pg _ e.symm).1
            omega
          have hr5 := hF5.box hrr (by omega) hsvn
          have hst5 : Below W.heap.size W w5 ∧ w5.ownsRow W.heap.size 3 1 (.slice pa f.1.path.length pcap) f.1.path.length (ptC f.1.path) := ⟨hBw5, own_base hown hBr.size⟩
          have hpn : (Value.slice pa f.1.path.length pcap).ownBlock = none ∨ (Value.slice pa f.1.path.length pcap).ownBlock ≠ some (W.heap.size + 1) := own_ge hown hrr.1
          have uq0 := hr5
          have ut0 := hst5
          have ug0 : w5.cell? ⟨W.heap.size + 1, 0, none⟩ = some (.int .i64 0) := uq0.2.1 0 (by simp)
          have uh0 := uq0.2.2 0
          have ul0 := uq0.1
          obtain ⟨U1, ux0⟩ : ∃ U1, w5.setCell ⟨W.heap.size + 1, 0, none⟩ (.int .i64 f.1.part) = U1 := ⟨_, rfl⟩
          have uq1 : Bx U1 (W.heap.size + 1) [(.int .i64 f.1.part), (.int .i64 0), (.int .i64 0), (.slice none 0 0)] := (by rw [← ux0]; exact uq0.set 0 (.int .i64 f.1.part))
          have ut1 : Below W.heap.size W U1 ∧ U1.ownsRow W.heap.size 3 1 (.slice pa f.1.path.length pcap) f.1.path.length (ptC f.1.path) := (by rw [← ux0]; exact ⟨ut0.1.setCell (p := ⟨W.heap.size + 1, 0, none⟩) (by show W.heap.size ≤ W.heap.size + 1; omega) _, ut0.2.kept (gr_set _ _ _ _) hpn⟩)
          have ug1 : U1.cell? ⟨W.heap.size + 1, 1, none⟩ = some (.int .i64 0) := uq1.2.1 1 (by simp)
          have uh1 := uq1.2.2 1
          have ul1 := uq1.1
          obtain ⟨U2, ux1⟩ : ∃ U2, U1.setCell ⟨W.heap.size + 1, 1, none⟩ (.int .i64 f.1.at_) = U2 := ⟨_, rfl⟩
          have uq2 : Bx U2 (W.heap.size + 1) [(.int .i64 f.1.part), (.int .i64 f.1.at_), (.int .i64 0), (.slice none 0 0)] := (by rw [← ux1]; exact uq1.set 1 (.int .i64 f.1.at_))
          have ut2 : Below W.heap.size W U2 ∧ U2.ownsRow W.heap.size 3 1 (.slice pa f.1.path.length pcap) f.1.path.length (ptC f.1.path) := (by rw [← ux1]; exact ⟨ut1.1.setCell (p := ⟨W.heap.size + 1, 1, none⟩) (by show W.heap.size ≤ W.heap.size + 1; omega) _, ut1.2.kept (gr_set _ _ _ _) hpn⟩)
          have ug2 : U2.cell? ⟨W.heap.size + 1, 2, none⟩ = some (.int .i64 0) := uq2.2.1 2 (by simp)
          have uh2 := uq2.2.2 2
          have ul2 := uq2.1
          obtain ⟨U3, ux2⟩ : ∃ U3, U2.setCell ⟨W.heap.size + 1, 2, none⟩ (.int .i64 f.1.clause) = U3 := ⟨_, rfl⟩
          have uq3 : Bx U3 (W.heap.size + 1) [(.int .i64 f.1.part), (.int .i64 f.1.at_), (.int .i64 f.1.clause), (.slice none 0 0)] := (by rw [← ux2]; exact uq2.set 2 (.int .i64 f.1.clause))
          have ut3 : Below W.heap.size W U3 ∧ U3.ownsRow W.heap.size 3 1 (.slice pa f.1.path.length pcap) f.1.path.length (ptC f.1.path) := (by rw [← ux2]; exact ⟨ut2.1.setCell (p := ⟨W.heap.size + 1, 2, none⟩) (by show W.heap.size ≤ W.heap.size + 1; omega) _, ut2.2.kept (gr_set _ _ _ _) hpn⟩)
          have ug3 : U3.cell? ⟨W.heap.size + 1, 3, none⟩ = some (.slice none 0 0) := uq3.2.1 3 (by simp)
          have uh3 := uq3.2.2 3
          have ul3 := uq3.1
          obtain ⟨U4, ux3⟩ : ∃ U4, U3.setCell ⟨W.heap.size + 1, 3, none⟩ (.slice pa f.1.path.length pcap) = U4 := ⟨_, rfl⟩
          have uq4 : Bx U4 (W.heap.size + 1) [(.int .i64 f.1.part), (.int .i64 f.1.at_), (.int .i64 f.1.clause), (.slice pa f.1.path.length pcap)] := (by rw [← ux3]; exact uq3.set 3 (.slice pa f.1.path.length pcap))
          have ut4 : Below W.heap.size W U4 ∧ U4.ownsRow W.heap.size 3 1 (.slice pa f.1.path.length pcap) f.1.path.length (ptC f.1.path) := (by rw [← ux3]; exact ⟨ut3.1.setCell (p := ⟨W.heap.size + 1, 3, none⟩) (by show W.heap.size ≤ W.heap.size + 1; omega) _, ut3.2.kept (gr_set _ _ _ _) hpn⟩)
          have hB5 : Below U4.heap.size U4 (U4.alloc (.cells #[.int .i64 f.1.part, .int .i64 f.1.at_, .int .i64 f.1.clause, .slice pa f.1.path.length pcap] 105)) := (Below.refl _ _).alloc (Nat.le_refl _) _
          have hff : QQ (.returned (.tuple #[.agg #[.int .i64 f.1.part, .int .i64 f.1.at_, .int .i64 f.1.clause, .slice pa f.1.path.length pcap], .int .i64 (f.2 : Int)])) (U4.alloc (.cells #[.int .i64 f.1.part, .int .i64 f.1.at_, .int .i64 f.1.clause, .slice pa f.1.path.length pcap] 105)) := by
            rw [← hQH.out, hRH.out]
            exact ⟨bel_thru ut4.1 ut4.1.size hB5, _, rfl, own_bel ut4.2 hB5⟩
          have uq5 := uq4.bel hB5 uq4.1
          have f0 := uq5.2.1 0 (by simp)
          have f1 := uq5.2.1 1 (by simp)
          have f2 := uq5.2.1 2 (by simp)
          have f3 := uq5.2.1 3 (by simp)
          have l4 := uq4.1
          clear uq0 uq1 uq2 uq3 uq4 uq5 ut0 ut1 ut2 ut3 ut4 hB5
          go_wp2
          exact bodyPost_ret (v := .tuple #[.agg #[.int .i64 f.1.part, .int .i64 f.1.at_, .int .i64 f.1.clause, .slice pa f.1.path.length pcap], .int .i64 (f.2 : Int)]) (by simp [results, Tryz.results61, go_sem, f0, f1, f2, f3]) rfl hff
      · obtain ⟨RR, hRR⟩ : ∃ RR, stg p 4 sn = RR := ⟨_, rfl⟩
        rw [hRR] at hcall hinv2 hcs hps
        rw [show fnOf 4 = 77 from rfl] at hcell hcall
        obtain ⟨s2, o2⟩ := RR
        clear hRR hinv
        cases o2 with
        | none =>
          have hs2 := Hid.mk hinv2
          have hc2 := Hid.mk (hcs.out s2 rfl)
          clear hinv2 hcs hps
          go_wp2_with fail
          refine hcall.mono ?_
          clear hcall
          rintro e w5 ⟨rfl, sv5, hk5, hF5⟩
          have hB5 : Below w5.heap.size w5 (w5.alloc (.cells #[.int .i64 0, .int .i64 0, .int .i64 0, .slice none 0 0] 105)) := (Below.refl _ _).alloc (Nat.le_refl _) _
          have hk6 := hk5.bel hB5
          have hF6 := (hFr.trans hF5).trans (Fr.bel hB5 _)
          go_wp2
          exact ⟨⟨4 + 1, s2, sv5, (by first | rfl | go_num), hlt, hk6, hF6, hc2, hs2⟩, by simp only [intOf]; omega⟩
        | some f =>
          have hRH : Hid (R = some f) := ⟨hinv2.symm⟩
          have hpf := hps.out s2 f rfl
          have hne0 : (((f.2 : Nat) : Int) != 0) = true := by simp; omega
          clear hinv2 hcs hps
          go_wp2_with fail
          refine hcall.mono ?_
          clear hcall
          rintro e w5 ⟨⟨pv, rfl, hown⟩, sv5, hk5, hF5⟩
          obtain ⟨pa, pcap, rfl, -, -⟩ := own_int hown
          have hBw5 : Below W.heap.size W w5 := hBW4.trans ((hFr.trans hF5).below (by omega) hBW4.size (fun q hq => by cases hq))
          have hsvn : some (W.heap.size + 1) ≠ sv.ownBlock := fun e => by
            have := (hkr.pg _ e.symm).1
            omega
          have hr5 := hF5.box hrr (by omega) hsvn
          have hst5 : Below W.heap.size W w5 ∧ w5.ownsRow W.heap.size 3 1 (.slice pa f.1.path.length pcap) f.1.path.length (ptC f.1.path) := ⟨hBw5, own_base hown hBr.size⟩
          have hpn : (Value.slice pa f.1.path.length pcap).ownBlock = none ∨ (Value.slice pa f.1.path.length pcap).ownBlock ≠ some (W.heap.size + 1) := own_ge hown hrr.1
          have uq0 := hr5
          have ut0 := hst5
          have ug0 : w5.cell? ⟨W.heap.size + 1, 0, none⟩ = some (.int .i64 0) := uq0.2.1 0 (by simp)
          have uh0 := uq0.2.2 0
          have ul0 := uq0.1
          obtain ⟨U1, ux0⟩ : ∃ U1, w5.setCell ⟨W.heap.size + 1, 0, none⟩ (.int .i64 f.1.part) = U1 := ⟨_, rfl⟩
          have uq1 : Bx U1 (W.heap.size + 1) [(.int .i64 f.1.part), (.int .i64 0), (.int .i64 0), (.slice none 0 0)] := (by rw [← ux0]; exact uq0.set 0 (.int .i64 f.1.part))
          have ut1 : Below W.heap.size W U1 ∧ U1.ownsRow W.heap.size 3 1 (.slice pa f.1.path.length pcap) f.1.path.length (ptC f.1.path) := (by rw [← ux0]; exact ⟨ut0.1.setCell (p := ⟨W.heap.size + 1, 0, none⟩) (by show W.heap.size ≤ W.heap.size + 1; omega) _, ut0.2.kept (gr_set _ _ _ _) hpn⟩)
          have ug1 : U1.cell? ⟨W.heap.size + 1, 1, none⟩ = some (.int .i64 0) := uq1.2.1 1 (by simp)
          have uh1 := uq1.2.2 1
          have ul1 := uq1.1
          obtain ⟨U2, ux1⟩ : ∃ U2, U1.setCell ⟨W.heap.size + 1, 1, none⟩ (.int .i64 f.1.at_) = U2 := ⟨_, rfl⟩
          have uq2 : Bx U2 (W.heap.size + 1) [(.int .i64 f.1.part), (.int .i64 f.1.at_), (.int .i64 0), (.slice none 0 0)] := (by rw [← ux1]; exact uq1.set 1 (.int .i64 f.1.at_))
          have ut2 : Below W.heap.size W U2 ∧ U2.ownsRow W.heap.size 3 1 (.slice pa f.1.path.length pcap) f.1.path.length (ptC f.1.path) := (by rw [← ux1]; exact ⟨ut1.1.setCell (p := ⟨W.heap.size + 1, 1, none⟩) (by show W.heap.size ≤ W.heap.size + 1; omega) _, ut1.2.kept (gr_set _ _ _ _) hpn⟩)
          have ug2 : U2.cell? ⟨W.heap.size + 1, 2, none⟩ = some (.int .i64 0) := uq2.2.1 2 (by simp)
          have uh2 := uq2.2.2 2
          have ul2 := uq2.1
          obtain ⟨U3, ux2⟩ : ∃ U3, U2.setCell ⟨W.heap.size + 1, 2, none⟩ (.int .i64 f.1.clause) = U3 := ⟨_, rfl⟩
          have uq3 : Bx U3 (W.heap.size + 1) [(.int .i64 f.1.part), (.int .i64 f.1.at_), (.int .i64 f.1.clause), (.slice none 0 0)] := (by rw [← ux2]; exact uq2.set 2 (.int .i64 f.1.clause))
          have ut3 : Below W.heap.size W U3 ∧ U3.ownsRow W.heap.size 3 1 (.slice pa f.1.path.length pcap) f.1.path.length (ptC f.1.path) := (by rw [← ux2]; exact ⟨ut2.1.setCell (p := ⟨W.heap.size + 1, 2, none⟩) (by show W.heap.size ≤ W.heap.size + 1; omega) _, ut2.2.kept (gr_set _ _ _ _) hpn⟩)
          have ug3 : U3.cell? ⟨W.heap.size + 1, 3, none⟩ = some (.slice none 0 0) := uq3.2.1 3 (by simp)
          have uh3 := uq3.2.2 3
          have ul3 := uq3.1
          obtain ⟨U4, ux3⟩ : ∃ U4, U3.setCell ⟨W.heap.size + 1, 3, none⟩ (.slice pa f.1.path.length pcap) = U4 := ⟨_, rfl⟩
          have uq4 : Bx U4 (W.heap.size + 1) [(.int .i64 f.1.part), (.int .i64 f.1.at_), (.int .i64 f.1.clause), (.slice pa f.1.path.length pcap)] := (by rw [← ux3]; exact uq3.set 3 (.slice pa f.1.path.length pcap))
          have ut4 : Below W.heap.size W U4 ∧ U4.ownsRow W.heap.size 3 1 (.slice pa f.1.path.length pcap) f.1.path.length (ptC f.1.path) := (by rw [← ux3]; exact ⟨ut3.1.setCell (p := ⟨W.heap.size + 1, 3, none⟩) (by show W.heap.size ≤ W.heap.size + 1; omega) _, ut3.2.kept (gr_set _ _ _ _) hpn⟩)
          have hB5 : Below U4.heap.size U4 (U4.alloc (.cells #[.int .i64 f.1.part, .int .i64 f.1.at_, .int .i64 f.1.clause, .slice pa f.1.path.length pcap] 105)) := (Below.refl _ _).alloc (Nat.le_refl _) _
          have hff : QQ (.returned (.tuple #[.agg #[.int .i64 f.1.part, .int .i64 f.1.at_, .int .i64 f.1.clause, .slice pa f.1.path.length pcap], .int .i64 (f.2 : Int)])) (U4.alloc (.cells #[.int .i64 f.1.part, .int .i64 f.1.at_, .int .i64 f.1.clause, .slice pa f.1.path.length pcap] 105)) := by
            rw [← hQH.out, hRH.out]
            exact ⟨bel_thru ut4.1 ut4.1.size hB5, _, rfl, own_bel ut4.2 hB5⟩
          have uq5 := uq4.bel hB5 uq4.1
          have f0 := uq5.2.1 0 (by simp)
          have f1 := uq5.2.1 1 (by simp)
          have f2 := uq5.2.1 2 (by simp)
          have f3 := uq5.2.1 3 (by simp)
          have l4 := uq4.1
          clear uq0 uq1 uq2 uq3 uq4 uq5 ut0 ut1 ut2 ut3 ut4 hB5
          go_wp2
          exact bodyPost_ret (v := .tuple #[.agg #[.int .i64 f.1.part, .int .i64 f.1.at_, .int .i64 f.1.clause, .slice pa f.1.path.length pcap], .int .i64 (f.2 : Int)]) (by simp [results, Tryz.results61, go_sem, f0, f1, f2, f3]) rfl hff
      · obtain ⟨RR, hRR⟩ : ∃ RR, stg p 5 sn = RR := ⟨_, rfl⟩
        rw [hRR] at hcall hinv2 hcs hps
        rw [show fnOf 5 = 78 from rfl] at hcell hcall
        obtain ⟨s2, o2⟩ := RR
        clear hRR hinv
        cases o2 with
        | none =>
          have hs2 := Hid.mk hinv2
          have hc2 := Hid.mk (hcs.out s2 rfl)
          clear hinv2 hcs hps
          go_wp2_with fail
          refine hcall.mono ?_
          clear hcall
          rintro e w5 ⟨rfl, sv5, hk5, hF5⟩
          have hB5 : Below w5.heap.size w5 (w5.alloc (.cells #[.int .i64 0, .int .i64 0, .int .i64 0, .slice none 0 0] 105)) := (Below.refl _ _).alloc (Nat.le_refl _) _
          have hk6 := hk5.bel hB5
          have hF6 := (hFr.trans hF5).trans (Fr.bel hB5 _)
          go_wp2
          exact ⟨⟨5 + 1, s2, sv5, (by first | rfl | go_num), hlt, hk6, hF6, hc2, hs2⟩, by simp only [intOf]; omega⟩
        | some f =>
          have hRH : Hid (R = some f) := ⟨hinv2.symm⟩
          have hpf := hps.out s2 f rfl
          have hne0 : (((f.2 : Nat) : Int) != 0) = true := by simp; omega
          clear hinv2 hcs hps
          go_wp2_with fail
          refine hcall.mono ?_
          clear hcall
          rintro e w5 ⟨⟨pv, rfl, hown⟩, sv5, hk5, hF5⟩
          obtain ⟨pa, pcap, rfl, -, -⟩ := own_int hown
          have hBw5 : Below W.heap.size W w5 := hBW4.trans ((hFr.trans hF5).below (by omega) hBW4.size (fun q hq => by cases hq))
          have hsvn : some (W.heap.size + 1) ≠ sv.ownBlock := fun e => by
            have := (hkr.pg _ e.symm).1
            omega
          have hr5 := hF5.box hrr (by omega) hsvn
          have hst5 : Below W.heap.size W w5 ∧ w5.ownsRow W.heap.size 3 1 (.slice pa f.1.path.length pcap) f.1.path.length (ptC f.1.path) := ⟨hBw5, own_base hown hBr.size⟩
          have hpn : (Value.slice pa f.1.path.length pcap).ownBlock = none ∨ (Value.slice pa f.1.path.length pcap).ownBlock ≠ some (W.heap.size + 1) := own_ge hown hrr.1
          have uq0 := hr5
          have ut0 := hst5
          have ug0 : w5.cell? ⟨W.heap.size + 1, 0, none⟩ = some (.int .i64 0) := uq0.2.1 0 (by simp)
          have uh0 := uq0.2.2 0
          have ul0 := uq0.1
          obtain ⟨U1, ux0⟩ : ∃ U1, w5.setCell ⟨W.heap.size + 1, 0, none⟩ (.int .i64 f.1.part) = U1 := ⟨_, rfl⟩
          have uq1 : Bx U1 (W.heap.size + 1) [(.int .i64 f.1.part), (.int .i64 0), (.int .i64 0), (.slice none 0 0)] := (by rw [← ux0]; exact uq0.set 0 (.int .i64 f.1.part))
          have ut1 : Below W.heap.size W U1 ∧ U1.ownsRow W.heap.size 3 1 (.slice pa f.1.path.length pcap) f.1.path.length (ptC f.1.path) := (by rw [← ux0]; exact ⟨ut0.1.setCell (p := ⟨W.heap.size + 1, 0, none⟩) (by show W.heap.size ≤ W.heap.size + 1; omega) _, ut0.2.kept (gr_set _ _ _ _) hpn⟩)
          have ug1 : U1.cell? ⟨W.heap.size + 1, 1, none⟩ = some (.int .i64 0) := uq1.2.1 1 (by simp)
          have uh1 := uq1.2.2 1
          have ul1 := uq1.1
          obtain ⟨U2, ux1⟩ : ∃ U2, U1.setCell ⟨W.heap.size + 1, 1, none⟩ (.int .i64 f.1.at_) = U2 := ⟨_, rfl⟩
          have uq2 : Bx U2 (W.heap.size + 1) [(.int .i64 f.1.part), (.int .i64 f.1.at_), (.int .i64 0), (.slice none 0 0)] := (by rw [← ux1]; exact uq1.set 1 (.int .i64 f.1.at_))
          have ut2 : Below W.heap.size W U2 ∧ U2.ownsRow W.heap.size 3 1 (.slice pa f.1.path.length pcap) f.1.path.length (ptC f.1.path) := (by rw [← ux1]; exact ⟨ut1.1.setCell (p := ⟨W.heap.size + 1, 1, none⟩) (by show W.heap.size ≤ W.heap.size + 1; omega) _, ut1.2.kept (gr_set _ _ _ _) hpn⟩)
          have ug2 : U2.cell? ⟨W.heap.size + 1, 2, none⟩ = some (.int .i64 0) := uq2.2.1 2 (by simp)
          have uh2 := uq2.2.2 2
          have ul2 := uq2.1
          obtain ⟨U3, ux2⟩ : ∃ U3, U2.setCell ⟨W.heap.size + 1, 2, none⟩ (.int .i64 f.1.clause) = U3 := ⟨_, rfl⟩
          have uq3 : Bx U3 (W.heap.size + 1) [(.int .i64 f.1.part), (.int .i64 f.1.at_), (.int .i64 f.1.clause), (.slice none 0 0)] := (by rw [← ux2]; exact uq2.set 2 (.int .i64 f.1.clause))
          have ut3 : Below W.heap.size W U3 ∧ U3.ownsRow W.heap.size 3 1 (.slice pa f.1.path.length pcap) f.1.path.length (ptC f.1.path) := (by rw [← ux2]; exact ⟨ut2.1.setCell (p := ⟨W.heap.size + 1, 2, none⟩) (by show W.heap.size ≤ W.heap.size + 1; omega) _, ut2.2.kept (gr_set _ _ _ _) hpn⟩)
          have ug3 : U3.cell? ⟨W.heap.size + 1, 3, none⟩ = some (.slice none 0 0) := uq3.2.1 3 (by simp)
          have uh3 := uq3.2.2 3
          have ul3 := uq3.1
          obtain ⟨U4, ux3⟩ : ∃ U4, U3.setCell ⟨W.heap.size + 1, 3, none⟩ (.slice pa f.1.path.length pcap) = U4 := ⟨_, rfl⟩
          have uq4 : Bx U4 (W.heap.size + 1) [(.int .i64 f.1.part), (.int .i64 f.1.at_), (.int .i64 f.1.clause), (.slice pa f.1.path.length pcap)] := (by rw [← ux3]; exact uq3.set 3 (.slice pa f.1.path.length pcap))
          have ut4 : Below W.heap.size W U4 ∧ U4.ownsRow W.heap.size 3 1 (.slice pa f.1.path.length pcap) f.1.path.length (ptC f.1.path) := (by rw [← ux3]; exact ⟨ut3.1.setCell (p := ⟨W.heap.size + 1, 3, none⟩) (by show W.heap.size ≤ W.heap.size + 1; omega) _, ut3.2.kept (gr_set _ _ _ _) hpn⟩)
          have hB5 : Below U4.heap.size U4 (U4.alloc (.cells #[.int .i64 f.1.part, .int .i64 f.1.at_, .int .i64 f.1.clause, .slice pa f.1.path.length pcap] 105)) := (Below.refl _ _).alloc (Nat.le_refl _) _
          have hff : QQ (.returned (.tuple #[.agg #[.int .i64 f.1.part, .int .i64 f.1.at_, .int .i64 f.1.clause, .slice pa f.1.path.length pcap], .int .i64 (f.2 : Int)])) (U4.alloc (.cells #[.int .i64 f.1.part, .int .i64 f.1.at_, .int .i64 f.1.clause, .slice pa f.1.path.length pcap] 105)) := by
            rw [← hQH.out, hRH.out]
            exact ⟨bel_thru ut4.1 ut4.1.size hB5, _, rfl, own_bel ut4.2 hB5⟩
          have uq5 := uq4.bel hB5 uq4.1
          have f0 := uq5.2.1 0 (by simp)
          have f1 := uq5.2.1 1 (by simp)
          have f2 := uq5.2.1 2 (by simp)
          have f3 := uq5.2.1 3 (by simp)
          have l4 := uq4.1
          clear uq0 uq1 uq2 uq3 uq4 uq5 ut0 ut1 ut2 ut3 ut4 hB5
          go_wp2
          exact bodyPost_ret (v := .tuple #[.agg #[.int .i64 f.1.part, .int .i64 f.1.at_, .int .i64 f.1.clause, .slice pa f.1.path.length pcap], .int .i64 (f.2 : Int)]) (by simp [results, Tryz.results61, go_sem, f0, f1, f2, f3]) rfl hff
      · obtain ⟨RR, hRR⟩ : ∃ RR, stg p 6 sn = RR := ⟨_, rfl⟩
        rw [hRR] at hcall hinv2 hcs hps
        rw [show fnOf 6 = 79 from rfl] at hcell hcall
        obtain ⟨s2, o2⟩ := RR
        clear hRR hinv
        cases o2 with
        | none =>
          have hs2 := Hid.mk hinv2
          have hc2 := Hid.mk (hcs.out s2 rfl)
          clear hinv2 hcs hps
          go_wp2_with fail
          refine hcall.mono ?_
          clear hcall
          rintro e w5 ⟨rfl, sv5, hk5, hF5⟩
          have hB5 : Below w5.heap.size w5 (w5.alloc (.cells #[.int .i64 0, .int .i64 0, .int .i64 0, .slice none 0 0] 105)) := (Below.refl _ _).alloc (Nat.le_refl _) _
          have hk6 := hk5.bel hB5
          have hF6 := (hFr.trans hF5).trans (Fr.bel hB5 _)
          go_wp2
          exact ⟨⟨6 + 1, s2, sv5, (by first | rfl | go_num), hlt, hk6, hF6, hc2, hs2⟩, by simp only [intOf]; omega⟩
        | some f =>
          have hRH : Hid (R = some f) := ⟨hinv2.symm⟩
          have hpf := hps.out s2 f rfl
          have hne0 : (((f.2 : Nat) : Int) != 0) = true := by simp; omega
          clear hinv2 hcs hps
          go_wp2_with fail
          refine hcall.mono ?_
          clear hcall
          rintro e w5 ⟨⟨pv, rfl, hown⟩, sv5, hk5, hF5⟩
          obtain ⟨pa, pcap, rfl, -, -⟩ := own_int hown
          have hBw5 : Below W.heap.size W w5 := hBW4.trans ((hFr.trans hF5).below (by omega) hBW4.size (fun q hq => by cases hq))
          have hsvn : some (W.heap.size + 1) ≠ sv.ownBlock := fun e => by
            have := (hkr.pg _ e.symm).1
            omega
          have hr5 := hF5.box hrr (by omega) hsvn
          have hst5 : Below W.heap.size W w5 ∧ w5.ownsRow W.heap.size 3 1 (.slice pa f.1.path.length pcap) f.1.path.length (ptC f.1.path) := ⟨hBw5, own_base hown hBr.size⟩
          have hpn : (Value.slice pa f.1.path.length pcap).ownBlock = none ∨ (Value.slice pa f.1.path.length pcap).ownBlock ≠ some (W.heap.size + 1) := own_ge hown hrr.1
          have uq0 := hr5
          have ut0 := hst5
          have ug0 : w5.cell? ⟨W.heap.size + 1, 0, none⟩ = some (.int .i64 0) := uq0.2.1 0 (by simp)
          have uh0 := uq0.2.2 0
          have ul0 := uq0.1
          obtain ⟨U1, ux0⟩ : ∃ U1, w5.setCell ⟨W.heap.size + 1, 0, none⟩ (.int .i64 f.1.part) = U1 := ⟨_, rfl⟩
          have uq1 : Bx U1 (W.heap.size + 1) [(.int .i64 f.1.part), (.int .i64 0), (.int .i64 0), (.slice none 0 0)] := (by rw [← ux0]; exact uq0.set 0 (.int .i64 f.1.part))
          have ut1 : Below W.heap.size W U1 ∧ U1.ownsRow W.heap.size 3 1 (.slice pa f.1.path.length pcap) f.1.path.length (ptC f.1.path) := (by rw [← ux0]; exact ⟨ut0.1.setCell (p := ⟨W.heap.size + 1, 0, none⟩) (by show W.heap.size ≤ W.heap.size + 1; omega) _, ut0.2.kept (gr_set _ _ _ _) hpn⟩)
          have ug1 : U1.cell? ⟨W.heap.size + 1, 1, none⟩ = some (.int .i64 0) := uq1.2.1 1 (by simp)
          have uh1 := uq1.2.2 1
          have ul1 := uq1.1
          obtain ⟨U2, ux1⟩ : ∃ U2, U1.setCell ⟨W.heap.size + 1, 1, none⟩ (.int .i64 f.1.at_) = U2 := ⟨_, rfl⟩
          have uq2 : Bx U2 (W.heap.size + 1) [(.int .i64 f.1.part), (.int .i64 f.1.at_), (.int .i64 0), (.slice none 0 0)] := (by rw [← ux1]; exact uq1.set 1 (.int .i64 f.1.at_))
          have ut2 : Below W.heap.size W U2 ∧ U2.ownsRow W.heap.size 3 1 (.slice pa f.1.path.length pcap) f.1.path.length (ptC f.1.path) := (by rw [← ux1]; exact ⟨ut1.1.setCell (p := ⟨W.heap.size + 1, 1, none⟩) (by show W.heap.size ≤ W.heap.size + 1; omega) _, ut1.2.kept (gr_set _ _ _ _) hpn⟩)
          have ug2 : U2.cell? ⟨W.heap.size + 1, 2, none⟩ = some (.int .i64 0) := uq2.2.1 2 (by simp)
          have uh2 := uq2.2.2 2
          have ul2 := uq2.1
          obtain ⟨U3, ux2⟩ : ∃ U3, U2.setCell ⟨W.heap.size + 1, 2, none⟩ (.int .i64 f.1.clause) = U3 := ⟨_, rfl⟩
          have uq3 : Bx U3 (W.heap.size + 1) [(.int .i64 f.1.part), (.int .i64 f.1.at_), (.int .i64 f.1.clause), (.slice none 0 0)] := (by rw [← ux2]; exact uq2.set 2 (.int .i64 f.1.clause))
          have ut3 : Below W.heap.size W U3 ∧ U3.ownsRow W.heap.size 3 1 (.slice pa f.1.path.length pcap) f.1.path.length (ptC f.1.path) := (by rw [← ux2]; exact ⟨ut2.1.setCell (p := ⟨W.heap.size + 1, 2, none⟩) (by show W.heap.size ≤ W.heap.size + 1; omega) _, ut2.2.kept (gr_set _ _ _ _) hpn⟩)
          have ug3 : U3.cell? ⟨W.heap.size + 1, 3, none⟩ = some (.slice none 0 0) := uq3.2.1 3 (by simp)
          have uh3 := uq3.2.2 3
          have ul3 := uq3.1
          obtain ⟨U4, ux3⟩ : ∃ U4, U3.setCell ⟨W.heap.size + 1, 3, none⟩ (.slice pa f.1.path.length pcap) = U4 := ⟨_, rfl⟩
          have uq4 : Bx U4 (W.heap.size + 1) [(.int .i64 f.1.part), (.int .i64 f.1.at_), (.int .i64 f.1.clause), (.slice pa f.1.path.length pcap)] := (by rw [← ux3]; exact uq3.set 3 (.slice pa f.1.path.length pcap))
          have ut4 : Below W.heap.size W U4 ∧ U4.ownsRow W.heap.size 3 1 (.slice pa f.1.path.length pcap) f.1.path.length (ptC f.1.path) := (by rw [← ux3]; exact ⟨ut3.1.setCell (p := ⟨W.heap.size + 1, 3, none⟩) (by show W.heap.size ≤ W.heap.size + 1; omega) _, ut3.2.kept (gr_set _ _ _ _) hpn⟩)
          have hB5 : Below U4.heap.size U4 (U4.alloc (.cells #[.int .i64 f.1.part, .int .i64 f.1.at_, .int .i64 f.1.clause, .slice pa f.1.path.length pcap] 105)) := (Below.refl _ _).alloc (Nat.le_refl _) _
          have hff : QQ (.returned (.tuple #[.agg #[.int .i64 f.1.part, .int .i64 f.1.at_, .int .i64 f.1.clause, .slice pa f.1.path.length pcap], .int .i64 (f.2 : Int)])) (U4.alloc (.cells #[.int .i64 f.1.part, .int .i64 f.1.at_, .int .i64 f.1.clause, .slice pa f.1.path.length pcap] 105)) := by
            rw [← hQH.out, hRH.out]
            exact ⟨bel_thru ut4.1 ut4.1.size hB5, _, rfl, own_bel ut4.2 hB5⟩
          have uq5 := uq4.bel hB5 uq4.1
          have f0 := uq5.2.1 0 (by simp)
          have f1 := uq5.2.1 1 (by simp)
          have f2 := uq5.2.1 2 (by simp)
          have f3 := uq5.2.1 3 (by simp)
          have l4 := uq4.1
          clear uq0 uq1 uq2 uq3 uq4 uq5 ut0 ut1 ut2 ut3 ut4 hB5
          go_wp2
          exact bodyPost_ret (v := .tuple #[.agg #[.int .i64 f.1.part, .int .i64 f.1.at_, .int .i64 f.1.clause, .slice pa f.1.path.length pcap], .int .i64 (f.2 : Int)]) (by simp [results, Tryz.results61, go_sem, f0, f1, f2, f3]) rfl hff
      · obtain ⟨RR, hRR⟩ : ∃ RR, stg p 7 sn = RR := ⟨_, rfl⟩
        rw [hRR] at hcall hinv2 hcs hps
        rw [show fnOf 7 = 80 from rfl] at hcell hcall
        obtain ⟨s2, o2⟩ := RR
        clear hRR hinv
        cases o2 with
        | none =>
          have hs2 := Hid.mk hinv2
          have hc2 := Hid.mk (hcs.out s2 rfl)
          clear hinv2 hcs hps
          go_wp2_with fail
          refine hcall.mono ?_
          clear hcall
          rintro e w5 ⟨rfl, sv5, hk5, hF5⟩
          have hB5 : Below w5.heap.size w5 (w5.alloc (.cells #[.int .i64 0, .int .i64 0, .int .i64 0, .slice none 0 0] 105)) := (Below.refl _ _).alloc (Nat.le_refl _) _
          have hk6 := hk5.bel hB5
          have hF6 := (hFr.trans hF5).trans (Fr.bel hB5 _)
          go_wp2
          exact ⟨⟨7 + 1, s2, sv5, (by first | rfl | go_num), hlt, hk6, hF6, hc2, hs2⟩, by simp only [intOf]; omega⟩
        | some f =>
          have hRH : Hid (R = some f) := ⟨hinv2.symm⟩
          have hpf := hps.out s2 f rfl
          have hne0 : (((f.2 : Nat) : Int) != 0) = true := by simp; omega
          clear hinv2 hcs hps
          go_wp2_with fail
          refine hcall.mono ?_
          clear hcall
          rintro e w5 ⟨⟨pv, rfl, hown⟩, sv5, hk5, hF5⟩
          obtain ⟨pa, pcap, rfl, -, -⟩ := own_int hown
          have hBw5 : Below W.heap.size W w5 := hBW4.trans ((hFr.trans hF5).below (by omega) hBW4.size (fun q hq => by cases hq))
          have hsvn : some (W.heap.size + 1) ≠ sv.ownBlock := fun e => by
            have := (hkr.pg _ e.symm).1
            omega
          have hr5 := hF5.box hrr (by omega) hsvn
          have hst5 : Below W.heap.size W w5 ∧ w5.ownsRow W.heap.size 3 1 (.slice pa f.1.path.length pcap) f.1.path.length (ptC f.1.path) := ⟨hBw5, own_base hown hBr.size⟩
          have hpn : (Value.slice pa f.1.path.length pcap).ownBlock = none ∨ (Value.slice pa f.1.path.length pcap).ownBlock ≠ some (W.heap.size + 1) := own_ge hown hrr.1
          have uq0 := hr5
          have ut0 := hst5
          have ug0 : w5.cell? ⟨W.heap.size + 1, 0, none⟩ = some (.int .i64 0) := uq0.2.1 0 (by simp)
          have uh0 := uq0.2.2 0
          have ul0 := uq0.1
          obtain ⟨U1, ux0⟩ : ∃ U1, w5.setCell ⟨W.heap.size + 1, 0, none⟩ (.int .i64 f.1.part) = U1 := ⟨_, rfl⟩
          have uq1 : Bx U1 (W.heap.size + 1) [(.int .i64 f.1.part), (.int .i64 0), (.int .i64 0), (.slice none 0 0)] := (by rw [← ux0]; exact uq0.set 0 (.int .i64 f.1.part))
          have ut1 : Below W.heap.size W U1 ∧ U1.ownsRow W.heap.size 3 1 (.slice pa f.1.path.length pcap) f.1.path.length (ptC f.1.path) := (by rw [← ux0]; exact ⟨ut0.1.setCell (p := ⟨W.heap.size + 1, 0, none⟩) (by show W.heap.size ≤ W.heap.size + 1; omega) _, ut0.2.kept (gr_set _ _ _ _) hpn⟩)
          have ug1 : U1.cell? ⟨W.heap.size + 1, 1, none⟩ = some (.int .i64 0) := uq1.2.1 1 (by simp)
          have uh1 := uq1.2.2 1
          have ul1 := uq1.1
          obtain ⟨U2, ux1⟩ : ∃ U2, U1.setCell ⟨W.heap.size + 1, 1, none⟩ (.int .i64 f.1.at_) = U2 := ⟨_, rfl⟩
          have uq2 : Bx U2 (W.heap.size + 1) [(.int .i64 f.1.part), (.int .i64 f.1.at_), (.int .i64 0), (.slice none 0 0)] := (by rw [← ux1]; exact uq1.set 1 (.int .i64 f.1.at_))
          have ut2 : Below W.heap.size W U2 ∧ U2.ownsRow W.heap.size 3 1 (.slice pa f.1.path.length pcap) f.1.path.length (ptC f.1.path) := (by rw [← ux1]; exact ⟨ut1.1.setCell (p := ⟨W.heap.size + 1, 1, none⟩) (by show W.heap.size ≤ W.heap.size + 1; omega) _, ut1.2.kept (gr_set _ _ _ _) hpn⟩)
          have ug2 : U2.cell? ⟨W.heap.size + 1, 2, none⟩ = some (.int .i64 0) := uq2.2.1 2 (by simp)
          have uh2 := uq2.2.2 2
          have ul2 := uq2.1
          obtain ⟨U3, ux2⟩ : ∃ U3, U2.setCell ⟨W.heap.size + 1, 2, none⟩ (.int .i64 f.1.clause) = U3 := ⟨_, rfl⟩
          have uq3 : Bx U3 (W.heap.size + 1) [(.int .i64 f.1.part), (.int .i64 f.1.at_), (.int .i64 f.1.clause), (.slice none 0 0)] := (by rw [← ux2]; exact uq2.set 2 (.int .i64 f.1.clause))
          have ut3 : Below W.heap.size W U3 ∧ U3.ownsRow W.heap.size 3 1 (.slice pa f.1.path.length pcap) f.1.path.length (ptC f.1.path) := (by rw [← ux2]; exact ⟨ut2.1.setCell (p := ⟨W.heap.size + 1, 2, none⟩) (by show W.heap.size ≤ W.heap.size + 1; omega) _, ut2.2.kept (gr_set _ _ _ _) hpn⟩)
          have ug3 : U3.cell? ⟨W.heap.size + 1, 3, none⟩ = some (.slice none 0 0) := uq3.2.1 3 (by simp)
          have uh3 := uq3.2.2 3
          have ul3 := uq3.1
          obtain ⟨U4, ux3⟩ : ∃ U4, U3.setCell ⟨W.heap.size + 1, 3, none⟩ (.slice pa f.1.path.length pcap) = U4 := ⟨_, rfl⟩
          have uq4 : Bx U4 (W.heap.size + 1) [(.int .i64 f.1.part), (.int .i64 f.1.at_), (.int .i64 f.1.clause), (.slice pa f.1.path.length pcap)] := (by rw [← ux3]; exact uq3.set 3 (.slice pa f.1.path.length pcap))
          have ut4 : Below W.heap.size W U4 ∧ U4.ownsRow W.heap.size 3 1 (.slice pa f.1.path.length pcap) f.1.path.length (ptC f.1.path) := (by rw [← ux3]; exact ⟨ut3.1.setCell (p := ⟨W.heap.size + 1, 3, none⟩) (by show W.heap.size ≤ W.heap.size + 1; omega) _, ut3.2.kept (gr_set _ _ _ _) hpn⟩)
          have hB5 : Below U4.heap.size U4 (U4.alloc (.cells #[.int .i64 f.1.part, .int .i64 f.1.at_, .int .i64 f.1.clause, .slice pa f.1.path.length pcap] 105)) := (Below.refl _ _).alloc (Nat.le_refl _) _
          have hff : QQ (.returned (.tuple #[.agg #[.int .i64 f.1.part, .int .i64 f.1.at_, .int .i64 f.1.clause, .slice pa f.1.path.length pcap], .int .i64 (f.2 : Int)])) (U4.alloc (.cells #[.int .i64 f.1.part, .int .i64 f.1.at_, .int .i64 f.1.clause, .slice pa f.1.path.length pcap] 105)) := by
            rw [← hQH.out, hRH.out]
            exact ⟨bel_thru ut4.1 ut4.1.size hB5, _, rfl, own_bel ut4.2 hB5⟩
          have uq5 := uq4.bel hB5 uq4.1
          have f0 := uq5.2.1 0 (by simp)
          have f1 := uq5.2.1 1 (by simp)
          have f2 := uq5.2.1 2 (by simp)
          have f3 := uq5.2.1 3 (by simp)
          have l4 := uq4.1
          clear uq0 uq1 uq2 uq3 uq4 uq5 ut0 ut1 ut2 ut3 ut4 hB5
          go_wp2
          exact bodyPost_ret (v := .tuple #[.agg #[.int .i64 f.1.part, .int .i64 f.1.at_, .int .i64 f.1.clause, .slice pa f.1.path.length pcap], .int .i64 (f.2 : Int)]) (by simp [results, Tryz.results61, go_sem, f0, f1, f2, f3]) rfl hff
      · obtain ⟨RR, hRR⟩ : ∃ RR, stg p 8 sn = RR := ⟨_, rfl⟩
        rw [hRR] at hcall hinv2 hcs hps
        rw [show fnOf 8 = 81 from rfl] at hcell hcall
        obtain ⟨s2, o2⟩ := RR
        clear hRR hinv
        cases o2 with
        | none =>
          have hs2 := Hid.mk hinv2
          have hc2 := Hid.mk (hcs.out s2 rfl)
          clear hinv2 hcs hps
          go_wp2_with fail
          refine hcall.mono ?_
          clear hcall
          rintro e w5 ⟨rfl, sv5, hk5, hF5⟩
          have hB5 : Below w5.heap.size w5 (w5.alloc (.cells #[.int .i64 0, .int .i64 0, .int .i64 0, .slice none 0 0] 105)) := (Below.refl _ _).alloc (Nat.le_refl _) _
          have hk6 := hk5.bel hB5
          have hF6 := (hFr.trans hF5).trans (Fr.bel hB5 _)
          go_wp2
          exact ⟨⟨8 + 1, s2, sv5, (by first | rfl | go_num), hlt, hk6, hF6, hc2, hs2⟩, by simp only [intOf]; omega⟩
        | some f =>
          have hRH : Hid (R = some f) := ⟨hinv2.symm⟩
          have hpf := hps.out s2 f rfl
          have hne0 : (((f.2 : Nat) : Int) != 0) = true := by simp; omega
          clear hinv2 hcs hps
          go_wp2_with fail
          refine hcall.mono ?_
          clear hcall
          rintro e w5 ⟨⟨pv, rfl, hown⟩, sv5, hk5, hF5⟩
          obtain ⟨pa, pcap, rfl, -, -⟩ := own_int hown
          have hBw5 : Below W.heap.size W w5 := hBW4.trans ((hFr.trans hF5).below (by omega) hBW4.size (fun q hq => by cases hq))
          have hsvn : some (W.heap.size + 1) ≠ sv.ownBlock := fun e => by
            have := (hkr.pg _ e.symm).1
            omega
          have hr5 := hF5.box hrr (by omega) hsvn
          have hst5 : Below W.heap.size W w5 ∧ w5.ownsRow W.heap.size 3 1 (.slice pa f.1.path.length pcap) f.1.path.length (ptC f.1.path) := ⟨hBw5, own_base hown hBr.size⟩
          have hpn : (Value.slice pa f.1.path.length pcap).ownBlock = none ∨ (Value.slice pa f.1.path.length pcap).ownBlock ≠ some (W.heap.size + 1) := own_ge hown hrr.1
          have uq0 := hr5
          have ut0 := hst5
          have ug0 : w5.cell? ⟨W.heap.size + 1, 0, none⟩ = some (.int .i64 0) := uq0.2.1 0 (by simp)
          have uh0 := uq0.2.2 0
          have ul0 := uq0.1
          obtain ⟨U1, ux0⟩ : ∃ U1, w5.setCell ⟨W.heap.size + 1, 0, none⟩ (.int .i64 f.1.part) = U1 := ⟨_, rfl⟩
          have uq1 : Bx U1 (W.heap.size + 1) [(.int .i64 f.1.part), (.int .i64 0), (.int .i64 0), (.slice none 0 0)] := (by rw [← ux0]; exact uq0.set 0 (.int .i64 f.1.part))
          have ut1 : Below W.heap.size W U1 ∧ U1.ownsRow W.heap.size 3 1 (.slice pa f.1.path.length pcap) f.1.path.length (ptC f.1.path) := (by rw [← ux0]; exact ⟨ut0.1.setCell (p := ⟨W.heap.size + 1, 0, none⟩) (by show W.heap.size ≤ W.heap.size + 1; omega) _, ut0.2.kept (gr_set _ _ _ _) hpn⟩)
          have ug1 : U1.cell? ⟨W.heap.size + 1, 1, none⟩ = some (.int .i64 0) := uq1.2.1 1 (by simp)
          have uh1 := uq1.2.2 1
          have ul1 := uq1.1
          obtain ⟨U2, ux1⟩ : ∃ U2, U1.setCell ⟨W.heap.size + 1, 1, none⟩ (.int .i64 f.1.at_) = U2 := ⟨_, rfl⟩
          have uq2 : Bx U2 (W.heap.size + 1) [(.int .i64 f.1.part), (.int .i64 f.1.at_), (.int .i64 0), (.slice none 0 0)] := (by rw [← ux1]; exact uq1.set 1 (.int .i64 f.1.at_))
          have ut2 : Below W.heap.size W U2 ∧ U2.ownsRow W.heap.size 3 1 (.slice pa f.1.path.length pcap) f.1.path.length (ptC f.1.path) := (by rw [← ux1]; exact ⟨ut1.1.setCell (p := ⟨W.heap.size + 1, 1, none⟩) (by show W.heap.size ≤ W.heap.size + 1; omega) _, ut1.2.kept (gr_set _ _ _ _) hpn⟩)
          have ug2 : U2.cell? ⟨W.heap.size + 1, 2, none⟩ = some (.int .i64 0) := uq2.2.1 2 (by simp)
          have uh2 := uq2.2.2 2
          have ul2 := uq2.1
          obtain ⟨U3, ux2⟩ : ∃ U3, U2.setCell ⟨W.heap.size + 1, 2, none⟩ (.int .i64 f.1.clause) = U3 := ⟨_, rfl⟩
          have uq3 : Bx U3 (W.heap.size + 1) [(.int .i64 f.1.part), (.int .i64 f.1.at_), (.int .i64 f.1.clause), (.slice none 0 0)] := (by rw [← ux2]; exact uq2.set 2 (.int .i64 f.1.clause))
          have ut3 : Below W.heap.size W U3 ∧ U3.ownsRow W.heap.size 3 1 (.slice pa f.1.path.length pcap) f.1.path.length (ptC f.1.path) := (by rw [← ux2]; exact ⟨ut2.1.setCell (p := ⟨W.heap.size + 1, 2, none⟩) (by show W.heap.size ≤ W.heap.size + 1; omega) _, ut2.2.kept (gr_set _ _ _ _) hpn⟩)
          have ug3 : U3.cell? ⟨W.heap.size + 1, 3, none⟩ = some (.slice none 0 0) := uq3.2.1 3 (by simp)
          have uh3 := uq3.2.2 3
          have ul3 := uq3.1
          obtain ⟨U4, ux3⟩ : ∃ U4, U3.setCell ⟨W.heap.size + 1, 3, none⟩ (.slice pa f.1.path.length pcap) = U4 := ⟨_, rfl⟩
          have uq4 : Bx U4 (W.heap.size + 1) [(.int .i64 f.1.part), (.int .i64 f.1.at_), (.int .i64 f.1.clause), (.slice pa f.1.path.length pcap)] := (by rw [← ux3]; exact uq3.set 3 (.slice pa f.1.path.length pcap))
          have ut4 : Below W.heap.size W U4 ∧ U4.ownsRow W.heap.size 3 1 (.slice pa f.1.path.length pcap) f.1.path.length (ptC f.1.path) := (by rw [← ux3]; exact ⟨ut3.1.setCell (p := ⟨W.heap.size + 1, 3, none⟩) (by show W.heap.size ≤ W.heap.size + 1; omega) _, ut3.2.kept (gr_set _ _ _ _) hpn⟩)
          have hB5 : Below U4.heap.size U4 (U4.alloc (.cells #[.int .i64 f.1.part, .int .i64 f.1.at_, .int .i64 f.1.clause, .slice pa f.1.path.length pcap] 105)) := (Below.refl _ _).alloc (Nat.le_refl _) _
          have hff : QQ (.returned (.tuple #[.agg #[.int .i64 f.1.part, .int .i64 f.1.at_, .int .i64 f.1.clause, .slice pa f.1.path.length pcap], .int .i64 (f.2 : Int)])) (U4.alloc (.cells #[.int .i64 f.1.part, .int .i64 f.1.at_, .int .i64 f.1.clause, .slice pa f.1.path.length pcap] 105)) := by
            rw [← hQH.out, hRH.out]
            exact ⟨bel_thru ut4.1 ut4.1.size hB5, _, rfl, own_bel ut4.2 hB5⟩
          have uq5 := uq4.bel hB5 uq4.1
          have f0 := uq5.2.1 0 (by simp)
          have f1 := uq5.2.1 1 (by simp)
          have f2 := uq5.2.1 2 (by simp)
          have f3 := uq5.2.1 3 (by simp)
          have l4 := uq4.1
          clear uq0 uq1 uq2 uq3 uq4 uq5 ut0 ut1 ut2 ut3 ut4 hB5
          go_wp2
          exact bodyPost_ret (v := .tuple #[.agg #[.int .i64 f.1.part, .int .i64 f.1.at_, .int .i64 f.1.clause, .slice pa f.1.path.length pcap], .int .i64 (f.2 : Int)]) (by simp [results, Tryz.results61, go_sem, f0, f1, f2, f3]) rfl hff
      · obtain ⟨RR, hRR⟩ : ∃ RR, stg p 9 sn = RR := ⟨_, rfl⟩
        rw [hRR] at hcall hinv2 hcs hps
        rw [show fnOf 9 = 82 from rfl] at hcell hcall
        obtain ⟨s2, o2⟩ := RR
        clear hRR hinv
        cases o2 with
        | none =>
          have hs2 := Hid.mk hinv2
          have hc2 := Hid.mk (hcs.out s2 rfl)
          clear hinv2 hcs hps
          go_wp2_with fail
          refine hcall.mono ?_
          clear hcall
          rintro e w5 ⟨rfl, sv5, hk5, hF5⟩
          have hB5 : Below w5.heap.size w5 (w5.alloc (.cells #[.int .i64 0, .int .i64 0, .int .i64 0, .slice none 0 0] 105)) := (Below.refl _ _).alloc (Nat.le_refl _) _
          have hk6 := hk5.bel hB5
          have hF6 := (hFr.trans hF5).trans (Fr.bel hB5 _)
          go_wp2
          exact ⟨⟨9 + 1, s2, sv5, (by first | rfl | go_num), hlt, hk6, hF6, hc2, hs2⟩, by simp only [intOf]; omega⟩
        | some f =>
          have hRH : Hid (R = some f) := ⟨hinv2.symm⟩
          have hpf := hps.out s2 f rfl
          have hne0 : (((f.2 : Nat) : Int) != 0) = true := by simp; omega
          clear hinv2 hcs hps
          go_wp2_with fail
          refine hcall.mono ?_
          clear hcall
          rintro e w5 ⟨⟨pv, rfl, hown⟩, sv5, hk5, hF5⟩
          obtain ⟨pa, pcap, rfl, -, -⟩ := own_int hown
          have hBw5 : Below W.heap.size W w5 := hBW4.trans ((hFr.trans hF5).below (by omega) hBW4.size (fun q hq => by cases hq))
          have hsvn : some (W.heap.size + 1) ≠ sv.ownBlock := fun e => by
            have := (hkr.pg _ e.symm).1
            omega
          have hr5 := hF5.box hrr (by omega) hsvn
          have hst5 : Below W.heap.size W w5 ∧ w5.ownsRow W.heap.size 3 1 (.slice pa f.1.path.length pcap) f.1.path.length (ptC f.1.path) := ⟨hBw5, own_base hown hBr.size⟩
          have hpn : (Value.slice pa f.1.path.length pcap).ownBlock = none ∨ (Value.slice pa f.1.path.length pcap).ownBlock ≠ some (W.heap.size + 1) := own_ge hown hrr.1
          have uq0 := hr5
          have ut0 := hst5
          have ug0 : w5.cell? ⟨W.heap.size + 1, 0, none⟩ = some (.int .i64 0) := uq0.2.1 0 (by simp)
          have uh0 := uq0.2.2 0
          have ul0 := uq0.1
          obtain ⟨U1, ux0⟩ : ∃ U1, w5.setCell ⟨W.heap.size + 1, 0, none⟩ (.int .i64 f.1.part) = U1 := ⟨_, rfl⟩
          have uq1 : Bx U1 (W.heap.size + 1) [(.int .i64 f.1.part), (.int .i64 0), (.int .i64 0), (.slice none 0 0)] := (by rw [← ux0]; exact uq0.set 0 (.int .i64 f.1.part))
          have ut1 : Below W.heap.size W U1 ∧ U1.ownsRow W.heap.size 3 1 (.slice pa f.1.path.length pcap) f.1.path.length (ptC f.1.path) := (by rw [← ux0]; exact ⟨ut0.1.setCell (p := ⟨W.heap.size + 1, 0, none⟩) (by show W.heap.size ≤ W.heap.size + 1; omega) _, ut0.2.kept (gr_set _ _ _ _) hpn⟩)
          have ug1 : U1.cell? ⟨W.heap.size + 1, 1, none⟩ = some (.int .i64 0) := uq1.2.1 1 (by simp)
          have uh1 := uq1.2.2 1
          have ul1 := uq1.1
          obtain ⟨U2, ux1⟩ : ∃ U2, U1.setCell ⟨W.heap.size + 1, 1, none⟩ (.int .i64 f.1.at_) = U2 := ⟨_, rfl⟩
          have uq2 : Bx U2 (W.heap.size + 1) [(.int .i64 f.1.part), (.int .i64 f.1.at_), (.int .i64 0), (.slice none 0 0)] := (by rw [← ux1]; exact uq1.set 1 (.int .i64 f.1.at_))
          have ut2 : Below W.heap.size W U2 ∧ U2.ownsRow W.heap.size 3 1 (.slice pa f.1.path.length pcap) f.1.path.length (ptC f.1.path) := (by rw [← ux1]; exact ⟨ut1.1.setCell (p := ⟨W.heap.size + 1, 1, none⟩) (by show W.heap.size ≤ W.heap.size + 1; omega) _, ut1.2.kept (gr_set _ _ _ _) hpn⟩)
          have ug2 : U2.cell? ⟨W.heap.size + 1, 2, none⟩ = some (.int .i64 0) := uq2.2.1 2 (by simp)
          have uh2 := uq2.2.2 2
          have ul2 := uq2.1
          obtain ⟨U3, ux2⟩ : ∃ U3, U2.setCell ⟨W.heap.size + 1, 2, none⟩ (.int .i64 f.1.clause) = U3 := ⟨_, rfl⟩
          have uq3 : Bx U3 (W.heap.size + 1) [(.int .i64 f.1.part), (.int .i64 f.1.at_), (.int .i64 f.1.clause), (.slice none 0 0)] := (by rw [← ux2]; exact uq2.set 2 (.int .i64 f.1.clause))
          have ut3 : Below W.heap.size W U3 ∧ U3.ownsRow W.heap.size 3 1 (.slice pa f.1.path.length pcap) f.1.path.length (ptC f.1.path) := (by rw [← ux2]; exact ⟨ut2.1.setCell (p := ⟨W.heap.size + 1, 2, none⟩) (by show W.heap.size ≤ W.heap.size + 1; omega) _, ut2.2.kept (gr_set _ _ _ _) hpn⟩)
          have ug3 : U3.cell? ⟨W.heap.size + 1, 3, none⟩ = some (.slice none 0 0) := uq3.2.1 3 (by simp)
          have uh3 := uq3.2.2 3
          have ul3 := uq3.1
          obtain ⟨U4, ux3⟩ : ∃ U4, U3.setCell ⟨W.heap.size + 1, 3, none⟩ (.slice pa f.1.path.length pcap) = U4 := ⟨_, rfl⟩
          have uq4 : Bx U4 (W.heap.size + 1) [(.int .i64 f.1.part), (.int .i64 f.1.at_), (.int .i64 f.1.clause), (.slice pa f.1.path.length pcap)] := (by rw [← ux3]; exact uq3.set 3 (.slice pa f.1.path.length pcap))
          have ut4 : Below W.heap.size W U4 ∧ U4.ownsRow W.heap.size 3 1 (.slice pa f.1.path.length pcap) f.1.path.length (ptC f.1.path) := (by rw [← ux3]; exact ⟨ut3.1.setCell (p := ⟨W.heap.size + 1, 3, none⟩) (by show W.heap.size ≤ W.heap.size + 1; omega) _, ut3.2.kept (gr_set _ _ _ _) hpn⟩)
          have hB5 : Below U4.heap.size U4 (U4.alloc (.cells #[.int .i64 f.1.part, .int .i64 f.1.at_, .int .i64 f.1.clause, .slice pa f.1.path.length pcap] 105)) := (Below.refl _ _).alloc (Nat.le_refl _) _
          have hff : QQ (.returned (.tuple #[.agg #[.int .i64 f.1.part, .int .i64 f.1.at_, .int .i64 f.1.clause, .slice pa f.1.path.length pcap], .int .i64 (f.2 : Int)])) (U4.alloc (.cells #[.int .i64 f.1.part, .int .i64 f.1.at_, .int .i64 f.1.clause, .slice pa f.1.path.length pcap] 105)) := by
            rw [← hQH.out, hRH.out]
            exact ⟨bel_thru ut4.1 ut4.1.size hB5, _, rfl, own_bel ut4.2 hB5⟩
          have uq5 := uq4.bel hB5 uq4.1
          have f0 := uq5.2.1 0 (by simp)
          have f1 := uq5.2.1 1 (by simp)
          have f2 := uq5.2.1 2 (by simp)
          have f3 := uq5.2.1 3 (by simp)
          have l4 := uq4.1
          clear uq0 uq1 uq2 uq3 uq4 uq5 ut0 ut1 ut2 ut3 ut4 hB5
          go_wp2
          exact bodyPost_ret (v := .tuple #[.agg #[.int .i64 f.1.part, .int .i64 f.1.at_, .int .i64 f.1.clause, .slice pa f.1.path.length pcap], .int .i64 (f.2 : Int)]) (by simp [results, Tryz.results61, go_sem, f0, f1, f2, f3]) rfl hff
    · have hlt' : ¬ (i : Int) < 10 := by omega
      have hri := hinv.out
      rw [show 10 - i = 0 by omega] at hri
      have hff : QQ (.returned (.tuple #[.agg #[.int .i64 0, .int .i64 0, .int .i64 0, .slice none 0 0], .int .i64 0])) wr := by
        rw [← hQH.out, ← hri]
        exact ⟨hBr, rfl⟩
      have f0 := hrr.2.1 0 (by simp)
      have f1 := hrr.2.1 1 (by simp)
      have f2 := hrr.2.1 2 (by simp)
      have f3 := hrr.2.1 3 (by simp)
      have z0 := hrr.2.2 0
      have z1 := hrr.2.2 1
      have z2 := hrr.2.2 2
      have z3 := hrr.2.2 3
      have j0 := set_id f0
      have j1 := set_id f1
      have j2 := set_id f2
      have j3 := set_id f3
      clear hinv hri
      go_wp2
      exact bodyPost_ret (v := .tuple #[.agg #[.int .i64 0, .int .i64 0, .int .i64 0, .slice none 0 0], .int .i64 0]) (by simp at f0 f1 f2 f3; simp [results, Tryz.results61, go_sem, f0, f1, f2, f3]) rfl hff
end Go.Proofs.YthnmjafoplfikaaGreatDoor

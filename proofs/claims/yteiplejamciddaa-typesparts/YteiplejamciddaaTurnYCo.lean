import Derived.Test.YteiplejamciddaaYCd
import Derived.Test.YteiplejamciddaaJoin48
import Derived.Laws.AppendOwnNone
namespace Go.Proofs.Yteiplejamciddaa
open Go.RowKit

/-- Four blocks more. -/
theorem bx_four (W : World) (a b c d : Array Value) (ta tb tc td : TypeId) : Bx ((((W.alloc (.cells a ta)).alloc (.cells b tb)).alloc (.cells c tc)).alloc (.cells d td)) W.heap.size a.toList ∧ Bx ((((W.alloc (.cells a ta)).alloc (.cells b tb)).alloc (.cells c tc)).alloc (.cells d td)) (W.heap.size + 1) b.toList ∧ Bx ((((W.alloc (.cells a ta)).alloc (.cells b tb)).alloc (.cells c tc)).alloc (.cells d td)) (W.heap.size + 1 + 1) c.toList ∧ Bx ((((W.alloc (.cells a ta)).alloc (.cells b tb)).alloc (.cells c tc)).alloc (.cells d td)) (W.heap.size + 1 + 1 + 1) d.toList ∧ Below W.heap.size W ((((W.alloc (.cells a ta)).alloc (.cells b tb)).alloc (.cells c tc)).alloc (.cells d td)) ∧ ((((W.alloc (.cells a ta)).alloc (.cells b tb)).alloc (.cells c tc)).alloc (.cells d td)).heap.size = W.heap.size + 1 + 1 + 1 + 1 := by
  have k : ∀ (X : World) (o : Obj) (b : Nat) (vs : List Value), Bx X b vs → Bx (X.alloc o) b vs := fun X o b vs h => h.kept (World.grownBy_alloc X o none) (by simp)
  have s1 : (W.alloc (.cells a ta)).heap.size = W.heap.size + 1 := by simp
  have s2 : ((W.alloc (.cells a ta)).alloc (.cells b tb)).heap.size = W.heap.size + 1 + 1 := by simp
  have s3 : (((W.alloc (.cells a ta)).alloc (.cells b tb)).alloc (.cells c tc)).heap.size = W.heap.size + 1 + 1 + 1 := by simp
  have h1 := bx_new W a ta
  have h2 := bx_new (W.alloc (.cells a ta)) b tb
  have h3 := bx_new ((W.alloc (.cells a ta)).alloc (.cells b tb)) c tc
  have h4 := bx_new (((W.alloc (.cells a ta)).alloc (.cells b tb)).alloc (.cells c tc)) d td
  rw [s1] at h2
  rw [s2] at h3
  rw [s3] at h4
  exact ⟨k _ _ _ _ (k _ _ _ _ (k _ _ _ _ h1)), k _ _ _ _ (k _ _ _ _ h2), k _ _ _ _ h3, h4, ((((Below.refl _ _).alloc (Nat.le_refl _) _).alloc (by simp) _).alloc (by simp; omega) _).alloc (by simp; omega) _, by simp⟩
theorem tFold_plen {f : Ex → Nat → Nat × Except Ft Kd} {d : Nat} (hf : ∀ x n m e, f x n = (m, .error e) → e.1.length ≤ d) : ∀ (l : List Ex) (i n : Nat) (acc : List Kd) (m : Nat) (e : Ft), tFold f l i n acc = (m, .error e) → e.1.length ≤ d + 1
  | [], i, n, acc, m, e, h => by
    unfold tFold at h
    injection h with _ h
    cases h
  | x :: l, i, n, acc, m, e, h => by
    unfold tFold at h
    rcases hx : f x n with ⟨m1, er | k⟩
    · rw [hx] at h
      injection h with _ h
      injection h with h
      subst h
      have := hf x n m1 er hx
      simp only [List.length_cons]
      omega
    · rw [hx] at h
      exact tFold_plen hf l (i + 1) m1 (acc ++ [k]) m e h
theorem tN_plen (p : Pk) (g : Int) : ∀ (d : Nat) (x : Ex) (n m : Nat) (e : Ft), tN p g d x n = (m, .error e) → e.1.length ≤ d
  | 0, x, n, m, e, h => by
    unfold tN at h
    injection h with _ h
    injection h with h
    subst h
    decide
  | d + 1, x, n, m, e, h => by
    have ih := tN_plen p g d
    unfold tN at h
    split at h
    · injection h with _ h; injection h with h; subst h; exact Nat.zero_le _
    split at h
    · injection h with _ h; injection h with h; subst h; exact Nat.zero_le _
    split at h
    · injection h with _ h; injection h with h; subst h; exact Nat.zero_le _
    split at h
    · injection h with _ h; injection h with h; subst h; exact Nat.zero_le _
    rcases hf : tFold (tN p g d) (toL x.args) 0 (n + 1) [] with ⟨m1, er | ks⟩
    · rw [hf] at h
      injection h with _ h
      injection h with h
      subst h
      exact tFold_plen ih _ _ _ _ _ _ hf
    · rw [hf] at h
      injection h with _ h
      unfold worthF at h
      split at h
      · injection h with h; subst h; exact Nat.succ_le_succ (Nat.zero_le _)
      · split at h
        · cases h
        · injection h with h; subst h; exact Nat.zero_le _
def Mk (P : Prop) : Prop := P
theorem toMk {P : Prop} (h : Mk P) : P := h
/-- A cell of a new block is set. -/
theorem fr_set3 {xb B b i : Nat} {W X X' : World} {rv rv2 u : Value} {vs xs : List Value} {k : Nat} (h : Fr xb W rv X rv2 ∧ Bx X xb vs ∧ X.ownsRow B 3 1 rv2 k xs) {hx : X.setCell ⟨b, i, none⟩ u = X'} (hb : W.heap.size ≤ b ∧ b ≠ xb ∧ (rv2.ownBlock = none ∨ rv2.ownBlock ≠ some b)) : Fr xb W rv X' rv2 ∧ Bx X' xb vs ∧ X'.ownsRow B 3 1 rv2 k xs := by
  rw [← hx]
  exact ⟨h.1.setN hb.1 i u, h.2.1.kept (gr_set X b i u) (by intro e; injection e with e; exact hb.2.1 e.symm), h.2.2.kept (gr_set X b i u) hb.2.2⟩
/-- What next answers. -/
def NxP (B xb cb : Nat) (g : Int) (rv : Value) (R : Nat × Option (Sp × Nat)) (W : World) (e : Ending) (W' : World) : Prop := ∃ rv', Fr xb W rv W' rv' ∧ Bx W' xb [.pointer (some ⟨cb, 0, none⟩), .int .i64 g, .int .i64 (R.1 : Int)] ∧ (match R.2 with
  | none => e = .returned (.tuple #[.agg #[.int .i64 0, .int .i64 0, .int .i64 0, .slice none 0 0], .int .i64 0])
  | some f => e = .returned (.tuple #[.agg #[.int .i64 f.1.part, .int .i64 f.1.at_, .int .i64 f.1.clause, rv'], .int .i64 (f.2 : Int)]) ∧ W'.ownsRow B 3 1 rv' f.1.path.length (ptC f.1.path))
set_option maxRecDepth 20000 in
set_option maxHeartbeats 3000000 in
theorem next_any (p : Pk) (g : Int) (a3 a4 a5 a6 a7 : Option Addr) (c3 c4 c5 c6 c7 : Nat) (cb s xb B : Nat) (rt : Sp) (rv : Value) (mu : Kd) (x : Ex) (ax : Option Addr) (cx : Nat) (n : Nat) (W : World) (seen : Sn) (sv : Value) (h : CkS p [.string ⟨p.name.toArray⟩, .int .i64 p.year, .slice a3 p.opts.length c3, .slice a4 p.tabs.length c4, .slice a5 p.grps.length c5, .slice a6 p.lns.length c6, .slice a7 p.cks.length c7] cb s W seen sv) (hxb : Bx W xb [.pointer (some ⟨cb, 0, none⟩), .int .i64 g, .int .i64 (n : Int)]) (hxc : cb < xb) (hrv : W.ownsRow B 3 1 rv rt.path.length (ptC rt.path)) (hBx : xb < B) (hB : B ≤ W.heap.size) (hrl : rt.path.length ≤ 8) (hn : n ≤ 60) (hx : FoAt W AnyB x.args ax) (hz : SzE x) : Calls Try.prog 54 #[.pointer (some ⟨xb, 0, none⟩), .agg #[.int .i64 rt.part, .int .i64 rt.at_, .int .i64 rt.clause, rv], .agg #[.int .i64 mu.1, .int .i64 mu.2], .agg #[.int .i64 x.op, .int .i64 x.num, .int .i64 x.den, .int .i64 x.mode, .slice ax x.args.len cx]] W (NxP B xb cb g rv (nxF p g rt mu x n) W) := by
  have hcb := h.lt
  obtain ⟨ra, rcap, rfl, hra, hrc⟩ := own_int hrv
  obtain ⟨W4, hW4⟩ : ∃ W4, W4 = (((W.alloc (.cells #[.int .i64 rt.part, .int .i64 rt.at_, .int .i64 rt.clause, .slice ra rt.path.length rcap] 41)).alloc (.cells #[.int .i64 mu.1, .int .i64 mu.2] 57)).alloc (.cells #[.int .i64 x.op, .int .i64 x.num, .int .i64 x.den, .int .i64 x.mode, .slice ax x.args.len cx] 31)).alloc (.cells #[.int .i64 0, .int .i64 0, .int .i64 0, .slice none 0 0] 41) := ⟨_, rfl⟩
  have h4 := bx_four W #[.int .i64 rt.part, .int .i64 rt.at_, .int .i64 rt.clause, .slice ra rt.path.length rcap] #[.int .i64 mu.1, .int .i64 mu.2] #[.int .i64 x.op, .int .i64 x.num, .int .i64 x.den, .int .i64 x.mode, .slice ax x.args.len cx] #[.int .i64 0, .int .i64 0, .int .i64 0, .slice none 0 0] 41 57 31 41
  rw [← hW4] at h4
  obtain ⟨hb1, hb2, hb3, hb4, hB4, hs4⟩ := h4
  have hk4 := h.bel hB4
  have hxb4 := hxb.bel hB4 hxb.1
  obtain ⟨q0, q1, q2, q3, q4, q5, q6⟩ := hk4.cells
  have q7 := hk4.c7
  have y0 := hxb4.2.1 0 (by simp)
  have y1 := hxb4.2.1 1 (by simp)
  have lt1 : cb < W4.heap.size := hk4.lt
  have lt2 : xb < W4.heap.size := hxb4.1
  have hW4H := Hid.mk hW4
  have hs4H := Hid.mk hs4
  clear hW4 hs4
  obtain ⟨QQ, hQQ⟩ : ∃ QQ, NxP B xb cb g (.slice ra rt.path.length rcap) (nxF p g rt mu x n) W = QQ := ⟨_, rfl⟩
  rw [hQQ]
  have hQH := Hid.mk hQQ
  clear hQQ
  go_enter Try.func54, Try.ntmps54
  go_wp2_with fail
  rw [← hW4H.out]
  clear hW4H
  go_region
  obtain ⟨Y, hY⟩ : ∃ Y, Y = (W4.alloc (.cells #[.string ⟨p.name.toArray⟩, .int .i64 p.year, .slice a3 p.opts.length c3, .slice a4 p.tabs.length c4, .slice a5 p.grps.length c5, .slice a6 p.lns.length c6, .slice a7 p.cks.length c7, .int .i64 g, .slice (some ⟨s + 29, 0, none⟩) 42 42, .int .i64 0, .slice none 0 0] 55)).drew := ⟨_, rfl⟩
  have hBY : Below W4.heap.size W4 Y := by rw [hY]; exact ((Below.refl _ _).alloc (Nat.le_refl _) _).drew
  have hbl : Bx Y W4.heap.size [.string ⟨p.name.toArray⟩, .int .i64 p.year, .slice a3 p.opts.length c3, .slice a4 p.tabs.length c4, .slice a5 p.grps.length c5, .slice a6 p.lns.length c6, .slice a7 p.cks.length c7, .int .i64 g, .slice (some ⟨s + 29, 0, none⟩) 42 42, .int .i64 0, .slice none 0 0] := by rw [hY]; exact bx_new W4 #[.string ⟨p.name.toArray⟩, .int .i64 p.year, .slice a3 p.opts.length c3, .slice a4 p.tabs.length c4, .slice a5 p.grps.length c5, .slice a6 p.lns.length c6, .slice a7 p.cks.length c7, .int .i64 g, .slice (some ⟨s + 29, 0, none⟩) 42 42, .int .i64 0, .slice none 0 0] 55
  rw [← hY]
  have hBWY := bthr hB4 hBY (Nat.le_refl _)
  have hLk := lks_new (g := g) (s := s) (pke_mo h.pk (fun _ _ _ => trivial)) hBWY hB4.size hbl (h.ops.bel hBWY h.ops.1) (.inl (by have := h.lo; omega))
  have hN := node_any p g a3 a4 a5 a6 a7 c3 c4 c5 c6 c7 W4.heap.size s 8 x ax cx Y 0 [] (.slice none 0 0) hLk (by decide) rfl hz (FoAt.fr hBWY.size (fun b _ hlt => hBWY.block b hlt) _ _ (FoAt.mo (fun b hb _ => Nat.lt_of_lt_of_le hb hB4.size) _ _ hx))
  obtain ⟨m, r, hT⟩ : ∃ m r, tN p g 8 x 0 = (m, r) := ⟨_, _, rfl⟩
  rw [hT] at hN
  simp only at hN
  have hlb : W.heap.size + 1 + 1 + 1 < W4.heap.size := hb4.1
  have hbx3 : Hid (∀ w3 pv3, Fr W4.heap.size Y (.slice none 0 0) w3 pv3 → Bx w3 W.heap.size [.int .i64 rt.part, .int .i64 rt.at_, .int .i64 rt.clause, .slice ra rt.path.length rcap] ∧ Bx w3 (W.heap.size + 1) [.int .i64 mu.1, .int .i64 mu.2] ∧ Bx w3 (W.heap.size + 1 + 1 + 1) [.int .i64 0, .int .i64 0, .int .i64 0, .slice none 0 0] ∧ Bx w3 xb [.pointer (some ⟨cb, 0, none⟩), .int .i64 g, .int .i64 (n : Int)] ∧ Below W.heap.size W w3) := ⟨fun w3 pv3 hF => by
    have f : ∀ b vs, Bx W4 b vs → b < W4.heap.size → Bx w3 b vs := fun b vs hb hl => hF.box (hb.bel hBY hb.1) (by omega) (by intro e; cases e)
    exact ⟨f _ _ hb1 hb1.1, f _ _ hb2 hb2.1, f _ _ hb4 hb4.1, f _ _ hxb4 hxb4.1, hBWY.trans (hF.below hB4.size hBWY.size (fun q hq => by cases hq))⟩⟩
  have e0 := (hb3.bel hBY hb3.1).2.1 0 (by simp)
  have e1 := (hb3.bel hBY hb3.1).2.1 1 (by simp)
  have e2 := (hb3.bel hBY hb3.1).2.1 2 (by simp)
  have e3 := (hb3.bel hBY hb3.1).2.1 3 (by simp)
  have e4 := (hb3.bel hBY hb3.1).2.1 4 (by simp)
  have hnx : nxF p g rt mu x n = (match (m, r) with
    | (_, .error er) => (n, some (⟨rt.part, rt.at_, rt.clause, rt.path ++ er.1⟩, er.2))
    | (m, .ok k) => if k = mu then (n + m, if 60 < n + m then some (rt, 60) else none) else (n, some (rt, 69))) := by unfold nxF; rw [hT]; rfl
  have hEr : Hid (∀ er, r = .error er → 0 < er.2 ∧ er.1.length ≤ 8) := ⟨fun er he => ⟨tN_err p g 8 x 0 m er (by rw [hT, he]), tN_plen p g 8 x 0 m er (by rw [hT, he])⟩⟩
  have hOk : Hid (∀ k, r = .ok k → m ≤ 60) := ⟨fun k he => tN_le p g 8 x 0 m k (by rw [hT, he])⟩
  clear hT hLk hbl hY q0 q1 q2 q3 q4 q5 q6 q7 y0 y1 hb1 hb2 hb3 hb4 hxb4 hk4
  obtain ⟨i0, hi1, hz0, hz1, hz2⟩ := info_parts infoInt
  have hrvn : (Value.slice ra rt.path.length rcap).ownBlock = none ∨ (Value.slice ra rt.path.length rcap).ownBlock ≠ some (W.heap.size + 1 + 1 + 1) := by
    cases hv : (Value.slice ra rt.path.length rcap).ownBlock with
    | none => exact .inl rfl
    | some q => exact .inr (fun e => by have := (hrv.lt q hv).2; injection e with e; omega)
  cases r with
  | error er =>
    obtain ⟨he1, he2⟩ := hEr.out er rfl
    have he' : ((er.2 : Int) != 0) = true := by simp; omega
    simp only at hnx
    have hRH := Hid.mk hnx
    have hN2 : Calls Try.prog 11 #[.pointer (some ⟨W4.heap.size, 0, none⟩), .agg #[.int .i64 x.op, .int .i64 x.num, .int .i64 x.den, .int .i64 x.mode, .slice ax x.args.len cx]] Y (fun e W' => e = .returned (.tuple #[.agg #[.int .i64 0, .int .i64 0], .int .i64 (er.2 : Int)]) ∧ ∃ pv3, LkS p [.string ⟨p.name.toArray⟩, .int .i64 p.year, .slice a3 p.opts.length c3, .slice a4 p.tabs.length c4, .slice a5 p.grps.length c5, .slice a6 p.lns.length c6, .slice a7 p.cks.length c7, .int .i64 g] W4.heap.size s W' m er.1 pv3 ∧ Fr W4.heap.size Y (.slice none 0 0) W' pv3) := hN
    clear hN hEr hOk hnx
    go_wp2_with (first | (go_at_call 11; refine hN2.mono ?_; clear hN2; rintro e w3 ⟨rfl, pv3, hL3, hF3⟩; obtain ⟨k1, k2, hres, kx, hBw3⟩ := hbx3.out w3 pv3 hF3; obtain ⟨pa, pcap, hpv, hpn, hpc⟩ := own_int hL3.own; subst hpv; have r0 := k1.2.1 0 (by simp); have r1 := k1.2.1 1 (by simp); have r2 := k1.2.1 2 (by simp); have r3 := k1.2.1 3 (by simp); have p10 := hL3.c10; have lw1 := k1.1; have lw2 := hL3.lt; have lw3 := hres.1) | (at_builtin; refine toMk ?_))
    have hrw3 := own_bel hrv hBw3
    have hBk : Below w3.heap.size w3 (w3.alloc (.cells #[.int .i64 0, .int .i64 0] 57)) := (Below.refl _ _).alloc (Nat.le_refl _) _
    have ho3 := hL3.own.alloc (.cells #[.int .i64 0, .int .i64 0] 57)
    cases pa with
    | none =>
      have hz0 : er.1.length = 0 := by
        by_cases hp : 0 < er.1.length
        · exact absurd rfl (hpn hp)
        · omega
      have her0 : er.1 = [] := List.eq_nil_of_length_eq_zero hz0
      have hst3 : Fr xb W (.slice ra rt.path.length rcap) w3 (.slice ra rt.path.length rcap) ∧ Bx w3 xb [.pointer (some ⟨cb, 0, none⟩), .int .i64 g, .int .i64 (n : Int)] ∧ w3.ownsRow B 3 1 (.slice ra rt.path.length rcap) rt.path.length (ptC rt.path) := ⟨Fr.bel hBw3 _, kx, hrw3⟩
      have hnb : W.heap.size ≤ (W.heap.size + 1 + 1 + 1) ∧ (W.heap.size + 1 + 1 + 1) ≠ xb ∧ ((Value.slice ra rt.path.length rcap).ownBlock = none ∨ (Value.slice ra rt.path.length rcap).ownBlock ≠ some (W.heap.size + 1 + 1 + 1)) := ⟨by omega, by omega, hrvn⟩
      have sr3 := set_id r3
      have z3r := k1.2.2 3
      have hq0 := hres
      have hbX0 := hst3
      have kg0 : w3.cell? ⟨(W.heap.size + 1 + 1 + 1), 0, none⟩ = some (.int .i64 0) := hq0.2.1 0 (by simp)
      have kh0 := hq0.2.2 0
      have kl0 := hq0.1
      obtain ⟨X1, hx0⟩ : ∃ X1, w3.setCell ⟨(W.heap.size + 1 + 1 + 1), 0, none⟩ (.int .i64 rt.part) = X1 := ⟨_, rfl⟩
      have hq1 : Bx X1 (W.heap.size + 1 + 1 + 1) [(.int .i64 rt.part), (.int .i64 0), (.int .i64 0), (.slice none 0 0)] := (by rw [← hx0]; exact hq0.set 0 (.int .i64 rt.part))
      have hbX1 := fr_set3 (hx := hx0) hbX0 hnb
      have kg1 : X1.cell? ⟨(W.heap.size + 1 + 1 + 1), 1, none⟩ = some (.int .i64 0) := hq1.2.1 1 (by simp)
      have kh1 := hq1.2.2 1
      have kl1 := hq1.1
      obtain ⟨X2, hx1⟩ : ∃ X2, X1.setCell ⟨(W.heap.size + 1 + 1 + 1), 1, none⟩ (.int .i64 rt.at_) = X2 := ⟨_, rfl⟩
      have hq2 : Bx X2 (W.heap.size + 1 + 1 + 1) [(.int .i64 rt.part), (.int .i64 rt.at_), (.int .i64 0), (.slice none 0 0)] := (by rw [← hx1]; exact hq1.set 1 (.int .i64 rt.at_))
      have hbX2 := fr_set3 (hx := hx1) hbX1 hnb
      have kg2 : X2.cell? ⟨(W.heap.size + 1 + 1 + 1), 2, none⟩ = some (.int .i64 0) := hq2.2.1 2 (by simp)
      have kh2 := hq2.2.2 2
      have kl2 := hq2.1
      obtain ⟨X3, hx2⟩ : ∃ X3, X2.setCell ⟨(W.heap.size + 1 + 1 + 1), 2, none⟩ (.int .i64 rt.clause) = X3 := ⟨_, rfl⟩
      have hq3 : Bx X3 (W.heap.size + 1 + 1 + 1) [(.int .i64 rt.part), (.int .i64 rt.at_), (.int .i64 rt.clause), (.slice none 0 0)] := (by rw [← hx2]; exact hq2.set 2 (.int .i64 rt.clause))
      have hbX3 := fr_set3 (hx := hx2) hbX2 hnb
      have kg3 : X3.cell? ⟨(W.heap.size + 1 + 1 + 1), 3, none⟩ = some (.slice none 0 0) := hq3.2.1 3 (by simp)
      have kh3 := hq3.2.2 3
      have kl3 := hq3.1
      obtain ⟨X4, hx3⟩ : ∃ X4, X3.setCell ⟨(W.heap.size + 1 + 1 + 1), 3, none⟩ (.slice ra rt.path.length rcap) = X4 := ⟨_, rfl⟩
      have hq4 : Bx X4 (W.heap.size + 1 + 1 + 1) [(.int .i64 rt.part), (.int .i64 rt.at_), (.int .i64 rt.clause), (.slice ra rt.path.length rcap)] := (by rw [← hx3]; exact hq3.set 3 (.slice ra rt.path.length rcap))
      have hbX4 := fr_set3 (hx := hx3) hbX3 hnb
      have hB5 : Below X4.heap.size X4 (X4.alloc (.cells #[.int .i64 0, .int .i64 0] 57)) := ((Below.refl _ _).alloc (Nat.le_refl _) _)
      have hff : QQ (.returned (.tuple #[.agg #[.int .i64 rt.part, .int .i64 rt.at_, .int .i64 rt.clause, .slice ra rt.path.length rcap], .int .i64 (er.2 : Int)])) (X4.alloc (.cells #[.int .i64 0, .int .i64 0] 57)) := by
        rw [← hQH.out, hRH.out, her0, List.append_nil]
        exact ⟨_, hbX4.1.trans (Fr.bel hB5 _), hbX4.2.1.bel hB5 hbX4.2.1.1, rfl, own_bel hbX4.2.2 hB5⟩
      have hq5 := hq4.bel hB5 hq4.1
      have f0 := hq5.2.1 0 (by simp)
      have f1 := hq5.2.1 1 (by simp)
      have f2 := hq5.2.1 2 (by simp)
      have f3 := hq5.2.1 3 (by simp)
      have l4 := hq4.1
      clear hq0 hq1 hq2 hq3 hq4 hbX0 hbX1 hbX2 hbX3 hq5 hbX4 hB5
      have hpe : (Value.slice none er.1.length pcap) = .slice none 0 0 := by
        have := hL3.own
        obtain ⟨_, ⟨e, _⟩ | ⟨g3, c3, cu3, e, _⟩⟩ := this
        · exact e
        · cases e
      rw [hpe]
      unfold Mk
      refine wpList_append_own_none rfl _ _ 33 rfl B 3 i0 1 Try.underlying33 hi1 _ _ _ rfl (hrw3.alloc (.cells #[.int .i64 0, .int .i64 0] 57)) rfl ?_
      go_wp2
      exact bodyPost_ret (v := .tuple #[.agg #[.int .i64 rt.part, .int .i64 rt.at_, .int .i64 rt.clause, .slice ra rt.path.length rcap], .int .i64 (er.2 : Int)]) (by simp [results, Try.results54, go_sem, f0, f1, f2, f3]) rfl hff
    | some pad =>
      obtain ⟨g3, hpad⟩ : ∃ g3, pad = ⟨g3, 0, none⟩ := by
        obtain ⟨_, ⟨e, _⟩ | ⟨g3, c3, cu3, e, _⟩⟩ := hL3.own
        · cases e
        · injection e with e; injection e with e; exact ⟨g3, e⟩
      subst hpad
      have hnews : ∀ j u, (ptC er.1)[j]? = some u → (w3.alloc (.cells #[.int .i64 0, .int .i64 0] 57)).cell? ((⟨g3, 0, none⟩ : Addr).add j) = some u := ho3.cells rfl
      have hpl : (ptC er.1).length = er.1.length * 1 := by unfold ptC; rw [List.length_map, Nat.mul_one]
      have hbB : B ≤ (w3.alloc (.cells #[.int .i64 0, .int .i64 0] 57)).heap.size := Nat.le_trans hB (Nat.le_trans hBw3.size (by simp))
      unfold Mk
      refine wpList_append_own_at _ rfl _ _ 33 rfl B 3 i0 (.int .i64 0) 1 8 Try.underlying33 hi1 hz0 hz1 hz2 rfl (by decide) _ _ _ rfl (hrw3.alloc (.cells #[.int .i64 0, .int .i64 0] 57)) ⟨g3, 0, none⟩ er.1.length pcap (ptC er.1) rfl hpl hnews (by intro u hu; unfold ptC at hu; obtain ⟨q, -, rfl⟩ := List.mem_map.1 hu; rfl) (by unfold maxLen; omega) (by omega) hbB ?_
      intro v5 w5 hown5 hgrow5a _ hat5a
      have hgrow5 : (w3.alloc (.cells #[.int .i64 0, .int .i64 0] 57)).grownBy w5 (Value.slice ra rt.path.length rcap).ownBlock := hgrow5a
      have hat5 : v5.ownBlock = (Value.slice ra rt.path.length rcap).ownBlock ∨ v5.ownBlock = some (w3.alloc (.cells #[.int .i64 0, .int .i64 0] 57)).heap.size := hat5a
      clear hgrow5a hat5a
      rw [show ptC rt.path ++ ptC er.1 = ptC (rt.path ++ er.1) by unfold ptC; rw [List.map_append]] at hown5
      obtain ⟨p5, cap5, rfl, -, -⟩ := own_int hown5
      have k1k := k1.bel hBk k1.1
      have kxk := kx.bel hBk kx.1
      have hresk := hres.bel hBk hres.1
      have hnr1 : some W.heap.size ≠ (Value.slice ra rt.path.length rcap).ownBlock := fun e => by
        have := (hrv.lt _ e.symm).2
        omega
      have hnr2 : some xb ≠ (Value.slice ra rt.path.length rcap).ownBlock := fun e => by
        have := (hrv.lt _ e.symm).1
        omega
      have hnr3 : some (W.heap.size + 1 + 1 + 1) ≠ (Value.slice ra rt.path.length rcap).ownBlock := fun e => by
        have := (hrv.lt _ e.symm).2
        omega
      have k15 := k1k.kept hgrow5 hnr1
      have kx5 := kxk.kept hgrow5 hnr2
      have hres5 := hresk.kept hgrow5 hnr3
      have hsk : (w3.alloc (.cells #[.int .i64 0, .int .i64 0] 57)).heap.size = w3.heap.size + 1 := by simp
      have hv5 : ∀ b, W.heap.size ≤ b → b < w3.heap.size → ((Value.slice p5 (rt.path.length + er.1.length) cap5).ownBlock = none ∨ (Value.slice p5 (rt.path.length + er.1.length) cap5).ownBlock ≠ some b) := fun b hb1 hb2 => by
        rcases hat5 with e | e
        · rw [e]
          cases hv : (Value.slice ra rt.path.length rcap).ownBlock with
          | none => exact .inl rfl
          | some q => exact .inr (fun e => by have := (hrv.lt q hv).2; injection e with e; omega)
        · rw [e]
          right
          intro e2
          injection e2 with e2
          omega
      have hst5 : Fr xb W (.slice ra rt.path.length rcap) w5 (.slice p5 (rt.path.length + er.1.length) cap5) ∧ Bx w5 xb [.pointer (some ⟨cb, 0, none⟩), .int .i64 g, .int .i64 (n : Int)] ∧ w5.ownsRow B 3 1 (.slice p5 (rt.path.length + er.1.length) cap5) (rt.path.length + er.1.length) (ptC (rt.path ++ er.1)) := ⟨((Fr.bel hBw3 _).trans (Fr.bel hBk _)).trans (Fr.grow hgrow5 hat5), kx5, hown5⟩
      have r5 := k15.2.1 3 (by simp)
      have z5 := k15.2.2 3
      have l5 := k15.1
      obtain ⟨w6, hw6⟩ : ∃ w6, w5.setCell ⟨W.heap.size, 3, none⟩ (.slice p5 (rt.path.length + er.1.length) cap5) = w6 := ⟨_, rfl⟩
      have hst6 := fr_set3 (hx := hw6) hst5 ⟨Nat.le_refl _, by omega, hv5 _ (Nat.le_refl _) lw1⟩
      have k16 : Bx w6 W.heap.size [.int .i64 rt.part, .int .i64 rt.at_, .int .i64 rt.clause, .slice p5 (rt.path.length + er.1.length) cap5] := by rw [← hw6]; exact k15.set 3 _
      have hres6 : Bx w6 (W.heap.size + 1 + 1 + 1) [.int .i64 0, .int .i64 0, .int .i64 0, .slice none 0 0] := by rw [← hw6]; exact hres5.kept (gr_set _ _ _ _) (by intro e; injection e with e; omega)
      have s0 := k16.2.1 0 (by simp)
      have s1 := k16.2.1 1 (by simp)
      have s2 := k16.2.1 2 (by simp)
      have s3 := k16.2.1 3 (by simp)
      have hnb : W.heap.size ≤ (W.heap.size + 1 + 1 + 1) ∧ (W.heap.size + 1 + 1 + 1) ≠ xb ∧ ((Value.slice p5 (rt.path.length + er.1.length) cap5).ownBlock = none ∨ (Value.slice p5 (rt.path.length + er.1.length) cap5).ownBlock ≠ some (W.heap.size + 1 + 1 + 1)) := ⟨by omega, by omega, hv5 _ (by omega) lw3⟩
      have hq0 := hres6
      have hbX0 := hst6
      have kg0 : w6.cell? ⟨(W.heap.size + 1 + 1 + 1), 0, none⟩ = some (.int .i64 0) := hq0.2.1 0 (by simp)
      have kh0 := hq0.2.2 0
      have kl0 := hq0.1
      obtain ⟨X1, hx0⟩ : ∃ X1, w6.setCell ⟨(W.heap.size + 1 + 1 + 1), 0, none⟩ (.int .i64 rt.part) = X1 := ⟨_, rfl⟩
      have hq1 : Bx X1 (W.heap.size + 1 + 1 + 1) [(.int .i64 rt.part), (.int .i64 0), (.int .i64 0), (.slice none 0 0)] := (by rw [← hx0]; exact hq0.set 0 (.int .i64 rt.part))
      have hbX1 := fr_set3 (hx := hx0) hbX0 hnb
      have kg1 : X1.cell? ⟨(W.heap.size + 1 + 1 + 1), 1, none⟩ = some (.int .i64 0) := hq1.2.1 1 (by simp)
      have kh1 := hq1.2.2 1
      have kl1 := hq1.1
      obtain ⟨X2, hx1⟩ : ∃ X2, X1.setCell ⟨(W.heap.size + 1 + 1 + 1), 1, none⟩ (.int .i64 rt.at_) = X2 := ⟨_, rfl⟩
      have hq2 : Bx X2 (W.heap.size + 1 + 1 + 1) [(.int .i64 rt.part), (.int .i64 rt.at_), (.int .i64 0), (.slice none 0 0)] := (by rw [← hx1]; exact hq1.set 1 (.int .i64 rt.at_))
      have hbX2 := fr_set3 (hx := hx1) hbX1 hnb
      have kg2 : X2.cell? ⟨(W.heap.size + 1 + 1 + 1), 2, none⟩ = some (.int .i64 0) := hq2.2.1 2 (by simp)
      have kh2 := hq2.2.2 2
      have kl2 := hq2.1
      obtain ⟨X3, hx2⟩ : ∃ X3, X2.setCell ⟨(W.heap.size + 1 + 1 + 1), 2, none⟩ (.int .i64 rt.clause) = X3 := ⟨_, rfl⟩
      have hq3 : Bx X3 (W.heap.size + 1 + 1 + 1) [(.int .i64 rt.part), (.int .i64 rt.at_), (.int .i64 rt.clause), (.slice none 0 0)] := (by rw [← hx2]; exact hq2.set 2 (.int .i64 rt.clause))
      have hbX3 := fr_set3 (hx := hx2) hbX2 hnb
      have kg3 : X3.cell? ⟨(W.heap.size + 1 + 1 + 1), 3, none⟩ = some (.slice none 0 0) := hq3.2.1 3 (by simp)
      have kh3 := hq3.2.2 3
      have kl3 := hq3.1
      obtain ⟨X4, hx3⟩ : ∃ X4, X3.setCell ⟨(W.heap.size + 1 + 1 + 1), 3, none⟩ (.slice p5 (rt.path.length + er.1.length) cap5) = X4 := ⟨_, rfl⟩
      have hq4 : Bx X4 (W.heap.size + 1 + 1 + 1) [(.int .i64 rt.part), (.int .i64 rt.at_), (.int .i64 rt.clause), (.slice p5 (rt.path.length + er.1.length) cap5)] := (by rw [← hx3]; exact hq3.set 3 (.slice p5 (rt.path.length + er.1.length) cap5))
      have hbX4 := fr_set3 (hx := hx3) hbX3 hnb
      have hff : QQ (.returned (.tuple #[.agg #[.int .i64 rt.part, .int .i64 rt.at_, .int .i64 rt.clause, .slice p5 (rt.path.length + er.1.length) cap5], .int .i64 (er.2 : Int)])) X4 := by
        rw [← hQH.out, hRH.out]
        exact ⟨_, hbX4.1, hbX4.2.1, rfl, by rw [List.length_append]; exact hbX4.2.2⟩
      have f0 := hq4.2.1 0 (by simp)
      have f1 := hq4.2.1 1 (by simp)
      have f2 := hq4.2.1 2 (by simp)
      have f3 := hq4.2.1 3 (by simp)
      clear hq0 hq1 hq2 hq3 hq4 hbX0 hbX1 hbX2 hbX3 hbX4
      go_wp2
      exact bodyPost_ret (v := .tuple #[.agg #[.int .i64 rt.part, .int .i64 rt.at_, .int .i64 rt.clause, .slice p5 (rt.path.length + er.1.length) cap5], .int .i64 (er.2 : Int)]) (by simp [results, Try.results54, go_sem, f0, f1, f2, f3]) rfl hff
  | ok k =>
    have hm := hOk.out k rfl
    simp only at hnx
    have hN2 : Calls Try.prog 11 #[.pointer (some ⟨W4.heap.size, 0, none⟩), .agg #[.int .i64 x.op, .int .i64 x.num, .int .i64 x.den, .int .i64 x.mode, .slice ax x.args.len cx]] Y (fun e W' => e = .returned (.tuple #[.agg #[.int .i64 k.1, .int .i64 k.2], .int .i64 0]) ∧ ∃ pv3, LkS p [.string ⟨p.name.toArray⟩, .int .i64 p.year, .slice a3 p.opts.length c3, .slice a4 p.tabs.length c4, .slice a5 p.grps.length c5, .slice a6 p.lns.length c6, .slice a7 p.cks.length c7, .int .i64 g] W4.heap.size s W' m [] pv3 ∧ Fr W4.heap.size Y (.slice none 0 0) W' pv3) := hN
    have hqe := eq_kind k.1 k.2 mu.1 mu.2
    have hqg := eq_guard
    clear hN hEr hOk
    by_cases hv : k = mu
    rotate_left
    · rw [if_neg hv] at hnx
      have hRH := Hid.mk hnx
      rw [decide_eq_false (fun hh => hv (by rcases k with ⟨k1, k2⟩; rcases mu with ⟨m1, m2⟩; simp only at hh; rw [hh.1, hh.2]))] at hqe
      clear hnx hv
      go_wp2_with (go_at_call 11; refine hN2.mono ?_; clear hN2; rintro e w3 ⟨rfl, pv3, hL3, hF3⟩; obtain ⟨k1, k2, hres, kx, hBw3⟩ := hbx3.out w3 pv3 hF3; have m0 := k2.2.1 0 (by simp); have m1 := k2.2.1 1 (by simp); have r0 := k1.2.1 0 (by simp); have r1 := k1.2.1 1 (by simp); have r2 := k1.2.1 2 (by simp); have r3 := k1.2.1 3 (by simp); have lw1 := k1.1; have lw2 := k2.1; have hst3 : Fr xb W (.slice ra rt.path.length rcap) w3 (.slice ra rt.path.length rcap) ∧ Bx w3 xb [.pointer (some ⟨cb, 0, none⟩), .int .i64 g, .int .i64 (n : Int)] ∧ w3.ownsRow B 3 1 (.slice ra rt.path.length rcap) rt.path.length (ptC rt.path) := ⟨Fr.bel hBw3 _, kx, own_bel hrv hBw3⟩; have hnb : W.heap.size ≤ (W.heap.size + 1 + 1 + 1) ∧ (W.heap.size + 1 + 1 + 1) ≠ xb ∧ ((Value.slice ra rt.path.length rcap).ownBlock = none ∨ (Value.slice ra rt.path.length rcap).ownBlock ≠ some (W.heap.size + 1 + 1 + 1)) := ⟨by omega, by omega, hrvn⟩; have hq0 := hres; have hbX0 := hst3; have kg0 : w3.cell? ⟨(W.heap.size + 1 + 1 + 1), 0, none⟩ = some (.int .i64 0) := hq0.2.1 0 (by simp); have kh0 := hq0.2.2 0; have kl0 := hq0.1; obtain ⟨X1, hx0⟩ : ∃ X1, w3.setCell ⟨(W.heap.size + 1 + 1 + 1), 0, none⟩ (.int .i64 rt.part) = X1 := ⟨_, rfl⟩; have hq1 : Bx X1 (W.heap.size + 1 + 1 + 1) [(.int .i64 rt.part), (.int .i64 0), (.int .i64 0), (.slice none 0 0)] := (by rw [← hx0]; exact hq0.set 0 (.int .i64 rt.part)); have hbX1 := fr_set3 (hx := hx0) hbX0 hnb; have kg1 : X1.cell? ⟨(W.heap.size + 1 + 1 + 1), 1, none⟩ = some (.int .i64 0) := hq1.2.1 1 (by simp); have kh1 := hq1.2.2 1; have kl1 := hq1.1; obtain ⟨X2, hx1⟩ : ∃ X2, X1.setCell ⟨(W.heap.size + 1 + 1 + 1), 1, none⟩ (.int .i64 rt.at_) = X2 := ⟨_, rfl⟩; have hq2 : Bx X2 (W.heap.size + 1 + 1 + 1) [(.int .i64 rt.part), (.int .i64 rt.at_), (.int .i64 0), (.slice none 0 0)] := (by rw [← hx1]; exact hq1.set 1 (.int .i64 rt.at_)); have hbX2 := fr_set3 (hx := hx1) hbX1 hnb; have kg2 : X2.cell? ⟨(W.heap.size + 1 + 1 + 1), 2, none⟩ = some (.int .i64 0) := hq2.2.1 2 (by simp); have kh2 := hq2.2.2 2; have kl2 := hq2.1; obtain ⟨X3, hx2⟩ : ∃ X3, X2.setCell ⟨(W.heap.size + 1 + 1 + 1), 2, none⟩ (.int .i64 rt.clause) = X3 := ⟨_, rfl⟩; have hq3 : Bx X3 (W.heap.size + 1 + 1 + 1) [(.int .i64 rt.part), (.int .i64 rt.at_), (.int .i64 rt.clause), (.slice none 0 0)] := (by rw [← hx2]; exact hq2.set 2 (.int .i64 rt.clause)); have hbX3 := fr_set3 (hx := hx2) hbX2 hnb; have kg3 : X3.cell? ⟨(W.heap.size + 1 + 1 + 1), 3, none⟩ = some (.slice none 0 0) := hq3.2.1 3 (by simp); have kh3 := hq3.2.2 3; have kl3 := hq3.1; obtain ⟨X4, hx3⟩ : ∃ X4, X3.setCell ⟨(W.heap.size + 1 + 1 + 1), 3, none⟩ (.slice ra rt.path.length rcap) = X4 := ⟨_, rfl⟩; have hq4 : Bx X4 (W.heap.size + 1 + 1 + 1) [(.int .i64 rt.part), (.int .i64 rt.at_), (.int .i64 rt.clause), (.slice ra rt.path.length rcap)] := (by rw [← hx3]; exact hq3.set 3 (.slice ra rt.path.length rcap)); have hbX4 := fr_set3 (hx := hx3) hbX3 hnb; have hB5 : Below X4.heap.size X4 (X4.alloc (.cells #[.int .i64 k.1, .int .i64 k.2] 57)) := ((Below.refl _ _).alloc (Nat.le_refl _) _); have hff : QQ (.returned (.tuple #[.agg #[.int .i64 rt.part, .int .i64 rt.at_, .int .i64 rt.clause, .slice ra rt.path.length rcap], .int .i64 69])) (X4.alloc (.cells #[.int .i64 k.1, .int .i64 k.2] 57)) := (by rw [← hQH.out, hRH.out]; exact ⟨_, hbX4.1.trans (Fr.bel hB5 _), hbX4.2.1.bel hB5 hbX4.2.1.1, rfl, own_bel hbX4.2.2 hB5⟩); have hq5 := hq4.bel hB5 hq4.1; have f0 := hq5.2.1 0 (by simp); have f1 := hq5.2.1 1 (by simp); have f2 := hq5.2.1 2 (by simp); have f3 := hq5.2.1 3 (by simp); have l4 := hq4.1; clear hq0 hq1 hq2 hq3 hq4 hbX0 hbX1 hbX2 hbX3 hq5 hbX4 hB5)
      exact bodyPost_ret (v := .tuple #[.agg #[.int .i64 rt.part, .int .i64 rt.at_, .int .i64 rt.clause, .slice ra rt.path.length rcap], .int .i64 69]) (by simp [results, Try.results54, go_sem, f0, f1, f2, f3]) rfl hff
    · rw [if_pos hv] at hnx
      have hRH := Hid.mk hnx
      rw [decide_eq_true (by rw [hv]; exact ⟨rfl, rfl⟩)] at hqe
      clear hnx hv
      have hnm' : (n : Int) + (m : Int) ≤ 120 := by omega
      go_wp2_with (go_at_call 11; refine hN2.mono ?_; clear hN2; rintro e w3 ⟨rfl, pv3, hL3, hF3⟩; obtain ⟨k1, k2, hres, kx, hBw3⟩ := hbx3.out w3 pv3 hF3; have m0 := k2.2.1 0 (by simp); have m1 := k2.2.1 1 (by simp); have lw1 := k1.1; have lw2 := k2.1; have lw3 := hres.1; have x2 := kx.2.1 2 (by simp); have xz := kx.2.2 2; have c9 := hL3.c9; have lx := kx.1; have ll := hL3.lt)
      go_region
      obtain ⟨V3, hV3⟩ : ∃ V3, V3 = w3.setCell ⟨xb, 2, none⟩ (.int .i64 ((n : Int) + (m : Int))) := ⟨_, rfl⟩
      rw [← hV3]
      have hgs : w3.grownBy V3 (some xb) := by rw [hV3]; exact gr_set _ _ _ _
      have v1 := k1.kept hgs (by intro e; injection e with e; omega)
      have hres3 := hres.kept hgs (by intro e; injection e with e; omega)
      have hvx : Bx V3 xb [.pointer (some ⟨cb, 0, none⟩), .int .i64 g, .int .i64 ((n + m : Nat) : Int)] := by
        rw [hV3, show ((n + m : Nat) : Int) = (n : Int) + (m : Int) by omega]
        exact kx.set 2 _
      have hst3 : Fr xb W (.slice ra rt.path.length rcap) V3 (.slice ra rt.path.length rcap) ∧ Bx V3 xb [.pointer (some ⟨cb, 0, none⟩), .int .i64 g, .int .i64 ((n + m : Nat) : Int)] ∧ V3.ownsRow B 3 1 (.slice ra rt.path.length rcap) rt.path.length (ptC rt.path) := ⟨(Fr.bel hBw3 _).trans (by rw [hV3]; exact Fr.set _ _ _ _ _ rfl), hvx, (own_bel hrv hBw3).kept hgs (by cases hv : (Value.slice ra rt.path.length rcap).ownBlock with
        | none => exact .inl rfl
        | some q => exact .inr (fun e => by have := (hrv.lt q hv).1; injection e with e; omega))⟩
      have vx2 := hvx.2.1 2 (by simp)
      rw [show (Value.int .i64 ((n + m : Nat) : Int)) = Value.int .i64 ((n : Int) + (m : Int)) by congr 1] at vx2
      have lx3 := hvx.1
      have r0 := v1.2.1 0 (by simp)
      have r1 := v1.2.1 1 (by simp)
      have r2 := v1.2.1 2 (by simp)
      have r3 := v1.2.1 3 (by simp)
      have lv1 := v1.1
      have hnb : W.heap.size ≤ (W.heap.size + 1 + 1 + 1) ∧ (W.heap.size + 1 + 1 + 1) ≠ xb ∧ ((Value.slice ra rt.path.length rcap).ownBlock = none ∨ (Value.slice ra rt.path.length rcap).ownBlock ≠ some (W.heap.size + 1 + 1 + 1)) := ⟨by omega, by omega, hrvn⟩
      clear hV3 hgs k1 k2 hres kx x2 xz c9 m0 m1 hvx v1
      by_cases hbig : 60 < n + m
      · have hbig' : (60 : Int) < (n : Int) + (m : Int) := by omega
        have hq0 := hres3
        have hbX0 := hst3
        have kg0 : V3.cell? ⟨(W.heap.size + 1 + 1 + 1), 0, none⟩ = some (.int .i64 0) := hq0.2.1 0 (by simp)
        have kh0 := hq0.2.2 0
        have kl0 := hq0.1
        obtain ⟨X1, hx0⟩ : ∃ X1, V3.setCell ⟨(W.heap.size + 1 + 1 + 1), 0, none⟩ (.int .i64 rt.part) = X1 := ⟨_, rfl⟩
        have hq1 : Bx X1 (W.heap.size + 1 + 1 + 1) [(.int .i64 rt.part), (.int .i64 0), (.int .i64 0), (.slice none 0 0)] := (by rw [← hx0]; exact hq0.set 0 (.int .i64 rt.part))
        have hbX1 := fr_set3 (hx := hx0) hbX0 hnb
        have kg1 : X1.cell? ⟨(W.heap.size + 1 + 1 + 1), 1, none⟩ = some (.int .i64 0) := hq1.2.1 1 (by simp)
        have kh1 := hq1.2.2 1
        have kl1 := hq1.1
        obtain ⟨X2, hx1⟩ : ∃ X2, X1.setCell ⟨(W.heap.size + 1 + 1 + 1), 1, none⟩ (.int .i64 rt.at_) = X2 := ⟨_, rfl⟩
        have hq2 : Bx X2 (W.heap.size + 1 + 1 + 1) [(.int .i64 rt.part), (.int .i64 rt.at_), (.int .i64 0), (.slice none 0 0)] := (by rw [← hx1]; exact hq1.set 1 (.int .i64 rt.at_))
        have hbX2 := fr_set3 (hx := hx1) hbX1 hnb
        have kg2 : X2.cell? ⟨(W.heap.size + 1 + 1 + 1), 2, none⟩ = some (.int .i64 0) := hq2.2.1 2 (by simp)
        have kh2 := hq2.2.2 2
        have kl2 := hq2.1
        obtain ⟨X3, hx2⟩ : ∃ X3, X2.setCell ⟨(W.heap.size + 1 + 1 + 1), 2, none⟩ (.int .i64 rt.clause) = X3 := ⟨_, rfl⟩
        have hq3 : Bx X3 (W.heap.size + 1 + 1 + 1) [(.int .i64 rt.part), (.int .i64 rt.at_), (.int .i64 rt.clause), (.slice none 0 0)] := (by rw [← hx2]; exact hq2.set 2 (.int .i64 rt.clause))
        have hbX3 := fr_set3 (hx := hx2) hbX2 hnb
        have kg3 : X3.cell? ⟨(W.heap.size + 1 + 1 + 1), 3, none⟩ = some (.slice none 0 0) := hq3.2.1 3 (by simp)
        have kh3 := hq3.2.2 3
        have kl3 := hq3.1
        obtain ⟨X4, hx3⟩ : ∃ X4, X3.setCell ⟨(W.heap.size + 1 + 1 + 1), 3, none⟩ (.slice ra rt.path.length rcap) = X4 := ⟨_, rfl⟩
        have hq4 : Bx X4 (W.heap.size + 1 + 1 + 1) [(.int .i64 rt.part), (.int .i64 rt.at_), (.int .i64 rt.clause), (.slice ra rt.path.length rcap)] := (by rw [← hx3]; exact hq3.set 3 (.slice ra rt.path.length rcap))
        have hbX4 := fr_set3 (hx := hx3) hbX3 hnb
        have hB5 : Below X4.heap.size X4 (X4.alloc (.cells #[.int .i64 k.1, .int .i64 k.2] 57)).drew := ((Below.refl _ _).alloc (Nat.le_refl _) _).drew
        have hff : QQ (.returned (.tuple #[.agg #[.int .i64 rt.part, .int .i64 rt.at_, .int .i64 rt.clause, .slice ra rt.path.length rcap], .int .i64 60])) (X4.alloc (.cells #[.int .i64 k.1, .int .i64 k.2] 57)).drew := by
          rw [← hQH.out, hRH.out, if_pos hbig]
          exact ⟨_, hbX4.1.trans (Fr.bel hB5 _), hbX4.2.1.bel hB5 hbX4.2.1.1, rfl, own_bel hbX4.2.2 hB5⟩
        have hq5 := hq4.bel hB5 hq4.1
        have f0 := hq5.2.1 0 (by simp)
        have f1 := hq5.2.1 1 (by simp)
        have f2 := hq5.2.1 2 (by simp)
        have f3 := hq5.2.1 3 (by simp)
        have l4 := hq4.1
        clear hq0 hq1 hq2 hq3 hq4 hbX0 hbX1 hbX2 hbX3 hq5 hbX4 hB5
        go_wp2
        exact bodyPost_ret (v := .tuple #[.agg #[.int .i64 rt.part, .int .i64 rt.at_, .int .i64 rt.clause, .slice ra rt.path.length rcap], .int .i64 60]) (by simp [results, Try.results54, go_sem, f0, f1, f2, f3]) rfl hff
      · have hbig' : ¬ (60 : Int) < (n : Int) + (m : Int) := by omega
        have hB5 : Below V3.heap.size V3 (V3.alloc (.cells #[.int .i64 k.1, .int .i64 k.2] 57)).drew := ((Below.refl _ _).alloc (Nat.le_refl _) _).drew
        have hff : QQ (.returned (.tuple #[.agg #[.int .i64 0, .int .i64 0, .int .i64 0, .slice none 0 0], .int .i64 0])) (V3.alloc (.cells #[.int .i64 k.1, .int .i64 k.2] 57)).drew := by
          rw [← hQH.out, hRH.out, if_neg hbig]
          exact ⟨_, hst3.1.trans (Fr.bel hB5 _), hst3.2.1.bel hB5 hst3.2.1.1, rfl⟩
        have f0 := hres3.2.1 0 (by simp)
        have f1 := hres3.2.1 1 (by simp)
        have f2 := hres3.2.1 2 (by simp)
        have f3 := hres3.2.1 3 (by simp)
        have z0 := hres3.2.2 0
        have z1 := hres3.2.2 1
        have z2 := hres3.2.2 2
        have z3 := hres3.2.2 3
        have j0 := set_id f0
        have j1 := set_id f1
        have j2 := set_id f2
        have j3 := set_id f3
        have hq5 := hres3.bel hB5 hres3.1
        have u0 := hq5.2.1 0 (by simp)
        have u1 := hq5.2.1 1 (by simp)
        have u2 := hq5.2.1 2 (by simp)
        have u3 := hq5.2.1 3 (by simp)
        have l4 := hres3.1
        clear hst3 hres3 hq5 hB5
        go_wp2
        exact bodyPost_ret (v := .tuple #[.agg #[.int .i64 0, .int .i64 0, .int .i64 0, .slice none 0 0], .int .i64 0]) (by simp [results, Try.results54, go_sem, f0, f1, f2, f3, l4]) rfl hff
end Go.Proofs.Yteiplejamciddaa

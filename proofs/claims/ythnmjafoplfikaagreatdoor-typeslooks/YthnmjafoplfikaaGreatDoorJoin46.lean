import Derived.Test.YthnmjafoplfikaaGreatDoorJoin43
import Derived.Test.YthnmjafoplfikaaGreatDoorJoin45
import Derived.Laws.AppendOwnNone
namespace Go.Proofs.YthnmjafoplfikaaGreatDoor
open Go.RowKit

/-- Four blocks more. -/
theorem bx_four (W : World) (a b c d : Array Value) (ta tb tc td : TypeId) : Bx ((((W.alloc (.cells a ta)).alloc (.cells b tb)).alloc (.cells c tc)).alloc (.cells d td)) W.heap.size a.toList ∧ Bx ((((W.alloc (.cells a ta)).alloc (.cells b tb)).alloc (.cells c tc)).alloc (.cells d td)) (W.heap.size + 1) b.toList ∧ Bx ((((W.alloc (.cells a ta)).alloc (.cells b tb)).alloc (.cells c tc)).alloc (.cells d td)) (W.heap.size + 1 + 1) c.toList ∧ Bx ((((W.alloc (.cells a ta)).alloc (.cells b tb)).alloc (.cells c tc)).alloc (.cells d td)) (W.heap.size + 1 + 1 + 1) d.toList ∧ Below W.heap.size W ((((W.alloc (.cells a ta)).alloc (.cells b tb)).alloc (.cells c tc)).alloc (.cells d td)) ∧ ((((W.alloc (.cells a ta)).alloc (.cells b tb)).alloc (.cells c tc)).alloc (.cells d td)).heap.size = W.heap.size + 1 + 1 + 1 + 1 := by
  have k : ∀ (X : World) (o : Obj) (b : Nat) (vs : List Value), Bx X b vs → Bx (X.alloc o) b vs := fun X o b vs h => h.kept (World.grownBy_alloc X o none) (by simp)
  have s1 : (W.alloc (.cells a ta)).heap.size = W.heap.size + 1 := by simp
  have s2 : ((W.alloc (.cells a ta)).alloc (.cells b tb)).heap.size = W.heap.size + 1 + 1 := by simp
  have s3 : (((W.alloc (.cells a ta)).alloc (.cells b tb)).alloc (.cells c tc)).heap.size = W.heap.size + 1 + 1 + 1 := by simp
  have h1 := bx_new W a ta
  have h2 := bx_new (W.alloc (.cells a ta)) b tb
  have h3 := bx_new ((W.alloc (.cells a ta)).alloc (.cells b tb)) c tc
  have h4 := bx_new (((W.alloc (.cells a ta)).alloc (.cells b tb)).alloc (.cells c tc)) d td
  rw [s1] at h2
  rw [s2] at h3
  rw [s3] at h4
  exact ⟨k _ _ _ _ (k _ _ _ _ (k _ _ _ _ h1)), k _ _ _ _ (k _ _ _ _ h2), k _ _ _ _ h3, h4, ((((Below.refl _ _).alloc (Nat.le_refl _) _).alloc (by simp) _).alloc (by simp; omega) _).alloc (by simp; omega) _, by simp⟩
theorem tFold_plen {f : Ex → Nat → Nat × Except Ft Kd} {d : Nat} (hf : ∀ x n m e, f x n = (m, .error e) → e.1.length ≤ d) : ∀ (l : List Ex) (i n : Nat) (acc : List Kd) (m : Nat) (e : Ft), tFold f l i n acc = (m, .error e) → e.1.length ≤ d + 1
  | [], i, n, acc, m, e, h => by
    unfold tFold at h
    injection h with _ h
    cases h
  | x :: l, i, n, acc, m, e, h => by
    unfold tFold at h
    rcases hx : f x n with ⟨m1, er | k⟩
    · rw [hx] at h
      injection h with _ h
      injection h with h
      subst h
      have := hf x n m1 er hx
      simp only [List.length_cons]
      omega
    · rw [hx] at h
      exact tFold_plen hf l (i + 1) m1 (acc ++ [k]) m e h
theorem tN_plen (p : Pk) (g : Int) : ∀ (d : Nat) (x : Ex) (n m : Nat) (e : Ft), tN p g d x n = (m, .error e) → e.1.length ≤ d
  | 0, x, n, m, e, h => by
    unfold tN at h
    injection h with _ h
    injection h with h
    subst h
    decide
  | d + 1, x, n, m, e, h => by
    have ih := tN_plen p g d
    unfold tN at h
    split at h
    · injection h with _ h; injection h with h; subst h; exact Nat.zero_le _
    split at h
    · injection h with _ h; injection h with h; subst h; exact Nat.zero_le _
    split at h
    · injection h with _ h; injection h with h; subst h; exact Nat.zero_le _
    split at h
    · injection h with _ h; injection h with h; subst h; exact Nat.zero_le _
    rcases hf : tFold (tN p g d) (toL x.args) 0 (n + 1) [] with ⟨m1, er | ks⟩
    · rw [hf] at h
      injection h with _ h
      injection h with h
      subst h
      exact tFold_plen ih _ _ _ _ _ _ hf
    · rw [hf] at h
      injection h with _ h
      unfold worthF at h
      split at h
      · injection h with h; subst h; exact Nat.succ_le_succ (Nat.zero_le _)
      · split at h
        · cases h
        · injection h with h; subst h; exact Nat.zero_le _
def Mk (P : Prop) : Prop := P
theorem toMk {P : Prop} (h : Mk P) : P := h
/-- A cell of a new block is set. -/
theorem fr_set3 {xb B b i : Nat} {W X X' : World} {rv rv2 u : Value} {vs xs : List Value} {k : Nat} (h : Fr xb W rv X rv2 ∧ Bx X xb vs ∧ X.ownsRow B 3 1 rv2 k xs) {hx : X.setCell ⟨b, i, none⟩ u = X'} (hb : W.heap.size ≤ b ∧ b ≠ xb ∧ (rv2.ownBlock = none ∨ rv2.ownBlock ≠ some b)) : Fr xb W rv X' rv2 ∧ Bx X' xb vs ∧ X'.ownsRow B 3 1 rv2 k xs := by
  rw [← hx]
  exact ⟨h.1.setN hb.1 i u, h.2.1.kept (gr_set X b i u) (by intro e; injection e with e; exact hb.2.1 e.symm), h.2.2.kept (gr_set X b i u) hb.2.2⟩
/-- What next answers. -/
def NxP (B xb cb : Nat) (g : Int) (rv : Value) (R : Nat × Option (Sp × Nat)) (W : World) (e : Ending) (W' : World) : Prop := ∃ rv', Fr xb W rv W' rv' ∧ Bx W' xb [.pointer (some ⟨cb, 0, none⟩), .int .i64 g, .int .i64 (R.1 : Int)] ∧ (match R.2 with
  | none => e = .returned (.tuple #[.agg #[.int .i64 0, .int .i64 0, .int .i64 0, .slice none 0 0], .int .i64 0])
  | some f => e = .returned (.tuple #[.agg #[.int .i64 f.1.part, .int .i64 f.1.at_, .int .i64 f.1.clause, rv'], .int .i64 (f.2 : Int)]) ∧ W'.ownsRow B 3 1 rv' f.1.path.length (ptC f.1.path))
set_option maxRecDepth 20000 in
set_option maxHeartbeats 3000000 in
theorem next_any (p : Pk) (g : Int) (a3 a4 a5 a6 a7 : Option Addr) (c3 c4 c5 c6 c7 : Nat) (cb s xb B : Nat) (rt : Sp) (rv : Value) (mu : Kd) (x : Ex) (ax : Option Addr) (cx : Nat) (n : Nat) (W : World) (seen : Sn) (sv : Value) (h : CkS p (scP p a3 a4 a5 a6 a7 c3 c4 c5 c6 c7) cb s W seen sv) (hxb : Bx W xb [.pointer (some ⟨cb, 0, none⟩), .int .i64 g, .int .i64 (n : Int)]) (hxc : cb < xb) (hrv : W.ownsRow B 3 1 rv rt.path.length (ptC rt.path)) (hBx : xb < B) (hB : B ≤ W.heap.size) (hrl : rt.path.length ≤ 8) (hn : n ≤ 60) (hx : FoAt W AnyB x.args ax) (hz : SzE x) : Calls Tryz.prog 113 #[.pointer (some ⟨xb, 0, none⟩), .agg #[.int .i64 rt.part, .int .i64 rt.at_, .int .i64 rt.clause, rv], .agg #[.int .i64 mu.1, .int .i64 mu.2], .agg #[.int .i64 x.op, .int .i64 x.num, .int .i64 x.den, .int .i64 x.mode, .slice ax x.args.len cx]] W (NxP B xb cb g rv (nxF p g rt mu x n) W) := by
  have hcb := h.lt
  obtain ⟨ra, rcap, rfl, hra, hrc⟩ := own_int hrv
  obtain ⟨W4, hW4⟩ : ∃ W4, W4 = (((W.alloc (.cells #[.int .i64 rt.part, .int .i64 rt.at_, .int .i64 rt.clause, .slice ra rt.path.length rcap] 105)).alloc (.cells #[.int .i64 mu.1, .int .i64 mu.2] 163)).alloc (.cells #[.int .i64 x.op, .int .i64 x.num, .int .i64 x.den, .int .i64 x.mode, .slice ax x.args.len cx] 73)).alloc (.cells #[.int .i64 0, .int .i64 0, .int .i64 0, .slice none 0 0] 105) := ⟨_, rfl⟩
  have h4 := bx_four W #[.int .i64 rt.part, .int .i64 rt.at_, .int .i64 rt.clause, .slice ra rt.path.length rcap] #[.int .i64 mu.1, .int .i64 mu.2] #[.int .i64 x.op, .int .i64 x.num, .int .i64 x.den, .int .i64 x.mode, .slice ax x.args.len cx] #[.int .i64 0, .int .i64 0, .int .i64 0, .slice none 0 0] 105 163 73 105
  rw [← hW4] at h4
  obtain ⟨hb1, hb2, hb3, hb4, hB4, hs4⟩ := h4
  have hk4 := h.bel hB4
  have hxb4 := hxb.bel hB4 hxb.1
  obtain ⟨q0, q1, q2, q3, q4, q5, q6⟩ := hk4.cells
  have q7 := hk4.c7
  have y0 := hxb4.2.1 0 (by simp)
  have y1 := hxb4.2.1 1 (by simp)
  have lt1 : cb < W4.heap.size := hk4.lt
  have lt2 : xb < W4.heap.size := hxb4.1
  have hW4H := Hid.mk hW4
  have hs4H := Hid.mk hs4
  clear hW4 hs4
  obtain ⟨QQ, hQQ⟩ : ∃ QQ, NxP B xb cb g (.slice ra rt.path.length rcap) (nxF p g rt mu x n) W = QQ := ⟨_, rfl⟩
  rw [hQQ]
  have hQH := Hid.mk hQQ
  clear hQQ
  go_enter Tryz.func113, Tryz.ntmps113
  go_wp2_with fail
  rw [← hW4H.out]
  clear hW4H
  go_region
  obtain ⟨Y, hY⟩ : ∃ Y, Y = (W4.alloc (.cells #[.string ⟨p.name.toArray⟩, .int .i64 p.year, .slice a3 p.opts.length c3, .slice a4 p.tabs.length c4, .slice a5 p.grps.length c5, .slice a6 p.lns.length c6, .slice a7 p.cks.length c7, .int .i64 g, .slice (some ⟨s + 29, 0, none⟩) 42 42, .int .i64 0, .slice none 0 0] 161)).drew := ⟨_, rfl⟩
  have hBY : Below W4.heap.size W4 Y := by rw [hY]; exact ((Below.refl _ _).alloc (Nat.le_refl _) _).drew
  have hbl : Bx Y W4.heap.size [.string ⟨p.name.toArray⟩, .int .i64 p.year, .slice a3 p.opts.length c3, .slice a4 p.tabs.length c4, .slice a5 p.grps.length c5, .slice a6 p.lns.length c6, .slice a7 p.cks.length c7, .int .i64 g, .slice (some ⟨s + 29, 0, none⟩) 42 42, .int .i64 0, .slice none 0 0] := by rw [hY]; exact bx_new W4 #[.string ⟨p.name.toArray⟩, .int .i64 p.year, .slice a3 p.opts.length c3, .slice a4 p.tabs.length c4, .slice a5 p.grps.length c5, .slice a6 p.lns.length c6, .slice a7 p.cks.length c7, .int .i64 g, .slice (some ⟨s + 29, 0, none⟩) 42 42, .int .i64 0, .slice none 0 0] 161
  rw [← hY]
  have hBWY := bthr hB4 hBY (Nat.le_refl _)
  have hLk := lks_new (g := g) (s := s) (pke_mo h.pk (fun _ _ _ => trivial)) hBWY hB4.size hbl (h.ops.bel hBWY h.ops.1) (.inl (by have := h.lo; omega))
  have hN := node_any p g a3 a4 a5 a6 a7 c3 c4 c5 c6 c7 W4.heap.size s 8 x ax cx Y 0 [] (.slice none 0 0) hLk (by decide) rfl hz (FoAt.fr hBWY.size (fun b _ hlt => hBWY.block b hlt) _ _ (FoAt.mo (fun b hb _ => Nat.lt_of_lt_of_le hb hB4.size) _ _ hx))
  obtain ⟨m, r, hT⟩ : ∃ m r, tN p g 8 x 0 = (m, r) := ⟨_, _, rfl⟩
  rw [hT] at hN
  simp only at hN
  have hlb : W.heap.size + 1 + 1 + 1 < W4.heap.size := hb4.1
  have hbx3 : Hid (∀ w3 pv3, Fr W4.heap.size Y (.slice none 0 0) w3 pv3 → Bx w3 W.heap.size [.int .i64 rt.part, .int .i64 rt.at_, .int .i64 rt.clause, .slice ra rt.path.length rcap] ∧ Bx w3 (W.heap.size + 1) [.int .i64 mu.1, .int .i64 mu.2] ∧ Bx w3 (W.heap.size + 1 + 1 + 1) [.int .i64 0, .int .i64 0, .int .i64 0, .slice none 0 0] ∧ Bx w3 xb [.pointer (some ⟨cb, 0, none⟩), .int .i64 g, .int .i64 (n : Int)] ∧ Below W.heap.size W w3) := ⟨fun w3 pv3 hF => by
    have f : ∀ b vs, Bx W4 b vs → b < W4.heap.size → Bx w3 b vs := fun b vs hb hl => hF.box (hb.bel hBY hb.1) (by omega) (by intro e; cases e)
    exact ⟨f _ _ hb1 hb1.1, f _ _ hb2 hb2.1, f _ _ hb4 hb4.1, f _ _ hxb4 hxb4.1, hBWY.trans (hF.below hB4.size hBWY.size (fun q hq => by cases hq))⟩⟩
  have e0 := (hb3.bel hBY hb3.1).2.1 0 (by simp)
  have e1 := (hb3.bel hBY hb3.1).2.1 1 (by simp)
  have e2 := (hb3.bel hBY hb3.1).2.1 2 (by simp)
  have e3 := (hb3.bel hBY hb3.1).2.1 3 (by simp)
  have e4 := (hb3.bel hBY hb3.1).2.1 4 (by simp)
  have hnx : nxF p g rt mu x n = (match (m, r) with
    | (_, .error er) => (n, some (⟨rt.part, rt.at_, rt.clause, rt.path ++ er.1⟩, er.2))
    | (m, .ok k) => if k = mu then (n + m, if 60 < n + m then some (rt, 60) else none) else (n, some (rt, 69))) := by unfold nxF; rw [hT]; rfl
  have hEr : Hid (∀ er, r = .error er → 0 < er.2 ∧ er.1.length ≤ 8) := ⟨fun er he => ⟨tN_err p g 8 x 0 m er (by rw [hT, he]), tN_plen p g 8 x 0 m er (by rw [hT, he])⟩⟩
  have hOk : Hid (∀ k, r = .ok k → m ≤ 60) := ⟨fun k he => tN_le p g 8 x 0 m k (by rw [hT, he])⟩
  clear hT hLk hbl hY q0 q1 q2 q3 q4 q5 q6 q7 y0 y1 hb1 hb2 hb3 hb4 hxb4 hk4
  obtain ⟨i0, hi1, hz0, hz1, hz2⟩ := info_parts infoInt
  have hrvn : (Value.slice ra rt.path.length rcap).ownBlock = none ∨ (Value.slice ra rt.path.length rcap).ownBlock ≠ some (W.heap.size + 1 + 1 + 1) := by
    cases hv : (Value.slice ra rt.path.length rcap).ownBlock with
    | none => exact .inl rfl
    | some q => exact .inr (fun e => by have := (hrv.lt q hv).2; injection e with e; omega)
  cases r with
  | error er =>
    obtain ⟨he1, he2⟩ := hEr.out er rfl
    have he' : ((er.2 : Int) != 0) = true := by simp; omega
    simp only at hnx
    have hRH := Hid.mk hnx
    have hN2 : Calls Tryz.prog 83 #[.pointer (some ⟨W4.heap.size, 0, none⟩), .agg #[.int .i64 x.op, .int .i64 x.num, .int .i64 x.den, .int .i64 x.mode, .slice ax x.args.len cx]] Y (fun e W' => e = .returned (.tuple #[.agg #[.int .i64 0, .int .i64 0], .int .i64 (er.2 : Int)]) ∧ ∃ pv3, LkS p (scG p a3 a4 a5 a6 a7 c3 c4 c5 c6 c7 g) W4.heap.size s W' m er.1 pv3 ∧ Fr W4.heap.size Y (.slice none 0 0) W' pv3) := hN
    clear hN hEr hOk hnx
    go_wp2_with (first | (go_at_call 83; refine hN2.mono ?_; clear hN2; rintro e w3 ⟨rfl, pv3, hL3, hF3⟩; obtain ⟨k1, k2, hres, kx, hBw3⟩ := hbx3.out w3 pv3 hF3; obtain ⟨pa, pcap, hpv, hpn, hpc⟩ := own_int hL3.own; subst hpv; have r0 := k1.2.1 0 (by simp); have r1 := k1.2.1 1 (by simp); have r2 := k1.2.1 2 (by simp); have r3 := k1.2.1 3 (by simp); have p10 := hL3.c10; have lw1 := k1.1; have lw2 := hL3.lt; have lw3 := hres.1) | (at_builtin; refine toMk ?_))
    have hrw3 := own_bel hrv hBw3
    have hBk : Below w3.heap.size w3 (w3.alloc (.cells #[.int .i64 0, .int .i64 0] 163)) := (Below.refl _ _).alloc (Nat.le_refl _) _
    have ho3 := hL3.own.alloc (.cells #[.int .i64 0, .int .i64 0] 163)
    cases pa with
    | none =>
      have hz0 : er.1.length = 0 := by
        by_cases hp : 0 < er.1.length
        · exact absurd rfl (hpn hp)
        · omega
      have her0 : er.1 = [] := List.eq_nil_of_length_eq_zero hz0
      have hst3 : Fr xb W (.slice ra rt.path.length rcap) w3 (.slice ra rt.path.length rcap) ∧ Bx w3 xb [.pointer (some ⟨cb, 0, none⟩), .int .i64 g, .int .i64 (n : Int)] ∧ w3.ownsRow B 3 1 (.slice ra rt.path.length rcap) rt.path.length (ptC rt.path) := ⟨Fr.bel hBw3 _, kx, hrw3⟩
      have hnb : W.heap.size ≤ (W.heap.size + 1 + 1 + 1) ∧ (W.heap.size + 1 + 1 + 1) ≠ xb ∧ ((Value.slice ra rt.path.length rcap).ownBlock = none ∨ (Value.slice ra rt.path.length rcap).ownBlock ≠ some (W.heap.size + 1 + 1 + 1)) := ⟨by omega, by omega, hrvn⟩
      have sr3 := set_id r3
      have z3r := k1.2.2 3
      have hq0 := hres
      have hbX0 := hst3
      have kg0 : w3.cell? ⟨(W.heap.size + 1 + 1 + 1), 0, none⟩ = some (.int .i64 0) := hq0.2.1 0 (by simp)
      have kh0 := hq0.2.2 0
      have kl0 := hq0.1
      obtain ⟨X1, hx0⟩ : ∃ X1, w3.setCell ⟨(W.heap.size + 1 + 1 + 1), 0, none⟩ (.int .i64 rt.part) = X1 := ⟨_, rfl⟩
      have hq1 : Bx X1 (W.heap.size + 1 + 1 + 1) [(.int .i64 rt.part), (.int .i64 0), (.int .i64 0), (.slice none 0 0)] := (by rw [← hx0]; exact hq0.set 0 (.int .i64 rt.part))
      have hbX1 := fr_set3 (hx := hx0) hbX0 hnb
      have kg1 : X1.cell? ⟨(W.heap.size + 1 + 1 + 1), 1, none⟩ = some (.int .i64 0) := hq1.2.1 1 (by simp)
      have kh1 := hq1.2.2 1
      have kl1 := hq1.1
      obtain ⟨X2, hx1⟩ : ∃ X2, X1.setCell ⟨(W.heap.size + 1 + 1 + 1), 1, none⟩ (.int .i64 rt.at_) = X2 := ⟨_, rfl⟩
      have hq2 : Bx X2 (W.heap.size + 1 + 1 + 1) [(.int .i64 rt.part), (.int .i64 rt.at_), (.int .i64 0), (.slice none 0 0)] := (by rw [← hx1]; exact hq1.set 1 (.int .i64 rt.at_))
      have hbX2 := fr_set3 (hx := hx1) hbX1 hnb
      have kg2 : X2.cell? ⟨(W.heap.size + 1 + 1 + 1), 2, none⟩ = some (.int .i64 0) := hq2.2.1 2 (by simp)
      have kh2 := hq2.2.2 2
      have kl2 := hq2.1
      obtain ⟨X3, hx2⟩ : ∃ X3, X2.setCell ⟨(W.heap.size + 1 + 1 + 1), 2, none⟩ (.int .i64 rt.clause) = X3 := ⟨_, rfl⟩
      have hq3 : Bx X3 (W.heap.size + 1 + 1 + 1) [(.int .i64 rt.part), (.int .i64 rt.at_), (.int .i64 rt.clause), (.slice none 0 0)] := (by rw [← hx2]; exact hq2.set 2 (.int .i64 rt.clause))
      have hbX3 := fr_set3 (hx := hx2) hbX2 hnb
      have kg3 : X3.cell? ⟨(W.heap.size + 1 + 1 + 1), 3, none⟩ = some (.slice none 0 0) := hq3.2.1 3 (by simp)
      have kh3 := hq3.2.2 3
      have kl3 := hq3.1
      obtain ⟨X4, hx3⟩ : ∃ X4, X3.setCell ⟨(W.heap.size + 1 + 1 + 1), 3, none⟩ (.slice ra rt.path.length rcap) = X4 := ⟨_, rfl⟩
      have hq4 : Bx X4 (W.heap.size + 1 + 1 + 1) [(.int .i64 rt.part), (.int .i64 rt.at_), (.int .i64 rt.clause), (.slice ra rt.path.length rcap)] := (by rw [← hx3]; exact hq3.set 3 (.slice ra rt.path.length rcap))
      have hbX4 := fr_set3 (hx := hx3) hbX3 hnb
      have hB5 : Below X4.heap.size X4 (X4.alloc (.cells #[.int .i64 0, .int .i64 0] 163)) := ((Below.refl _ _).alloc (Nat.le_refl _) _)
      have hff : QQ (.returned (.tuple #[.agg #[.int .i64 rt.part, .int .i64 rt.at_, .int .i64 rt.clause, .slice ra rt.path.length rcap], .int .i64 (er.2 : Int)])) (X4.alloc (.cells #[.int .i64 0, .int .i64 0] 163)) := by
        rw [← hQH.out, hRH.out, her0, List.append_nil]
        exact ⟨_, hbX4.1.trans (Fr.bel hB5 _), hbX4.2.1.bel hB5 hbX4.2.1.1, rfl, own_bel hbX4.2.2 hB5⟩
      have hq5 := hq4.bel hB5 hq4.1
      have f0 := hq5.2.1 0 (by simp)
      have f1 := hq5.2.1 1 (by simp)
      have f2 := hq5.2.1 2 (by simp)
      have f3 := hq5.2.1 3 (by simp)
      have l4 := hq4.1
      clear hq0 hq1 hq2 hq3 hq4 hbX0 hbX1 hbX2 hbX3 hq5 hbX4 hB5
      have hpe : (Value.slice none er.1.length pcap) = .slice none 0 0 := by
        have := hL3.own
        obtain ⟨_, ⟨e, _⟩ | ⟨g3, c3, cu3, e, _⟩⟩ := this
        · exact e
        · cases e
      rw [hpe]
      unfold Mk
      refine wpList_append_own_none rfl _ _ 103 rfl B 3 i0 1 Tryz.underlying103 hi1 _ _ _ rfl (hrw3.alloc (.cells #[.int .i64 0, .int .i64 0] 163)) rfl ?_
      go_wp2
      exact bodyPost_ret (v := .tuple #[.agg #[.int .i64 rt.part, .int .i64 rt.at_, .int .i64 rt.clause, .slice ra rt.path.length rcap], .int .i64 (er.2 : Int)]) (by simp [results, Tryz.results113, go_sem, f0, f1, f2, f3]) rfl hff
    | some pad =>
      obtain ⟨g3, hpad⟩ : ∃ g3, pad = ⟨g3, 0, none⟩ := by
        obtain ⟨_, ⟨e, _⟩ | ⟨g3, c3, cu3, e, _⟩⟩ := hL3.own
        · cases e
        · injection e with e; injection e with e; exact ⟨g3, e⟩
      subst hpad
      have hnews : ∀ j u, (ptC er.1)[j]? = some u → (w3.alloc (.cells #[.int .i64 0, .int .i64 0] 163)).cell? ((⟨g3, 0, none⟩ : Addr).add j) = some u := ho3.cells rfl
      have hpl : (ptC er.1).length = er.1.length * 1 := by unfold ptC; rw [List.length_map, Nat.mul_one]
      have hbB : B ≤ (w3.alloc (.cells #[.int .i64 0, .int .i64 0] 163)).heap.size := Nat.le_trans hB (Nat.le_trans hBw3.size (by simp))
      unfold Mk
      refine wpList_append_own_at _ rfl _ _ 103 rfl B 3 i0 (.int .i64 0) 1 8 Tryz.underlying103 hi1 hz0 hz1 hz2 rfl (by decide) _ _ _ rfl (hrw3.alloc (.cells #[.int .i64 0, .int .i64 0] 163)) ⟨g3, 0, none⟩ er.1.length pcap (ptC er.1) rfl hpl hnews (by intro u hu; unfold ptC at hu; obtain ⟨q, -, rfl⟩ := List.mem_map.1 hu; rfl) (by unfold maxLen; omega) (by omega) hbB ?_
      intro v5 w5 hown5 hgrow5a _ hat5a
      have hgrow5 : (w3.alloc (.cells #[.int .i64 0, .int .i64 0] 163)).grownBy w5 (Value.slice ra rt.path.length rcap).ownBlock := hgrow5a
      have hat5 : v5.ownBlock = (Value.slice ra rt.path.length rcap).ownBlock ∨ v5.ownBlock = some (w3.alloc (.cells #[.int .i64 0, .int .i64 0] 163)).heap.size := hat5a
      clear hgrow5a hat5a
      rw [show ptC rt.path ++ ptC er.1 = ptC (rt.path ++ er.1) by unfold ptC; rw [List.map_append]] at hown5
      obtain ⟨p5, cap5, rfl, -, -⟩ := own_int hown5
      have k1k := k1.bel hBk k1.1
      have kxk := kx.bel hBk kx.1
      have hresk := hres.bel hBk hres.1
      have hnr1 : some W.heap.size ≠ (Value.slice ra rt.path.length rcap).ownBlock := fun e => by
        have := (hrv.lt _ e.symm).2
        omega
      have hnr2 : some xb ≠ (Value.slice ra rt.path.length rcap).ownBlock := fun e => by
        have := (hrv.lt _ e.symm).1
        omega
      have hnr3 : some (W.heap.size + 1 + 1 + 1) ≠ (Value.slice ra rt.path.length rcap).ownBlock := fun e => by
        have := (hrv.lt _ e.symm).2
        omega
      have k15 := k1k.kept hgrow5 hnr1
      have kx5 := kxk.kept hgrow5 hnr2
      have hres5 := hresk.kept hgrow5 hnr3
      have hsk : (w3.alloc (.cells #[.int .i64 0, .int .i64 0] 163)).heap.size = w3.heap.size + 1 := by simp
      have hv5 : ∀ b, W.heap.size ≤ b → b < w3.heap.size → ((Value.slice p5 (rt.path.length + er.1.length) cap5).ownBlock = none ∨ (Value.slice p5 (rt.path.length + er.1.length) cap5).ownBlock ≠ some b) := fun b hb1 hb2 => by
        rcases hat5 with e | e
        · rw [e]
          cases hv : (Value.slice ra rt.path.length rcap).ownBlock with
          | none => exact .inl rfl
          | some q => exact .inr (fun e => by have := (hrv.lt q hv).2; injection e with e; omega)
        · rw [e]
          right
          intro e2
          injection e2 with e2
          omega
      have hst5 : Fr xb W (.slice ra rt.path.length rcap) w5 (.slice p5 (rt.path.length + er.1.length) cap5) ∧ Bx w5 xb [.pointer (some ⟨cb, 0, none⟩), .int .i64 g, .int .i64 (n : Int)] ∧ w5.ownsRow B 3 1 (.slice p5 (rt.path.length + er.1.length) cap5) (rt.path.length + er.1.length) (ptC (rt.path ++ er.1)) := ⟨((Fr.bel hBw3 _).trans (Fr.bel hBk _)).trans (Fr.grow hgrow5 hat5), kx5, hown5⟩
      have r5 := k15.2.1 3 (by simp)
      have z5 := k15.2.2 3
      have l5 := k15.1
      obtain ⟨w6, hw6⟩ : ∃ w6, w5.setCell ⟨W.heap.size, 3, none⟩ (.slice p5 (rt.path.length + er.1.length) cap5) = w6 := ⟨_, rfl⟩
      have hst6 := fr_set3 (hx := hw6) hst5 ⟨Nat.le_refl _, by omega, hv5 _ (Nat.le_refl _) lw1⟩
      have k16 : Bx w6 W.heap.size [.int .i64 rt.part, .int .i64 rt.at_, .int .i64 rt.clause, .slice p5 (rt.path.length + er.1.length) cap5] := by rw [← hw6]; exact k15.set 3 _
      have hres6 : Bx w6 (W.heap.size + 1 + 1 + 1) [.int .i64 0, .int .i64 0, .int .i64 0, .slice none 0 0] := by rw [← hw6]; exact hres5.kept (gr_set _ _ _ _) (by intro e; injection e with e; omega)
      have s0 := k16.2.1 0 (by simp)
      have s1 := k16.2.1 1 (by simp)
      have s2 := k16.2.1 2 (by simp)
      have s3 := k16.2.1 3 (by simp)
      have hnb : W.heap.size ≤ (W.heap.size + 1 + 1 + 1) ∧ (W.heap.size + 1 + 1 + 1) ≠ xb ∧ ((Value.slice p5 (rt.path.length + er.1.length) cap5).ownBlock = none ∨ (Value.slice p5 (rt.path.length + er.1.length) cap5).ownBlock ≠ some (W.heap.size + 1 + 1 + 1)) := ⟨by omega, by omega, hv5 _ (by omega) lw3⟩
      have hq0 := hres6
      have hbX0 := hst6
      have kg0 : w6.cell? ⟨(W.heap.size + 1 + 1 + 1), 0, none⟩ = some (.int .i64 0) := hq0.2.1 0 (by simp)
      have kh0 := hq0.2.2 0
      have kl0 := hq0.1
      obtain ⟨X1, hx0⟩ : ∃ X1, w6.setCell ⟨(W.heap.size + 1 + 1 + 1), 0, none⟩ (.int .i64 rt.part) = X1 := ⟨_, rfl⟩
      have hq1 : Bx X1 (W.heap.size + 1 + 1 + 1) [(.int .i64 rt.part), (.int .i64 0), (.int .i64 0), (.slice none 0 0)] := (by rw [← hx0]; exact hq0.set 0 (.int .i64 rt.part))
      have hbX1 := fr_set3 (hx := hx0) hbX0 hnb
      have kg1 : X1.cell? ⟨(W.heap.size + 1 + 1 + 1), 1, none⟩ = some (.int .i64 0) := hq1.2.1 1 (by simp)
      have kh1 := hq1.2.2 1
      have kl1 := hq1.1
      obtain ⟨X2, hx1⟩ : ∃ X2, X1.setCell ⟨(W.heap.size + 1 + 1 + 1), 1, none⟩ (.int .i64 rt.at_) = X2 := ⟨_, rfl⟩
      have hq2 : Bx X2 (W.heap.size + 1 + 1 + 1) [(.int .i64 rt.part), (.int .i64 rt.at_), (.int .i64 0), (.slice none 0 0)] := (by rw [← hx1]; exact hq1.set 1 (.int .i64 rt.at_))
      have hbX2 := fr_set3 (hx := hx1) hbX1 hnb
      have kg2 : X2.cell? ⟨(W.heap.size + 1 + 1 + 1), 2, none⟩ = some (.int .i64 0) := hq2.2.1 2 (by simp)
      have kh2 := hq2.2.2 2
      have kl2 := hq2.1
      obtain ⟨X3, hx2⟩ : ∃ X3, X2.setCell ⟨(W.heap.size + 1 + 1 + 1), 2, none⟩ (.int .i64 rt.clause) = X3 := ⟨_, rfl⟩
      have hq3 : Bx X3 (W.heap.size + 1 + 1 + 1) [(.int .i64 rt.part), (.int .i64 rt.at_), (.int .i64 rt.clause), (.slice none 0 0)] := (by rw [← hx2]; exact hq2.set 2 (.int .i64 rt.clause))
      have hbX3 := fr_set3 (hx := hx2) hbX2 hnb
      have kg3 : X3.cell? ⟨(W.heap.size + 1 + 1 + 1), 3, none⟩ = some (.slice none 0 0) := hq3.2.1 3 (by simp)
      have kh3 := hq3.2.2 3
      have kl3 := hq3.1
      obtain ⟨X4, hx3⟩ : ∃ X4, X3.setCell ⟨(W.heap.size + 1 + 1 + 1), 3, none⟩ (.slice p5 (rt.path.length + er.1.length) cap5) = X4 := ⟨_, rfl⟩
      have hq4 : Bx X4 (W.heap.size + 1 + 1 + 1) [(.int .i64 rt.part), (.int .i64 rt.at_), (.int .i64 rt.clause), (.slice p5 (rt.path.length + er.1.length) cap5)] := (by rw [← hx3]; exact hq3.set 3 (.slice p5 (rt.path.length + er.1.length) cap5))
      have hbX4 := fr_set3 (hx := hx3) hbX3 hnb
      have hff : QQ (.returned (.tuple #[.agg #[.int .i64 rt.part, .int .i64 rt.at_, .int .i64 rt.clause, .slice p5 (rt.path.length + er.1.length) cap5], .int .i64 (er.2 : Int)])) X4 := by
        rw [← hQH.out, hRH.out]
        exact ⟨_, hbX4.1, hbX4.2.1, rfl, by rw [List.length_append]; exact hbX4.2.2⟩
      have f0 := hq4.2.1 0 (by simp)
      have f1 := hq4.2.1 1 (by simp)
      have f2 := hq4.2.1 2 (by simp)
      have f3 := hq4.2.1 3 (by simp)
      clear hq0 hq1 hq2 hq3 hq4 hbX0 hbX1 hbX2 hbX3 hbX4
      go_wp2
      exact bodyPost_ret (v := .tuple #[.agg #[.int .i64 rt.part, .int .i64 rt.at_, .int .i64 rt.clause, .slice p5 (rt.path.length + er.1.length) cap5], .int .i64 (er.2 : Int)]) (by simp [results, Tryz.results113, go_sem, f0, f1, f2, f3]) rfl hff
  | ok k =>
    have hm := hOk.out k rfl
    simp only at hnx
    have hN2 : Calls Tryz.prog 83 #[.pointer (some ⟨W4.heap.size, 0, none⟩), .agg #[.int .i64 x.op, .int .i64 x.num, .int .i64 x.den, .int .i64 x.mode, .slice ax x.args.len cx]] Y (fun e W' => e = .returned (.tuple #[.agg #[.int .i64 k.1, .int .i64 k.2], .int .i64 0]) ∧ ∃ pv3, LkS p (scG p a3 a4 a5 a6 a7 c3 c4 c5 c6 c7 g) W4.heap.size s W' m [] pv3 ∧ Fr W4.heap.size Y (.slice none 0 0) W' pv3) := hN
    have hqe := eq_kind k.1 k.2 mu.1 mu.2
    have hqg := eq_guard
    clear hN hEr hOk
    by_cases hv : k = mu
    rotate_left
    · rw [if_neg hv] at hnx
      have hRH := Hid.mk hnx
      rw [decide_eq_false (fun hh => hv (by rcases k with ⟨k1, k2⟩; rcases mu with ⟨m1, m2⟩; simp only at hh; rw [hh.1, hh.2]))] at hqe
      clear hnx hv
      go_wp2_with (go_at_call 83; refine hN2.mono ?_; clear hN2; rintro e w3 ⟨rfl, pv3, hL3, hF3⟩; obtain ⟨k1, k2, hres, kx, hBw3⟩ := hbx3.out w3 pv3 hF3; have m0 := k2.2.1 0 (by simp); have m1 := k2.2.1 1 (by simp); have r0 := k1.2.1 0 (by simp); have r1 := k1.2.1 1 (by simp); have r2 := k1.2.1 2 (by simp); have r3 := k1.2.1 3 (by simp); have lw1 := k1.1; have lw2 := k2.1; have hst3 : Fr xb W (.slice ra rt.path.length rcap) w3 (.slice ra rt.path.length rcap) ∧ Bx w3 xb [.pointer (some ⟨cb, 0, none⟩), .int .i64 g, .int .i64 (n : Int)] ∧ w3.ownsRow B 3 1 (.slice ra rt.path.length rcap) rt.path.length (ptC rt.path) := ⟨Fr.bel hBw3 _, kx, own_bel hrv hBw3⟩; have hnb : W.heap.size ≤ (W.heap.size + 1 + 1 + 1) ∧ (W.heap.size + 1 + 1 + 1) ≠ xb ∧ ((Value.slice ra rt.path.length rcap).ownBlock = none ∨ (Value.slice ra rt.path.length rcap).ownBlock ≠ some (W.heap.size + 1 + 1 + 1)) := ⟨by omega, by omega, hrvn⟩; have hq0 := hres; have hbX0 := hst3; have kg0 : w3.cell? ⟨(W.heap.size + 1 + 1 + 1), 0, none⟩ = some (.int .i64 0) := hq0.2.1 0 (by simp); have kh0 := hq0.2.2 0; have kl0 := hq0.1; obtain ⟨X1, hx0⟩ : ∃ X1, w3.setCell ⟨(W.heap.size + 1 + 1 + 1), 0, none⟩ (.int .i64 rt.part) = X1 := ⟨_, rfl⟩; have hq1 : Bx X1 (W.heap.size + 1 + 1 + 1) [(.int .i64 rt.part), (.int .i64 0), (.int .i64 0), (.slice none 0 0)] := (by rw [← hx0]; exact hq0.set 0 (.int .i64 rt.part)); have hbX1 := fr_set3 (hx := hx0) hbX0 hnb; have kg1 : X1.cell? ⟨(W.heap.size + 1 + 1 + 1), 1, none⟩ = some (.int .i64 0) := hq1.2.1 1 (by simp); have kh1 := hq1.2.2 1; have kl1 := hq1.1; obtain ⟨X2, hx1⟩ : ∃ X2, X1.setCell ⟨(W.heap.size + 1 + 1 + 1), 1, none⟩ (.int .i64 rt.at_) = X2 := ⟨_, rfl⟩; have hq2 : Bx X2 (W.heap.size + 1 + 1 + 1) [(.int .i64 rt.part), (.int .i64 rt.at_), (.int .i64 0), (.slice none 0 0)] := (by rw [← hx1]; exact hq1.set 1 (.int .i64 rt.at_)); have hbX2 := fr_set3 (hx := hx1) hbX1 hnb; have kg2 : X2.cell? ⟨(W.heap.size + 1 + 1 + 1), 2, none⟩ = some (.int .i64 0) := hq2.2.1 2 (by simp); have kh2 := hq2.2.2 2; have kl2 := hq2.1; obtain ⟨X3, hx2⟩ : ∃ X3, X2.setCell ⟨(W.heap.size + 1 + 1 + 1), 2, none⟩ (.int .i64 rt.clause) = X3 := ⟨_, rfl⟩; have hq3 : Bx X3 (W.heap.size + 1 + 1 + 1) [(.int .i64 rt.part), (.int .i64 rt.at_), (.int .i64 rt.clause), (.slice none 0 0)] := (by rw [← hx2]; exact hq2.set 2 (.int .i64 rt.clause)); have hbX3 := fr_set3 (hx := hx2) hbX2 hnb; have kg3 : X3.cell? ⟨(W.heap.size + 1 + 1 + 1), 3, none⟩ = some (.slice none 0 0) := hq3.2.1 3 (by simp); have kh3 := hq3.2.2 3; have kl3 := hq3.1; obtain ⟨X4, hx3⟩ : ∃ X4, X3.setCell ⟨(W.heap.size + 1 + 1 + 1), 3, none⟩ (.slice ra rt.path.length rcap) = X4 := ⟨_, rfl⟩; have hq4 : Bx X4 (W.heap.size + 1 + 1 + 1) [(.int .i64 rt.part), (.int .i64 rt.at_), (.int .i64 rt.clause), (.slice ra rt.path.length rcap)] := (by rw [← hx3]; exact hq3.set 3 (.slice ra rt.path.length rcap)); have hbX4 := fr_set3 (hx := hx3) hbX3 hnb; have hB5 : Below X4.heap.size X4 (X4.alloc (.cells #[.int .i64 k.1, .int .i64 k.2] 163)) := ((Below.refl _ _).alloc (Nat.le_refl _) _); have hff : QQ (.returned (.tuple #[.agg #[.int .i64 rt.part, .int .i64 rt.at_, .int .i64 rt.clause, .slice ra rt.path.length rcap], .int .i64 69])) (X4.alloc (.cells #[.int .i64 k.1, .int .i64 k.2] 163)) := (by rw [← hQH.out, hRH.out]; exact ⟨_, hbX4.1.trans (Fr.bel hB5 _), hbX4.2.1.bel hB5 hbX4.2.1.1, rfl, own_bel hbX4.2.2 hB5⟩); have hq5 := hq4.bel hB5 hq4.1; have f0 := hq5.2.1 0 (by simp); have f1 := hq5.2.1 1 (by simp); have f2 := hq5.2.1 2 (by simp); have f3 := hq5.2.1 3 (by simp); have l4 := hq4.1; clear hq0 hq1 hq2 hq3 hq4 hbX0 hbX1 hbX2 hbX3 hq5 hbX4 hB5)
      exact bodyPost_ret (v := .tuple #[.agg #[.int .i64 rt.part, .int .i64 rt.at_, .int .i64 rt.clause, .slice ra rt.path.length rcap], .int .i64 69]) (by simp [results, Tryz.results113, go_sem, f0, f1, f2, f3]) rfl hff
    · rw [if_pos hv] at hnx
      have hRH := Hid.mk hnx
      rw [decide_eq_true (by rw [hv]; exact ⟨rfl, rfl⟩)] at hqe
      clear hnx hv
      have hnm' : (n : Int) + (m : Int) ≤ 120 := by omega
      go_wp2_with (go_at_call 83; refine hN2.mono ?_; clear hN2; rintro e w3 ⟨rfl, pv3, hL3, hF3⟩; obtain ⟨k1, k2, hres, kx, hBw3⟩ := hbx3.out w3 pv3 hF3; have m0 := k2.2.1 0 (by simp); have m1 := k2.2.1 1 (by simp); have lw1 := k1.1; have lw2 := k2.1; have lw3 := hres.1; have x2 := kx.2.1 2 (by simp); have xz := kx.2.2 2; have c9 := hL3.c9; have lx := kx.1; have ll := hL3.lt)
      go_region
      obtain ⟨V3, hV3⟩ : ∃ V3, V3 = w3.setCell ⟨xb, 2, none⟩ (.int .i64 ((n : Int) + (m : Int))) := ⟨_, rfl⟩
      rw [← hV3]
      have hgs : w3.grownBy V3 (some xb) := by rw [hV3]; exact gr_set _ _ _ _
      have v1 := k1.kept hgs (by intro e; injection e with e; omega)
      have hres3 := hres.kept hgs (by intro e; injection e with e; omega)
      have hvx : Bx V3 xb [.pointer (some ⟨cb, 0, none⟩), .int .i64 g, .int .i64 ((n + m : Nat) : Int)] := by
        rw [hV3, show ((n + m : Nat) : Int) = (n : Int) + (m : Int) by omega]
        exact kx.set 2 _
      have hst3 : Fr xb W (.slice ra rt.path.length rcap) V3 (.slice ra rt.path.length rcap) ∧ Bx V3 xb [.pointer (some ⟨cb, 0, none⟩), .int .i64 g, .int .i64 ((n + m : Nat) : Int)] ∧ V3.ownsRow B 3 1 (.slice ra rt.path.length rcap) rt.path.length (ptC rt.path) := ⟨(Fr.bel hBw3 _).trans (by rw [hV3]; exact Fr.set _ _ _ _ _ rfl), hvx, (own_bel hrv hBw3).kept hgs (by cases hv : (Value.slice ra rt.path.length rcap).ownBlock with
        | none => exact .inl rfl
        | some q => exact .inr (fun e => by have := (hrv.lt q hv).1; injection e with e; omega))⟩
      have vx2 := hvx.2.1 2 (by simp)
      rw [show (Value.int .i64 ((n + m : Nat) : Int)) = Value.int .i64 ((n : Int) + (m : Int)) by congr 1] at vx2
      have lx3 := hvx.1
      have r0 := v1.2.1 0 (by simp)
      have r1 := v1.2.1 1 (by simp)
      have r2 := v1.2.1 2 (by simp)
      have r3 := v1.2.1 3 (by simp)
      have lv1 := v1.1
      have hnb : W.heap.size ≤ (W.heap.size + 1 + 1 + 1) ∧ (W.heap.size + 1 + 1 + 1) ≠ xb ∧ ((Value.slice ra rt.path.length rcap).ownBlock = none ∨ (Value.slice ra rt.path.length rcap).ownBlock ≠ some (W.heap.size + 1 + 1 + 1)) := ⟨by omega, by omega, hrvn⟩
      clear hV3 hgs k1 k2 hres kx x2 xz c9 m0 m1 hvx v1
      by_cases hbig : 60 < n + m
      · have hbig' : (60 : Int) < (n : Int) + (m : Int) := by omega
        have hq0 := hres3
        have hbX0 := hst3
        have kg0 : V3.cell? ⟨(W.heap.size + 1 + 1 + 1), 0, none⟩ = some (.int .i64 0) := hq0.2.1 0 (by simp)
        have kh0 := hq0.2.2 0
        have kl0 := hq0.1
        obtain ⟨X1, hx0⟩ : ∃ X1, V3.setCell ⟨(W.heap.size + 1 + 1 + 1), 0, none⟩ (.int .i64 rt.part) = X1 := ⟨_, rfl⟩
        have hq1 : Bx X1 (W.heap.size + 1 + 1 + 1) [(.int .i64 rt.part), (.int .i64 0), (.int .i64 0), (.slice none 0 0)] := (by rw [← hx0]; exact hq0.set 0 (.int .i64 rt.part))
        have hbX1 := fr_set3 (hx := hx0) hbX0 hnb
        have kg1 : X1.cell? ⟨(W.heap.size + 1 + 1 + 1), 1, none⟩ = some (.int .i64 0) := hq1.2.1 1 (by simp)
        have kh1 := hq1.2.2 1
        have kl1 := hq1.1
        obtain ⟨X2, hx1⟩ : ∃ X2, X1.setCell ⟨(W.heap.size + 1 + 1 + 1), 1, none⟩ (.int .i64 rt.at_) = X2 := ⟨_, rfl⟩
        have hq2 : Bx X2 (W.heap.size + 1 + 1 + 1) [(.int .i64 rt.part), (.int .i64 rt.at_), (.int .i64 0), (.slice none 0 0)] := (by rw [← hx1]; exact hq1.set 1 (.int .i64 rt.at_))
        have hbX2 := fr_set3 (hx := hx1) hbX1 hnb
        have kg2 : X2.cell? ⟨(W.heap.size + 1 + 1 + 1), 2, none⟩ = some (.int .i64 0) := hq2.2.1 2 (by simp)
        have kh2 := hq2.2.2 2
        have kl2 := hq2.1
        obtain ⟨X3, hx2⟩ : ∃ X3, X2.setCell ⟨(W.heap.size + 1 + 1 + 1), 2, none⟩ (.int .i64 rt.clause) = X3 := ⟨_, rfl⟩
        have hq3 : Bx X3 (W.heap.size + 1 + 1 + 1) [(.int .i64 rt.part), (.int .i64 rt.at_), (.int .i64 rt.clause), (.slice none 0 0)] := (by rw [← hx2]; exact hq2.set 2 (.int .i64 rt.clause))
        have hbX3 := fr_set3 (hx := hx2) hbX2 hnb
        have kg3 : X3.cell? ⟨(W.heap.size + 1 + 1 + 1), 3, none⟩ = some (.slice none 0 0) := hq3.2.1 3 (by simp)
        have kh3 := hq3.2.2 3
        have kl3 := hq3.1
        obtain ⟨X4, hx3⟩ : ∃ X4, X3.setCell ⟨(W.heap.size + 1 + 1 + 1), 3, none⟩ (.slice ra rt.path.length rcap) = X4 := ⟨_, rfl⟩
        have hq4 : Bx X4 (W.heap.size + 1 + 1 + 1) [(.int .i64 rt.part), (.int .i64 rt.at_), (.int .i64 rt.clause), (.slice ra rt.path.length rcap)] := (by rw [← hx3]; exact hq3.set 3 (.slice ra rt.path.length rcap))
        have hbX4 := fr_set3 (hx := hx3) hbX3 hnb
        have hB5 : Below X4.heap.size X4 (X4.alloc (.cells #[.int .i64 k.1, .int .i64 k.2] 163)).drew := ((Below.refl _ _).alloc (Nat.le_refl _) _).drew
        have hff : QQ (.returned (.tuple #[.agg #[.int .i64 rt.part, .int .i64 rt.at_, .int .i64 rt.clause, .slice ra rt.path.length rcap], .int .i64 60])) (X4.alloc (.cells #[.int .i64 k.1, .int .i64 k.2] 163)).drew := by
          rw [← hQH.out, hRH.out, if_pos hbig]
          exact ⟨_, hbX4.1.trans (Fr.bel hB5 _), hbX4.2.1.bel hB5 hbX4.2.1.1, rfl, own_bel hbX4.2.2 hB5⟩
        have hq5 := hq4.bel hB5 hq4.1
        have f0 := hq5.2.1 0 (by simp)
        have f1 := hq5.2.1 1 (by simp)
        have f2 := hq5.2.1 2 (by simp)
        have f3 := hq5.2.1 3 (by simp)
        have l4 := hq4.1
        clear hq0 hq1 hq2 hq3 hq4 hbX0 hbX1 hbX2 hbX3 hq5 hbX4 hB5
        go_wp2
        exact bodyPost_ret (v := .tuple #[.agg #[.int .i64 rt.part, .int .i64 rt.at_, .int .i64 rt.clause, .slice ra rt.path.length rcap], .int .i64 60]) (by simp [results, Tryz.results113, go_sem, f0, f1, f2, f3]) rfl hff
      · have hbig' : ¬ (60 : Int) < (n : Int) + (m : Int) := by omega
        have hB5 : Below V3.heap.size V3 (V3.alloc (.cells #[.int .i64 k.1, .int .i64 k.2] 163)).drew := ((Below.refl _ _).alloc (Nat.le_refl _) _).drew
        have hff : QQ (.returned (.tuple #[.agg #[.int .i64 0, .int .i64 0, .int .i64 0, .slice none 0 0], .int .i64 0])) (V3.alloc (.cells #[.int .i64 k.1, .int .i64 k.2] 163)).drew := by
          rw [← hQH.out, hRH.out, if_neg hbig]
          exact ⟨_, hst3.1.trans (Fr.bel hB5 _), hst3.2.1.bel hB5 hst3.2.1.1, rfl⟩
        have f0 := hres3.2.1 0 (by simp)
        have f1 := hres3.2.1 1 (by simp)
        have f2 := hres3.2.1 2 (by simp)
        have f3 := hres3.2.1 3 (by simp)
        have z0 := hres3.2.2 0
        have z1 := hres3.2.2 1
        have z2 := hres3.2.2 2
        have z3 := hres3.2.2 3
        have j0 := set_id f0
        have j1 := set_id f1
        have j2 := set_id f2
        have j3 := set_id f3
        have hq5 := hres3.bel hB5 hres3.1
        have u0 := hq5.2.1 0 (by simp)
        have u1 := hq5.2.1 1 (by simp)
        have u2 := hq5.2.1 2 (by simp)
        have u3 := hq5.2.1 3 (by simp)
        have l4 := hres3.1
        clear hst3 hres3 hq5 hB5
        go_wp2
        exact bodyPost_ret (v := .tuple #[.agg #[.int .i64 0, .int .i64 0, .int .i64 0, .slice none 0 0], .int .i64 0]) (by simp [results, Tryz.results113, go_sem, f0, f1, f2, f3, l4]) rfl hff
end Go.Proofs.YthnmjafoplfikaaGreatDoor


namespace Go.Proofs.YthnmjafoplfikaaGreatDoor
open Go.RowKit

/-- What a part with expressions answers. -/
def PeP (p : Pk) (pc : List Value) (cb s : Nat) (sv : Value) (seen : Sn) (o : Option (Sp × Nat)) (W : World) (e : Ending) (W' : World) : Prop := (match o with
  | none => e = .returned (.tuple #[.agg #[.int .i64 0, .int .i64 0, .int .i64 0, .slice none 0 0], .int .i64 0])
  | some f => ∃ pv, e = .returned (.tuple #[.agg #[.int .i64 f.1.part, .int .i64 f.1.at_, .int .i64 f.1.clause, pv], .int .i64 (f.2 : Int)]) ∧ W'.ownsRow W.heap.size 3 1 pv f.1.path.length (ptC f.1.path)) ∧ CkS p pc cb s W' seen sv ∧ Fr cb W sv W' sv
theorem gA {W X : World} {r : Option Nat} (h : W.grownBy X r) (o : Obj) : W.grownBy (X.alloc o) r := h.andThen (World.grownBy_alloc X o none) (by simp)
theorem gD {W X : World} {r : Option Nat} (h : W.grownBy X r) : W.grownBy X.drew r := ⟨h.os, h.tape, h.output, h.size, h.block⟩
theorem gS {W X : World} {r : Option Nat} (h : W.grownBy X r) {b : Nat} (hb : W.heap.size ≤ b) (i : Nat) (v : Value) : W.grownBy (X.setCell ⟨b, i, none⟩ v) r := h.andThen (gr_set X b i v) (by intro k hk; injection hk with hk; omega)
theorem bz0 (D : World) (z : Array Value) (t : TypeId) (a b : Obj) : Bx (((D.alloc (.cells z t)).alloc a).alloc b) D.heap.size z.toList := ((bx_new D z t).kept (World.grownBy_alloc _ a none) (by simp)).kept (World.grownBy_alloc _ b none) (by simp)
theorem bz1 (D : World) (z : Array Value) (t : TypeId) (a b : Obj) : Bx (((D.alloc a).alloc (.cells z t)).alloc b) (D.heap.size + 1) z.toList := by
  have h := (bx_new (D.alloc a) z t).kept (World.grownBy_alloc _ b none) (by simp)
  rw [show (D.alloc a).heap.size = D.heap.size + 1 by simp] at h
  exact h
theorem bz2 (D : World) (z : Array Value) (t : TypeId) (a b : Obj) : Bx (((D.alloc a).alloc b).alloc (.cells z t)) (D.heap.size + 1 + 1) z.toList := by
  have h := bx_new ((D.alloc a).alloc b) z t
  rw [show ((D.alloc a).alloc b).heap.size = D.heap.size + 1 + 1 by simp] at h
  exact h
theorem ke_step (p : Pk) (l : List Ck) {i : Nat} (h : i < l.length) : keF p (l.drop i) i = match (nxF p l[i].group (itF 6 i) (3, -1) l[i].when_ 0).2 with
    | some f => some f
    | none => keF p (l.drop (i + 1)) (i + 1) := by
  rw [List.drop_eq_getElem_cons h]
  rfl
theorem pe_set {p : Pk} {pc : List Value} {cb s : Nat} {W X X' : World} {seen : Sn} {sv rv u : Value} {b i k : Nat} {xs : List Value} (h : CkS p pc cb s X seen sv ∧ Fr cb W sv X sv ∧ X.ownsRow W.heap.size 3 1 rv k xs) {hx : X.setCell ⟨b, i, none⟩ u = X'} (hb : W.heap.size ≤ b ∧ cb + 1 ≤ b ∧ some b ≠ sv.ownBlock ∧ (rv.ownBlock = none ∨ rv.ownBlock ≠ some b)) : CkS p pc cb s X' seen sv ∧ Fr cb W sv X' sv ∧ X'.ownsRow W.heap.size 3 1 rv k xs := by
  rw [← hx]
  have := ck_set ⟨h.1, h.2.1⟩ hb.2.1 hb.1 hb.2.2.1 i u
  exact ⟨this.1, this.2, h.2.2.kept (gr_set X b i u) hb.2.2.2⟩
theorem own_ne {X : World} {rv : Value} {n : Nat} (h : rv.ownBlock = (Value.slice none 0 0).ownBlock ∨ ∃ b, rv.ownBlock = some b ∧ X.heap.size ≤ b) (hn : n < X.heap.size) : rv.ownBlock = none ∨ rv.ownBlock ≠ some n := by
  rcases h with e | ⟨b, e, hb⟩
  · exact .inl e
  · right
    rw [e]
    intro e2
    injection e2 with e2
    omega
theorem own_ge {X : World} {rv : Value} {B k n : Nat} {xs : List Value} (h : X.ownsRow B 3 1 rv k xs) (hn : n < B) : rv.ownBlock = none ∨ rv.ownBlock ≠ some n := by
  cases hv : rv.ownBlock with
  | none => exact .inl rfl
  | some q =>
    right
    intro e
    have := (h.lt q hv).1
    injection e with e
    omega
theorem nxF_pos {p : Pk} {g : Int} {rt : Sp} {mu : Kd} {x : Ex} {n n' : Nat} {f : Sp × Nat} (h : nxF p g rt mu x n = (n', some f)) : 0 < f.2 := by
  unfold nxF at h
  rcases hT : tN p g 8 x 0 with ⟨m, er | k⟩
  · rw [hT] at h
    injection h with _ h
    injection h with h
    subst h
    exact tN_err p g 8 x 0 m er hT
  · rw [hT] at h
    simp only at h
    split at h
    · injection h with _ h
      split at h
      · injection h with h; subst h; exact Nat.zero_lt_succ _
      · cases h
    · injection h with _ h
      injection h with h
      subst h
      exact Nat.zero_lt_succ _
theorem gr_of_fr {xb : Nat} {W X Y : World} {rv : Value} (h : W.grownBy X (some xb)) (hF : Fr xb X (.slice none 0 0) Y rv) : W.grownBy Y (some xb) :=
  ⟨hF.os.trans h.os, hF.tape.trans h.tape, hF.output.trans h.output, Nat.le_trans h.size hF.size, fun b hb hne => (hF.blk b (Nat.lt_of_lt_of_le hb h.size) (fun e => hne (by rw [e])) (by intro e; cases e)).trans (h.block b hb hne)⟩
set_option maxRecDepth 20000 in
set_option maxHeartbeats 4000000 in
theorem keP_any (p : Pk) (a3 a4 a5 a6 a7 : Option Addr) (c3 c4 c5 c6 c7 : Nat) (cb s : Nat) (W : World) (seen : Sn) (sv : Value) (h : CkS p (scP p a3 a4 a5 a6 a7 c3 c4 c5 c6 c7) cb s W seen sv) (hl : p.cks.length ≤ 1000000) (hz : ∀ k ∈ p.cks, SzE k.when_) : Calls Tryz.prog 82 #[.pointer (some ⟨cb, 0, none⟩)] W (PeP p (scP p a3 a4 a5 a6 a7 c3 c4 c5 c6 c7) cb s sv seen (keF p p.cks 0) W) := by
  have hcb := h.lt
  obtain ⟨W1, hW1⟩ : ∃ W1, W1 = W.alloc (.cells #[.int .i64 0, .int .i64 0, .int .i64 0, .slice none 0 0] 105) := ⟨_, rfl⟩
  have hB1 : Below W.heap.size W W1 := by rw [hW1]; exact (Below.refl _ _).alloc (Nat.le_refl _) _
  have hbz : Bx W1 W.heap.size [.int .i64 0, .int .i64 0, .int .i64 0, .slice none 0 0] := by rw [hW1]; exact bx_new _ _ _
  have hk1 := h.bel hB1
  have hrz : some W.heap.size ≠ sv.ownBlock := fun e => by
    have := (h.pg _ e.symm).2
    omega
  have hpgH := Hid.mk h.pg
  obtain ⟨R, hR⟩ : ∃ R, keF p p.cks 0 = R := ⟨_, rfl⟩
  rw [hR]
  have hst : Hid (keF p (p.cks.drop 0) 0 = R) := ⟨by rw [List.drop_zero]; exact hR⟩
  obtain ⟨QQ, hQQ⟩ : ∃ QQ, PeP p (scP p a3 a4 a5 a6 a7 c3 c4 c5 c6 c7) cb s sv seen R W = QQ := ⟨_, rfl⟩
  rw [hQQ]
  have hQH := Hid.mk hQQ
  have hW1H := Hid.mk hW1
  obtain ⟨q0, q1, q2, q3, q4, q5, q6⟩ := h.cells
  have hW1s : W.heap.size < W1.heap.size := hbz.1
  clear hQQ hW1 hR
  go_enter Tryz.func82, Tryz.ntmps82
  go_wp2
  rw [← hW1H.out]
  clear hW1H q0 q1 q2 q3 q4 q5 q6
  go_loopw [15] (fun iv wr => ∃ (i : Nat), iv = .int .i64 (i : Int) ∧ i ≤ p.cks.length ∧ Below W1.heap.size W1 wr ∧ Hid (keF p (p.cks.drop i) i = R)) (fun iv _ => p.cks.length - (intOf iv).toNat)
  case atStart => exact ⟨0, rfl, Nat.zero_le _, Below.refl _ _, hst⟩
  case round =>
    obtain ⟨i, rfl, hi, hBr, hinv⟩ := hrel
    have hkr := hk1.bel hBr
    have hbr := hbz.bel hBr hbz.1
    have hBW := bthr hB1 hBr (Nat.le_refl _)
    have hwW : W.heap.size < wr.heap.size := Nat.lt_of_lt_of_le hW1s hBr.size
    by_cases hlt : i < p.cks.length
    · have hlt' : (i : Int) < (p.cks.length : Int) := by omega
      have hi0 : (0 : Int) ≤ (i : Int) := by omega
      have hRr := hkr.rows.2.2.2.2
      obtain ⟨ge, oe, hga⟩ := hRr.some hlt
      subst hga
      obtain ⟨cs, -, hge, ⟨an, cn, rfl, -, -, hFo⟩, hcs⟩ := hRr.item hlt
      have kx : wr.cell? ⟨ge, oe + i * 9, none⟩ = some (.string ⟨p.cks[i].name.toArray⟩) ∧ wr.cell? ⟨ge, oe + i * 9 + 1, none⟩ = some (.bool p.cks[i].hard) ∧ wr.cell? ⟨ge, oe + i * 9 + 2, none⟩ = some (.int .i64 p.cks[i].group) ∧ wr.cell? ⟨ge, oe + i * 9 + 3, none⟩ = some (.int .i64 p.cks[i].when_.op) ∧ wr.cell? ⟨ge, oe + i * 9 + 4, none⟩ = some (.int .i64 p.cks[i].when_.num) ∧ wr.cell? ⟨ge, oe + i * 9 + 5, none⟩ = some (.int .i64 p.cks[i].when_.den) ∧ wr.cell? ⟨ge, oe + i * 9 + 6, none⟩ = some (.int .i64 p.cks[i].when_.mode) ∧ wr.cell? ⟨ge, oe + i * 9 + 7, none⟩ = some (.slice an p.cks[i].when_.args.len cn) ∧ wr.cell? ⟨ge, oe + i * 9 + 8, none⟩ = some (.string ⟨p.cks[i].text.toArray⟩) := ⟨hcs 0 (by decide), hcs 1 (by decide), hcs 2 (by decide), hcs 3 (by decide), hcs 4 (by decide), hcs 5 (by decide), hcs 6 (by decide), hcs 7 (by decide), hcs 8 (by decide)⟩
      have hinv2 := hinv.out
      rw [ke_step p p.cks hlt] at hinv2
      have hzy := hz _ (List.getElem_mem hlt)
      generalize p.cks[i] = y at kx hinv2 hFo hzy
      obtain ⟨X1, hX1⟩ : ∃ X1, X1 = (wr.alloc (.cells #[.string ⟨y.name.toArray⟩, .bool y.hard, .int .i64 y.group, .int .i64 y.when_.op, .int .i64 y.when_.num, .int .i64 y.when_.den, .int .i64 y.when_.mode, .slice an y.when_.args.len cn, .string ⟨y.text.toArray⟩] 75)).alloc (.cells #[.pointer (some ⟨cb, 0, none⟩), .int .i64 y.group, .int .i64 0] 198) := ⟨_, rfl⟩
      have hBX : Below wr.heap.size wr X1 := by rw [hX1]; exact ((Below.refl _ _).alloc (Nat.le_refl _) _).alloc (by simp) _
      have hby : Bx X1 wr.heap.size [.string ⟨y.name.toArray⟩, .bool y.hard, .int .i64 y.group, .int .i64 y.when_.op, .int .i64 y.when_.num, .int .i64 y.when_.den, .int .i64 y.when_.mode, .slice an y.when_.args.len cn, .string ⟨y.text.toArray⟩] := by rw [hX1]; exact (bx_new wr #[.string ⟨y.name.toArray⟩, .bool y.hard, .int .i64 y.group, .int .i64 y.when_.op, .int .i64 y.when_.num, .int .i64 y.when_.den, .int .i64 y.when_.mode, .slice an y.when_.args.len cn, .string ⟨y.text.toArray⟩] 75).kept (World.grownBy_alloc _ _ none) (by simp)
      have hbx : Bx X1 (wr.heap.size + 1) [.pointer (some ⟨cb, 0, none⟩), .int .i64 y.group, .int .i64 0] := by
        have := bx_new (wr.alloc (.cells #[.string ⟨y.name.toArray⟩, .bool y.hard, .int .i64 y.group, .int .i64 y.when_.op, .int .i64 y.when_.num, .int .i64 y.when_.den, .int .i64 y.when_.mode, .slice an y.when_.args.len cn, .string ⟨y.text.toArray⟩] 75)) #[.pointer (some ⟨cb, 0, none⟩), .int .i64 y.group, .int .i64 0] 198
        rw [show (wr.alloc (.cells #[.string ⟨y.name.toArray⟩, .bool y.hard, .int .i64 y.group, .int .i64 y.when_.op, .int .i64 y.when_.num, .int .i64 y.when_.den, .int .i64 y.when_.mode, .slice an y.when_.args.len cn, .string ⟨y.text.toArray⟩] 75)).heap.size = wr.heap.size + 1 by simp, ← hX1] at this
        exact this
      have hsX : X1.heap.size = wr.heap.size + 1 + 1 := by rw [hX1]; simp
      have hsXH := Hid.mk hsX
      have hxlt : wr.heap.size + 1 < X1.heap.size := hbx.1
      have hkX := hkr.bel hBX
      have hrX := hbr.bel hBX hbr.1
      have hwr := hkr.lt
      have hNx : Hid (∀ X, Below X1.heap.size X1 X → Calls Tryz.prog 113 #[.pointer (some ⟨wr.heap.size + 1, 0, none⟩), .agg #[.int .i64 6, .int .i64 (i : Int), .int .i64 (-1), .slice none 0 0], .agg #[.int .i64 3, .int .i64 (-1)], .agg #[.int .i64 y.when_.op, .int .i64 y.when_.num, .int .i64 y.when_.den, .int .i64 y.when_.mode, .slice an y.when_.args.len cn]] X (fun e w5 => NxP X1.heap.size (wr.heap.size + 1) cb y.group (.slice none 0 0) (nxF p y.group (itF 6 i) (3, -1) y.when_ 0) X e w5 ∧ X1.grownBy w5 (some (wr.heap.size + 1)) ∧ Below W1.heap.size W1 w5)) := ⟨fun X hX => (next_any p y.group a3 a4 a5 a6 (some ⟨ge, oe, none⟩) c3 c4 c5 c6 c7 cb s (wr.heap.size + 1) X1.heap.size (itF 6 i) (.slice none 0 0) (3, -1) y.when_ an cn 0 X seen sv (hkX.bel hX) (hbx.bel hX hbx.1) (by omega) (World.ownsRow_nil _ _ _ _) (by omega) hX.size (Nat.zero_le _) (Nat.zero_le _) (FoAt.mo (fun _ _ _ => trivial) _ _ (FoAt.fr (Nat.le_trans hBX.size hX.size) (fun b hb hlt => (hX.block b (Nat.lt_of_lt_of_le hlt hBX.size)).trans (hBX.block b hlt)) _ _ hFo)) hzy).mono (fun e w5 hn => by
        obtain ⟨rv', hF5, hrest⟩ := hn
        have hbX : Below W1.heap.size W1 X := bthr (bthr hBr hBX (Nat.le_refl _)) hX (Nat.le_refl _)
        exact ⟨⟨rv', hF5, hrest⟩, gr_of_fr ⟨hX.os, hX.tape, hX.output, hX.size, fun b hb _ => hX.block b hb⟩ hF5, hbX.trans (hF5.below (by have := hBr.size; omega) hbX.size (fun q hq => by cases hq))⟩)⟩
      obtain ⟨RN, hRN⟩ : ∃ RN, nxF p y.group (itF 6 i) (3, -1) y.when_ 0 = RN := ⟨_, rfl⟩
      have hposH : Hid (∀ n2 f, RN = (n2, some f) → (((f.2 : Nat) : Int) != 0) = true) := ⟨fun n2 f hh => by have := nxF_pos (hRN.trans hh); simp; omega⟩
      rw [hRN] at hNx hinv2
      have hSH : Hid (∀ Y, X1.grownBy Y (some (wr.heap.size + 1)) → Y.cell? ⟨wr.heap.size, 3, none⟩ = some (.int .i64 y.when_.op) ∧ Y.cell? ⟨wr.heap.size, 4, none⟩ = some (.int .i64 y.when_.num) ∧ Y.cell? ⟨wr.heap.size, 5, none⟩ = some (.int .i64 y.when_.den) ∧ Y.cell? ⟨wr.heap.size, 6, none⟩ = some (.int .i64 y.when_.mode) ∧ Y.cell? ⟨wr.heap.size, 7, none⟩ = some (.slice an y.when_.args.len cn)) := ⟨fun Y hY => by
        have h2 := hby.kept hY (by intro e; injection e with e; omega)
        exact ⟨h2.2.1 3 (by simp), h2.2.1 4 (by simp), h2.2.1 5 (by simp), h2.2.1 6 (by simp), h2.2.1 7 (by simp)⟩⟩
      clear hsX
      have hgd : X1.grownBy X1.drew (some (wr.heap.size + 1)) := gD (gr_refl _ _)
      have hS0 := hSH.out _ hgd
      have hsd : X1.drew.heap.size = X1.heap.size := rfl
      obtain ⟨d0, d1, d2, d3, d4, d5, d6, d7, d8⟩ := kx
      have hX1H := Hid.mk hX1
      clear hcs hRr hinv hX1 hRN
      go_wp2_with fail
      rw [← hX1H.out]
      clear hX1H
      obtain ⟨n2, o2⟩ := RN
      cases o2 with
      | none =>
        simp only at hinv2
        have hs2 := Hid.mk hinv2
        clear hinv2
        go_region_held3 (fun Y => Y.cell? ⟨wr.heap.size, 3, none⟩ = some (.int .i64 y.when_.op) ∧ Y.cell? ⟨wr.heap.size, 4, none⟩ = some (.int .i64 y.when_.num) ∧ Y.cell? ⟨wr.heap.size, 5, none⟩ = some (.int .i64 y.when_.den) ∧ Y.cell? ⟨wr.heap.size, 6, none⟩ = some (.int .i64 y.when_.mode) ∧ Y.cell? ⟨wr.heap.size, 7, none⟩ = some (.slice an y.when_.args.len cn)) (first | assumption | exact hSH.out _ (by repeat (first | exact hg5 | exact gr_refl _ _ | refine gA ?_ _ | refine gD ?_ | refine gS ?_ (by omega) _ _)))
          (first
            | (go_at_call 96; refine (itemAt_any _ _ _).mono ?_; rintro e w9 ⟨rfl, rfl⟩)
            | (go_at_call 114; refine (plain_any _ _).mono ?_; rintro e w9 ⟨rfl, rfl⟩)
            | (go_at_call 113; refine (hNx.out _ (by repeat (first | exact Below.refl _ _ | refine Below.alloc ?_ (by first | exact Nat.le_refl _ | (simp; done) | (simp; omega)) _ | refine Below.drew ?_))).mono ?_; clear hNx; rintro e w5 ⟨⟨rv', hF5, hbx5, rfl⟩, hg5, hb5⟩; have hS5 := hSH.out _ hg5; first | (have hz5 : Bx w5 (X1.heap.size) [.int .i64 0, .int .i64 0, .int .i64 0, .slice none 0 0] := hF5.box (bz0 X1.drew #[.int .i64 0, .int .i64 0, .int .i64 0, .slice none 0 0] 105 _ _) (by have := hsXH.out; omega) (by intro e; cases e); have kz0 := hz5.2.1 0 (by simp); have kf0 := hz5.2.2 0; have ks0 := set_id kz0; have kz1 := hz5.2.1 1 (by simp); have kf1 := hz5.2.2 1; have ks1 := set_id kz1; have kz2 := hz5.2.1 2 (by simp); have kf2 := hz5.2.2 2; have ks2 := set_id kz2; have kz3 := hz5.2.1 3 (by simp); have kf3 := hz5.2.2 3; have ks3 := set_id kz3) | (have hz5 : Bx w5 (X1.heap.size + 1) [.int .i64 0, .int .i64 0, .int .i64 0, .slice none 0 0] := hF5.box (bz1 X1.drew #[.int .i64 0, .int .i64 0, .int .i64 0, .slice none 0 0] 105 _ _) (by have := hsXH.out; omega) (by intro e; cases e); have kz0 := hz5.2.1 0 (by simp); have kf0 := hz5.2.2 0; have ks0 := set_id kz0; have kz1 := hz5.2.1 1 (by simp); have kf1 := hz5.2.2 1; have ks1 := set_id kz1; have kz2 := hz5.2.1 2 (by simp); have kf2 := hz5.2.2 2; have ks2 := set_id kz2; have kz3 := hz5.2.1 3 (by simp); have kf3 := hz5.2.2 3; have ks3 := set_id kz3) | (have hz5 : Bx w5 (X1.heap.size + 1 + 1) [.int .i64 0, .int .i64 0, .int .i64 0, .slice none 0 0] := hF5.box (bz2 X1.drew #[.int .i64 0, .int .i64 0, .int .i64 0, .slice none 0 0] 105 _ _) (by have := hsXH.out; omega) (by intro e; cases e); have kz0 := hz5.2.1 0 (by simp); have kf0 := hz5.2.2 0; have ks0 := set_id kz0; have kz1 := hz5.2.1 1 (by simp); have kf1 := hz5.2.2 1; have ks1 := set_id kz1; have kz2 := hz5.2.1 2 (by simp); have kf2 := hz5.2.2 2; have ks2 := set_id kz2; have kz3 := hz5.2.1 3 (by simp); have kf3 := hz5.2.2 3; have ks3 := set_id kz3) | skip))
        all_goals clear hS5 hSH
        all_goals go_wp2
        all_goals exact ⟨⟨i + 1, rfl, hlt, (by first | exact hb5 | exact hb5.alloc hb5.size _), hs2⟩, by simp only [intOf]; omega⟩
      | some f =>
        simp only at hinv2
        have hRH := Hid.mk hinv2.symm
        have hkey : Hid (∀ w5, X1.grownBy w5 (some (wr.heap.size + 1)) → Below W1.heap.size W1 w5 → Bx w5 W.heap.size [.int .i64 0, .int .i64 0, .int .i64 0, .slice none 0 0] ∧ CkS p [.string ⟨p.name.toArray⟩, .int .i64 p.year, .slice a3 p.opts.length c3, .slice a4 p.tabs.length c4, .slice a5 p.grps.length c5, .slice a6 p.lns.length c6, .slice (some ⟨ge, oe, none⟩) p.cks.length c7] cb s w5 seen sv ∧ Fr cb W sv w5 sv) := ⟨fun w5 hg5 hb5 => ⟨hbz.bel hb5 hbz.1, hk1.bel hb5, (Fr.bel hB1 _).trans (Fr.bel hb5 _)⟩⟩
        have hne0 : (((f.2 : Nat) : Int) != 0) = true := hposH.out n2 f rfl
        clear hinv2
        go_region_held3 (fun Y => Y.cell? ⟨wr.heap.size, 3, none⟩ = some (.int .i64 y.when_.op) ∧ Y.cell? ⟨wr.heap.size, 4, none⟩ = some (.int .i64 y.when_.num) ∧ Y.cell? ⟨wr.heap.size, 5, none⟩ = some (.int .i64 y.when_.den) ∧ Y.cell? ⟨wr.heap.size, 6, none⟩ = some (.int .i64 y.when_.mode) ∧ Y.cell? ⟨wr.heap.size, 7, none⟩ = some (.slice an y.when_.args.len cn)) (first | assumption | exact hSH.out _ (by repeat (first | exact hg5 | exact gr_refl _ _ | refine gA ?_ _ | refine gD ?_ | refine gS ?_ (by omega) _ _)))
          (first
            | (go_at_call 96; refine (itemAt_any _ _ _).mono ?_; rintro e w9 ⟨rfl, rfl⟩)
            | (go_at_call 114; refine (plain_any _ _).mono ?_; rintro e w9 ⟨rfl, rfl⟩)
            | (go_at_call 113; refine (hNx.out _ (by repeat (first | exact Below.refl _ _ | refine Below.alloc ?_ (by first | exact Nat.le_refl _ | (simp; done) | (simp; omega)) _ | refine Below.drew ?_))).mono ?_; clear hNx; rintro e w5 ⟨⟨rv', hF5, hbx5, rfl, hown5⟩, hg5, hb5⟩; have hS5 := hSH.out _ hg5; obtain ⟨hr5, hk5, hF5w⟩ := hkey.out w5 hg5 hb5; obtain ⟨pa, pcap, hrve, -, -⟩ := own_int hown5; subst hrve; have hst5 : CkS p [.string ⟨p.name.toArray⟩, .int .i64 p.year, .slice a3 p.opts.length c3, .slice a4 p.tabs.length c4, .slice a5 p.grps.length c5, .slice a6 p.lns.length c6, .slice (some ⟨ge, oe, none⟩) p.cks.length c7] cb s w5 seen sv ∧ Fr cb W sv w5 sv ∧ w5.ownsRow W.heap.size 3 1 (.slice pa f.1.path.length pcap) f.1.path.length (ptC f.1.path) := ⟨hk5, hF5w, own_base hown5 (by have := hsXH.out; omega)⟩; have hrb : W.heap.size ≤ W.heap.size ∧ cb + 1 ≤ W.heap.size ∧ some W.heap.size ≠ sv.ownBlock ∧ ((Value.slice pa f.1.path.length pcap).ownBlock = none ∨ (Value.slice pa f.1.path.length pcap).ownBlock ≠ some W.heap.size) := ⟨Nat.le_refl _, hcb, hrz, own_ge hown5 (by have := hsXH.out; omega)⟩; first | (have hz5 : Bx w5 (X1.heap.size) [.int .i64 0, .int .i64 0, .int .i64 0, .slice none 0 0] := hF5.box (bz0 X1.drew #[.int .i64 0, .int .i64 0, .int .i64 0, .slice none 0 0] 105 _ _) (by have := hsXH.out; omega) (by intro e; cases e); have hzn : (Value.slice pa f.1.path.length pcap).ownBlock = none ∨ (Value.slice pa f.1.path.length pcap).ownBlock ≠ some (X1.heap.size) := own_ne (hF5.new) (bz0 X1.drew #[.int .i64 0, .int .i64 0, .int .i64 0, .slice none 0 0] 105 _ _).1; have hzb : W.heap.size ≤ (X1.heap.size) ∧ cb + 1 ≤ (X1.heap.size) ∧ some (X1.heap.size) ≠ sv.ownBlock ∧ ((Value.slice pa f.1.path.length pcap).ownBlock = none ∨ (Value.slice pa f.1.path.length pcap).ownBlock ≠ some (X1.heap.size)) := ⟨by have := hsXH.out; omega, by have := hsXH.out; omega, (fun e => by have := (hpgH.out _ e.symm).2; have := hsXH.out; omega), hzn⟩; have vq0 := hz5; have vt0 := hst5; have vg0 : w5.cell? ⟨X1.heap.size, 0, none⟩ = some (.int .i64 0) := vq0.2.1 0 (by simp); have vh0 := vq0.2.2 0; have vl0 := vq0.1; obtain ⟨V1, vx0⟩ : ∃ V1, w5.setCell ⟨X1.heap.size, 0, none⟩ (.int .i64 f.1.part) = V1 := ⟨_, rfl⟩; have vq1 : Bx V1 (X1.heap.size) [(.int .i64 f.1.part), (.int .i64 0), (.int .i64 0), (.slice none 0 0)] := (by rw [← vx0]; exact vq0.set 0 (.int .i64 f.1.part)); have vt1 := pe_set (hx := vx0) vt0 hzb; have vg1 : V1.cell? ⟨X1.heap.size, 1, none⟩ = some (.int .i64 0) := vq1.2.1 1 (by simp); have vh1 := vq1.2.2 1; have vl1 := vq1.1; obtain ⟨V2, vx1⟩ : ∃ V2, V1.setCell ⟨X1.heap.size, 1, none⟩ (.int .i64 f.1.at_) = V2 := ⟨_, rfl⟩; have vq2 : Bx V2 (X1.heap.size) [(.int .i64 f.1.part), (.int .i64 f.1.at_), (.int .i64 0), (.slice none 0 0)] := (by rw [← vx1]; exact vq1.set 1 (.int .i64 f.1.at_)); have vt2 := pe_set (hx := vx1) vt1 hzb; have vg2 : V2.cell? ⟨X1.heap.size, 2, none⟩ = some (.int .i64 0) := vq2.2.1 2 (by simp); have vh2 := vq2.2.2 2; have vl2 := vq2.1; obtain ⟨V3, vx2⟩ : ∃ V3, V2.setCell ⟨X1.heap.size, 2, none⟩ (.int .i64 f.1.clause) = V3 := ⟨_, rfl⟩; have vq3 : Bx V3 (X1.heap.size) [(.int .i64 f.1.part), (.int .i64 f.1.at_), (.int .i64 f.1.clause), (.slice none 0 0)] := (by rw [← vx2]; exact vq2.set 2 (.int .i64 f.1.clause)); have vt3 := pe_set (hx := vx2) vt2 hzb; have vg3 : V3.cell? ⟨X1.heap.size, 3, none⟩ = some (.slice none 0 0) := vq3.2.1 3 (by simp); have vh3 := vq3.2.2 3; have vl3 := vq3.1; obtain ⟨V4, vx3⟩ : ∃ V4, V3.setCell ⟨X1.heap.size, 3, none⟩ (.slice pa f.1.path.length pcap) = V4 := ⟨_, rfl⟩; have vq4 : Bx V4 (X1.heap.size) [(.int .i64 f.1.part), (.int .i64 f.1.at_), (.int .i64 f.1.clause), (.slice pa f.1.path.length pcap)] := (by rw [← vx3]; exact vq3.set 3 (.slice pa f.1.path.length pcap)); have vt4 := pe_set (hx := vx3) vt3 hzb; have hnz : some W.heap.size ≠ some (X1.heap.size) := (by intro e; injection e with e; have := hsXH.out; omega); have hrV : Bx V4 W.heap.size [.int .i64 0, .int .i64 0, .int .i64 0, .slice none 0 0] := (by rw [← vx3, ← vx2, ← vx1, ← vx0]; exact (((hr5.kept (gr_set _ _ _ _) hnz).kept (gr_set _ _ _ _) hnz).kept (gr_set _ _ _ _) hnz).kept (gr_set _ _ _ _) hnz); have hzx : X1.heap.size ≤ (X1.heap.size) := (by omega); have hSV := hSH.out V4 (by rw [← vx3, ← vx2, ← vx1, ← vx0]; exact gS (gS (gS (gS hg5 hzx _ _) hzx _ _) hzx _ _) hzx _ _); have uq0 := hrV; have ut0 := vt4; have ug0 : V4.cell? ⟨W.heap.size, 0, none⟩ = some (.int .i64 0) := uq0.2.1 0 (by simp); have uh0 := uq0.2.2 0; have ul0 := uq0.1; obtain ⟨U1, ux0⟩ : ∃ U1, V4.setCell ⟨W.heap.size, 0, none⟩ (.int .i64 f.1.part) = U1 := ⟨_, rfl⟩; have uq1 : Bx U1 (W.heap.size) [(.int .i64 f.1.part), (.int .i64 0), (.int .i64 0), (.slice none 0 0)] := (by rw [← ux0]; exact uq0.set 0 (.int .i64 f.1.part)); have ut1 := pe_set (hx := ux0) ut0 hrb; have ug1 : U1.cell? ⟨W.heap.size, 1, none⟩ = some (.int .i64 0) := uq1.2.1 1 (by simp); have uh1 := uq1.2.2 1; have ul1 := uq1.1; obtain ⟨U2, ux1⟩ : ∃ U2, U1.setCell ⟨W.heap.size, 1, none⟩ (.int .i64 f.1.at_) = U2 := ⟨_, rfl⟩; have uq2 : Bx U2 (W.heap.size) [(.int .i64 f.1.part), (.int .i64 f.1.at_), (.int .i64 0), (.slice none 0 0)] := (by rw [← ux1]; exact uq1.set 1 (.int .i64 f.1.at_)); have ut2 := pe_set (hx := ux1) ut1 hrb; have ug2 : U2.cell? ⟨W.heap.size, 2, none⟩ = some (.int .i64 0) := uq2.2.1 2 (by simp); have uh2 := uq2.2.2 2; have ul2 := uq2.1; obtain ⟨U3, ux2⟩ : ∃ U3, U2.setCell ⟨W.heap.size, 2, none⟩ (.int .i64 f.1.clause) = U3 := ⟨_, rfl⟩; have uq3 : Bx U3 (W.heap.size) [(.int .i64 f.1.part), (.int .i64 f.1.at_), (.int .i64 f.1.clause), (.slice none 0 0)] := (by rw [← ux2]; exact uq2.set 2 (.int .i64 f.1.clause)); have ut3 := pe_set (hx := ux2) ut2 hrb; have ug3 : U3.cell? ⟨W.heap.size, 3, none⟩ = some (.slice none 0 0) := uq3.2.1 3 (by simp); have uh3 := uq3.2.2 3; have ul3 := uq3.1; obtain ⟨U4, ux3⟩ : ∃ U4, U3.setCell ⟨W.heap.size, 3, none⟩ (.slice pa f.1.path.length pcap) = U4 := ⟨_, rfl⟩; have uq4 : Bx U4 (W.heap.size) [(.int .i64 f.1.part), (.int .i64 f.1.at_), (.int .i64 f.1.clause), (.slice pa f.1.path.length pcap)] := (by rw [← ux3]; exact uq3.set 3 (.slice pa f.1.path.length pcap)); have ut4 := pe_set (hx := ux3) ut3 hrb; have g0 := vq4.2.1 0 (by simp); have g1 := vq4.2.1 1 (by simp); have g2 := vq4.2.1 2 (by simp); have g3 := vq4.2.1 3 (by simp); have hff : QQ (.returned (.tuple #[.agg #[.int .i64 f.1.part, .int .i64 f.1.at_, .int .i64 f.1.clause, .slice pa f.1.path.length pcap], .int .i64 (f.2 : Int)])) U4 := (by rw [← hQH.out, hRH.out]; exact ⟨⟨_, rfl, ut4.2.2⟩, ut4.1, ut4.2.1⟩); have f0 := uq4.2.1 0 (by simp); have f1 := uq4.2.1 1 (by simp); have f2 := uq4.2.1 2 (by simp); have f3 := uq4.2.1 3 (by simp); have l4 := uq4.1; clear vq0 vt0 uq0 ut0 vq1 vt1 uq1 ut1 vq2 vt2 uq2 ut2 vq3 vt3 uq3 ut3 vq4 vt4 uq4 ut4) | (have hz5 : Bx w5 (X1.heap.size + 1) [.int .i64 0, .int .i64 0, .int .i64 0, .slice none 0 0] := hF5.box (bz1 X1.drew #[.int .i64 0, .int .i64 0, .int .i64 0, .slice none 0 0] 105 _ _) (by have := hsXH.out; omega) (by intro e; cases e); have hzn : (Value.slice pa f.1.path.length pcap).ownBlock = none ∨ (Value.slice pa f.1.path.length pcap).ownBlock ≠ some (X1.heap.size + 1) := own_ne (hF5.new) (bz1 X1.drew #[.int .i64 0, .int .i64 0, .int .i64 0, .slice none 0 0] 105 _ _).1; have hzb : W.heap.size ≤ (X1.heap.size + 1) ∧ cb + 1 ≤ (X1.heap.size + 1) ∧ some (X1.heap.size + 1) ≠ sv.ownBlock ∧ ((Value.slice pa f.1.path.length pcap).ownBlock = none ∨ (Value.slice pa f.1.path.length pcap).ownBlock ≠ some (X1.heap.size + 1)) := ⟨by have := hsXH.out; omega, by have := hsXH.out; omega, (fun e => by have := (hpgH.out _ e.symm).2; have := hsXH.out; omega), hzn⟩; have vq0 := hz5; have vt0 := hst5; have vg0 : w5.cell? ⟨X1.heap.size + 1, 0, none⟩ = some (.int .i64 0) := vq0.2.1 0 (by simp); have vh0 := vq0.2.2 0; have vl0 := vq0.1; obtain ⟨V1, vx0⟩ : ∃ V1, w5.setCell ⟨X1.heap.size + 1, 0, none⟩ (.int .i64 f.1.part) = V1 := ⟨_, rfl⟩; have vq1 : Bx V1 (X1.heap.size + 1) [(.int .i64 f.1.part), (.int .i64 0), (.int .i64 0), (.slice none 0 0)] := (by rw [← vx0]; exact vq0.set 0 (.int .i64 f.1.part)); have vt1 := pe_set (hx := vx0) vt0 hzb; have vg1 : V1.cell? ⟨X1.heap.size + 1, 1, none⟩ = some (.int .i64 0) := vq1.2.1 1 (by simp); have vh1 := vq1.2.2 1; have vl1 := vq1.1; obtain ⟨V2, vx1⟩ : ∃ V2, V1.setCell ⟨X1.heap.size + 1, 1, none⟩ (.int .i64 f.1.at_) = V2 := ⟨_, rfl⟩; have vq2 : Bx V2 (X1.heap.size + 1) [(.int .i64 f.1.part), (.int .i64 f.1.at_), (.int .i64 0), (.slice none 0 0)] := (by rw [← vx1]; exact vq1.set 1 (.int .i64 f.1.at_)); have vt2 := pe_set (hx := vx1) vt1 hzb; have vg2 : V2.cell? ⟨X1.heap.size + 1, 2, none⟩ = some (.int .i64 0) := vq2.2.1 2 (by simp); have vh2 := vq2.2.2 2; have vl2 := vq2.1; obtain ⟨V3, vx2⟩ : ∃ V3, V2.setCell ⟨X1.heap.size + 1, 2, none⟩ (.int .i64 f.1.clause) = V3 := ⟨_, rfl⟩; have vq3 : Bx V3 (X1.heap.size + 1) [(.int .i64 f.1.part), (.int .i64 f.1.at_), (.int .i64 f.1.clause), (.slice none 0 0)] := (by rw [← vx2]; exact vq2.set 2 (.int .i64 f.1.clause)); have vt3 := pe_set (hx := vx2) vt2 hzb; have vg3 : V3.cell? ⟨X1.heap.size + 1, 3, none⟩ = some (.slice none 0 0) := vq3.2.1 3 (by simp); have vh3 := vq3.2.2 3; have vl3 := vq3.1; obtain ⟨V4, vx3⟩ : ∃ V4, V3.setCell ⟨X1.heap.size + 1, 3, none⟩ (.slice pa f.1.path.length pcap) = V4 := ⟨_, rfl⟩; have vq4 : Bx V4 (X1.heap.size + 1) [(.int .i64 f.1.part), (.int .i64 f.1.at_), (.int .i64 f.1.clause), (.slice pa f.1.path.length pcap)] := (by rw [← vx3]; exact vq3.set 3 (.slice pa f.1.path.length pcap)); have vt4 := pe_set (hx := vx3) vt3 hzb; have hnz : some W.heap.size ≠ some (X1.heap.size + 1) := (by intro e; injection e with e; have := hsXH.out; omega); have hrV : Bx V4 W.heap.size [.int .i64 0, .int .i64 0, .int .i64 0, .slice none 0 0] := (by rw [← vx3, ← vx2, ← vx1, ← vx0]; exact (((hr5.kept (gr_set _ _ _ _) hnz).kept (gr_set _ _ _ _) hnz).kept (gr_set _ _ _ _) hnz).kept (gr_set _ _ _ _) hnz); have hzx : X1.heap.size ≤ (X1.heap.size + 1) := (by omega); have hSV := hSH.out V4 (by rw [← vx3, ← vx2, ← vx1, ← vx0]; exact gS (gS (gS (gS hg5 hzx _ _) hzx _ _) hzx _ _) hzx _ _); have uq0 := hrV; have ut0 := vt4; have ug0 : V4.cell? ⟨W.heap.size, 0, none⟩ = some (.int .i64 0) := uq0.2.1 0 (by simp); have uh0 := uq0.2.2 0; have ul0 := uq0.1; obtain ⟨U1, ux0⟩ : ∃ U1, V4.setCell ⟨W.heap.size, 0, none⟩ (.int .i64 f.1.part) = U1 := ⟨_, rfl⟩; have uq1 : Bx U1 (W.heap.size) [(.int .i64 f.1.part), (.int .i64 0), (.int .i64 0), (.slice none 0 0)] := (by rw [← ux0]; exact uq0.set 0 (.int .i64 f.1.part)); have ut1 := pe_set (hx := ux0) ut0 hrb; have ug1 : U1.cell? ⟨W.heap.size, 1, none⟩ = some (.int .i64 0) := uq1.2.1 1 (by simp); have uh1 := uq1.2.2 1; have ul1 := uq1.1; obtain ⟨U2, ux1⟩ : ∃ U2, U1.setCell ⟨W.heap.size, 1, none⟩ (.int .i64 f.1.at_) = U2 := ⟨_, rfl⟩; have uq2 : Bx U2 (W.heap.size) [(.int .i64 f.1.part), (.int .i64 f.1.at_), (.int .i64 0), (.slice none 0 0)] := (by rw [← ux1]; exact uq1.set 1 (.int .i64 f.1.at_)); have ut2 := pe_set (hx := ux1) ut1 hrb; have ug2 : U2.cell? ⟨W.heap.size, 2, none⟩ = some (.int .i64 0) := uq2.2.1 2 (by simp); have uh2 := uq2.2.2 2; have ul2 := uq2.1; obtain ⟨U3, ux2⟩ : ∃ U3, U2.setCell ⟨W.heap.size, 2, none⟩ (.int .i64 f.1.clause) = U3 := ⟨_, rfl⟩; have uq3 : Bx U3 (W.heap.size) [(.int .i64 f.1.part), (.int .i64 f.1.at_), (.int .i64 f.1.clause), (.slice none 0 0)] := (by rw [← ux2]; exact uq2.set 2 (.int .i64 f.1.clause)); have ut3 := pe_set (hx := ux2) ut2 hrb; have ug3 : U3.cell? ⟨W.heap.size, 3, none⟩ = some (.slice none 0 0) := uq3.2.1 3 (by simp); have uh3 := uq3.2.2 3; have ul3 := uq3.1; obtain ⟨U4, ux3⟩ : ∃ U4, U3.setCell ⟨W.heap.size, 3, none⟩ (.slice pa f.1.path.length pcap) = U4 := ⟨_, rfl⟩; have uq4 : Bx U4 (W.heap.size) [(.int .i64 f.1.part), (.int .i64 f.1.at_), (.int .i64 f.1.clause), (.slice pa f.1.path.length pcap)] := (by rw [← ux3]; exact uq3.set 3 (.slice pa f.1.path.length pcap)); have ut4 := pe_set (hx := ux3) ut3 hrb; have g0 := vq4.2.1 0 (by simp); have g1 := vq4.2.1 1 (by simp); have g2 := vq4.2.1 2 (by simp); have g3 := vq4.2.1 3 (by simp); have hff : QQ (.returned (.tuple #[.agg #[.int .i64 f.1.part, .int .i64 f.1.at_, .int .i64 f.1.clause, .slice pa f.1.path.length pcap], .int .i64 (f.2 : Int)])) U4 := (by rw [← hQH.out, hRH.out]; exact ⟨⟨_, rfl, ut4.2.2⟩, ut4.1, ut4.2.1⟩); have f0 := uq4.2.1 0 (by simp); have f1 := uq4.2.1 1 (by simp); have f2 := uq4.2.1 2 (by simp); have f3 := uq4.2.1 3 (by simp); have l4 := uq4.1; clear vq0 vt0 uq0 ut0 vq1 vt1 uq1 ut1 vq2 vt2 uq2 ut2 vq3 vt3 uq3 ut3 vq4 vt4 uq4 ut4) | (have hz5 : Bx w5 (X1.heap.size + 1 + 1) [.int .i64 0, .int .i64 0, .int .i64 0, .slice none 0 0] := hF5.box (bz2 X1.drew #[.int .i64 0, .int .i64 0, .int .i64 0, .slice none 0 0] 105 _ _) (by have := hsXH.out; omega) (by intro e; cases e); have hzn : (Value.slice pa f.1.path.length pcap).ownBlock = none ∨ (Value.slice pa f.1.path.length pcap).ownBlock ≠ some (X1.heap.size + 1 + 1) := own_ne (hF5.new) (bz2 X1.drew #[.int .i64 0, .int .i64 0, .int .i64 0, .slice none 0 0] 105 _ _).1; have hzb : W.heap.size ≤ (X1.heap.size + 1 + 1) ∧ cb + 1 ≤ (X1.heap.size + 1 + 1) ∧ some (X1.heap.size + 1 + 1) ≠ sv.ownBlock ∧ ((Value.slice pa f.1.path.length pcap).ownBlock = none ∨ (Value.slice pa f.1.path.length pcap).ownBlock ≠ some (X1.heap.size + 1 + 1)) := ⟨by have := hsXH.out; omega, by have := hsXH.out; omega, (fun e => by have := (hpgH.out _ e.symm).2; have := hsXH.out; omega), hzn⟩; have vq0 := hz5; have vt0 := hst5; have vg0 : w5.cell? ⟨X1.heap.size + 1 + 1, 0, none⟩ = some (.int .i64 0) := vq0.2.1 0 (by simp); have vh0 := vq0.2.2 0; have vl0 := vq0.1; obtain ⟨V1, vx0⟩ : ∃ V1, w5.setCell ⟨X1.heap.size + 1 + 1, 0, none⟩ (.int .i64 f.1.part) = V1 := ⟨_, rfl⟩; have vq1 : Bx V1 (X1.heap.size + 1 + 1) [(.int .i64 f.1.part), (.int .i64 0), (.int .i64 0), (.slice none 0 0)] := (by rw [← vx0]; exact vq0.set 0 (.int .i64 f.1.part)); have vt1 := pe_set (hx := vx0) vt0 hzb; have vg1 : V1.cell? ⟨X1.heap.size + 1 + 1, 1, none⟩ = some (.int .i64 0) := vq1.2.1 1 (by simp); have vh1 := vq1.2.2 1; have vl1 := vq1.1; obtain ⟨V2, vx1⟩ : ∃ V2, V1.setCell ⟨X1.heap.size + 1 + 1, 1, none⟩ (.int .i64 f.1.at_) = V2 := ⟨_, rfl⟩; have vq2 : Bx V2 (X1.heap.size + 1 + 1) [(.int .i64 f.1.part), (.int .i64 f.1.at_), (.int .i64 0), (.slice none 0 0)] := (by rw [← vx1]; exact vq1.set 1 (.int .i64 f.1.at_)); have vt2 := pe_set (hx := vx1) vt1 hzb; have vg2 : V2.cell? ⟨X1.heap.size + 1 + 1, 2, none⟩ = some (.int .i64 0) := vq2.2.1 2 (by simp); have vh2 := vq2.2.2 2; have vl2 := vq2.1; obtain ⟨V3, vx2⟩ : ∃ V3, V2.setCell ⟨X1.heap.size + 1 + 1, 2, none⟩ (.int .i64 f.1.clause) = V3 := ⟨_, rfl⟩; have vq3 : Bx V3 (X1.heap.size + 1 + 1) [(.int .i64 f.1.part), (.int .i64 f.1.at_), (.int .i64 f.1.clause), (.slice none 0 0)] := (by rw [← vx2]; exact vq2.set 2 (.int .i64 f.1.clause)); have vt3 := pe_set (hx := vx2) vt2 hzb; have vg3 : V3.cell? ⟨X1.heap.size + 1 + 1, 3, none⟩ = some (.slice none 0 0) := vq3.2.1 3 (by simp); have vh3 := vq3.2.2 3; have vl3 := vq3.1; obtain ⟨V4, vx3⟩ : ∃ V4, V3.setCell ⟨X1.heap.size + 1 + 1, 3, none⟩ (.slice pa f.1.path.length pcap) = V4 := ⟨_, rfl⟩; have vq4 : Bx V4 (X1.heap.size + 1 + 1) [(.int .i64 f.1.part), (.int .i64 f.1.at_), (.int .i64 f.1.clause), (.slice pa f.1.path.length pcap)] := (by rw [← vx3]; exact vq3.set 3 (.slice pa f.1.path.length pcap)); have vt4 := pe_set (hx := vx3) vt3 hzb; have hnz : some W.heap.size ≠ some (X1.heap.size + 1 + 1) := (by intro e; injection e with e; have := hsXH.out; omega); have hrV : Bx V4 W.heap.size [.int .i64 0, .int .i64 0, .int .i64 0, .slice none 0 0] := (by rw [← vx3, ← vx2, ← vx1, ← vx0]; exact (((hr5.kept (gr_set _ _ _ _) hnz).kept (gr_set _ _ _ _) hnz).kept (gr_set _ _ _ _) hnz).kept (gr_set _ _ _ _) hnz); have hzx : X1.heap.size ≤ (X1.heap.size + 1 + 1) := (by omega); have hSV := hSH.out V4 (by rw [← vx3, ← vx2, ← vx1, ← vx0]; exact gS (gS (gS (gS hg5 hzx _ _) hzx _ _) hzx _ _) hzx _ _); have uq0 := hrV; have ut0 := vt4; have ug0 : V4.cell? ⟨W.heap.size, 0, none⟩ = some (.int .i64 0) := uq0.2.1 0 (by simp); have uh0 := uq0.2.2 0; have ul0 := uq0.1; obtain ⟨U1, ux0⟩ : ∃ U1, V4.setCell ⟨W.heap.size, 0, none⟩ (.int .i64 f.1.part) = U1 := ⟨_, rfl⟩; have uq1 : Bx U1 (W.heap.size) [(.int .i64 f.1.part), (.int .i64 0), (.int .i64 0), (.slice none 0 0)] := (by rw [← ux0]; exact uq0.set 0 (.int .i64 f.1.part)); have ut1 := pe_set (hx := ux0) ut0 hrb; have ug1 : U1.cell? ⟨W.heap.size, 1, none⟩ = some (.int .i64 0) := uq1.2.1 1 (by simp); have uh1 := uq1.2.2 1; have ul1 := uq1.1; obtain ⟨U2, ux1⟩ : ∃ U2, U1.setCell ⟨W.heap.size, 1, none⟩ (.int .i64 f.1.at_) = U2 := ⟨_, rfl⟩; have uq2 : Bx U2 (W.heap.size) [(.int .i64 f.1.part), (.int .i64 f.1.at_), (.int .i64 0), (.slice none 0 0)] := (by rw [← ux1]; exact uq1.set 1 (.int .i64 f.1.at_)); have ut2 := pe_set (hx := ux1) ut1 hrb; have ug2 : U2.cell? ⟨W.heap.size, 2, none⟩ = some (.int .i64 0) := uq2.2.1 2 (by simp); have uh2 := uq2.2.2 2; have ul2 := uq2.1; obtain ⟨U3, ux2⟩ : ∃ U3, U2.setCell ⟨W.heap.size, 2, none⟩ (.int .i64 f.1.clause) = U3 := ⟨_, rfl⟩; have uq3 : Bx U3 (W.heap.size) [(.int .i64 f.1.part), (.int .i64 f.1.at_), (.int .i64 f.1.clause), (.slice none 0 0)] := (by rw [← ux2]; exact uq2.set 2 (.int .i64 f.1.clause)); have ut3 := pe_set (hx := ux2) ut2 hrb; have ug3 : U3.cell? ⟨W.heap.size, 3, none⟩ = some (.slice none 0 0) := uq3.2.1 3 (by simp); have uh3 := uq3.2.2 3; have ul3 := uq3.1; obtain ⟨U4, ux3⟩ : ∃ U4, U3.setCell ⟨W.heap.size, 3, none⟩ (.slice pa f.1.path.length pcap) = U4 := ⟨_, rfl⟩; have uq4 : Bx U4 (W.heap.size) [(.int .i64 f.1.part), (.int .i64 f.1.at_), (.int .i64 f.1.clause), (.slice pa f.1.path.length pcap)] := (by rw [← ux3]; exact uq3.set 3 (.slice pa f.1.path.length pcap)); have ut4 := pe_set (hx := ux3) ut3 hrb; have g0 := vq4.2.1 0 (by simp); have g1 := vq4.2.1 1 (by simp); have g2 := vq4.2.1 2 (by simp); have g3 := vq4.2.1 3 (by simp); have hff : QQ (.returned (.tuple #[.agg #[.int .i64 f.1.part, .int .i64 f.1.at_, .int .i64 f.1.clause, .slice pa f.1.path.length pcap], .int .i64 (f.2 : Int)])) U4 := (by rw [← hQH.out, hRH.out]; exact ⟨⟨_, rfl, ut4.2.2⟩, ut4.1, ut4.2.1⟩); have f0 := uq4.2.1 0 (by simp); have f1 := uq4.2.1 1 (by simp); have f2 := uq4.2.1 2 (by simp); have f3 := uq4.2.1 3 (by simp); have l4 := uq4.1; clear vq0 vt0 uq0 ut0 vq1 vt1 uq1 ut1 vq2 vt2 uq2 ut2 vq3 vt3 uq3 ut3 vq4 vt4 uq4 ut4) | (have uq0 := hr5; have ut0 := hst5; have ug0 : w5.cell? ⟨W.heap.size, 0, none⟩ = some (.int .i64 0) := uq0.2.1 0 (by simp); have uh0 := uq0.2.2 0; have ul0 := uq0.1; obtain ⟨U1, ux0⟩ : ∃ U1, w5.setCell ⟨W.heap.size, 0, none⟩ (.int .i64 f.1.part) = U1 := ⟨_, rfl⟩; have uq1 : Bx U1 (W.heap.size) [(.int .i64 f.1.part), (.int .i64 0), (.int .i64 0), (.slice none 0 0)] := (by rw [← ux0]; exact uq0.set 0 (.int .i64 f.1.part)); have ut1 := pe_set (hx := ux0) ut0 hrb; have ug1 : U1.cell? ⟨W.heap.size, 1, none⟩ = some (.int .i64 0) := uq1.2.1 1 (by simp); have uh1 := uq1.2.2 1; have ul1 := uq1.1; obtain ⟨U2, ux1⟩ : ∃ U2, U1.setCell ⟨W.heap.size, 1, none⟩ (.int .i64 f.1.at_) = U2 := ⟨_, rfl⟩; have uq2 : Bx U2 (W.heap.size) [(.int .i64 f.1.part), (.int .i64 f.1.at_), (.int .i64 0), (.slice none 0 0)] := (by rw [← ux1]; exact uq1.set 1 (.int .i64 f.1.at_)); have ut2 := pe_set (hx := ux1) ut1 hrb; have ug2 : U2.cell? ⟨W.heap.size, 2, none⟩ = some (.int .i64 0) := uq2.2.1 2 (by simp); have uh2 := uq2.2.2 2; have ul2 := uq2.1; obtain ⟨U3, ux2⟩ : ∃ U3, U2.setCell ⟨W.heap.size, 2, none⟩ (.int .i64 f.1.clause) = U3 := ⟨_, rfl⟩; have uq3 : Bx U3 (W.heap.size) [(.int .i64 f.1.part), (.int .i64 f.1.at_), (.int .i64 f.1.clause), (.slice none 0 0)] := (by rw [← ux2]; exact uq2.set 2 (.int .i64 f.1.clause)); have ut3 := pe_set (hx := ux2) ut2 hrb; have ug3 : U3.cell? ⟨W.heap.size, 3, none⟩ = some (.slice none 0 0) := uq3.2.1 3 (by simp); have uh3 := uq3.2.2 3; have ul3 := uq3.1; obtain ⟨U4, ux3⟩ : ∃ U4, U3.setCell ⟨W.heap.size, 3, none⟩ (.slice pa f.1.path.length pcap) = U4 := ⟨_, rfl⟩; have uq4 : Bx U4 (W.heap.size) [(.int .i64 f.1.part), (.int .i64 f.1.at_), (.int .i64 f.1.clause), (.slice pa f.1.path.length pcap)] := (by rw [← ux3]; exact uq3.set 3 (.slice pa f.1.path.length pcap)); have ut4 := pe_set (hx := ux3) ut3 hrb; have hB5 : Below U4.heap.size U4 (U4.alloc (.cells #[.int .i64 f.1.part, .int .i64 f.1.at_, .int .i64 f.1.clause, .slice pa f.1.path.length pcap] 105)) := (Below.refl _ _).alloc (Nat.le_refl _) _; have hff : QQ (.returned (.tuple #[.agg #[.int .i64 f.1.part, .int .i64 f.1.at_, .int .i64 f.1.clause, .slice pa f.1.path.length pcap], .int .i64 (f.2 : Int)])) (U4.alloc (.cells #[.int .i64 f.1.part, .int .i64 f.1.at_, .int .i64 f.1.clause, .slice pa f.1.path.length pcap] 105)) := (by rw [← hQH.out, hRH.out]; exact ⟨⟨_, rfl, own_bel ut4.2.2 hB5⟩, ut4.1.bel hB5, ut4.2.1.trans (Fr.bel hB5 _)⟩); have uq5 := uq4.bel hB5 uq4.1; have f0 := uq5.2.1 0 (by simp); have f1 := uq5.2.1 1 (by simp); have f2 := uq5.2.1 2 (by simp); have f3 := uq5.2.1 3 (by simp); have l4 := uq4.1; clear uq5 hB5 uq0 ut0 uq1 ut1 uq2 ut2 uq3 ut3 uq4 ut4)))
        all_goals clear hS5 hSH
        all_goals go_wp2
        all_goals exact bodyPost_ret (v := .tuple #[.agg #[.int .i64 f.1.part, .int .i64 f.1.at_, .int .i64 f.1.clause, .slice pa f.1.path.length pcap], .int .i64 (f.2 : Int)]) (by simp [results, Tryz.results82, go_sem, f0, f1, f2, f3]) rfl hff
    · have hlt' : ¬ (i : Int) < (p.cks.length : Int) := by omega
      have hri := hinv.out
      rw [List.drop_eq_nil_of_le (by omega)] at hri
      have hff : QQ (.returned (.tuple #[.agg #[.int .i64 0, .int .i64 0, .int .i64 0, .slice none 0 0], .int .i64 0])) wr := by
        rw [← hQH.out, ← hri]
        exact ⟨rfl, hkr, Fr.bel hBW _⟩
      have f0 := hbr.2.1 0 (by simp)
      have f1 := hbr.2.1 1 (by simp)
      have f2 := hbr.2.1 2 (by simp)
      have f3 := hbr.2.1 3 (by simp)
      have z0 := hbr.2.2 0
      have z1 := hbr.2.2 1
      have z2 := hbr.2.2 2
      have z3 := hbr.2.2 3
      have j0 := set_id f0
      have j1 := set_id f1
      have j2 := set_id f2
      have j3 := set_id f3
      clear hinv hri
      go_wp2
      exact bodyPost_ret (v := .tuple #[.agg #[.int .i64 0, .int .i64 0, .int .i64 0, .slice none 0 0], .int .i64 0]) (by simp at f0 f1 f2 f3; simp [results, Tryz.results82, go_sem, f0, f1, f2, f3]) rfl hff
end Go.Proofs.YthnmjafoplfikaaGreatDoor

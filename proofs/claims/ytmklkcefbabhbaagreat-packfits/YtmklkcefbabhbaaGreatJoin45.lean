import Derived.Test.YtmklkcefbabhbaaGreatTurnYrV
/- Type, Nodes. -/
namespace Go.Proofs.YtmklkcefbabhbaaGreat.R6
open Go.RowKit

theorem kind_all (p : Pk) (a3 a4 a5 a6 a7 : Option Addr) (c3 c4 c5 c6 c7 : Nat) (g : Int) (wb : Nat) : ∀ d, d ≤ 8 → KindIs p a3 a4 a5 a6 a7 c3 c4 c5 c6 c7 g wb d
  | 0, _, x, ax, cx, W, n, dp, hdp, hW, hn, hL, hO, hF => kd_deep p a3 a4 a5 a6 a7 c3 c4 c5 c6 c7 g wb x ax cx W n dp (by omega) hW hn hL hO hF
  | d + 1, hd8, x, ax, cx, W, n, dp, hdp, hW, hn, hL, hO, hF => by
    have ih := kind_all p a3 a4 a5 a6 a7 c3 c4 c5 c6 c7 g wb d (by omega)
    unfold kiF
    by_cases h1 : 60 < n + 1
    · rw [if_pos h1]
      exact kd_many p a3 a4 a5 a6 a7 c3 c4 c5 c6 c7 g wb x ax cx W n dp (by omega) h1 hW hn hL hO hF
    rw [if_neg h1]
    by_cases h2 : foB x = false
    · rw [if_pos h2]
      exact kd_form p a3 a4 a5 a6 a7 c3 c4 c5 c6 c7 g wb x ax cx W n dp (by omega) (by omega) h2 hW hn hL hO hF
    rw [if_neg h2]
    by_cases h3 : thB p g x = false
    · rw [if_pos h3]
      exact kd_there p a3 a4 a5 a6 a7 c3 c4 c5 c6 c7 g wb x ax cx W n dp (by omega) (by omega) (by simpa using h2) h3 hW hn hL hO hF
    rw [if_neg h3]
    refine kd_args p a3 a4 a5 a6 a7 c3 c4 c5 c6 c7 g wb x ax cx W n dp d ih _ (by omega) hdp (by omega) (by omega) (by simpa using h2) (by simpa using h3) ?_ hW hn hL hO hF
    cases kFo (kiF p g d) (toL x.args) 0 (n + 1) [] with
    | mk m r => cases r with
      | error e => rfl
      | ok ks => rfl
/-- What Type answers. -/
def TyP (W : World) (r : Except Ft Kd) (e : Ending) (W' : World) : Prop := Below W.heap.size W W' ∧ match r with
  | .ok k => e = .returned (.tuple #[.int .i64 k.1, .int .i64 k.2, .slice none 0 0, .int .i64 0])
  | .error er => ∃ pv, e = .returned (.tuple #[.int .i64 0, .int .i64 (-1), pv, .int .i64 (er.2 : Int)]) ∧ PtAt W' W.heap.size pv er.1
theorem results_tmp4 {fn : Func} {t u v z : Tmp} (h : fn.results = #[.tmp t, .tmp u, .tmp v, .tmp z]) (tmps : Array Value) (P : Program) (w : World) : (results fn tmps).run P w = .ok (.tuple #[tmps.getD t undef, tmps.getD u undef, tmps.getD v undef, tmps.getD z undef]) w := by
  simp [results, h]
theorem belN {k : Nat} {W w : World} (h : Below k W w) (n : Nat) : Below k W (World.drewN w n) := ⟨h.os, h.tape, h.output, h.size, h.block⟩
set_option maxRecDepth 20000 in
set_option maxHeartbeats 2000000 in
theorem Type_any (p : Pk) (a3 a4 a5 a6 a7 : Option Addr) (c3 c4 c5 c6 c7 : Nat) (g : Int) (x : Ex) (ax : Option Addr) (cx : Nat) (W : World) (hL : RowR eL W AnyB p.lns a6) (hO : RowR eO W AnyB p.opts a3) (hF : FoAt W AnyB x.args ax) : Calls Tryz.prog 67 #[.agg #[.string ⟨p.name.toArray⟩, .int .i64 p.year, .slice a3 p.opts.length c3, .slice a4 p.tabs.length c4, .slice a5 p.grps.length c5, .slice a6 p.lns.length c6, .slice a7 p.cks.length c7], .int .i64 g, .agg #[.int .i64 x.op, .int .i64 x.num, .int .i64 x.den, .int .i64 x.mode, .slice ax x.args.len cx]] W (TyP W (tyF p g x)) := by
  obtain ⟨X, hXe⟩ : ∃ X, ((W.alloc (.cells #[.string ⟨p.name.toArray⟩, .int .i64 p.year, .slice a3 p.opts.length c3, .slice a4 p.tabs.length c4, .slice a5 p.grps.length c5, .slice a6 p.lns.length c6, .slice a7 p.cks.length c7] 28)).alloc (.cells #[.int .i64 x.op, .int .i64 x.num, .int .i64 x.den, .int .i64 x.mode, .slice ax x.args.len cx] 59)).alloc (.cells #[.string ⟨p.name.toArray⟩, .int .i64 p.year, .slice a3 p.opts.length c3, .slice a4 p.tabs.length c4, .slice a5 p.grps.length c5, .slice a6 p.lns.length c6, .slice a7 p.cks.length c7, .int .i64 g, .int .i64 0] 149) = X := ⟨_, rfl⟩
  have hs2 : ((W.alloc (.cells #[.string ⟨p.name.toArray⟩, .int .i64 p.year, .slice a3 p.opts.length c3, .slice a4 p.tabs.length c4, .slice a5 p.grps.length c5, .slice a6 p.lns.length c6, .slice a7 p.cks.length c7] 28)).alloc (.cells #[.int .i64 x.op, .int .i64 x.num, .int .i64 x.den, .int .i64 x.mode, .slice ax x.args.len cx] 59)).heap.size = W.heap.size + 2 := by simp
  have hb0 : Below W.heap.size W X := by rw [← hXe]; exact (((Below.refl _ _).alloc (Nat.le_refl _) _).alloc (by simp) _).alloc (by simp; omega) _
  have hXs : X.heap.size = W.heap.size + 3 := by rw [← hXe]; simp
  have hwk : WkB X p a3 a4 a5 a6 a7 c3 c4 c5 c6 c7 g (W.heap.size + 2) 0 := by
    rw [← hXe, ← hs2]
    exact bx_new _ _ _
  have hsub : ∀ b, b < W.heap.size → b < W.heap.size + 2 := fun b hb => by omega
  have hk := kind_all p a3 a4 a5 a6 a7 c3 c4 c5 c6 c7 g (W.heap.size + 2) 8 (Nat.le_refl _) x ax cx X 0 1 (by decide) hwk (by decide) ((hL.mo (S' := fun b => b < W.heap.size + 2) (fun b hb _ => hsub b hb)).fr hb0.size (fun b _ hbl => hb0.block b hbl)) ((hO.mo (S' := fun b => b < W.heap.size + 2) (fun b hb _ => hsub b hb)).fr hb0.size (fun b _ hbl => hb0.block b hbl)) (FoAt.fr hb0.size (fun b _ hbl => hb0.block b hbl) _ _ (FoAt.mo (S' := fun b => b < W.heap.size + 2) (fun b hb _ => hsub b hb) _ _ hF))
  have hbx : Bx (W.alloc (.cells #[.string ⟨p.name.toArray⟩, .int .i64 p.year, .slice a3 p.opts.length c3, .slice a4 p.tabs.length c4, .slice a5 p.grps.length c5, .slice a6 p.lns.length c6, .slice a7 p.cks.length c7] 28)) W.heap.size (#[.string ⟨p.name.toArray⟩, .int .i64 p.year, .slice a3 p.opts.length c3, .slice a4 p.tabs.length c4, .slice a5 p.grps.length c5, .slice a6 p.lns.length c6, .slice a7 p.cks.length c7] : Array Value).toList := bx_new _ _ _
  have hfr : Hid (∀ w5, X.grownBy w5 (some (W.heap.size + 2)) → Below W.heap.size W w5) := ⟨fun w5 h5 => ⟨h5.os.trans hb0.os, h5.tape.trans hb0.tape, h5.output.trans hb0.output, Nat.le_trans hb0.size h5.size, fun k hk => (h5.block k (by omega) (fun e => by injection e with e; omega)).trans (hb0.block k hk)⟩⟩
  have hex : X.cell? ⟨W.heap.size + 1, 0, none⟩ = some (.int .i64 x.op) ∧ X.cell? ⟨W.heap.size + 1, 1, none⟩ = some (.int .i64 x.num) ∧ X.cell? ⟨W.heap.size + 1, 2, none⟩ = some (.int .i64 x.den) ∧ X.cell? ⟨W.heap.size + 1, 3, none⟩ = some (.int .i64 x.mode) ∧ X.cell? ⟨W.heap.size + 1, 4, none⟩ = some (.slice ax x.args.len cx) := by
    have h := (bx_new (W.alloc (.cells #[.string ⟨p.name.toArray⟩, .int .i64 p.year, .slice a3 p.opts.length c3, .slice a4 p.tabs.length c4, .slice a5 p.grps.length c5, .slice a6 p.lns.length c6, .slice a7 p.cks.length c7] 28)) #[.int .i64 x.op, .int .i64 x.num, .int .i64 x.den, .int .i64 x.mode, .slice ax x.args.len cx] 59).kept (r := none) (gr_bel ((Below.refl _ _).alloc (Nat.le_refl _) (.cells #[.string ⟨p.name.toArray⟩, .int .i64 p.year, .slice a3 p.opts.length c3, .slice a4 p.tabs.length c4, .slice a5 p.grps.length c5, .slice a6 p.lns.length c6, .slice a7 p.cks.length c7, .int .i64 g, .int .i64 0] 149))) (by intro e; cases e)
    rw [hXe, show (W.alloc (.cells #[.string ⟨p.name.toArray⟩, .int .i64 p.year, .slice a3 p.opts.length c3, .slice a4 p.tabs.length c4, .slice a5 p.grps.length c5, .slice a6 p.lns.length c6, .slice a7 p.cks.length c7] 28)).heap.size = W.heap.size + 1 by simp] at h
    exact ⟨h.2.1 0 (by simp), h.2.1 1 (by simp), h.2.1 2 (by simp), h.2.1 3 (by simp), h.2.1 4 (by simp)⟩
  obtain ⟨x0, x1, x2, x3, x4⟩ := hex
  unfold tyF
  obtain ⟨m5, r5, hmr⟩ : ∃ m5 r5, kiF p g 8 x 0 = (m5, r5) := ⟨_, _, rfl⟩
  have her := ki_er p g 8 x 0 m5
  rw [hmr] at hk her ⊢
  clear hmr hL hO hF hwk hsub
  cases r5 with
  | error e5 =>
    obtain ⟨hp5, hl5⟩ := her e5 rfl
    have he5' : ((e5.2 : Int) != 0) = true := by simp; omega
    clear her
    go_enter Tryz.func67, Tryz.ntmps67
    go_wp2_with (go_at_call 90; fail)
    refine hk.mono ?_
    rintro e w5 ⟨hg5, -, pv5, rfl, hpt5⟩
    have hB5 := hfr.out w5 hg5
    have hB6 : Below w5.heap.size w5 (w5.alloc (.cells #[.int .i64 0, .int .i64 0] 88)) := (Below.refl _ _).alloc (Nat.le_refl _) _
    have hp6 := hpt5.bel hB6 (Nat.le_refl _)
    clear hk
    go_wp2
    refine bodyPost_ret (results_tmp4 Tryz.results67 _ _ _) rfl ?_
    exact ⟨hB5.alloc hB5.size _, pv5, rfl, hp6.mono (by omega)⟩
  | ok k =>
    clear her
    go_enter Tryz.func67, Tryz.ntmps67
    go_wp2_with (go_at_call 90; fail)
    refine hk.mono ?_
    rintro e w5 ⟨hg5, -, rfl⟩
    have hB5 := hfr.out w5 hg5
    have hbk : Bx (w5.alloc (.cells #[.int .i64 k.1, .int .i64 k.2] 88)) w5.heap.size (#[.int .i64 k.1, .int .i64 k.2] : Array Value).toList := bx_new _ _ _
    have hB6 := hB5.alloc hB5.size (.cells #[.int .i64 k.1, .int .i64 k.2] 88)
    obtain ⟨w6, hw6⟩ : ∃ w6, w5.alloc (.cells #[.int .i64 k.1, .int .i64 k.2] 88) = w6 := ⟨_, rfl⟩
    rw [hw6] at hbk hB6
    have k0 := hbk.2.1 0 (by simp)
    have k1 := hbk.2.1 1 (by simp)
    clear hk
    go_upto_region 5 with fail
    go_quiet (fail)
    have hbn := belN hB6 nq
    go_wp2
    refine bodyPost_ret (results_tmp4 Tryz.results67 _ _ _) rfl ?_
    exact ⟨hbn, rfl⟩
/-- How many nodes. -/
def noL : List Ex → Nat
  | [] => 0
  | x :: l => noE x + noL l
theorem noF_L : ∀ f : Fo, noF f = noL (toL f)
  | .nil => rfl
  | .cons a b c d x r => by
    show 1 + noF x + noF r = noE ⟨a, b, c, d, x⟩ + noL (toL r)
    rw [noF_L r]
    rfl
theorem noL_take (l : List Ex) {i : Nat} (h : i < l.length) : noL (l.take (i + 1)) = noL (l.take i) + noE l[i] := by
  induction l generalizing i with
  | nil => cases h
  | cons x l ih =>
    cases i with
    | zero => show noE x + noL (l.take 0) = 0 + noE x; rw [List.take_zero]; simp [noL]
    | succ i =>
      have h2 : i < l.length := by simpa using h
      show noE x + noL (l.take (i + 1)) = (noE x + noL (l.take i)) + noE l[i]
      rw [ih h2]; omega
theorem noL_le (l : List Ex) (i : Nat) : noL (l.take i) ≤ noL l := by
  induction l generalizing i with
  | nil => simp
  | cons x l ih =>
    cases i with
    | zero => exact Nat.zero_le _
    | succ i => have := ih i; show noE x + noL (l.take i) ≤ noE x + noL l; omega
theorem noL_len : ∀ l : List Ex, l.length ≤ noL l
  | [] => Nat.le_refl _
  | x :: l => by have := noL_len l; show l.length + 1 ≤ (1 + noF x.args) + noL l; omega
theorem fo_no (f : Ex → Nat → Nat × Except Ft Kd) (hf : ∀ x n m k, f x n = (m, .ok k) → m = n + noE x) : ∀ (l : List Ex) (i n : Nat) (acc : List Kd) (m : Nat) (ks : List Kd), kFo f l i n acc = (m, .ok ks) → m = n + noL l
  | [], i, n, acc, m, ks, h => by
    unfold kFo at h
    injection h with h1 h2
    show m = n + 0
    omega
  | x :: l, i, n, acc, m, ks, h => by
    unfold kFo at h
    cases hx : f x n with
    | mk m1 r1 =>
      rw [hx] at h
      cases r1 with
      | error e => injection h with h1 h2; cases h2
      | ok k =>
        have h1 := fo_no f hf l (i + 1) m1 (acc ++ [k]) m ks h
        have h2 := hf x n m1 k hx
        show m = n + (noE x + noL l)
        omega
theorem ki_no (p : Pk) (g : Int) : ∀ (d : Nat) (x : Ex) (n m : Nat) (k : Kd), kiF p g d x n = (m, .ok k) → m = n + noE x
  | 0, x, n, m, k, h => by
    unfold kiF at h
    injection h with _ h
    cases h
  | d + 1, x, n, m, k, h => by
    unfold kiF at h
    split at h
    · injection h with _ h; cases h
    · split at h
      · injection h with _ h; cases h
      · split at h
        · injection h with _ h; cases h
        · cases hx : kFo (kiF p g d) (toL x.args) 0 (n + 1) [] with
          | mk m1 r1 =>
            rw [hx] at h
            cases r1 with
            | error e => injection h with _ h; cases h
            | ok ks =>
              injection h with h1 _
              have h2 := fo_no _ (ki_no p g d) _ _ _ _ _ _ hx
              show m = n + (1 + noF x.args)
              rw [noF_L]
              omega
theorem ty_no {p : Pk} {g : Int} {x : Ex} {k : Kd} (h : tyF p g x = .ok k) : noE x ≤ 60 := by
  unfold tyF at h
  cases hx : kiF p g 8 x 0 with
  | mk m r =>
    rw [hx] at h
    cases r with
    | error e => cases h
    | ok k1 =>
      have h1 := ki_no p g 8 x 0 m k1 hx
      have h2 := ki_le p g 8 x 0 m k1 hx
      omega
end Go.Proofs.YtmklkcefbabhbaaGreat.R6


/- Nodes. -/
namespace Go.Proofs.YtmklkcefbabhbaaGreat.R6
open Go.RowKit

set_option maxRecDepth 20000 in
set_option maxHeartbeats 2000000 in
theorem nodes_any : ∀ (N : Nat) (x : Ex) (ax : Option Addr) (cx : Nat) (W : World), noE x ≤ N → noE x ≤ 1000 → FoAt W AnyB x.args ax → Calls Tryz.prog 68 #[.agg #[.int .i64 x.op, .int .i64 x.num, .int .i64 x.den, .int .i64 x.mode, .slice ax x.args.len cx]] W (Lk (.int .i64 (noE x : Int)) W)
  | 0, x, ax, cx, W, hN, h1, hF => by
    have : noE x = 1 + noF x.args := rfl
    omega
  | N + 1, x, ax, cx, W, hN, h1, hF => by
    obtain ⟨l, hl⟩ : ∃ l, toL x.args = l := ⟨_, rfl⟩
    have hll : l.length = x.args.len := by rw [← hl, toL_len]
    have hnn : noE x = 1 + noL l := by rw [← hl, ← noF_L]; rfl
    have hle := noL_len l
    have hl1 : l.length ≤ 1000 := by omega
    have hl' : (x.args.len : Int) = (l.length : Int) := by rw [hll]
    rw [hnn]
    obtain ⟨X, hXe⟩ : ∃ X, W.alloc (.cells #[.int .i64 x.op, .int .i64 x.num, .int .i64 x.den, .int .i64 x.mode, .slice ax x.args.len cx] 59) = X := ⟨_, rfl⟩
    have hb0 : Below W.heap.size W X := by rw [← hXe]; exact (Below.refl _ _).alloc (Nat.le_refl _) _
    have hXl : W.heap.size < X.heap.size := by rw [← hXe]; simp
    have hbX : Hid (∀ w, Below X.heap.size X w → w.cell? ⟨W.heap.size, 4, none⟩ = some (.slice ax x.args.len cx)) := ⟨fun w hw => (bel_cell hw hXl 4).trans (by rw [← hXe]; simp)⟩
    have hRX : Hid (∀ w, Below X.heap.size X w → RowR eE w AnyB l ax) := ⟨fun w hw => by
      have h := row_of_fo hF
      rw [hl] at h
      exact row_bel (row_bel h hb0 (Nat.le_refl _)) hw (Nat.le_refl _)⟩
    have hNH := Hid.mk (show 1 + noL l ≤ N + 1 by omega)
    have hT := Hid.mk (show noL l ≤ 999 by omega)
    clear hl hll hnn hle hF hN h1
    go_enter Tryz.func68, Tryz.ntmps68
    go_wp2
    go_loopw [3, 4] (fun nv iv wr => ∃ (i s : Nat), iv = .int .i64 (i : Int) ∧ nv = .int .i64 (s : Int) ∧ Hid (s = 1 + noL (l.take i)) ∧ s ≤ 1000 ∧ i ≤ l.length ∧ Below X.heap.size X wr) (fun _ iv _ => l.length - (intOf iv).toNat)
    case atStart => exact ⟨0, 1, rfl, rfl, ⟨by simp [noL]⟩, by decide, Nat.zero_le _, Below.refl _ _⟩
    case round =>
      obtain ⟨i, s, rfl, rfl, hs, hs1, hi, hbw⟩ := hrel
      have c4 := hbX.out _ hbw
      by_cases hlt1 : i < l.length
      · have hlt' : (i : Int) < (x.args.len : Int) := by rw [hl']; omega
        have hi0 : (0 : Int) ≤ (i : Int) := by omega
        have hRr := hRX.out _ hbw
        obtain ⟨ge, oe, hax⟩ := hRr.some hlt1
        rw [hax] at hRr c4
        obtain ⟨cs, -, -, ⟨ay, cy, rfl, -, hFy⟩, hcs⟩ := hRr.item hlt1
        have kx : wr.cell? ⟨ge, oe + i * 5, none⟩ = some (.int .i64 (l[i]).op) ∧ wr.cell? ⟨ge, oe + i * 5 + 1, none⟩ = some (.int .i64 (l[i]).num) ∧ wr.cell? ⟨ge, oe + i * 5 + 2, none⟩ = some (.int .i64 (l[i]).den) ∧ wr.cell? ⟨ge, oe + i * 5 + 3, none⟩ = some (.int .i64 (l[i]).mode) ∧ wr.cell? ⟨ge, oe + i * 5 + 4, none⟩ = some (.slice ay (l[i]).args.len cy) := ⟨hcs 0 (by decide), hcs 1 (by decide), hcs 2 (by decide), hcs 3 (by decide), hcs 4 (by decide)⟩
        have hstep := noL_take l hlt1
        have hall := noL_le l (i + 1)
        have hall2 := hNH.out
        have hT2 := hT.out
        generalize l[i] = y at kx hFy hstep
        obtain ⟨z0, z1, z2, z3, z4⟩ := kx
        have hc := nodes_any N y ay cy wr (by omega) (by omega) hFy
        have hs2 : Hid (s + noE y = 1 + noL (l.take (i + 1))) := ⟨by have := hs.out; omega⟩
        have hs3 : s + noE y ≤ 1000 := by have := hs2.out; omega
        have hcast : Hid ((s : Int) + (noE y : Int) = ((s + noE y : Nat) : Int)) := ⟨by push_cast; rfl⟩
        have hs4 : (s : Int) + (noE y : Int) ≤ 1000 := by omega
        clear hcs hRr hax hFy hstep hall hall2 hT2 hs
        generalize noE y = q at *
        go_wp2_with (go_at_call 68; refine hc.mono ?_; rintro e w3 ⟨rfl, hb3⟩)
        refine ⟨⟨i + 1, s + q, rfl, by rw [← hcast.out], hs2, hs3, hlt1, belT hbw hb3⟩, ?_⟩
        simp only [intOf]
        omega
      · have hlt' : ¬ (i : Int) < (x.args.len : Int) := by rw [hl']; omega
        have hsv := hs.out
        rw [List.take_of_length_le (by omega)] at hsv
        go_wp2
        go_ret
        exact ⟨rfl, belT hb0 hbw⟩
end Go.Proofs.YtmklkcefbabhbaaGreat.R6

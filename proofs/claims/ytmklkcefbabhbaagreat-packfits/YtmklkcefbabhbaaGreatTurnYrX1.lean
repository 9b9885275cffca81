import Derived.Test.YtmklkcefbabhbaaGreatJoin45
/- An expression that must be of a kind. -/
namespace Go.Proofs.YtmklkcefbabhbaaGreat.R6
open Go.RowKit

theorem results_tmp3 {fn : Func} {t u v : Tmp} (h : fn.results = #[.tmp t, .tmp u, .tmp v]) (tmps : Array Value) (P : Program) (w : World) : (results fn tmps).run P w = .ok (.tuple #[tmps.getD t undef, tmps.getD u undef, tmps.getD v undef]) w := by
  simp [results, h]
theorem box3 (W : World) (a b c : Array Value) (t u v : TypeId) : ∃ X, ((W.alloc (.cells a t)).alloc (.cells b u)).alloc (.cells c v) = X ∧ Below W.heap.size W X ∧ X.heap.size = W.heap.size + 3 ∧ Hid (∀ w, Below X.heap.size X w → Bx w W.heap.size a.toList ∧ Bx w (W.heap.size + 1) b.toList ∧ Bx w (W.heap.size + 2) c.toList) := by
  have s1 : (W.alloc (.cells a t)).heap.size = W.heap.size + 1 := by simp
  have s2 : ((W.alloc (.cells a t)).alloc (.cells b u)).heap.size = W.heap.size + 2 := by simp
  have g1 := World.grownBy_alloc (W.alloc (.cells a t)) (.cells b u) none
  have g2 := World.grownBy_alloc ((W.alloc (.cells a t)).alloc (.cells b u)) (.cells c v) none
  have h1 := ((bx_new W a t).kept g1 (by simp)).kept g2 (by simp)
  have h2 := (bx_new (W.alloc (.cells a t)) b u).kept g2 (by simp)
  have h3 := bx_new ((W.alloc (.cells a t)).alloc (.cells b u)) c v
  rw [s1] at h2
  rw [s2] at h3
  exact ⟨_, rfl, (((Below.refl _ _).alloc (Nat.le_refl _) _).alloc (by simp) _).alloc (by simp; omega) _, by simp, ⟨fun w hw => ⟨h1.kept (gr_bel hw) (by simp), h2.kept (gr_bel hw) (by simp), h3.kept (gr_bel hw) (by simp)⟩⟩⟩
theorem fo_fr {W X : World} {f : Fo} {a : Option Addr} (h : FoAt W AnyB f a) (hb : Below W.heap.size W X) : FoAt X AnyB f a := FoAt.fr hb.size (fun b _ hlt => hb.block b hlt) _ _ h
theorem ty_er {p : Pk} {g : Int} {x : Ex} {er : Ft} (h : tyF p g x = .error er) : 0 < er.2 ∧ er.1.length ≤ 8 := by
  unfold tyF at h
  cases hx : kiF p g 8 x 0 with
  | mk m r =>
    rw [hx] at h
    exact ki_er p g 8 x 0 m er (by rw [hx]; exact congrArg _ h)
/-- What typed answers. -/
def TdP (W : World) (r : Except Ft Nat) (e : Ending) (W' : World) : Prop := Below W.heap.size W W' ∧ match r with
  | .ok n => e = .returned (.tuple #[.slice none 0 0, .int .i64 0, .int .i64 (n : Int)])
  | .error er => ∃ pv, e = .returned (.tuple #[pv, .int .i64 (er.2 : Int), .int .i64 0]) ∧ PtAt W' W.heap.size pv er.1
set_option maxRecDepth 20000 in
set_option maxHeartbeats 2000000 in
theorem typed_any (p : Pk) (a3 a4 a5 a6 a7 : Option Addr) (c3 c4 c5 c6 c7 : Nat) (g : Int) (x : Ex) (ax : Option Addr) (cx : Nat) (must : Kd) (n : Nat) (hn : n ≤ 60) (W : World) (hL : RowR eL W AnyB p.lns a6) (hO : RowR eO W AnyB p.opts a3) (hF : FoAt W AnyB x.args ax) : Calls Tryz.prog 30 #[.agg #[.string ⟨p.name.toArray⟩, .int .i64 p.year, .slice a3 p.opts.length c3, .slice a4 p.tabs.length c4, .slice a5 p.grps.length c5, .slice a6 p.lns.length c6, .slice a7 p.cks.length c7], .int .i64 g, .agg #[.int .i64 x.op, .int .i64 x.num, .int .i64 x.den, .int .i64 x.mode, .slice ax x.args.len cx], .agg #[.int .i64 must.1, .int .i64 must.2], .int .i64 (n : Int)] W (TdP W (tdF p g must x n)) := by
  obtain ⟨X, hXe, hb0, hXs, hBxH⟩ := box3 W #[.string ⟨p.name.toArray⟩, .int .i64 p.year, .slice a3 p.opts.length c3, .slice a4 p.tabs.length c4, .slice a5 p.grps.length c5, .slice a6 p.lns.length c6, .slice a7 p.cks.length c7] #[.int .i64 x.op, .int .i64 x.num, .int .i64 x.den, .int .i64 x.mode, .slice ax x.args.len cx] #[.int .i64 must.1, .int .i64 must.2] 28 59 88
  have hX1 : W.heap.size ≤ X.heap.size := by omega
  clear hXs
  obtain ⟨bp, bx, bk⟩ := hBxH.out X (Below.refl _ _)
  have x0 : X.cell? ⟨W.heap.size, 0, none⟩ = some (.string ⟨p.name.toArray⟩) := bp.2.1 0 (by simp)
  have x1 : X.cell? ⟨W.heap.size, 1, none⟩ = some (.int .i64 p.year) := bp.2.1 1 (by simp)
  have x2 : X.cell? ⟨W.heap.size, 2, none⟩ = some (.slice a3 p.opts.length c3) := bp.2.1 2 (by simp)
  have x3 : X.cell? ⟨W.heap.size, 3, none⟩ = some (.slice a4 p.tabs.length c4) := bp.2.1 3 (by simp)
  have x4 : X.cell? ⟨W.heap.size, 4, none⟩ = some (.slice a5 p.grps.length c5) := bp.2.1 4 (by simp)
  have x5 : X.cell? ⟨W.heap.size, 5, none⟩ = some (.slice a6 p.lns.length c6) := bp.2.1 5 (by simp)
  have x6 : X.cell? ⟨W.heap.size, 6, none⟩ = some (.slice a7 p.cks.length c7) := bp.2.1 6 (by simp)
  have y0 : X.cell? ⟨W.heap.size + 1, 0, none⟩ = some (.int .i64 x.op) := bx.2.1 0 (by simp)
  have y1 : X.cell? ⟨W.heap.size + 1, 1, none⟩ = some (.int .i64 x.num) := bx.2.1 1 (by simp)
  have y2 : X.cell? ⟨W.heap.size + 1, 2, none⟩ = some (.int .i64 x.den) := bx.2.1 2 (by simp)
  have y3 : X.cell? ⟨W.heap.size + 1, 3, none⟩ = some (.int .i64 x.mode) := bx.2.1 3 (by simp)
  have y4 : X.cell? ⟨W.heap.size + 1, 4, none⟩ = some (.slice ax x.args.len cx) := bx.2.1 4 (by simp)
  have z0 : X.cell? ⟨W.heap.size + 2, 0, none⟩ = some (.int .i64 must.1) := bk.2.1 0 (by simp)
  have z1 : X.cell? ⟨W.heap.size + 2, 1, none⟩ = some (.int .i64 must.2) := bk.2.1 1 (by simp)
  have hty := Type_any p a3 a4 a5 a6 a7 c3 c4 c5 c6 c7 g x ax cx X (row_bel hL hb0 (Nat.le_refl _)) (row_bel hO hb0 (Nat.le_refl _)) (fo_fr hF hb0)
  obtain ⟨r, hr⟩ : ∃ r, tyF p g x = r := ⟨_, rfl⟩
  rw [hr] at hty
  clear bp bx bk
  cases r with
  | error er =>
    have hf : tdF p g must x n = .error er := by unfold tdF; rw [hr]
    rw [hf]
    have hp := ty_er hr
    have he' : ((er.2 : Int) != 0) = true := by simp; omega
    clear hr hf hL hO hF hn hp hBxH
    go_enter Tryz.func30, Tryz.ntmps30
    go_wp2_with (go_at_call 67; refine hty.mono ?_; rintro e w1 ⟨hb1, pv, rfl, hpt⟩)
    refine bodyPost_ret (results_tmp3 Tryz.results30 _ _ _) rfl ?_
    exact ⟨belT hb0 hb1, pv, rfl, hpt.mono (by omega)⟩
  | ok k =>
    have hNo := ty_no hr
    have hnoH : Hid (∀ w, Below X.heap.size X w → Calls Tryz.prog 68 #[.agg #[.int .i64 x.op, .int .i64 x.num, .int .i64 x.den, .int .i64 x.mode, .slice ax x.args.len cx]] w (Lk (.int .i64 (noE x : Int)) w)) := ⟨fun w hw => nodes_any 1000 x ax cx w (by omega) (by omega) (fo_fr (fo_fr hF hb0) hw)⟩
    by_cases hk : k = must
    rotate_left
    · by_cases q0 : k.1 = must.1
      · have q1 : k.2 ≠ must.2 := fun h => hk (Prod.ext q0 h)
        have e0 : (k.1 != must.1) = false := by simp; omega
        have e1 : (k.2 != must.2) = true := by simp; omega
        have hf : tdF p g must x n = .error ([], 69) := by unfold tdF; rw [hr]; simp only; rw [if_neg hk]
        rw [hf]
        clear hr hf hL hO hF hn hk q0 q1
        go_enter Tryz.func30, Tryz.ntmps30
        go_wp2_with (go_at_call 67; refine hty.mono ?_; rintro e w1 ⟨hb1, rfl⟩; obtain ⟨-, bx1, bk1⟩ := hBxH.out w1 hb1; have u0 : w1.cell? ⟨W.heap.size + 1, 0, none⟩ = some (.int .i64 x.op) := bx1.2.1 0 (by simp); have u1 : w1.cell? ⟨W.heap.size + 1, 1, none⟩ = some (.int .i64 x.num) := bx1.2.1 1 (by simp); have u2 : w1.cell? ⟨W.heap.size + 1, 2, none⟩ = some (.int .i64 x.den) := bx1.2.1 2 (by simp); have u3 : w1.cell? ⟨W.heap.size + 1, 3, none⟩ = some (.int .i64 x.mode) := bx1.2.1 3 (by simp); have u4 : w1.cell? ⟨W.heap.size + 1, 4, none⟩ = some (.slice ax x.args.len cx) := bx1.2.1 4 (by simp); have v0 : w1.cell? ⟨W.heap.size + 2, 0, none⟩ = some (.int .i64 must.1) := bk1.2.1 0 (by simp); have v1 : w1.cell? ⟨W.heap.size + 2, 1, none⟩ = some (.int .i64 must.2) := bk1.2.1 1 (by simp); have hnc := hnoH.out w1 hb1)
        refine bodyPost_ret (results_tmp3 Tryz.results30 _ _ _) rfl ?_
        exact ⟨belT hb0 hb1, _, rfl, pt_nil _ _⟩
      · have e0 : (k.1 != must.1) = true := by simp; omega
        have hf : tdF p g must x n = .error ([], 69) := by unfold tdF; rw [hr]; simp only; rw [if_neg hk]
        rw [hf]
        clear hr hf hL hO hF hn hk q0
        go_enter Tryz.func30, Tryz.ntmps30
        go_wp2_with (go_at_call 67; refine hty.mono ?_; rintro e w1 ⟨hb1, rfl⟩; obtain ⟨-, bx1, bk1⟩ := hBxH.out w1 hb1; have u0 : w1.cell? ⟨W.heap.size + 1, 0, none⟩ = some (.int .i64 x.op) := bx1.2.1 0 (by simp); have u1 : w1.cell? ⟨W.heap.size + 1, 1, none⟩ = some (.int .i64 x.num) := bx1.2.1 1 (by simp); have u2 : w1.cell? ⟨W.heap.size + 1, 2, none⟩ = some (.int .i64 x.den) := bx1.2.1 2 (by simp); have u3 : w1.cell? ⟨W.heap.size + 1, 3, none⟩ = some (.int .i64 x.mode) := bx1.2.1 3 (by simp); have u4 : w1.cell? ⟨W.heap.size + 1, 4, none⟩ = some (.slice ax x.args.len cx) := bx1.2.1 4 (by simp); have v0 : w1.cell? ⟨W.heap.size + 2, 0, none⟩ = some (.int .i64 must.1) := bk1.2.1 0 (by simp); have v1 : w1.cell? ⟨W.heap.size + 2, 1, none⟩ = some (.int .i64 must.2) := bk1.2.1 1 (by simp); have hnc := hnoH.out w1 hb1)
        refine bodyPost_ret (results_tmp3 Tryz.results30 _ _ _) rfl ?_
        exact ⟨belT hb0 hb1, _, rfl, pt_nil _ _⟩
    subst hk
    have e0 : (k.1 != k.1) = false := by simp
    have e1 : (k.2 != k.2) = false := by simp
    have hq : (n : Int) + (noE x : Int) ≤ 1000 := by omega
    have hq0 : (0 : Int) ≤ (n : Int) + (noE x : Int) := by omega
    have hcast : Hid (((n + noE x : Nat) : Int) = (n : Int) + (noE x : Int)) := ⟨by push_cast; rfl⟩
    by_cases h60 : 60 < n + noE x
    · have hf : tdF p g k x n = .error ([], 60) := by unfold tdF; rw [hr]; show (if k = k then (if 60 < n + noE x then Except.error ([], 60) else .ok (n + noE x)) else .error ([], 69)) = _; rw [if_pos rfl, if_pos h60]
      have h60' : (60 : Int) < (n : Int) + (noE x : Int) := by omega
      rw [hf]
      clear hr hf hL hO hF hn h60 hNo
      generalize noE x = q at *
      go_enter Tryz.func30, Tryz.ntmps30
      go_wp2_with (first | (go_at_call 67; refine hty.mono ?_; rintro e w1 ⟨hb1, rfl⟩; obtain ⟨-, bx1, bk1⟩ := hBxH.out w1 hb1; have u0 : w1.cell? ⟨W.heap.size + 1, 0, none⟩ = some (.int .i64 x.op) := bx1.2.1 0 (by simp); have u1 : w1.cell? ⟨W.heap.size + 1, 1, none⟩ = some (.int .i64 x.num) := bx1.2.1 1 (by simp); have u2 : w1.cell? ⟨W.heap.size + 1, 2, none⟩ = some (.int .i64 x.den) := bx1.2.1 2 (by simp); have u3 : w1.cell? ⟨W.heap.size + 1, 3, none⟩ = some (.int .i64 x.mode) := bx1.2.1 3 (by simp); have u4 : w1.cell? ⟨W.heap.size + 1, 4, none⟩ = some (.slice ax x.args.len cx) := bx1.2.1 4 (by simp); have v0 : w1.cell? ⟨W.heap.size + 2, 0, none⟩ = some (.int .i64 k.1) := bk1.2.1 0 (by simp); have v1 : w1.cell? ⟨W.heap.size + 2, 1, none⟩ = some (.int .i64 k.2) := bk1.2.1 1 (by simp); have hnc := hnoH.out w1 hb1) | (go_at_call 68; fail))
      refine hnc.mono ?_
      rintro e w2 ⟨rfl, hb2⟩
      go_wp2
      refine bodyPost_ret (results_tmp3 Tryz.results30 _ _ _) rfl ?_
      exact ⟨belT hb0 (belT hb1 hb2), _, rfl, pt_nil _ _⟩
    · have hf : tdF p g k x n = .ok (n + noE x) := by unfold tdF; rw [hr]; show (if k = k then (if 60 < n + noE x then Except.error ([], 60) else .ok (n + noE x)) else .error ([], 69)) = _; rw [if_pos rfl, if_neg h60]
      have h60' : ¬ (60 : Int) < (n : Int) + (noE x : Int) := by omega
      rw [hf]
      clear hr hf hL hO hF hn h60 hNo
      generalize noE x = q at *
      go_enter Tryz.func30, Tryz.ntmps30
      go_wp2_with (first | (go_at_call 67; refine hty.mono ?_; rintro e w1 ⟨hb1, rfl⟩; obtain ⟨-, bx1, bk1⟩ := hBxH.out w1 hb1; have u0 : w1.cell? ⟨W.heap.size + 1, 0, none⟩ = some (.int .i64 x.op) := bx1.2.1 0 (by simp); have u1 : w1.cell? ⟨W.heap.size + 1, 1, none⟩ = some (.int .i64 x.num) := bx1.2.1 1 (by simp); have u2 : w1.cell? ⟨W.heap.size + 1, 2, none⟩ = some (.int .i64 x.den) := bx1.2.1 2 (by simp); have u3 : w1.cell? ⟨W.heap.size + 1, 3, none⟩ = some (.int .i64 x.mode) := bx1.2.1 3 (by simp); have u4 : w1.cell? ⟨W.heap.size + 1, 4, none⟩ = some (.slice ax x.args.len cx) := bx1.2.1 4 (by simp); have v0 : w1.cell? ⟨W.heap.size + 2, 0, none⟩ = some (.int .i64 k.1) := bk1.2.1 0 (by simp); have v1 : w1.cell? ⟨W.heap.size + 2, 1, none⟩ = some (.int .i64 k.2) := bk1.2.1 1 (by simp); have hnc := hnoH.out w1 hb1) | (go_at_call 68; fail))
      refine hnc.mono ?_
      rintro e w2 ⟨rfl, hb2⟩
      go_wp2
      refine bodyPost_ret (results_tmp3 Tryz.results30 _ _ _) rfl ?_
      exact ⟨belT hb0 (belT hb1 hb2), by show Ending.returned _ = .returned (.tuple #[.slice none 0 0, .int .i64 0, .int .i64 ((n + q : Nat) : Int)]); rw [hcast.out]; rfl⟩
end Go.Proofs.YtmklkcefbabhbaaGreat.R6

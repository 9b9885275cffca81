import Derived.Test.YthbojlbgjmecoaaGreatJoin37
import Derived.Lib.MinMax
/- levyref19's disk: Trim. -/
namespace Go.Proofs.YthbojlbgjmecoaaGreat.DJ
open Go.RowKit
set_option linter.constructorNameAsVariable false

theorem byts_tk {W : World} {a : Option Addr} {bs : List Nat} (h : Byts W a bs) (n : Nat) : Byts W a (bs.take n) := by
  obtain ⟨h0, h | ⟨b, off, e, hl, hc⟩⟩ := h
  · subst h
    exact ⟨fun x hx => h0 x (List.mem_of_mem_take hx), .inl (by simp)⟩
  · refine ⟨fun x hx => h0 x (List.mem_of_mem_take hx), .inr ⟨b, off, e, hl, fun i hi => ?_⟩⟩
    rw [List.getElem_take]
    exact hc i (by rw [List.length_take] at hi; omega)
set_option maxRecDepth 4000 in
set_option maxHeartbeats 2000000 in
theorem rtrim_any {T : Nat → Prop} {rb : Nat} {d : Dk} {nm : List Nat} {size : Int} (hl : nm.length ≤ 4294967296) (hb : ∀ x ∈ nm, x < 256) (w : World) (h : RdAt w T rb d) : Calls Tryz.prog 20 #[.pointer (some ⟨rb, 0, none⟩), .string (strB nm), .int .i64 size] w fun e w' => e = .returned (.int .i64 ((trim d nm size).1 : Int)) ∧ ∃ T', RdAt w' T' rb (trim d nm size).2 ∧ Dv T w T' w' := by
  have hch := rchanges_any hl hb w h
  obtain ⟨⟨k, e1, d1⟩, hq⟩ : ∃ q, chgD d nm = q := ⟨_, rfl⟩
  have hfs := chgD_fs d nm
  rw [hq] at hch hfs
  simp only at hch hfs
  have hTrb := h.Trb
  by_cases he : e1 = 0
  rotate_left
  · have hR : trim d nm size = (e1, d1) := by unfold trim; rw [chgD_changes, hq, if_neg he]
    have he' : ((e1 : Int) == 0) = false := by simp; exact he
    rw [hR]
    clear hR hq he
    go_enter Tryz.func20, Tryz.ntmps20
    go_wp2_with (go_at_call 73; refine hch.mono ?_; rintro e w1 ⟨rfl, h1, g1⟩; replace h1 := Hid.mk h1; replace g1 := Hid.mk g1)
    go_ret
    exact ⟨rfl, T, h1.out, Dv.one g1.out hTrb⟩
  subst he
  obtain ⟨hk0, hp, hnm⟩ := chgD_ok h.ok.srt (nm := nm) (by rw [hq])
  rw [hq] at hk0
  simp only at hk0
  have hok := h.ok
  have hkd : k < d.fs.length := by rw [hk0]; exact hp
  have hR : trim d nm size = (0, { d1 with fs := d.fs.set k (trimF size.toNat (d.fs[k]'hkd)) }) := by
    unfold trim
    rw [chgD_changes, hq, if_pos rfl, upd_eq hok.srt hp hnm]
    subst hk0
    rfl
  have hOk : Ok { d1 with fs := d.fs.set k (trimF size.toNat (d.fs[k]'hkd)) } := by
    subst hk0
    refine Ok.upd hok (nm := nm) (g := trimF size.toNat) (by show d.fs.set _ _ = _; rw [upd_eq hok.srt hp hnm]) (fun f => rfl) (fun f hf _ => ⟨?_, Nat.min_le_right _ _, fun x hx => hok.byt f hf x (List.mem_of_mem_take hx)⟩)
    have := hok.siz f hf
    show (f.dat.take _).length ≤ _
    rw [List.length_take]
    omega
  have hkl : k < d1.fs.length := by rw [hfs, hk0]; exact hp
  have h2m := hok.siz _ (List.getElem_mem hkd)
  rw [hR]
  clear hR hq hk0 hnm hp
  obtain ⟨s, hs⟩ : ∃ s, size.toNat = s := ⟨_, rfl⟩
  rw [hs] at hOk ⊢
  go_enter Tryz.func20, Tryz.ntmps20
  go_wp2_with (go_at_call 73; fail)
  refine hch.mono ?_
  rintro e w1 ⟨rfl, h1, g1⟩
  obtain ⟨f, g, n, c, p, pc, hI⟩ := h1.it hkl
  have hff : d.fs[k]'hkd = f := by rw [← hI.hf]; simp only [hfs]
  rw [hff] at h2m
  obtain ⟨m, hm⟩ : ∃ m, min f.sure (f.dat.take s).length = m := ⟨_, rfl⟩
  have hgT := hI.fs.blk
  have hne := hI.fs.neR hI.row
  have hfinB : Hid (f.dat.take s = f.dat → ∀ Z, Below w1.heap.size w1 Z → ∃ T', RdAt (Z.setCell ⟨g, k * 3 + 2, none⟩ (.int .i64 (m : Int))) T' rb { d1 with fs := d.fs.set k (trimF s (d.fs[k]'hkd)) } ∧ Dv T w T' (Z.setCell ⟨g, k * 3 + 2, none⟩ (.int .i64 (m : Int)))) := ⟨fun ht Z hZ => by
    have hF := hI.fs.grS (GrS.of_below hZ) (fun _ _ h => h)
    have hS := hF.sureF (i := k) hkl (f := trimF s f) (by rw [hI.hf]; rfl) (by rw [hI.hf]; exact ht)
    rw [show (trimF s f).sure = m from hm, hfs] at hS
    have hg := grS_set Z g (k * 3 + 2) (.int .i64 (m : Int))
    have hgA := (GrS.of_below (S := fun z => z = g) hZ).trans hg
    rw [hff] at hOk ⊢
    exact ⟨T, RdAt.files h1 hOk ((hgA.block rb h1.lt (fun e => hne e.symm)).trans hI.row) hS h1.Trb (fun z hz => Nat.lt_of_lt_of_le (h1.hi z hz) hgA.size), (Dv.one g1 hTrb).trans ⟨hgA.mono (fun _ _ e => by rw [e]; exact hgT), fun _ h => .inl h⟩⟩⟩
  have hfinA : Hid (∀ (x : Value) (l : Nat) Y, l = (f.dat.take s).length → Below w1.heap.size w1 Y → Y.ownsRow w1.heap.size 5 1 x l (bysV (f.dat.take s)) → ∀ Z, Below (Y.setCell ⟨g, k * 3 + 1, none⟩ x).heap.size (Y.setCell ⟨g, k * 3 + 1, none⟩ x) Z → ∃ T', RdAt (Z.setCell ⟨g, k * 3 + 2, none⟩ (.int .i64 (m : Int))) T' rb { d1 with fs := d.fs.set k (trimF s (d.fs[k]'hkd)) } ∧ Dv T w T' (Z.setCell ⟨g, k * 3 + 2, none⟩ (.int .i64 (m : Int)))) := ⟨fun x l Y hl2 hY ho Z hZ => by
    subst hl2
    have hF := (hI.fs.grS (GrS.of_below hY) (fun _ _ h => h)).mono (T' := fun z => T z ∨ x.ownBlock = some z) (fun _ _ h => .inl h)
    have hF1 := hF.dataF (i := k) hkl (f := ⟨f.nm, f.dat.take s, f.sure⟩) (x := x) (by rw [hI.hf]) (by rw [hI.hf]) (fun y hy => hI.byt y (List.mem_of_mem_take hy)) (ho.mono (Nat.zero_le _)) (fun z hz => .inr hz)
    have hF2 := hF1.grS (GrS.of_below hZ) (fun _ _ h => h)
    have hS := hF2.sureF (i := k) (by rw [List.length_set]; exact hkl) (f := trimF s f) (by rw [List.getElem_set_self]; rfl) (by rw [List.getElem_set_self]; rfl)
    rw [show (trimF s f).sure = m from hm, List.set_set, hfs] at hS
    have hg1 := grS_set Y g (k * 3 + 1) x
    have hg := grS_set Z g (k * 3 + 2) (.int .i64 (m : Int))
    have hgA := (((GrS.of_below (S := fun z => z = g) hY).trans hg1).trans (GrS.of_below hZ)).trans hg
    rw [hff] at hOk ⊢
    refine ⟨_, RdAt.files h1 hOk ((hgA.block rb h1.lt (fun e => hne e.symm)).trans hI.row) hS (.inl h1.Trb) (fun z hz => ?_), (Dv.one g1 hTrb).trans ⟨hgA.mono (fun _ _ e => by rw [e]; exact hgT), fun z hz => ?_⟩⟩
    · rcases hz with hz | hz
      · exact Nat.lt_of_lt_of_le (h1.hi z hz) hgA.size
      · exact Nat.lt_of_lt_of_le (ho.lt z hz).2 ((hg1.trans ((GrS.of_below hZ).trans hg)).size)
    · rcases hz with hz | hz
      · exact .inl hz
      · exact .inr (ho.lt z hz).1⟩
  have hby := byts_of_own (n := f.dat.length) hI.byt hI.own
  have hown := hI.own
  obtain ⟨c0, -, -, -, -, -⟩ := rd_cells hI.row
  have i0 := hI.nm
  have i1 := hI.dat
  have i2 := hI.sur
  have fz := hI.fs.frz
  have hkn' : (k : Int) < (n : Int) := by rw [hI.n]; omega
  have hk0' : (0 : Int) ≤ (k : Int) := by omega
  obtain ⟨X, hXe⟩ : ∃ X, w1.alloc (.cells #[.string (strB f.nm), .slice p f.dat.length pc, .int .i64 (f.sure : Int)] 74) = X := ⟨_, rfl⟩
  have hb0 : Below w1.heap.size w1 X := by rw [← hXe]; exact (Below.refl _ _).alloc (Nat.le_refl _) _
  obtain ⟨fb, hfb⟩ : ∃ fb, w1.heap.size = fb := ⟨_, rfl⟩
  have hXl : fb < X.heap.size := by rw [← hXe, ← hfb]; simp
  have hXr : X.heap[fb]? = some (.cells #[.string (strB f.nm), .slice p f.dat.length pc, .int .i64 (f.sure : Int)] 74 (0, 0)) := by rw [← hXe, ← hfb]; exact heap_alloc_new _ _
  have hgl : g < w1.heap.size := World.block_lt_of_cell? _ _ i1
  have hst : Hid (∀ Y, Below X.heap.size X Y → Below w1.heap.size w1 Y ∧ Y.cell? ⟨rb, 0, none⟩ = some (.slice (some ⟨g, 0, none⟩) n c) ∧ (∀ j, Y.frozen? ⟨g, j, none⟩ = false) ∧ Y.cell? ⟨g, k * 3 + 1, none⟩ = some (.slice p f.dat.length pc) ∧ Y.cell? ⟨g, k * 3 + 2, none⟩ = some (.int .i64 (f.sure : Int)) ∧ Y.cell? ⟨fb, 1, none⟩ = some (.slice p f.dat.length pc) ∧ Y.cell? ⟨fb, 2, none⟩ = some (.int .i64 (f.sure : Int))) := ⟨fun Y hY => by
    have hB := hb0.trans (hY.mono hb0.size)
    have hr := (hY.block fb hXl).trans hXr
    exact ⟨hB, (hB.cell (p := ⟨rb, 0, none⟩) h1.lt).trans c0, (hI.fs.grS (GrS.of_below hB) (fun _ _ h => h)).frz, (hB.cell (p := ⟨g, k * 3 + 1, none⟩) hgl).trans i1, (hB.cell (p := ⟨g, k * 3 + 2, none⟩) hgl).trans i2, cell_of_row _ _ 1 _ _ _ hr, cell_of_row _ _ 2 _ _ _ hr⟩⟩
  have hst2 : Hid (∀ Y x, Below X.heap.size X Y → (Y.setCell ⟨g, k * 3 + 1, none⟩ x).cell? ⟨rb, 0, none⟩ = some (.slice (some ⟨g, 0, none⟩) n c) ∧ (∀ j, (Y.setCell ⟨g, k * 3 + 1, none⟩ x).frozen? ⟨g, j, none⟩ = false) ∧ (Y.setCell ⟨g, k * 3 + 1, none⟩ x).cell? ⟨g, k * 3 + 1, none⟩ = some x ∧ (Y.setCell ⟨g, k * 3 + 1, none⟩ x).cell? ⟨g, k * 3 + 2, none⟩ = some (.int .i64 (f.sure : Int)) ∧ (Y.setCell ⟨g, k * 3 + 1, none⟩ x).cell? ⟨fb, 2, none⟩ = some (.int .i64 (f.sure : Int))) := ⟨fun Y x hY => by
    obtain ⟨hB, q0, q1, q2, q3, q4, q5⟩ := hst.out Y hY
    exact ⟨(World.cell?_setCell_far _ _ _ _ (by exact hne)).trans q0, fun j => by rw [World.frozen?_setCell]; exact q1 j, World.cell?_setCell_same _ _ _ q2, (World.cell?_setCell_other _ _ _ _ (by intro e; injection e with _ e _; omega)).trans q3, (World.cell?_setCell_far _ _ _ _ (by show g ≠ fb; omega)).trans q5⟩⟩
  have hcp : Hid (s < f.dat.length → ∃ b, p = some ⟨b, 0, none⟩ ∧ s ≤ pc ∧ ∀ Y, Below X.heap.size X Y → Calls Tryz.prog 36 #[.slice (some ⟨b, 0, none⟩) s pc] Y fun e w' => ∃ p' c', e = .returned (.slice p' s c') ∧ w'.ownsRow Y.heap.size 5 1 (.slice p' s c') s (bysV (f.dat.take s)) ∧ Below Y.heap.size Y w') := ⟨fun hsl => by
    obtain ⟨q1, ⟨e, hn⟩ | ⟨b, cap, cur, e, hb, r, h4, -⟩⟩ := hown
    · omega
    · injection e with e1 _ e2
      subst e1
      refine ⟨b, rfl, by omega, fun Y hY => ?_⟩
      have hB := hb0.trans (hY.mono hb0.size)
      have := copied_any (some ⟨b, 0, none⟩) pc (fun e => by cases e) (f.dat.take s) (by rw [List.length_take]; omega) Y ((byts_tk hby s).later hB)
      rw [List.length_take, Nat.min_eq_left (by omega)] at this
      exact this⟩
  have hml : Hid (s < f.dat.length → min (f.sure : Int) (s : Int) = (m : Int) ∧ s = (f.dat.take s).length) := ⟨fun h => by rw [← hm, List.length_take]; omega⟩
  have hmg : Hid (¬ s < f.dat.length → min (f.sure : Int) (f.dat.length : Int) = (m : Int) ∧ f.dat.take s = f.dat) := ⟨fun h => by rw [← hm, List.length_take]; exact ⟨by omega, List.take_of_length_le (by omega)⟩⟩
  clear h1 g1 hI hch hOk h hok hm hby hown hff
  obtain ⟨hB0, x0, x1, x2, x3, x4, x5⟩ := hst.out X (Below.refl _ _)
  go_wp2_with fail
  all_goals clear i0 i1 i2 c0 fz
  · obtain rfl : s = 0 := by omega
    obtain ⟨b, hp, hspc, hcq⟩ := hcp.out (by omega)
    subst hp
    obtain ⟨hm1, hm2⟩ := hml.out (by omega)
    replace hm1 : min (f.sure : Int) (0 : Int) = (m : Int) := hm1
    replace hm2 := Hid.mk hm2
    clear hXe hfb hXr
    have x1' := x1 (k * 3 + 1)
    have hspc' : (0 : Int) ≤ (pc : Int) := by omega
    have hs0 : (0 : Int) ≤ (0 : Int) := by omega
    clear hfinB hmg
    replace hcq := Hid.mk hcq
    have hcX := hcq.out X.drew (Below.refl _ _).drew
    have hdB : Below X.heap.size X X.drew := (Below.refl _ _).drew
    replace hdB := Hid.mk hdB
    replace hB0 := Hid.mk hB0
    go_region_with (go_at_call 36; refine hcX.mono ?_; rintro e w3 ⟨p3, c3, rfl, ho3, hb3⟩; have hBX := below_step hdB.out hb3; obtain ⟨hB3, y0, y1, y2, y3, y4, y5⟩ := hst.out w3 hBX; have y1' := y1 (k * 3 + 1); replace ho3 := Hid.mk ho3; replace hb3 := Hid.mk hb3; replace hB3 := Hid.mk hB3; replace hBX := Hid.mk hBX)
    all_goals
      obtain ⟨Y4, hY4⟩ : ∃ Y, w3.setCell ⟨g, k * 3 + 1, none⟩ (.slice p3 0 c3) = Y := ⟨_, rfl⟩
      obtain ⟨z0, z1, z2, z3, z5⟩ := hst2.out w3 (.slice p3 0 c3) hBX.out
      rw [hY4] at z0 z1 z2 z3 z5 ⊢
      have z1' := z1 (k * 3 + 2)
      clear x0 x1 x2 x3 x4 x5 x1' y0 y1 y2 y3 y4 y5 y1'
      go_wp2_with fail
      go_region
      all_goals
        go_wp2
        go_ret
        subst hY4
        exact ⟨rfl, dv_drew (hfinA.out (.slice p3 0 c3) 0 w3 hm2.out hB3.out (ho3.out.mono (Nat.le_trans hb0.size hdB.out.size)) _ (Below.refl _ _))⟩
  · obtain rfl : s = 0 := by omega
    obtain ⟨hm1, hm2⟩ := hmg.out (by omega)
    have x1' := x1 (k * 3 + 2)
    replace hB0 := Hid.mk hB0
    clear hst hfinA hml hcp
    go_region
    all_goals
      go_wp2
      go_ret
      exact ⟨rfl, dv_drew (hfinB.out hm2 X hB0.out)⟩
  · obtain rfl : size = (s : Int) := by omega
    obtain ⟨b, hp, hspc, hcq⟩ := hcp.out (by omega)
    subst hp
    obtain ⟨hm1, hm2⟩ := hml.out (by omega)
    replace hm1 : min (f.sure : Int) (s : Int) = (m : Int) := hm1
    replace hm2 := Hid.mk hm2
    clear hXe hfb hXr
    have x1' := x1 (k * 3 + 1)
    have hspc' : (s : Int) ≤ (pc : Int) := by omega
    have hs0 : (0 : Int) ≤ (s : Int) := by omega
    clear hfinB hmg
    replace hcq := Hid.mk hcq
    have hcX := hcq.out X.drew (Below.refl _ _).drew
    have hdB : Below X.heap.size X X.drew := (Below.refl _ _).drew
    replace hdB := Hid.mk hdB
    replace hB0 := Hid.mk hB0
    go_region_with (go_at_call 36; refine hcX.mono ?_; rintro e w3 ⟨p3, c3, rfl, ho3, hb3⟩; have hBX := below_step hdB.out hb3; obtain ⟨hB3, y0, y1, y2, y3, y4, y5⟩ := hst.out w3 hBX; have y1' := y1 (k * 3 + 1); replace ho3 := Hid.mk ho3; replace hb3 := Hid.mk hb3; replace hB3 := Hid.mk hB3; replace hBX := Hid.mk hBX)
    all_goals
      obtain ⟨Y4, hY4⟩ : ∃ Y, w3.setCell ⟨g, k * 3 + 1, none⟩ (.slice p3 s c3) = Y := ⟨_, rfl⟩
      obtain ⟨z0, z1, z2, z3, z5⟩ := hst2.out w3 (.slice p3 s c3) hBX.out
      rw [hY4] at z0 z1 z2 z3 z5 ⊢
      have z1' := z1 (k * 3 + 2)
      clear x0 x1 x2 x3 x4 x5 x1' y0 y1 y2 y3 y4 y5 y1'
      go_wp2_with fail
      go_region
      all_goals
        go_wp2
        go_ret
        subst hY4
        exact ⟨rfl, dv_drew (hfinA.out (.slice p3 s c3) s w3 hm2.out hB3.out (ho3.out.mono (Nat.le_trans hb0.size hdB.out.size)) _ (Below.refl _ _))⟩
  · obtain rfl : size = (s : Int) := by omega
    obtain ⟨hm1, hm2⟩ := hmg.out (by omega)
    have x1' := x1 (k * 3 + 2)
    replace hB0 := Hid.mk hB0
    clear hst hfinA hml hcp
    go_region
    all_goals
      go_wp2
      go_ret
      exact ⟨rfl, dv_drew (hfinB.out hm2 X hB0.out)⟩
end Go.Proofs.YthbojlbgjmecoaaGreat.DJ


/- levyref19's disk: what Append is made of. -/
namespace Go.Proofs.YthbojlbgjmecoaaGreat.DJ
open Go.RowKit
set_option linter.constructorNameAsVariable false

theorem run_appB (w : World) (base : Nat) (ty : TypeId) (v : Value) (n : Nat) (xs : List Value) (hown : w.ownsRow base 5 1 v n xs) (ad : Option Addr) (c : Nat) (bs : List Nat) (hcap : ad = none → c = 0) (hN : Byts w ad bs) (hlen : n + bs.length ≤ 140737488355328) (hbase : base ≤ w.heap.size) :
    ∃ p q w', (Builtin.append_ #[34, 34] ty #[v, .slice ad bs.length c]).run Tryz.prog w = .ok (.slice p (n + bs.length) q) w' ∧ w'.ownsRow base 5 1 (.slice p (n + bs.length) q) (n + bs.length) (xs ++ bysV bs) ∧ w.grownBy w' v.ownBlock := by
  obtain ⟨i0, hi, hz0, hz1, hz2⟩ := info_parts infoB
  cases ad with
  | none =>
    obtain rfl := hcap rfl
    obtain ⟨h0, h1 | ⟨b, off, h1, _⟩⟩ := hN
    · subst h1
      have hr := run_append_owned_none (P := Tryz.prog) (w := w) base 34 ty 5 i0 1 Tryz.underlying34 hi v n xs hown
      obtain ⟨p, q, rfl⟩ := own_lenB hown
      refine ⟨p, q, w, hr, ?_, ⟨rfl, rfl, rfl, Nat.le_refl _, fun _ _ _ => rfl⟩⟩
      rw [show bysV [] = [] from rfl, List.append_nil]
      exact hown
    · cases h1
  | some ad =>
    obtain ⟨v', w', h1, h2, h3, -, -⟩ := run_append_own_at (P := Tryz.prog) w base 34 ty 5 i0 (.int .u8 0) 1 1 Tryz.underlying34 hi hz0 hz1 hz2 rfl (by decide) v n xs hown ad bs.length c (bysV bs) (by simp [bysV]) (fun j u hj => by
      obtain ⟨h0, rfl | ⟨b, off, h1, hlt, hc⟩⟩ := hN
      · simp [bysV] at hj
      · obtain rfl := Option.some.inj h1
        have hjl : j < bs.length := by
          have := (List.getElem?_eq_some_iff.1 hj).1
          simpa [bysV] using this
        have := hc j hjl
        simp only [bysV, List.getElem?_map, List.getElem?_eq_getElem hjl, Option.map_some, Option.some.injEq] at hj
        rw [← hj, Go.WideShapes.add_plain]
        exact this) (bysV_one bs) (by unfold maxLen; omega) (by omega) hbase
    obtain ⟨p, q, rfl⟩ := own_lenB h2
    exact ⟨p, q, w', h1, h2, h3⟩
theorem step_appB {ops : Array Oper} {o : Oper} {a : Act} (w : World) {K : Act → World → Prop} {Q : Exit → Act → World → Prop} {E : Prop}
    (hg : o.guard = none) (s x : Operand) (ho : o.op = .call { callee := .builtin .append, args := #[s, x], argTypes := #[34, 34] })
    (base : Nat) (v : Value) (n : Nat) (xs : List Value) (hs : a.eval s = v) (hown : w.ownsRow base 5 1 v n xs) (ad : Option Addr) (c m : Nat) (bs : List Nat) (hm : m = bs.length) (hx : a.eval x = .slice ad m c) (hcap : ad = none → c = 0) (hN : Byts w ad bs) (hlen : n + bs.length ≤ 140737488355328) (hbase : base ≤ w.heap.size)
    (h : ∀ p q w', w'.ownsRow base 5 1 (.slice p (n + bs.length) q) (n + bs.length) (xs ++ bysV bs) → w.grownBy w' v.ownBlock → K (a.put o.dst (.slice p (n + bs.length) q)) w') : if Region.wanted o (yielded ops a.tmps) = true then Oper.wp Tryz.prog o a w K Q else E := by
  subst hm
  rw [if_pos (by simp [Region.wanted, hg])]
  obtain ⟨p, q, w', hr, h2, h3⟩ := run_appB w base o.type v n xs hown ad c bs hcap hN hlen hbase
  unfold Oper.wp execOp
  simp only [ho, resolve, invoke, builtin, Sem.run_bind, Sem.run_pure, Result.andThen_ok, List.map_toArray, List.map_cons, List.map_nil, hs, hx, hr]
  exact h p q w' h2 h3
/-- A file's bytes have turned. -/
theorem RdAt.dat {T : Nat → Prop} {rb : Nat} {d : Dk} {w Y : World} {k g n c pc : Nat} {f f1 : Fl} {p : Option Addr} {x : Value} (h : RdAt w T rb d) (hI : ItP w T rb d k f g n c p pc) (hn : f1.nm = f.nm) (hs : f1.sure = f.sure) (hb : ∀ y ∈ f1.dat, y < 256) (hB : Below w.heap.size w Y) (ho : Y.ownsRow w.heap.size 5 1 x f1.dat.length (bysV f1.dat)) (hok : Ok { d with fs := d.fs.set k f1 }) : ∃ T', RdAt (Y.setCell ⟨g, k * 3 + 1, none⟩ x) T' rb { d with fs := d.fs.set k f1 } ∧ Dv T w T' (Y.setCell ⟨g, k * 3 + 1, none⟩ x) := by
  have hne := hI.fs.neR hI.row
  have hgT := hI.fs.blk
  have hF := (hI.fs.grS (GrS.of_below hB) (fun _ _ h => h)).mono (T' := fun z => T z ∨ x.ownBlock = some z) (fun _ _ h => .inl h)
  have hF1 := hF.dataF (i := k) hI.hk (f := f1) (x := x) (by rw [hI.hf]; exact hn) (by rw [hI.hf]; exact hs) hb (ho.mono (Nat.zero_le _)) (fun z hz => .inr hz)
  have hg1 := grS_set Y g (k * 3 + 1) x
  have hgA := (GrS.of_below (S := fun z => z = g) hB).trans hg1
  refine ⟨_, RdAt.files h hok ((hgA.block rb h.lt (fun e => hne e.symm)).trans hI.row) hF1 (.inl h.Trb) (fun z hz => ?_), ⟨hgA.mono (fun _ _ e => by rw [e]; exact hgT), fun z hz => ?_⟩⟩
  · rcases hz with hz | hz
    · exact Nat.lt_of_lt_of_le (h.hi z hz) hgA.size
    · exact Nat.lt_of_lt_of_le (ho.lt z hz).2 hg1.size
  · rcases hz with hz | hz
    · exact .inl hz
    · exact .inr (ho.lt z hz).1
theorem get_ins {fs : List Fl} {f : Fl} (hs : Srt fs) (h : ∀ g ∈ fs, g.nm ≠ f.nm) : get (ins fs f) f.nm = some f := get_of (srt_ins hs h) (mem_ins.2 (.inl rfl))
end Go.Proofs.YthbojlbgjmecoaaGreat.DJ

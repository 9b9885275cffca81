import Derived.Test.YthmjkmdbggfiiaaGreatDoorJoin54
import Derived.Deep.RegionHeld3
/- CurveFresh: the walk. -/
namespace Go.Proofs.YthmjkmdbggfiiaaGreatDoor.CF
open Go.RowKit KB
set_option linter.constructorNameAsVariable false
attribute [local go_sem] run_store_float

set_option maxRecDepth 20000 in
set_option maxHeartbeats 4000000 in
theorem fresh_walk (D0 : Dots) (hD0 : Ok D0) (hl0 : D0.length ≤ 8796093021952) (a : Option Addr) (c0 : Nat) (w : World) (h : RtAt w a D0) (hTab0 : ∀ X, Below w.heap.size w X → Go.Lib.TabIs Tryz.prog X "internal/strconv.uint64pow10" .u64 Go.Lib.pow10Tab) : Calls Tryz.prog 3 #[.slice a D0.length c0] w fun e w' => e = .returned (.bool true) ∧ Below w.heap.size w w' := by
  have hkn := known_any w
  obtain ⟨iP, hP5, hP0, hP1, hP2⟩ := info_parts infoPoints
  obtain ⟨iT, hT5, hT0, hT1, hT2⟩ := info_parts infoTold
  go_enter Tryz.func3, Tryz.ntmps3
  go_wp2_with (go_at_call 4; fail)
  refine hkn.mono ?_
  clear hkn
  rintro _ w1 ⟨rfl, b1⟩
  have hs := sound_any D0 hD0 hl0 a c0 w1 (h.later b1)
  go_wp2_with (go_at_call 5; fail)
  refine hs.mono ?_
  clear hs
  rintro _ w2 ⟨ai, ci, rfl, oi, b2⟩
  have hSnd := snd_D D0 (m := min D0.length 64) (by omega)
  have hDk := WD_ok hSnd
  have hIo := WD_io hSnd
  have hDl : (WD (fun k => sX D0 (k + 1)) (sZ D0) (min D0.length 64)).length = min D0.length 64 := WD_len _ _ _
  obtain ⟨D, hDe⟩ : ∃ D, WD (fun k => sX D0 (k + 1)) (sZ D0) (min D0.length 64) = D := ⟨_, rfl⟩
  rw [hDe] at hDk hIo hDl oi
  rw [← hDl] at oi
  rw [← hDl]
  have hD64 : D.length ≤ 64 := by omega
  obtain ⟨en, T, hR⟩ := drR_some D 9 5
  have hc := Hid.mk (tolC_ok hDk hIo hD64 hR)
  have hcl := own_capW oi
  have hPi : PtAt w2 ai D := by
    obtain ⟨a', c', e', hp⟩ := pt_of_own oi rfl
    simp only [Value.slice.injEq] at e'
    obtain ⟨rfl, -, rfl⟩ := e'
    exact hp
  have hnn : NN D := fun d hd => by
    obtain ⟨k, hk, rfl⟩ := List.mem_iff_getElem.1 hd
    have h1 := gB_parts (inO_true.1 hIo k hk)
    have e1 : D.getD k (0, 0) = D[k] := by rw [List.getD_eq_getElem?_getD, List.getElem?_eq_getElem hk]; rfl
    rw [e1] at h1
    exact ⟨(hDk _ hd).2, Nat.le_of_lt h1.1.2⟩
  clear hSnd hDe hDl hIo
  replace hDk := Hid.mk hDk
  replace hR := Hid.mk hR
  go_wp2_with (at_builtin; refine stopJ ?_)
  unfold StopJ
  refine wpList_copy _ rfl _ 24 rfl 64 iP _ 2 16 Tryz.underlying24 hP5 hP0 hP1 hP2 rfl (by decide) _ rfl oi (ptV_one D) (by omega) (by decide) ?_
  intro vw w3 ow b3
  obtain ⟨aw, cw, rfl⟩ := own_sl ow
  have hB12 := below_step b1 b2
  have hB13 := Hid.mk (below_step hB12 b3)
  have hPi3 := Hid.mk (hPi.later b3)
  have hgi := Hid.mk (gp_of hnn)
  have hwi : Hid (RwZ w3 (fun _ => True) (.slice ai D.length ci) D.length (ptV D)) := ⟨rw_later ((RwZ.of_own oi).more (fun _ _ => trivial)) b3⟩
  have hww : Hid (RwZ w3 (fun _ => True) (.slice aw D.length cw) D.length (ptV D)) := ⟨(RwZ.of_own ow).more (fun _ _ => trivial)⟩
  have hTab : Hid (∀ X, Below w3.heap.size w3 X → Go.Lib.TabIs Tryz.prog X "internal/strconv.uint64pow10" .u64 Go.Lib.pow10Tab) := ⟨fun X hX => hTab0 X (below_step hB13.out hX)⟩
  obtain ⟨w4, hw4⟩ : ∃ W, w3.alloc (.cells bkLit 53) = W := ⟨_, rfl⟩
  have hB0 : BkC w3.heap.size w3.heap.size w3 [] (fun _ _ => False) 0 w4 := by rw [← hw4]; exact BkC.new w3
  obtain ⟨ik, -, hB1⟩ := hB0.reserve (Nat.le_refl _) (Below.refl _ _) (e := 57) (z := 6) (n := 0) (v := .slice none 0 0) (L := []) (by decide) (World.ownsRow_nil _ _ _ _)
  obtain ⟨c, hcc⟩ : ∃ c, tolC D T = c := ⟨_, rfl⟩
  rw [hcc] at hc
  have hF : Hid (FrS w3.heap.size w3 c ik 0 (.slice none 0 0) w4) := ⟨[], [], rfl, hB1.less (fun y hy => hy) (fun q x hq => .inr hq), fun t ht => (by cases ht)⟩
  obtain ⟨bk0, hbk⟩ : ∃ v, Value.agg bkLit = v := ⟨_, rfl⟩
  simp only [bkLit] at hw4 hbk
  replace hw4 := Hid.mk hw4
  replace hbk := Hid.mk hbk
  clear hB0 hB1 b1 b2 b3 hB12 oi ow hPi hnn hTab0 h hD0
  go_upto_region 6 with (refine KB.wp_build rfl KB.book_built ?_)
  rw [hw4.out, hbk.out]
  clear hw4 hbk
  go_wp2
  go_loopw [6, 7] (fun kv v wr => ∃ k : Nat, k ≤ 3 ∧ v = .int .i64 (k : Int) ∧ (∃ ga gc, kv = .slice ga k gc) ∧ FrS w3.heap.size w3 c ik k kv wr) (fun _ v _ => 3 - (intOf v).toNat)
  case atStart => exact ⟨0, by decide, rfl, ⟨none, 0, rfl⟩, hF.out⟩
  case round =>
    clear hF
    obtain ⟨k, hk, rfl, ⟨ga, gc, rfl⟩, hFr⟩ := hrel
    have hbase := hFr.base
    by_cases hlt : k < 3
    · have hlt' : (k : Int) < 3 := by omega
      have hk0 : (0 : Int) ≤ (k : Int) := by omega
      replace hFr := Hid.mk hFr
      have hT := fun X (hX : Below w3.heap.size w3 X) => tell_any hDk.out hD64 hR.out ai ci hcl X (hPi3.out.later hX)
      rw [hcc] at hT
      have hTc := Hid.mk hT
      have ht1 := hT _ hbase
      clear hT
      replace hbase := Hid.mk hbase
      go_wp2_with (go_at_call 6; fail)
      refine ht1.mono ?_
      clear ht1
      intro e1 X1 hp1
      obtain ⟨pa, qa, pb, qb, pd, qd, pe, qe, pj, qj, pt, qt, rfl, hr1, hb1⟩ := hp1.sl
      have ht2 := hTc.out _ (below_step hbase.out hb1)
      replace hr1 := Hid.mk hr1
      clear hp1 hTc
      go_wp2_with (go_at_call 6; fail)
      refine ht2.mono ?_
      clear ht2
      intro e2 X2 hp2
      obtain ⟨ra, sa, rb, sb, rd, sd, re, se, rj, sj, rt, st, rfl, hr2, hb2⟩ := hp2.sl
      obtain ⟨KV, F, hKl, hB, hKf⟩ := hFr.out
      obtain ⟨is, js, it, iu, hx, hS⟩ := RdS.start hB hKf hKl (Nat.le_refl _) (.slice pa c.na qa, .slice pb c.nb qb, .slice pd c.nc qd, .slice pe c.ne qe, .slice pj c.nj qj, .slice pt c.nd qt) (.slice ra c.na sa, .slice rb c.nb sb, .slice rd c.nc sd, .slice re c.ne se, .slice rj c.nj sj, .slice rt c.nd st) hb1 hr1.out hb2 hr2
      simp only [v6L] at hS
      replace hS := Hid.mk hS
      replace hx := Hid.mk hx
      clear hp2 hr1 hr2 hb1 hb2 hB hKf hbase hFr
      obtain ⟨Xa, hXa⟩ : ∃ Xa, ((X2.alloc (.cells #[.slice pa c.na qa, .slice pb c.nb qb, .slice pd c.nc qd, .slice pe c.ne qe, .slice pj c.nj qj, .slice pt c.nd qt] 57)).alloc (.cells #[.slice ra c.na sa, .slice rb c.nb sb, .slice rd c.nc sd, .slice re c.ne se, .slice rj c.nj sj, .slice rt c.nd st] 57)) = Xa := ⟨_, rfl⟩
      rw [hXa] at hS
      replace hXa := Hid.mk hXa
      go_upto_region 11 with fail
      rw [hXa.out]
      clear hXa
      have hbe := beside_any Xa
      go_wp2_with (go_at_call 7; fail)
      refine hbe.mono ?_
      clear hbe
      rintro _ Xb ⟨rfl, hbb⟩
      replace hS := Hid.mk (hS.out.later (Nat.le_refl _) hbb)
      clear hbb
      go_upto_region 13 with fail
      obtain ⟨⟨c0', c1', c2', c3', c4', c5'⟩, -⟩ := hS.out.tbox
      have hcp := copied_any hc.out _ _ _ _ _ _ Xb (hS.out.t_own hx.out)
      simp only at c0' c1' c2' c3' c4' c5' hcp
      go_wp2_with (go_at_call 8; fail)
      refine hcp.mono ?_
      clear hcp c0' c1' c2' c3' c4' c5'
      intro e3 X3 hp3
      obtain ⟨fa, ka, fb, kb, fd, kd, fe, ke, fj, kj, ft, kt, rfl, hr3, hb3⟩ := hp3.sl
      obtain ⟨F3, hS3, hF3⟩ := hS.out.add (Nat.le_refl _) hb3 hr3
      have hbA : Below X3.heap.size X3 (X3.alloc (.cells #[.slice fa c.na ka, .slice fb c.nb kb, .slice fd c.nc kd, .slice fe c.ne ke, .slice fj c.nj kj, .slice ft c.nd kt] 57)) := (Below.refl _ _).alloc (Nat.le_refl _) _
      replace hS3 := Hid.mk (hS3.later (Nat.le_refl _) hbA)
      replace hF3 := Hid.mk hF3
      have hlo4 := hS3.out.b.base.size
      have hok := hS3.out.kept_own
      clear hp3 hr3 hb3 hS hbA
      go_wp2_with (at_builtin; refine stopJ ?_)
      unfold StopJ
      refine wpList_app _ rfl _ _ 54 rfl w3.heap.size 57 iT _ 6 144 Tryz.underlying54 hT5 hT0 hT1 hT2 rfl (by decide) _ k _ rfl hok _ 1 _ [.slice fa c.na ka, .slice fb c.nb kb, .slice fd c.nc kd, .slice fe c.ne ke, .slice fj c.nj kj, .slice ft c.nd kt] rfl rfl (lit6 _ _ _ _ _ _ _) (fun u hu => one6 hu) (by unfold maxLen; omega) (by omega) hlo4 ?_
      intro kv4 X4 ho4 hg4 hat4 hkp4
      clear hkp4 hok
      have hS4 := hS3.out.app hx.out (Nat.le_refl _) hF3.out ho4 hg4 hat4
      obtain ⟨n4, hn4⟩ : ∃ n, k + 1 = n := ⟨_, rfl⟩
      rw [hn4] at ho4 hS4
      have hkn : (k : Int) < (n4 : Int) := by omega
      have h0n : 0 < n4 := by omega
      obtain ⟨g4, cap4, rfl⟩ : ∃ g4 cap4, kv4 = .slice (some ⟨g4, 0, none⟩) n4 cap4 := by
        obtain ⟨a', c', rfl, hz⟩ := KB.own_len ho4
        obtain ⟨g', rfl, -⟩ := hz (by omega)
        exact ⟨g', c', rfl⟩
      obtain ⟨s0, hs0⟩ : ∃ s0, (KV ++ [((.slice fa c.na ka, .slice fb c.nb kb, .slice fd c.nc kd, .slice fe c.ne ke, .slice fj c.nj kj, .slice ft c.nd kt) : V6)])[0]? = some s0 := ⟨_, List.getElem?_eq_getElem (by simp)⟩
      have hsk : (KV ++ [((.slice fa c.na ka, .slice fb c.nb kb, .slice fd c.nc kd, .slice fe c.ne ke, .slice fj c.nj kj, .slice ft c.nd kt) : V6)])[k]? = some (.slice fa c.na ka, .slice fb c.nb kb, .slice fd c.nc kd, .slice fe c.ne ke, .slice fj c.nj kj, .slice ft c.nd kt) := by
        rw [← hKl]; simp
      obtain ⟨KV4, hKV4⟩ : ∃ KV4, KV ++ [((.slice fa c.na ka, .slice fb c.nb kb, .slice fd c.nc kd, .slice fe c.ne ke, .slice fj c.nj kj, .slice ft c.nd kt) : V6)] = KV4 := ⟨_, rfl⟩
      rw [hKV4] at hS4 hs0 hsk
      clear ho4 hg4 hat4 hS3 hF3 hlo4 hKV4 hKl KV F
      obtain ⟨z0, z1, z2, z3, z4, z5⟩ := s0
      replace hs0 := Hid.mk hs0
      have hlook := Hid.mk (fun Y (hY : Below X4.heap.size X4 Y) => hS4.look hx.out hc.out (Nat.le_refl _) hsk hs0.out hY)
      replace hsk := Hid.mk hsk
      replace hS4 := Hid.mk hS4
      simp only [At6, BoxC, Nat.zero_mul, Nat.zero_add, SameC, aggV] at hlook
      have b40 : Below X4.heap.size X4 X4.drew := (Below.refl _ _).drew
      obtain ⟨hS0, hC1, -⟩ := hlook.out X4.drew b40
      go_upto_region 14 with fail
      go_region_held3 (fun X : World => (X.cell? ⟨g4, k * 6, none⟩ = some (.slice fa c.na ka) ∧ X.cell? ⟨g4, k * 6 + 1, none⟩ = some (.slice fb c.nb kb) ∧ X.cell? ⟨g4, k * 6 + 2, none⟩ = some (.slice fd c.nc kd) ∧ X.cell? ⟨g4, k * 6 + 3, none⟩ = some (.slice fe c.ne ke) ∧ X.cell? ⟨g4, k * 6 + 4, none⟩ = some (.slice fj c.nj kj) ∧ X.cell? ⟨g4, k * 6 + 5, none⟩ = some (.slice ft c.nd kt)) ∧ (X.cell? ⟨g4, 0, none⟩ = some z0 ∧ X.cell? ⟨g4, 1, none⟩ = some z1 ∧ X.cell? ⟨g4, 2, none⟩ = some z2 ∧ X.cell? ⟨g4, 3, none⟩ = some z3 ∧ X.cell? ⟨g4, 4, none⟩ = some z4 ∧ X.cell? ⟨g4, 5, none⟩ = some z5) ∧ (X.cell? ⟨X2.heap.size + 1, 0, none⟩ = some (.slice ra c.na sa) ∧ X.cell? ⟨X2.heap.size + 1, 1, none⟩ = some (.slice rb c.nb sb) ∧ X.cell? ⟨X2.heap.size + 1, 2, none⟩ = some (.slice rd c.nc sd) ∧ X.cell? ⟨X2.heap.size + 1, 3, none⟩ = some (.slice re c.ne se) ∧ X.cell? ⟨X2.heap.size + 1, 4, none⟩ = some (.slice rj c.nj sj) ∧ X.cell? ⟨X2.heap.size + 1, 5, none⟩ = some (.slice rt c.nd st)) ∧ ∀ o, X.frozen? ⟨X2.heap.size + 1, o, none⟩ = false) (with_reducible assumption)
        (first
          | (go_at_call 9; refine hC1.mono ?_; clear hC1; rintro e5 X5 ⟨rfl, b5⟩; obtain ⟨hS5, -, hC2⟩ := hlook.out _ (below_step b40 b5))
          | (go_at_call 9; refine hC2.mono ?_; rintro e6 X6 ⟨rfl, b6⟩; obtain ⟨hS6, -, -⟩ := hlook.out _ (below_step (below_step b40 b5) b6)))
      have hB6 := below_step (below_step b40 b5) b6
      replace hS4 := Hid.mk (hS4.out.later (Nat.le_refl _) hB6)
      clear hS0 hS5 hS6 hC2 hlook hsk b40 b5 b6 hB6
      obtain ⟨⟨c0', c1', c2', c3', c4', c5'⟩, -⟩ := hS4.out.tbox
      simp only at c0' c1' c2' c3' c4' c5'
      have hin := fun mark => hS4.out.into hx.out hc.out (Nat.le_refl _) (by omega) mark hTab.out
      have hf4 := Hid.mk hS4.out.f
      have hl4 := hS4.out.l
      simp only at hin
      clear hS4
      go_upto_region 16 with fail
      go_wp2_with (go_at_call 10; fail)
      refine (hin _).mono ?_
      clear hin c0' c1' c2' c3' c4' c5'
      rintro _ Y1 ⟨rfl, hU⟩
      replace hU := Hid.mk hU
      have hlook := Hid.mk (fun Y (hY : Below Y1.heap.size Y1 Y) => RU.look hU.out hf4.out hl4 hx.out hc.out (Nat.le_refl _) hs0.out hY)
      simp only [At6, BoxC, Nat.zero_mul, Nat.zero_add, SameC, aggV] at hlook
      have hHold := Hid.mk (fun Y (hY : Below Y1.heap.size Y1 Y) => (hU.out.later (Nat.le_refl _) hY).hold (by omega))
      have b10 : Below Y1.heap.size Y1 Y1.drew := (Below.refl _ _).drew
      obtain ⟨hS0, hC1⟩ := hlook.out Y1.drew b10
      go_upto_region 17 with fail
      go_region_held3 (fun X : World => (X.cell? ⟨g4, 0, none⟩ = some z0 ∧ X.cell? ⟨g4, 1, none⟩ = some z1 ∧ X.cell? ⟨g4, 2, none⟩ = some z2 ∧ X.cell? ⟨g4, 3, none⟩ = some z3 ∧ X.cell? ⟨g4, 4, none⟩ = some z4 ∧ X.cell? ⟨g4, 5, none⟩ = some z5) ∧ (X.cell? ⟨X2.heap.size + 1, 0, none⟩ = some (.slice ra c.na sa) ∧ X.cell? ⟨X2.heap.size + 1, 1, none⟩ = some (.slice rb c.nb sb) ∧ X.cell? ⟨X2.heap.size + 1, 2, none⟩ = some (.slice rd c.nc sd) ∧ X.cell? ⟨X2.heap.size + 1, 3, none⟩ = some (.slice re c.ne se) ∧ X.cell? ⟨X2.heap.size + 1, 4, none⟩ = some (.slice rj c.nj sj) ∧ X.cell? ⟨X2.heap.size + 1, 5, none⟩ = some (.slice rt c.nd st)) ∧ ∀ o, X.frozen? ⟨X2.heap.size + 1, o, none⟩ = false) (with_reducible assumption)
        (first
          | (go_at_call 9; refine hC1.mono ?_; clear hC1; rintro e7 Y2 ⟨rfl, b7⟩; obtain ⟨hS7, -⟩ := hlook.out _ (below_step b10 b7); have hH := hHold.out _ (below_step b10 b7))
          | (go_at_call 11; refine hH.mono ?_; clear hH; rintro e8 Y3 ⟨rfl, b8⟩; obtain ⟨hS8, -⟩ := hlook.out _ (below_step (below_step b10 b7) b8)))
      have hB8 := below_step (below_step b10 b7) b8
      replace hU := Hid.mk (hU.out.later (Nat.le_refl _) hB8)
      clear hS0 hS7 hS8 hlook hHold b10 b7 b8 hB8
      obtain ⟨⟨c0', c1', c2', c3', c4', c5'⟩, hfz⟩ := RU.tbox hU.out
      obtain ⟨⟨d0', d1', d2', d3', d4', d5'⟩, -⟩ := RU.ubox hU.out
      have hfz0 := hfz 0
      have hfz1 := hfz 1
      have hfz2 := hfz 2
      have hfz3 := hfz 3
      have hfz4 := hfz 4
      have hfz5 := hfz 5
      simp only at c0' c1' c2' c3' c4' c5' d0' d1' d2' d3' d4' d5'
      clear hfz
      have hW := RU.write hU.out hx.out (Nat.le_refl _)
      obtain ⟨Y4, hY4⟩ : ∃ Y4, put6 Y3 X2.heap.size (.slice ra c.na sa) (.slice rb c.nb sb) (.slice rd c.nc sd) (.slice re c.ne se) (.slice rj c.nj sj) (.slice rt c.nd st) = Y4 := ⟨_, rfl⟩
      simp only at hW
      rw [hY4] at hW
      simp only [put6] at hY4
      replace hW := Hid.mk hW
      replace hY4 := Hid.mk hY4
      clear hU
      go_upto_region 20 with fail
      rw [hY4.out]
      clear c0' c1' c2' c3' c4' c5' d0' d1' d2' d3' d4' d5' hfz0 hfz1 hfz2 hfz3 hfz4 hfz5 hY4
      obtain ⟨⟨c0', c1', c2', c3', c4', c5'⟩, -⟩ := RU.tbox hW.out
      simp only at c0' c1' c2' c3' c4' c5'
      have hin := fun mark => RU.into hW.out hx.out hc.out (Nat.le_refl _) (by omega) mark hTab.out
      simp only at hin
      clear hW
      go_wp2_with (go_at_call 10; fail)
      refine (hin _).mono ?_
      clear hin c0' c1' c2' c3' c4' c5'
      rintro _ Y5 ⟨rfl, hV⟩
      have hHo := hV.hold (by omega)
      replace hV := Hid.mk hV
      go_wp2_with (go_at_call 11; fail)
      refine hHo.mono ?_
      clear hHo
      rintro _ Y6 ⟨rfl, b16⟩
      have hFr' : FrS w3.heap.size w3 c ik n4 (.slice (some ⟨g4, 0, none⟩) n4 cap4) Y6 := by
        have hV6 := hV.out.later (Nat.le_refl _) b16
        rw [← hn4] at hV6 ⊢
        exact RV.done hV6 hf4.out (hl4.trans hn4.symm) (by omega)
      replace hFr' := Hid.mk hFr'
      clear hV b16
      go_wp2
      go_roundw
      case rel => exact ⟨n4, by omega, by rw [← hn4]; first | rfl | go_num, ⟨_, _, rfl⟩, hFr'.out⟩
      case measure => simp [intOf]; omega
    · have hlt' : ¬ (k : Int) < 3 := by omega
      clear hFr hc hTab hR hDk hPi3 hT5 hT0 hT1 hT2 hP5 hP0 hP1 hP2
      obtain ⟨aa, ca, ea, hda⟩ := hwi.out
      simp only [Value.slice.injEq, true_and] at ea
      obtain ⟨rfl, rfl⟩ := ea
      obtain ⟨ab, cb, eb, hdb⟩ := hww.out
      simp only [Value.slice.injEq, true_and] at eb
      obtain ⟨rfl, rfl⟩ := eb
      clear hwi hww
      have hgp := hgi.out.2
      generalize hnL : D.length = nL at *
      generalize ptV D = L at *
      replace hda := Hid.mk hda
      replace hdb := Hid.mk hdb
      replace hgp := Hid.mk hgp
      clear hgi hcl hlt hk
      replace hbase := Hid.mk hbase
      go_wp2
      go_loopw [10] (fun v wr => ∃ j : Nat, j ≤ nL ∧ v = .int .i64 (j : Int) ∧ Below w3.heap.size w3 wr) (fun v _ => nL - (intOf v).toNat)
      case atStart => exact ⟨0, by omega, rfl, hbase.out⟩
      case round =>
        clear hbase
        obtain ⟨j, hj, rfl, hbr⟩ := hrel
        by_cases hlt : j < nL
        · have hltj : (j : Int) < (nL : Int) := by omega
          have hj0 : (0 : Int) ≤ (j : Int) := by omega
          obtain ⟨ba, rfl, -, hla, hca⟩ := hda.out.resolve_left (by omega)
          obtain ⟨bb, rfl, -, hlb, hcb⟩ := hdb.out.resolve_left (by omega)
          obtain ⟨x, b, hx0, hx1, hE⟩ := hgp.out j hlt
          have a0 := (hbr.cell (p := ⟨ba, j * 2, none⟩) hla).trans (hca _ _ hx0)
          have a1 := (hbr.cell (p := ⟨ba, j * 2 + 1, none⟩) hla).trans (hca _ _ hx1)
          have b0 := (hbr.cell (p := ⟨bb, j * 2, none⟩) hlb).trans (hcb _ _ hx0)
          have b1 := (hbr.cell (p := ⟨bb, j * 2 + 1, none⟩) hlb).trans (hcb _ _ hx1)
          have hn := fun X => neq_pt x hE X
          replace hbr := Hid.mk hbr
          clear hca hcb hda hdb hx0 hx1 hE hgp hla hlb
          go_upto_region 26 with fail
          go_quiet (fail)
          go_wp2
          go_roundw
          case rel => exact ⟨j + 1, by omega, by first | rfl | go_num, below_drewN hbr.out _⟩
          case measure => simp [intOf]; omega
        · have hltj : ¬ (j : Int) < (nL : Int) := by omega
          go_wp2
          go_ret
          exact ⟨rfl, below_step hB13.out hbr⟩
end Go.Proofs.YthmjkmdbggfiiaaGreatDoor.CF

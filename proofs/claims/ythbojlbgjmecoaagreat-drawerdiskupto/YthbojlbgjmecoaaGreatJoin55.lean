import Derived.Test.YthbojlbgjmecoaaGreatTurnRdXb
import Derived.Test.YthbojlbgjmecoaaGreatJoin48
/- Every step of a disk's script; DrawerDisk. -/
namespace Go.Proofs.YthbojlbgjmecoaaGreat.DJ
open Go.RowKit
set_option linter.constructorNameAsVariable false

theorem disk_any {lo pb db rb l2 : Nat} {d : Dk} {S T : Nat → Prop} (o : OpD) (hB : OpB o) (w : World) (h : PD w lo pb db rb l2 d S T) (hI : OpI w lo o) : Calls Tryz.prog 5 #[.pointer (some ⟨pb, 0, none⟩), .agg o.v.toArray] w (PdP lo pb db rb l2 S T w) := by
  by_cases k1 : o.kind = 1
  · exact disk_append o k1 hB w h hI
  by_cases k2 : o.kind = 2
  · exact disk_sync o k2 hB w h
  by_cases k3 : o.kind = 3
  · exact disk_trim o k3 hB w h
  by_cases k4 : o.kind = 4
  · exact disk_remove o k4 hB w h
  by_cases k5 : o.kind = 5
  · exact disk_read o k5 hB w h
  by_cases k6 : o.kind = 6
  · exact disk_arm o k6 hB w h
  by_cases k7 : o.kind = 7
  · exact disk_fail o k7 hB w h
  by_cases k8 : o.kind = 8
  · exact disk_crash o k8 hB w h
  by_cases k9 : o.kind = 9
  · exact disk_restart o k9 hB w h hI
  by_cases k10 : o.kind = 10
  · exact disk_files o k10 hB w h
  exact disk_other o ⟨k1, k2, k3, k4, k5, k6, k7, k8, k9, k10⟩ hB w h
/-- A step of the script, in memory. -/
structure OdAt (W : World) (lo b off : Nat) (o : OpD) : Prop where
  c0 : W.cell? ⟨b, off, none⟩ = some (.int .i64 o.kind)
  c1 : W.cell? ⟨b, off + 1, none⟩ = some (.int .i64 o.n)
  c2 : W.cell? ⟨b, off + 2, none⟩ = some (.int .i64 o.m)
  c3 : W.cell? ⟨b, off + 3, none⟩ = some (.bool o.sec)
  c4 : W.cell? ⟨b, off + 4, none⟩ = some (.string (strB o.nm))
  c5 : W.cell? ⟨b, off + 5, none⟩ = some (.slice o.da o.dat.length o.dc)
  c6 : W.cell? ⟨b, off + 6, none⟩ = some (.slice o.ka o.ks.length o.kc)
  c7 : W.cell? ⟨b, off + 7, none⟩ = some (.int .u32 o.sum)
  B : OpB o
  I : OpI W lo o
theorem OdAt.later {W X : World} {lo b off : Nat} {o : OpD} (h : OdAt W lo b off o) (hb : b < lo) (hX : Below lo W X) : OdAt X lo b off o := by
  have hG : GrS (fun k => lo ≤ k) W X := ⟨hX.os, hX.tape, hX.output, hX.size, fun k _ hn => hX.block k (by omega)⟩
  have hc : ∀ j v, W.cell? ⟨b, j, none⟩ = some v → X.cell? ⟨b, j, none⟩ = some v := fun j v h => (hX.cell (p := ⟨b, j, none⟩) hb).trans h
  exact ⟨hc _ _ h.c0, hc _ _ h.c1, hc _ _ h.c2, hc _ _ h.c3, hc _ _ h.c4, hc _ _ h.c5, hc _ _ h.c6, hc _ _ h.c7, h.B, h.I.grS hG (fun k hk e => by omega)⟩
def OdsAt (W : World) (lo : Nat) (a : Option Addr) (L : List OpD) : Prop := L = [] ∨ ∃ b off, a = some ⟨b, off, none⟩ ∧ b < lo ∧ ∀ i (h : i < L.length), OdAt W lo b (off + i * 8) L[i]
set_option maxRecDepth 100000 in
set_option maxHeartbeats 4000000 in
theorem ddisk_walk (L : List Fi) (hf : ∀ f ∈ L, FiB 1048576 f) (hfb : ∀ f ∈ L, ∀ x ∈ f.dat, x < 256) (a : Option Addr) (cap : Nat) (a2 : Option Addr) (c2 : Nat) (Os : List OpD) (w : World) (hA : FiAt w a L) (haw : L = [] ∨ ∀ q, a = some q → q.block < w.heap.size) (h100 : L.length ≤ 1048576) (hO : OdsAt w w.heap.size a2 Os) (ho : Os.length ≤ 9000000000000000000) :
    Calls Tryz.prog 3 #[.slice a L.length cap, .slice a2 Os.length c2] w fun e w' => e = .returned (.bool true) ∧ Below w.heap.size w w' := by
  have hM := made_any L hf hfb a cap w hA haw h100
  obtain ⟨R, hR⟩ : ∃ R, newD L = R := ⟨_, rfl⟩
  rw [hR] at hM
  have hn1 : ∀ (b : Nat) (W : World), (binOp BinOp.eql 24 (.pointer (some ⟨b, 0, none⟩)) (.pointer none)).run Tryz.prog W = .ok (.bool false) W := fun _ _ => rfl
  have hn2 : ∀ (b : Nat) (W : World), (binOp BinOp.eql 27 (.pointer (some ⟨b, 0, none⟩)) (.pointer none)).run Tryz.prog W = .ok (.bool false) W := fun _ _ => rfl
  have hn3 : ∀ (W : World), (binOp BinOp.eql 27 (.pointer none) (.pointer none)).run Tryz.prog W = .ok (.bool true) W := fun _ => rfl
  cases R with
  | none =>
    clear hA haw hO hf hfb
    go_enter Tryz.func3, Tryz.ntmps3
    go_wp2_with (go_at_call 4; refine hM.mono ?_; rintro e w1 ⟨hb1, pb, rfl, hpb, hr⟩; have z0 : w1.cell? ⟨pb, 0, none⟩ = some (.pointer none) := cell_of_row _ _ 0 _ _ _ hr; clear hr)
    go_ret
    exact ⟨rfl, hb1⟩
  | some fs =>
    replace hO := Hid.mk hO
    clear hA haw hf hfb
    go_enter Tryz.func3, Tryz.ntmps3
    go_wp2_with (go_at_call 4; refine hM.mono ?_; rintro e w1 ⟨hb1, pb, rfl, hpb, db, rb, S0, T0, l2, hr, h2, hsp, htp⟩; have z0 : w1.cell? ⟨pb, 0, none⟩ = some (.pointer (some ⟨db, 0, none⟩)) := cell_of_row _ _ 0 _ _ _ hr; have hP0 : Hid (PD w1 w.heap.size pb db rb l2 ⟨fs, false, none, 0, 0⟩ S0 T0) := ⟨⟨hr, h2, hsp, htp⟩⟩; clear hr h2 hsp htp)
    clear hM z0 hR
    go_loopw [7] (fun v wr => ∃ i : Nat, i ≤ Os.length ∧ v = .int .i64 (i : Int) ∧ Below w.heap.size w wr ∧ ∃ d S T, PD wr w.heap.size pb db rb l2 d S T) (fun v _ => Os.length - (intOf v).toNat)
    case atStart => exact ⟨0, Nat.zero_le _, rfl, hb1, _, _, _, hP0.out⟩
    case round =>
      clear hP0 hb1
      obtain ⟨i, hi, rfl, hb, d, S, T, hP⟩ := hrel
      by_cases hlt : i < Os.length
      · have hlt' : (i : Int) < (Os.length : Int) := by omega
        have hi0 : (0 : Int) ≤ (i : Int) := by omega
        obtain ⟨b, off, rfl, hbl, hc⟩ := hO.out.resolve_left (fun e => by rw [e] at hlt; simp at hlt)
        have hdr := (Below.refl wr.heap.size wr).drew
        have hbd := below_step hb hdr
        have hOd := (hc i hlt).later hbl hbd
        have hPd := hP.later hdr
        clear hc hP
        obtain ⟨o, hoe⟩ : ∃ o, Os[i] = o := ⟨_, rfl⟩
        rw [hoe] at hOd
        clear hoe
        have hSt : Calls Tryz.prog 5 #[.pointer (some ⟨pb, 0, none⟩), .agg #[.int .i64 o.kind, .int .i64 o.n, .int .i64 o.m, .bool o.sec, .string (strB o.nm), .slice o.da o.dat.length o.dc, .slice o.ka o.ks.length o.kc, .int .u32 o.sum]] wr.drew (PdP w.heap.size pb db rb l2 S T wr.drew) := disk_any o hOd.B wr.drew hPd hOd.I
        have hFx : Hid (∀ w2 d2 S2 T2, PD w2 w.heap.size pb db rb l2 d2 S2 T2 → GrS (fun z => S z ∨ T z) wr.drew w2 → (∀ Y, Below w2.heap.size w2 Y → Y.cell? ⟨pb, 0, none⟩ = some (.pointer (some ⟨db, 0, none⟩)) ∧ Y.cell? ⟨pb, 2, none⟩ = some (.pointer (some ⟨rb, 0, none⟩)) ∧ Y.cell? ⟨b, off + i * 8, none⟩ = some (.int .i64 o.kind) ∧ Y.cell? ⟨b, off + i * 8 + 1, none⟩ = some (.int .i64 o.n) ∧ Y.cell? ⟨b, off + i * 8 + 2, none⟩ = some (.int .i64 o.m) ∧ Y.cell? ⟨b, off + i * 8 + 3, none⟩ = some (.bool o.sec) ∧ Y.cell? ⟨b, off + i * 8 + 4, none⟩ = some (.string (strB o.nm)) ∧ Y.cell? ⟨b, off + i * 8 + 5, none⟩ = some (.slice o.da o.dat.length o.dc) ∧ Y.cell? ⟨b, off + i * 8 + 6, none⟩ = some (.slice o.ka o.ks.length o.kc) ∧ Y.cell? ⟨b, off + i * 8 + 7, none⟩ = some (.int .u32 o.sum)) ∧ (∀ Y, Below w2.heap.size w2 Y → Calls Tryz.prog 7 #[.pointer (some ⟨db, 0, none⟩)] Y fun e w' => ∃ a c, e = .returned (.slice a d2.fs.length c) ∧ FfO w' Y.heap.size (.slice a d2.fs.length c) d2.fs ∧ Below Y.heap.size Y w') ∧ (∀ Y, Below w2.heap.size w2 Y → Calls Tryz.prog 8 #[.pointer (some ⟨rb, 0, none⟩)] Y fun e w' => ∃ a c, e = .returned (.slice a d2.fs.length c) ∧ FfO w' Y.heap.size (.slice a d2.fs.length c) d2.fs ∧ Below Y.heap.size Y w') ∧ (∀ (Y : World) (a b : Option Addr) (ca cb : Nat), FiAt Y a (d2.fs.map Fl.fi) → FiAt Y b (d2.fs.map Fl.fi) → Calls Tryz.prog 6 #[.slice a d2.fs.length ca, .slice b d2.fs.length cb] Y fun e w' => e = .returned (.bool true) ∧ ∃ m, w' = Y.drewN m) ∧ ∀ Y, Below w2.heap.size w2 Y → Below w.heap.size w Y ∧ ∃ d S T, PD Y w.heap.size pb db rb l2 d S T) := ⟨fun w2 d2 S2 T2 p2 g2 => by
          have hx2 : Below w.heap.size wr.drew w2 := g2.below hbd.size (fun k e => e.elim (hPd.two.sl k) (hPd.two.tl k))
          have hln : d2.fs.length ≤ 9223372036854775807 := by have := p2.two.r.ok.len; omega
          refine ⟨fun Y hY => ?_, fun Y hY => files_any Y (p2.two.p.later hY), fun Y hY => rfiles_any Y (p2.two.r.later hY), fun Y a b ca cb q1 q2 => ?_, fun Y hY => ⟨(hbd.trans hx2).trans (hY.mono (Nat.le_trans hbd.size hx2.size)), d2, S2, T2, p2.later hY⟩⟩
          · have hq := hOd.later hbl (hx2.trans (hY.mono (Nat.le_trans hbd.size hx2.size)))
            have hrow := (p2.later hY).row
            exact ⟨cell_of_row _ _ 0 _ _ _ hrow, cell_of_row _ _ 2 _ _ _ hrow, hq.c0, hq.c1, hq.c2, hq.c3, hq.c4, hq.c5, hq.c6, hq.c7⟩
          · have := sameFiles_same (d2.fs.map Fl.fi) (by rw [List.length_map]; exact hln) a b ca cb Y q1 q2
            rw [List.length_map] at this
            exact this⟩
        have hS0 : wr.drew.cell? ⟨pb, 0, none⟩ = some (.pointer (some ⟨db, 0, none⟩)) ∧ wr.drew.cell? ⟨pb, 2, none⟩ = some (.pointer (some ⟨rb, 0, none⟩)) ∧ wr.drew.cell? ⟨b, off + i * 8, none⟩ = some (.int .i64 o.kind) ∧ wr.drew.cell? ⟨b, off + i * 8 + 1, none⟩ = some (.int .i64 o.n) ∧ wr.drew.cell? ⟨b, off + i * 8 + 2, none⟩ = some (.int .i64 o.m) ∧ wr.drew.cell? ⟨b, off + i * 8 + 3, none⟩ = some (.bool o.sec) ∧ wr.drew.cell? ⟨b, off + i * 8 + 4, none⟩ = some (.string (strB o.nm)) ∧ wr.drew.cell? ⟨b, off + i * 8 + 5, none⟩ = some (.slice o.da o.dat.length o.dc) ∧ wr.drew.cell? ⟨b, off + i * 8 + 6, none⟩ = some (.slice o.ka o.ks.length o.kc) ∧ wr.drew.cell? ⟨b, off + i * 8 + 7, none⟩ = some (.int .u32 o.sum) := ⟨cell_of_row _ _ 0 _ _ _ hPd.row, cell_of_row _ _ 2 _ _ _ hPd.row, hOd.c0, hOd.c1, hOd.c2, hOd.c3, hOd.c4, hOd.c5, hOd.c6, hOd.c7⟩
        clear hb hbd hdr hOd hPd hO
        go_wp2_with fail
        go_region_held3 (fun Y => Y.cell? ⟨pb, 0, none⟩ = some (.pointer (some ⟨db, 0, none⟩)) ∧ Y.cell? ⟨pb, 2, none⟩ = some (.pointer (some ⟨rb, 0, none⟩)) ∧ Y.cell? ⟨b, off + i * 8, none⟩ = some (.int .i64 o.kind) ∧ Y.cell? ⟨b, off + i * 8 + 1, none⟩ = some (.int .i64 o.n) ∧ Y.cell? ⟨b, off + i * 8 + 2, none⟩ = some (.int .i64 o.m) ∧ Y.cell? ⟨b, off + i * 8 + 3, none⟩ = some (.bool o.sec) ∧ Y.cell? ⟨b, off + i * 8 + 4, none⟩ = some (.string (strB o.nm)) ∧ Y.cell? ⟨b, off + i * 8 + 5, none⟩ = some (.slice o.da o.dat.length o.dc) ∧ Y.cell? ⟨b, off + i * 8 + 6, none⟩ = some (.slice o.ka o.ks.length o.kc) ∧ Y.cell? ⟨b, off + i * 8 + 7, none⟩ = some (.int .u32 o.sum)) (assumption) (first | (go_at_call 5; refine hSt.mono ?_; rintro e w2 ⟨rfl, d2, S2, T2, p2, g2, -⟩; obtain ⟨hcl, hfp, hfr, hsf, hnx⟩ := hFx.out w2 d2 S2 T2 p2 g2; have hq0 := Below.refl w2.heap.size w2; have hS2 := hcl w2 hq0; replace hcl := Hid.mk hcl; replace hfp := Hid.mk hfp; replace hfr := Hid.mk hfr; replace hsf := Hid.mk hsf; replace hnx := Hid.mk hnx; clear p2 g2) | (go_at_call 7; refine (hfp.out _ (by first | exact hq8 | exact hq0)).mono ?_; rintro e wp ⟨a9, c9, rfl, hF9, hb9⟩; have hq7 : Below w2.heap.size w2 wp := below_step (by first | exact hq8 | exact hq0) hb9; have hS7 := hcl.out wp hq7; replace hF9 := Hid.mk hF9; replace hb9 := Hid.mk hb9) | (go_at_call 8; refine (hfr.out _ (by first | exact hq7 | exact hq0)).mono ?_; rintro e wq ⟨a10, c10, rfl, hF10, hb10⟩; have hq8 : Below w2.heap.size w2 wq := below_step (by first | exact hq7 | exact hq0) hb10; have hS8 := hcl.out wq hq8; replace hF10 := Hid.mk hF10; replace hb10 := Hid.mk hb10) | (go_at_call 6; refine (hsf.out _ a9 a10 c9 c10 (by first | exact hF9.out.fi | exact (hF9.out.later hb10.out).fi) (by first | exact hF10.out.fi | exact (hF10.out.later hb9.out).fi)).mono ?_; rintro e w11 ⟨rfl, m11, hm11⟩; have hq11 : Below w2.heap.size w2 w11 := (by first | (rw [hm11]; exact below_step hq8 (below_drewN (Below.refl _ _) _)) | (rw [hm11]; exact below_step hq7 (below_drewN (Below.refl _ _) _))); have hS11 := hcl.out w11 hq11; have hny := Hid.mk (hnx.out w11 hq11); clear hm11))
        all_goals
          clear hFx hSt hS0
          go_wp2
          go_roundw
          case rel => exact ⟨i + 1, by omega, by first | rfl | go_num, hny.out⟩
          case measure => simp [intOf]; omega
      · have hlt' : ¬ (i : Int) < (Os.length : Int) := by omega
        clear hO hP
        go_wp2
        go_ret
        exact ⟨rfl, hb⟩
end Go.Proofs.YthbojlbgjmecoaaGreat.DJ


/- A script that came in. -/
namespace Go.Proofs.YthbojlbgjmecoaaGreat.DJ
open Go.ChangeShapes Go.WideShapes Go.ChangeAt Go.WideMaps Go.WideElems Go.RowKit

set_option maxRecDepth 100000 in
set_option maxHeartbeats 1000000 in
theorem opsD {H : Type} {enc : TypeId × Value → H} {W : World} {fuel B : Nat} (hB1 : B ≤ 1048576) {cs : List Value} {x : DataW H × List MemPlace} (hf : DataW.trod enc Tryz.prog W 0 (fun _ => true) true fuel 23 cs = some x) (hB : Rows.uptoBulk x.1 ≤ B) : ∃ (L : List OpD) (a : Option Addr) (cap : Nat), cs = [.slice a L.length cap] ∧ L.length ≤ B ∧ OdsAt W W.heap.size a L := by
  obtain ⟨l, a, cap, e, h1, h2, h3, h4⟩ := openD_items (fun W b off (o : OpD) => OdAt W W.heap.size b off o) 8 B Tryz.underlying23 (by kernel_rfl) (by decide) hf hB (fun n cs' x' b off hcl hc hg hB' => by
    obtain ⟨xs, n, -, hx, -, hl, hg⟩ := DataW.trod_struct Tryz.underlying38 hg
    match cs', hcl, xs, hl with
    | [v0, v1, v2, v3, v4, v5, v6, v7], _, [y0, y1, y2, y3, y4, y5, y6, y7], _ =>
      have g0 := hg 0 _ rfl
      have g1 := hg 1 _ rfl
      have g2 := hg 2 _ rfl
      have g3 := hg 3 _ rfl
      have g4 := hg 4 _ rfl
      have g5 := hg 5 _ rfl
      have g6 := hg 6 _ rfl
      have g7 := hg 7 _ rfl
      simp [show Tryz.prog.cellsOf 3 = 1 by kernel_rfl] at g0 g1 g2
      simp [show Tryz.prog.cellsOf 4 = 1 by kernel_rfl] at g3
      simp [show Tryz.prog.cellsOf 9 = 1 by kernel_rfl] at g4
      simp [show Tryz.prog.cellsOf 34 = 1 by kernel_rfl] at g5
      simp [show Tryz.prog.cellsOf 35 = 1 by kernel_rfl] at g6
      simp [show Tryz.prog.cellsOf 36 = 1 by kernel_rfl] at g7
      rw [hx] at hB'
      simp only [List.map_cons, List.map_nil, Rows.uptoBulk, Rows.uptoBulkAll] at hB'
      obtain ⟨z0, e0, -, w0⟩ := DataW.trod_int Tryz.underlying3 g0
      obtain ⟨z1, e1, -, w1⟩ := DataW.trod_int Tryz.underlying3 g1
      obtain ⟨z2, e2, -, w2⟩ := DataW.trod_int Tryz.underlying3 g2
      obtain ⟨z3, e3, -⟩ := DataW.trod_bool Tryz.underlying4 g3
      obtain ⟨z4, e4, r4, -⟩ := DataW.trod_string Tryz.underlying9 g4
      obtain ⟨bs5, a5, c5, e5, k51, k52, k53, k54, k55⟩ := bytD g5 (B := B) (by omega)
      obtain ⟨ks6, a6, c6, e6, k61, k62, k63⟩ := intD g6 (B := B) (by omega)
      obtain ⟨z7, e7, -, w7⟩ := DataW.trod_int Tryz.underlying36 g7
      obtain ⟨nm, q0, q1, q2⟩ := strD z4
      simp only [List.cons.injEq, and_true] at e0 e1 e2 e3 e4 e5 e6 e7
      subst e0 e1 e2 e3 e4 e5 e6 e7
      rw [r4] at hB'
      simp only [Rows.uptoBulk] at hB'
      exact ⟨⟨z0, z1, z2, z3, nm, a5, bs5, c5, a6, ks6, c6, z7⟩, hc 0 (by omega), hc 1 (by omega), hc 2 (by omega), hc 3 (by omega), by rw [← q0]; exact hc 4 (by omega), hc 5 (by omega), hc 6 (by omega), hc 7 (by omega), ⟨(rgD w1).1, (rgD w1).2, (rgD w2).1, (rgD w2).2, by show nm.length ≤ 1048576; omega, q1, by show bs5.length ≤ 1048576; omega, by show ks6.length ≤ 1048576; omega, k52, k51⟩, ⟨k54, k55, k62, k63⟩⟩)
  exact ⟨l, a, cap, e, h3, h4⟩
end Go.Proofs.YthbojlbgjmecoaaGreat.DJ

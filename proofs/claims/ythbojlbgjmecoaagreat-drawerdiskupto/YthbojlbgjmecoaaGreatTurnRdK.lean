import Derived.Test.YthbojlbgjmecoaaGreatJoin38
/- levyref19's disk: Append. -/
namespace Go.Proofs.YthbojlbgjmecoaaGreat.DJ
open Go.RowKit
set_option linter.constructorNameAsVariable false

theorem size_b1 (X : World) : (sizeOf (Tryz.prog.elem 34)).run Tryz.prog X = .ok 1 X := by kernel_rfl
theorem under_b1 : Tryz.prog.underlying 34 = some (.slice (Tryz.prog.elem 34)) := by kernel_rfl
theorem slice_toR (a : Option Addr) (n cap k : Nat) (hk : k ≤ cap) : ∀ X, (Instr.slice 34 (.slice a n cap) none (some (.int .i64 (k : Int))) none).run Tryz.prog X = .ok (.slice a k cap) X := fun X => by
  rw [run_slice_h _ _ _ _ _ under_b1 .i64 (k : Int) (by omega) (by omega), size_b1, Result.andThen_ok, sliced, Int.toNat_natCast]
  congr 2
  split
  · rfl
  · cases a with
    | none => rfl
    | some p => simp [Addr.add]
theorem app_tail {T : Nat → Prop} {rb : Nat} {e : Dk} {nm dd : List Nat} {f : Fl} {k : Nat} {w : World} (h : RdAt w T rb e) (hg : get e.fs nm = some f) (hk : plc e.fs nm = k) (hle : f.dat.length + dd.length ≤ 2097152) (hbd : ∀ y ∈ dd, y < 256) :
    ∃ (g n c : Nat) (p : Option Addr) (pc : Nat), (k : Int) < (n : Int) ∧ Calls Tryz.prog 36 #[.slice p f.dat.length pc] w (fun e w' => ∃ p' c', e = .returned (.slice p' f.dat.length c') ∧ w'.ownsRow w.heap.size 5 1 (.slice p' f.dat.length c') f.dat.length (bysV f.dat) ∧ Below w.heap.size w w') ∧
      (∀ Y, Below w.heap.size w Y → Y.cell? ⟨rb, 0, none⟩ = some (.slice (some ⟨g, 0, none⟩) n c) ∧ (∀ j, Y.frozen? ⟨g, j, none⟩ = false) ∧ Y.cell? ⟨g, k * 3 + 1, none⟩ = some (.slice p f.dat.length pc)) ∧
      ∀ Y x l, l = f.dat.length + dd.length → Below w.heap.size w Y → Y.ownsRow w.heap.size 5 1 x l (bysV f.dat ++ bysV dd) → ∃ T', RdAt (Y.setCell ⟨g, k * 3 + 1, none⟩ x) T' rb { e with fs := upd e.fs nm (layF dd) } ∧ Dv T w T' (Y.setCell ⟨g, k * 3 + 1, none⟩ x) := by
  subst hk
  have hok := h.ok
  obtain ⟨hp, hpf⟩ := get_plc hok.srt hg
  obtain ⟨f', g, n, c, p, pc, hI⟩ := h.it hp
  have e1 : f' = f := hI.hf.symm.trans hpf
  subst e1
  have hnm := (get_some hg).2
  have hpc := (own_pos (hI.own.mono (Nat.zero_le 0))).1
  have hup : upd e.fs nm (layF dd) = e.fs.set (plc e.fs nm) (layF dd f') := by
    rw [upd_eq hok.srt hp (by rw [hpf]; exact hnm), hpf]
  have hby : ∀ y ∈ f'.dat ++ dd, y < 256 := fun y hy => (List.mem_append.1 hy).elim (hI.byt y) (hbd y)
  have hOk : Ok { e with fs := upd e.fs nm (layF dd) } := by
    refine Ok.upd hok (nm := nm) (g := layF dd) rfl (fun _ => rfl) (fun x hx hxn => ?_)
    have : x = f' := hok.srt.one hx (get_some hg).1 (hxn.trans hnm.symm)
    subst this
    refine ⟨?_, ?_, hby⟩
    · show (x.dat ++ dd).length ≤ _
      rw [List.length_append]; exact hle
    · show x.sure ≤ (x.dat ++ dd).length
      rw [List.length_append]
      have := hok.sur x hx
      omega
  have hgl : g < w.heap.size := World.block_lt_of_cell? _ _ hI.dat
  refine ⟨g, n, c, p, pc, by rw [hI.n]; omega, copied_any p pc hpc f'.dat (by omega) w (byts_of_own (n := f'.dat.length) hI.byt hI.own), fun Y hY => ⟨(hY.cell (p := ⟨rb, 0, none⟩) h.lt).trans (rd_cells hI.row).1, (hI.fs.grS (GrS.of_below hY) (fun _ _ h => h)).frz, (hY.cell (p := ⟨g, _, none⟩) hgl).trans hI.dat⟩, fun Y x l hl hY ho => ?_⟩
  subst hl
  rw [hup] at hOk ⊢
  have hbv : bysV (f'.dat ++ dd) = bysV f'.dat ++ bysV dd := by unfold bysV; rw [List.map_append]
  exact RdAt.dat h hI (f1 := layF dd f') rfl rfl hby hY (by rw [← hbv, ← List.length_append] at ho; exact ho) hOk
theorem pays_less {d c : Dk} {n u : Nat} (h : pays d n = (some u, c)) : u < n := by
  unfold pays at h
  split at h
  · cases h
  · split at h
    · cases h
    · injection h with h1 h2
      injection h1 with h1
      omega
theorem first_named {d e : Dk} {nm : List Nat} (h : first d nm = (0, e)) : named nm := by
  unfold first at h
  split at h
  · cases h
  · rename_i h1
    exact Classical.byContradiction fun h2 => h1 h2
set_option maxRecDepth 4000 in
set_option maxHeartbeats 8000000 in
theorem rappend_any {T : Nat → Prop} {rb : Nat} {d : Dk} {nm : List Nat} (hl : nm.length ≤ 4294967296) (hb : ∀ x ∈ nm, x < 256) {data : List Nat} (hlen : data.length ≤ 140737488355328) (ad : Option Addr) (cap : Nat) (hcap : ad = none → cap = 0) (hcl : data.length ≤ cap) (w : World) (hN : Byts w ad data) (hap : data = [] ∨ ∀ p, ad = some p → ¬ T p.block) (h : RdAt w T rb d) : Calls Tryz.prog 16 #[.pointer (some ⟨rb, 0, none⟩), .string (strB nm), .slice ad data.length cap] w fun e w' => e = .returned (.int .i64 ((append d nm data).1 : Int)) ∧ ∃ T', RdAt w' T' rb (append d nm data).2 ∧ Dv T w T' w' := by
  have hfi := rfirst_any hl hb w h
  have hclI : (data.length : Int) ≤ (cap : Int) := by omega
  have hclN : (0 : Int) ≤ (data.length : Int) := by omega
  have hTrb := h.Trb
  have hapT : Hid (∀ X Y, GrS T X Y → Byts X ad data → Byts Y ad data) := ⟨fun X Y hg hb => hap.elim (fun e => ⟨hb.1, .inl e⟩) (fun hap => hg.byts hb hap)⟩
  have hapB : Hid (∀ X Y, GrS (fun k => k = rb) X Y → Byts X ad data → Byts Y ad data) := ⟨fun X Y hg hb => hap.elim (fun e => ⟨hb.1, .inl e⟩) (fun hap => hg.byts hb (fun q hq e => hap q hq (by rw [e]; exact hTrb)))⟩
  have hgb : Hid (∀ (V Y Z : World) (r : Option Nat), Below V.heap.size V Y → Y.grownBy Z r → (∀ z, r = some z → V.heap.size ≤ z) → Below V.heap.size V Z) := ⟨fun V Y Z r hY hZ hr => ⟨hZ.os.trans hY.os, hZ.tape.trans hY.tape, hZ.output.trans hY.output, Nat.le_trans hY.size hZ.size, fun q hq => (hZ.block q (Nat.lt_of_lt_of_le hq hY.size) (fun e => by have := hr q e.symm; omega)).trans (hY.block q hq)⟩⟩
  obtain ⟨R, hR⟩ : ∃ R, append d nm data = R := ⟨_, rfl⟩
  rw [hR]
  unfold append at hR
  have hfs := first_fs d nm
  obtain ⟨⟨c1, d1⟩, hf⟩ : ∃ r, first d nm = r := ⟨_, rfl⟩
  rw [hf] at hfi hR hfs
  simp only at hfi hR hfs
  by_cases hc : c1 ≠ 0
  · rw [if_pos hc] at hR
    subst hR
    have hc' : ((c1 : Int) != 0) = true := by simp; omega
    clear hc hf
    go_enter Tryz.func16, Tryz.ntmps16
    go_wp2_with (go_at_call 69; refine hfi.mono ?_; rintro e w1 ⟨rfl, h1, g1⟩; replace h1 := Hid.mk h1; replace g1 := Hid.mk g1)
    go_ret
    exact ⟨rfl, T, h1.out, Dv.one g1.out hTrb⟩
  rw [if_neg hc] at hR
  have hc0 : c1 = 0 := by omega
  subst hc0
  have hnmd := first_named hf
  have hsz : d1.fs = d.fs := hfs
  have hok := h.ok
  cases hg : get d.fs nm with
  | none =>
    have hs0 : size d.fs nm = 0 := by unfold size; rw [hg]; rfl
    rw [hs0] at hR
    by_cases hA : (2097152 : Int) < (data.length : Int)
    · rw [if_pos (.inl (by omega))] at hR
      subst hR
      clear hc hf
      go_enter Tryz.func16, Tryz.ntmps16
      go_wp2_with (first | (go_at_call 69; refine hfi.mono ?_; rintro e w1 ⟨rfl, h1, g1⟩; have hpl1 := place_any hb w1 h1; rw [hsz, hg] at hpl1; replace h1 := Hid.mk h1; replace g1 := Hid.mk g1) | (go_at_call 38; refine hpl1.mono ?_; rintro e w2 ⟨rfl, hb2⟩; have h2 := h1.out.later hb2; have g2 := Hid.mk (g1.out.trans (GrS.of_below hb2)); obtain ⟨v2, hrow2, hF2⟩ := h2.ex; obtain ⟨a2, c2, rfl, -, -⟩ := hF2.sl; obtain ⟨c20, -, -, -, -, -⟩ := rd_cells hrow2; rw [hsz] at c20; clear hF2 hrow2; replace h2 := Hid.mk h2))
      go_ret
      exact ⟨rfl, T, h2.out, Dv.one g2.out hTrb⟩
    by_cases hB : (40 : Int) ≤ (d.fs.length : Int)
    · rw [if_pos (.inr ⟨hg, by omega⟩)] at hR
      subst hR
      clear hc hf
      go_enter Tryz.func16, Tryz.ntmps16
      go_wp2_with (first | (go_at_call 69; refine hfi.mono ?_; rintro e w1 ⟨rfl, h1, g1⟩; have hpl1 := place_any hb w1 h1; rw [hsz, hg] at hpl1; replace h1 := Hid.mk h1; replace g1 := Hid.mk g1) | (go_at_call 38; refine hpl1.mono ?_; rintro e w2 ⟨rfl, hb2⟩; have h2 := h1.out.later hb2; have g2 := Hid.mk (g1.out.trans (GrS.of_below hb2)); obtain ⟨v2, hrow2, hF2⟩ := h2.ex; obtain ⟨a2, c2, rfl, -, -⟩ := hF2.sl; obtain ⟨c20, -, -, -, -, -⟩ := rd_cells hrow2; rw [hsz] at c20; clear hF2 hrow2; replace h2 := Hid.mk h2))
      go_ret
      exact ⟨rfl, T, h2.out, Dv.one g2.out hTrb⟩
    rw [if_neg (by rintro (e | ⟨-, e⟩) <;> omega)] at hR
    have hpf := pays_fs d1 (data.length + 1)
    cases hp : pays d1 (data.length + 1) with
    | mk o cc =>
      rw [hp] at hR hpf
      simp only at hR hpf
      rw [hsz] at hpf
      have hnew : ∀ x ∈ d.fs, x.nm ≠ nm := get_none.1 hg
      obtain ⟨f, hfe⟩ : ∃ f : Fl, (⟨nm, [], 0⟩ : Fl) = f := ⟨_, rfl⟩
      have hfn : f.nm = nm := by rw [← hfe]
      have hfd : f.dat.length = 0 := by rw [← hfe]; rfl
      have hAdd : Hid (∀ w3, RdAt w3 T rb cc → Calls Tryz.prog 39 #[.pointer (some ⟨rb, 0, none⟩), .agg #[.string (strB nm), .slice none 0 0, .int .i64 0]] w3 fun e w' => e = .returned (.tuple #[]) ∧ ∃ T', RdAt w' T' rb { cc with fs := ins d.fs f } ∧ Dv T w3 T' w') := ⟨fun w3 h3 => by
        subst hfe
        have := radd_any (f := ⟨nm, [], 0⟩) (x := .slice none 0 0) (fun _ e => by cases e) (by rw [hpf]; omega) (by rw [hpf]; exact hnew) hnmd (Nat.zero_le _) (Nat.le_refl _) (fun y hy => by cases hy) w3 h3 (World.ownsRow_nil _ _ _ _)
        rw [hpf] at this
        exact this⟩
      have hg5 : get (ins d.fs f) nm = some f := by
        have := get_ins hok.srt (f := f) (by rw [hfn]; exact hnew)
        rw [hfn] at this
        exact this
      obtain ⟨k, hk5⟩ : ∃ k, plc (ins d.fs f) nm = k := ⟨_, rfl⟩
      have hk0 : (0 : Int) ≤ (k : Int) := by omega
      have hlay : Hid (∀ dd, upd (ins d.fs f) nm (layF dd) = lay d.fs nm dd) := ⟨fun dd => by
        rw [← hfe, upd_ins hg]
        unfold lay
        rw [hg]⟩
      have hnf : ¬ (2097152 : Int) < (data.length : Int) := hA
      replace hfd := Hid.mk hfd
      clear hc hf hfn hfe
      cases o with
      | none =>
        simp only at hR
        subst hR
        have hdd : ∀ y ∈ data, y < 256 := hN.1
        have hres : Hid (∀ T' Y, RdAt Y T' rb { cc with fs := upd (ins d.fs f) nm (layF data) } → RdAt Y T' rb { cc with fs := lay d.fs nm data }) := ⟨fun _ _ q => by rw [hlay.out] at q; exact q⟩
        have hslc := slice_toR ad data.length cap data.length (by omega)
        go_enter Tryz.func16, Tryz.ntmps16
        go_wp2_with (first | (go_at_call 69; refine hfi.mono ?_; rintro e w1 ⟨rfl, h1, g1⟩; have hpl1 := place_any hb w1 h1; rw [hsz, hg] at hpl1; replace h1 := Hid.mk h1; replace g1 := Hid.mk g1) | (go_at_call 38; refine hpl1.mono ?_; rintro e w2 ⟨rfl, hb2⟩; have h2 := h1.out.later hb2; have g2 := Hid.mk (g1.out.trans (GrS.of_below hb2)); obtain ⟨v2, hrow2, hF2⟩ := h2.ex; obtain ⟨a2, c2, rfl, -, -⟩ := hF2.sl; obtain ⟨c20, -, -, -, -, -⟩ := rd_cells hrow2; rw [hsz] at c20; clear hF2 hrow2; have hpy := rpays_any (c := data.length + 1) (by omega) w2 h2; rw [hp, show ((data.length + 1 : Nat) : Int) = (data.length : Int) + 1 by omega] at hpy; simp only [paysV] at hpy; replace h2 := Hid.mk h2) | (go_at_call 70; refine hpy.mono ?_; rintro e w3 ⟨rfl, h3, g3⟩; replace g3 := Hid.mk (g2.out.trans g3); have hadd := hAdd.out w3 h3; replace h3 := Hid.mk h3) | (go_at_call 39; refine hadd.mono ?_; rintro e w4 ⟨rfl, T4, h4, d4⟩; have hpl4 := place_any hb w4 h4; rw [hk5, hg5] at hpl4) | (go_at_call 38; refine hpl4.mono ?_; rintro e w5 ⟨rfl, hb5⟩; have h5 := h4.later hb5; obtain ⟨g, n, c, p, pc, t0, t1, t2, t3⟩ := app_tail (dd := data) h5 hg5 hk5 (by have := hnf; have := hfd.out; omega) hdd; obtain ⟨b0, b1, b2⟩ := t2 w5 (Below.refl _ _); have hNx : Byts w5 ad data := ((hapT.out _ _ d4.gr (hapB.out _ _ g3.out hN)).later hb5); replace h5 := Hid.mk h5; replace d4 := Hid.mk ((Dv.one g3.out hTrb).trans (d4.trans (Dv.below hb5)))) | (go_at_call 36; refine t1.mono ?_; rintro e w6 ⟨p6, c6, rfl, ho6, hb6⟩; have hb7 : Below w5.heap.size w5 w6.drew := hb6.drew; have ho7 := own_later ho6 (Below.refl w6.heap.size w6).drew; obtain ⟨y0, y1, y2⟩ := t2 w6 hb6; obtain ⟨z0, z1, z2⟩ := t2 w6.drew hb7; have hN7 := hNx.later hb7))
        go_region_law (refine step_appB _ (by rfl) _ _ (by rfl) w5.heap.size _ f.dat.length (bysV f.dat) (by kernel_rfl) ho7 ad cap data.length data rfl (by kernel_rfl) hcap hN7 (by have := hnf; have := hfd.out; omega) hb7.size ?_; intro p8 q8 w8 ho8 hg8; have hb8 := hgb.out w5 w6.drew w8 _ hb7 hg8 (fun z hz => (ho7.lt z hz).1); obtain ⟨x0, x1, x2⟩ := t2 w8 hb8; have x1' := x1 (k * 3 + 1))
        all_goals
          go_wp2
          go_ret
          obtain ⟨T', q1, q2⟩ := t3 w8 _ _ rfl hb8 ho8
          refine ⟨rfl, T', ?_, d4.out.trans q2⟩
          first | exact hres.out _ _ q1 | exact q1
      | some u =>
        simp only at hR
        subst hR
        have hul0 := pays_less hp
        obtain ⟨dd, hde⟩ : ∃ dd, data.take u = dd := ⟨_, rfl⟩
        have hul : Hid (u = dd.length) := ⟨by rw [← hde, List.length_take]; omega⟩
        have hdd : ∀ y ∈ dd, y < 256 := fun y hy => hN.1 y (List.mem_of_mem_take (by rw [hde]; exact hy))
        have hbt : Hid (∀ X, Byts X ad data → Byts X ad dd) := ⟨fun X h => hde ▸ byts_tk h u⟩
        rw [hde]
        clear hde
        have hres : Hid (∀ T' Y, RdAt Y T' rb { cc with fs := upd (ins d.fs f) nm (layF dd) } → RdAt Y T' rb { cc with fs := lay d.fs nm dd }) := ⟨fun _ _ q => by rw [hlay.out] at q; exact q⟩
        have huc : (u : Int) ≤ (cap : Int) := by omega
        have hu0 : (0 : Int) ≤ (u : Int) := by omega
        have hslc := slice_toR ad data.length cap u (by omega)
        go_enter Tryz.func16, Tryz.ntmps16
        go_wp2_with (first | (go_at_call 69; refine hfi.mono ?_; rintro e w1 ⟨rfl, h1, g1⟩; have hpl1 := place_any hb w1 h1; rw [hsz, hg] at hpl1; replace h1 := Hid.mk h1; replace g1 := Hid.mk g1) | (go_at_call 38; refine hpl1.mono ?_; rintro e w2 ⟨rfl, hb2⟩; have h2 := h1.out.later hb2; have g2 := Hid.mk (g1.out.trans (GrS.of_below hb2)); obtain ⟨v2, hrow2, hF2⟩ := h2.ex; obtain ⟨a2, c2, rfl, -, -⟩ := hF2.sl; obtain ⟨c20, -, -, -, -, -⟩ := rd_cells hrow2; rw [hsz] at c20; clear hF2 hrow2; have hpy := rpays_any (c := data.length + 1) (by omega) w2 h2; rw [hp, show ((data.length + 1 : Nat) : Int) = (data.length : Int) + 1 by omega] at hpy; simp only [paysV] at hpy; replace h2 := Hid.mk h2) | (go_at_call 70; refine hpy.mono ?_; rintro e w3 ⟨rfl, h3, g3⟩; replace g3 := Hid.mk (g2.out.trans g3); have hadd := hAdd.out w3 h3; replace h3 := Hid.mk h3) | (go_at_call 39; refine hadd.mono ?_; rintro e w4 ⟨rfl, T4, h4, d4⟩; have hpl4 := place_any hb w4 h4; rw [hk5, hg5] at hpl4) | (go_at_call 38; refine hpl4.mono ?_; rintro e w5 ⟨rfl, hb5⟩; have h5 := h4.later hb5; obtain ⟨g, n, c, p, pc, t0, t1, t2, t3⟩ := app_tail (dd := dd) h5 hg5 hk5 (by have := hnf; have := hfd.out; have := hul.out; omega) hdd; obtain ⟨b0, b1, b2⟩ := t2 w5 (Below.refl _ _); have hNx : Byts w5 ad data := ((hapT.out _ _ d4.gr (hapB.out _ _ g3.out hN)).later hb5); replace h5 := Hid.mk h5; replace d4 := Hid.mk ((Dv.one g3.out hTrb).trans (d4.trans (Dv.below hb5)))) | (go_at_call 36; refine t1.mono ?_; rintro e w6 ⟨p6, c6, rfl, ho6, hb6⟩; have hb7 : Below w5.heap.size w5 w6.drew := hb6.drew; have ho7 := own_later ho6 (Below.refl w6.heap.size w6).drew; obtain ⟨y0, y1, y2⟩ := t2 w6 hb6; obtain ⟨z0, z1, z2⟩ := t2 w6.drew hb7; have hN7 := hNx.later hb7))
        go_region_law (refine step_appB _ (by rfl) _ _ (by rfl) w5.heap.size _ f.dat.length (bysV f.dat) (by kernel_rfl) ho7 ad cap u dd hul.out (by kernel_rfl) hcap (hbt.out _ hN7) (by have := hnf; have := hfd.out; have := hul.out; omega) hb7.size ?_; intro p8 q8 w8 ho8 hg8; have hb8 := hgb.out w5 w6.drew w8 _ hb7 hg8 (fun z hz => (ho7.lt z hz).1); obtain ⟨x0, x1, x2⟩ := t2 w8 hb8; have x1' := x1 (k * 3 + 1))
        all_goals
          go_wp2
          go_ret
          obtain ⟨T', q1, q2⟩ := t3 w8 _ _ rfl hb8 ho8
          refine ⟨rfl, T', ?_, d4.out.trans q2⟩
          first | exact hres.out _ _ q1 | exact q1
  | some f =>
    have hs0 : size d.fs nm = f.dat.length := by unfold size; rw [hg]; rfl
    rw [hs0] at hR
    have hfz := hok.siz f (get_some hg).1
    have hfz' : (f.dat.length : Int) ≤ 2097152 := by omega
    obtain ⟨k, hk⟩ : ∃ k, plc d.fs nm = k := ⟨_, rfl⟩
    have hk0 : (0 : Int) ≤ (k : Int) := by omega
    have hgd : get d1.fs nm = some f := by rw [hsz]; exact hg
    have hkd : plc d1.fs nm = k := by rw [hsz]; exact hk
    by_cases hA : (2097152 : Int) < (f.dat.length : Int) + (data.length : Int)
    · rw [if_pos (.inl (by omega))] at hR
      subst hR
      clear hc hf
      go_enter Tryz.func16, Tryz.ntmps16
      go_wp2_with (first | (go_at_call 69; refine hfi.mono ?_; rintro e w1 ⟨rfl, h1, g1⟩; have hpl1 := place_any hb w1 h1; rw [hsz, hg, hk] at hpl1; replace h1 := Hid.mk h1; replace g1 := Hid.mk g1) | (go_at_call 38; refine hpl1.mono ?_; rintro e w2 ⟨rfl, hb2⟩; have h2 := h1.out.later hb2; have g2 := Hid.mk (g1.out.trans (GrS.of_below hb2)); obtain ⟨ga, na, ca, pa, pca, hka, -, hya, -⟩ := app_tail (dd := []) h2 hgd hkd (by rw [List.length_nil]; omega) (fun y hy => by cases hy); obtain ⟨a0, a1, a2⟩ := hya w2 (Below.refl _ _); clear hya; replace h2 := Hid.mk h2))
      go_ret
      exact ⟨rfl, T, h2.out, Dv.one g2.out hTrb⟩
    rw [if_neg (by rintro (e | ⟨e, -⟩); omega; rw [hg] at e; cases e)] at hR
    have hpf := pays_fs d1 (data.length + 1)
    cases hp : pays d1 (data.length + 1) with
    | mk o cc =>
      rw [hp] at hR hpf
      simp only at hR hpf
      rw [hsz] at hpf
      have hg3 : get cc.fs nm = some f := by rw [hpf]; exact hg
      have hk3 : plc cc.fs nm = k := by rw [hpf]; exact hk
      have hlay : ∀ dd, upd cc.fs nm (layF dd) = lay d.fs nm dd := fun dd => by rw [lay_some hg, hpf]
      have hnf : ¬ (2097152 : Int) < (f.dat.length : Int) + (data.length : Int) := hA
      clear hc hf
      cases o with
      | none =>
        simp only at hR
        subst hR
        have hdd : ∀ y ∈ data, y < 256 := hN.1
        have hres : Hid (∀ T' Y, RdAt Y T' rb { cc with fs := upd cc.fs nm (layF data) } → RdAt Y T' rb { cc with fs := lay d.fs nm data }) := ⟨fun _ _ q => by rw [hlay] at q; exact q⟩
        have hslc := slice_toR ad data.length cap data.length (by omega)
        go_enter Tryz.func16, Tryz.ntmps16
        go_wp2_with (first | (go_at_call 69; refine hfi.mono ?_; rintro e w1 ⟨rfl, h1, g1⟩; have hpl1 := place_any hb w1 h1; rw [hsz, hg, hk] at hpl1; replace h1 := Hid.mk h1; replace g1 := Hid.mk g1) | (go_at_call 38; refine hpl1.mono ?_; rintro e w2 ⟨rfl, hb2⟩; have h2 := h1.out.later hb2; have g2 := Hid.mk (g1.out.trans (GrS.of_below hb2)); obtain ⟨ga, na, ca, pa, pca, hka, -, hya, -⟩ := app_tail (dd := []) h2 hgd hkd (by rw [List.length_nil]; omega) (fun y hy => by cases hy); obtain ⟨a0, a1, a2⟩ := hya w2 (Below.refl _ _); clear hya; have hpy := rpays_any (c := data.length + 1) (by omega) w2 h2; rw [hp, show ((data.length + 1 : Nat) : Int) = (data.length : Int) + 1 by omega] at hpy; simp only [paysV] at hpy; replace h2 := Hid.mk h2) | (go_at_call 70; refine hpy.mono ?_; rintro e w3 ⟨rfl, h3, g3⟩; replace g3 := Hid.mk (g2.out.trans g3); obtain ⟨g, n, c, p, pc, t0, t1, t2, t3⟩ := app_tail (dd := data) h3 hg3 hk3 (by have := hnf; omega) hdd; obtain ⟨b0, b1, b2⟩ := t2 w3 (Below.refl _ _); have hNx : Byts w3 ad data := hapB.out _ _ g3.out hN; replace h3 := Hid.mk h3) | (go_at_call 36; refine t1.mono ?_; rintro e w6 ⟨p6, c6, rfl, ho6, hb6⟩; have hb7 : Below w3.heap.size w3 w6.drew := hb6.drew; have ho7 := own_later ho6 (Below.refl w6.heap.size w6).drew; obtain ⟨y0, y1, y2⟩ := t2 w6 hb6; obtain ⟨z0, z1, z2⟩ := t2 w6.drew hb7; have hN7 := hNx.later hb7))
        go_region_law (refine step_appB _ (by rfl) _ _ (by rfl) w3.heap.size _ f.dat.length (bysV f.dat) (by kernel_rfl) ho7 ad cap data.length data rfl (by kernel_rfl) hcap hN7 (by have := hnf; omega) hb7.size ?_; intro p8 q8 w8 ho8 hg8; have hb8 := hgb.out w3 w6.drew w8 _ hb7 hg8 (fun z hz => (ho7.lt z hz).1); obtain ⟨x0, x1, x2⟩ := t2 w8 hb8; have x1' := x1 (k * 3 + 1))
        all_goals
          go_wp2
          go_ret
          obtain ⟨T', q1, q2⟩ := t3 w8 _ _ rfl hb8 ho8
          refine ⟨rfl, T', ?_, (Dv.one g3.out hTrb).trans q2⟩
          first | exact hres.out _ _ q1 | exact q1
      | some u =>
        simp only at hR
        subst hR
        have hul0 := pays_less hp
        obtain ⟨dd, hde⟩ : ∃ dd, data.take u = dd := ⟨_, rfl⟩
        have hul : Hid (u = dd.length) := ⟨by rw [← hde, List.length_take]; omega⟩
        have hdd : ∀ y ∈ dd, y < 256 := fun y hy => hN.1 y (List.mem_of_mem_take (by rw [hde]; exact hy))
        have hbt : Hid (∀ X, Byts X ad data → Byts X ad dd) := ⟨fun X h => hde ▸ byts_tk h u⟩
        rw [hde]
        clear hde
        have hres : Hid (∀ T' Y, RdAt Y T' rb { cc with fs := upd cc.fs nm (layF dd) } → RdAt Y T' rb { cc with fs := lay d.fs nm dd }) := ⟨fun _ _ q => by rw [hlay] at q; exact q⟩
        have huc : (u : Int) ≤ (cap : Int) := by omega
        have hu0 : (0 : Int) ≤ (u : Int) := by omega
        have hslc := slice_toR ad data.length cap u (by omega)
        go_enter Tryz.func16, Tryz.ntmps16
        go_wp2_with (first | (go_at_call 69; refine hfi.mono ?_; rintro e w1 ⟨rfl, h1, g1⟩; have hpl1 := place_any hb w1 h1; rw [hsz, hg, hk] at hpl1; replace h1 := Hid.mk h1; replace g1 := Hid.mk g1) | (go_at_call 38; refine hpl1.mono ?_; rintro e w2 ⟨rfl, hb2⟩; have h2 := h1.out.later hb2; have g2 := Hid.mk (g1.out.trans (GrS.of_below hb2)); obtain ⟨ga, na, ca, pa, pca, hka, -, hya, -⟩ := app_tail (dd := []) h2 hgd hkd (by rw [List.length_nil]; omega) (fun y hy => by cases hy); obtain ⟨a0, a1, a2⟩ := hya w2 (Below.refl _ _); clear hya; have hpy := rpays_any (c := data.length + 1) (by omega) w2 h2; rw [hp, show ((data.length + 1 : Nat) : Int) = (data.length : Int) + 1 by omega] at hpy; simp only [paysV] at hpy; replace h2 := Hid.mk h2) | (go_at_call 70; refine hpy.mono ?_; rintro e w3 ⟨rfl, h3, g3⟩; replace g3 := Hid.mk (g2.out.trans g3); obtain ⟨g, n, c, p, pc, t0, t1, t2, t3⟩ := app_tail (dd := dd) h3 hg3 hk3 (by have := hnf; have := hul.out; omega) hdd; obtain ⟨b0, b1, b2⟩ := t2 w3 (Below.refl _ _); have hNx : Byts w3 ad data := hapB.out _ _ g3.out hN; replace h3 := Hid.mk h3) | (go_at_call 36; refine t1.mono ?_; rintro e w6 ⟨p6, c6, rfl, ho6, hb6⟩; have hb7 : Below w3.heap.size w3 w6.drew := hb6.drew; have ho7 := own_later ho6 (Below.refl w6.heap.size w6).drew; obtain ⟨y0, y1, y2⟩ := t2 w6 hb6; obtain ⟨z0, z1, z2⟩ := t2 w6.drew hb7; have hN7 := hNx.later hb7))
        go_region_law (refine step_appB _ (by rfl) _ _ (by rfl) w3.heap.size _ f.dat.length (bysV f.dat) (by kernel_rfl) ho7 ad cap u dd hul.out (by kernel_rfl) hcap (hbt.out _ hN7) (by have := hnf; have := hul.out; omega) hb7.size ?_; intro p8 q8 w8 ho8 hg8; have hb8 := hgb.out w3 w6.drew w8 _ hb7 hg8 (fun z hz => (ho7.lt z hz).1); obtain ⟨x0, x1, x2⟩ := t2 w8 hb8; have x1' := x1 (k * 3 + 1))
        all_goals
          go_wp2
          go_ret
          obtain ⟨T', q1, q2⟩ := t3 w8 _ _ rfl hb8 ho8
          refine ⟨rfl, T', ?_, (Dv.one g3.out hTrb).trans q2⟩
          first | exact hres.out _ _ q1 | exact q1
end Go.Proofs.YthbojlbgjmecoaaGreat.DJ

import Derived.Test.YthbojlbgjmecoaaGreatTurnRdE
import Derived.Deep.RegionLaw
import Derived.Deep.RegionHeld3
/- levyref19's disk: Sync, Read. -/
namespace Go.Proofs.YthbojlbgjmecoaaGreat.DJ
open Go.RowKit
set_option linter.constructorNameAsVariable false

theorem Dv.one {T : Nat → Prop} {w w' : World} {rb : Nat} (h : GrS (fun k => k = rb) w w') (hT : T rb) : Dv T w T w' := ⟨h.mono (fun _ _ e => by rw [e]; exact hT), fun _ h => .inl h⟩
theorem dv_drew {T : Nat → Prop} {rb : Nat} {w X : World} {e : Dk} (h : ∃ T', RdAt X T' rb e ∧ Dv T w T' X) : ∃ T', RdAt X.drew T' rb e ∧ Dv T w T' X.drew := by
  obtain ⟨T', h1, h2⟩ := h
  have hb := (Below.refl X.heap.size X).drew
  exact ⟨T', h1.later hb, h2.trans (Dv.below hb)⟩
/-- What lies where a name stands. -/
structure ItP (w : World) (T : Nat → Prop) (rb : Nat) (d : Dk) (k : Nat) (f : Fl) (g n c : Nat) (p : Option Addr) (pc : Nat) : Prop where
  row : w.heap[rb]? = some (rdRow (.slice (some ⟨g, 0, none⟩) n c) d)
  fs : FfT w T (.slice (some ⟨g, 0, none⟩) n c) d.fs
  n : n = d.fs.length
  hk : k < d.fs.length
  hf : d.fs[k] = f
  nm : w.cell? ⟨g, k * 3, none⟩ = some (.string (strB f.nm))
  dat : w.cell? ⟨g, k * 3 + 1, none⟩ = some (.slice p f.dat.length pc)
  sur : w.cell? ⟨g, k * 3 + 2, none⟩ = some (.int .i64 (f.sure : Int))
  own : w.ownsRow 0 5 1 (.slice p f.dat.length pc) f.dat.length (bysV f.dat)
  byt : ∀ y ∈ f.dat, y < 256
theorem RdAt.it {T : Nat → Prop} {rb : Nat} {d : Dk} {w : World} (h : RdAt w T rb d) {k : Nat} (hk : k < d.fs.length) : ∃ f g n c p pc, ItP w T rb d k f g n c p pc := by
  obtain ⟨v, hrow, hF⟩ := h.ex
  obtain ⟨a, c, rfl, -, -⟩ := hF.sl
  obtain ⟨g, x, rfl, k0, k1, k2, hB, hT⟩ := hF.item hk
  have ho : w.ownsRow 0 5 1 x (d.fs[k]).dat.length (bysV (d.fs[k]).dat) := hB.own
  obtain ⟨p, pc, rfl⟩ := own_lenB ho
  exact ⟨d.fs[k], g, d.fs.length, c, p, pc, hrow, hF, rfl, hk, rfl, k0, k1, k2, ho, hB.byt⟩
set_option maxRecDepth 4000 in
set_option maxHeartbeats 1000000 in
theorem rsync_any {T : Nat → Prop} {rb : Nat} {d : Dk} {nm : List Nat} (hl : nm.length ≤ 4294967296) (hb : ∀ x ∈ nm, x < 256) (w : World) (h : RdAt w T rb d) : Calls Tryz.prog 18 #[.pointer (some ⟨rb, 0, none⟩), .string (strB nm)] w fun e w' => e = .returned (.int .i64 ((sync d nm).1 : Int)) ∧ ∃ T', RdAt w' T' rb (sync d nm).2 ∧ Dv T w T' w' := by
  have hch := rchanges_any hl hb w h
  obtain ⟨⟨k, e1, d1⟩, hq⟩ : ∃ q, chgD d nm = q := ⟨_, rfl⟩
  have hfs := chgD_fs d nm
  rw [hq] at hch hfs
  simp only at hch hfs
  have hTrb := h.Trb
  by_cases he : e1 = 0
  rotate_left
  · have hR : sync d nm = (e1, d1) := by unfold sync; rw [chgD_changes, hq, if_neg he]
    have he' : ((e1 : Int) == 0) = false := by simp; exact he
    rw [hR]
    clear hR hq he
    go_enter Tryz.func18, Tryz.ntmps18
    go_wp2_with (go_at_call 73; refine hch.mono ?_; rintro e w1 ⟨rfl, h1, g1⟩; replace h1 := Hid.mk h1; replace g1 := Hid.mk g1)
    go_ret
    exact ⟨rfl, T, h1.out, Dv.one g1.out hTrb⟩
  subst he
  obtain ⟨hk0, hp, hnm⟩ := chgD_ok h.ok.srt (nm := nm) (by rw [hq])
  rw [hq] at hk0
  simp only at hk0
  have hok := h.ok
  have hkd : k < d.fs.length := by rw [hk0]; exact hp
  have hR : sync d nm = (0, { d1 with fs := d.fs.set k (syncF (d.fs[k]'hkd)) }) := by
    unfold sync
    rw [chgD_changes, hq, if_pos rfl, upd_eq hok.srt hp hnm]
    subst hk0
    rfl
  have hOk : Ok { d1 with fs := d.fs.set k (syncF (d.fs[k]'hkd)) } := by
    subst hk0
    exact Ok.upd hok (nm := nm) (g := syncF) (by show d.fs.set _ _ = _; rw [upd_eq hok.srt hp hnm]) (fun f => rfl) (fun f hf _ => ⟨hok.siz f hf, Nat.le_refl _, hok.byt f hf⟩)
  have hkl : k < d1.fs.length := by rw [hfs, hk0]; exact hp
  rw [hR]
  clear hR hq hk0 hnm hp
  go_enter Tryz.func18, Tryz.ntmps18
  go_wp2_with (go_at_call 73; fail)
  refine hch.mono ?_
  rintro e w1 ⟨rfl, h1, g1⟩
  obtain ⟨f, g, n, c, p, pc, hI⟩ := h1.it hkl
  obtain ⟨c0, -, -, -, -, -⟩ := rd_cells hI.row
  have i1 := hI.dat
  have i2 := hI.sur
  have fz := hI.fs.frz (k * 3 + 2)
  have hn := hI.n
  have hkn' : (k : Int) < (n : Int) := by rw [hI.n]; omega
  have hk0' : (0 : Int) ≤ (k : Int) := by omega
  have hne := hI.fs.neR hI.row
  have hgT := hI.fs.blk
  have hfin : Hid (∃ T', RdAt (w1.setCell ⟨g, k * 3 + 2, none⟩ (.int .i64 (f.dat.length : Int))) T' rb { d1 with fs := d.fs.set k (syncF (d.fs[k]'hkd)) } ∧ Dv T w T' (w1.setCell ⟨g, k * 3 + 2, none⟩ (.int .i64 (f.dat.length : Int)))) := ⟨by
    have hff : d.fs[k]'hkd = f := by rw [← hI.hf]; simp only [hfs]
    rw [hff] at hOk ⊢
    have hS := hI.fs.sureF (i := k) hkl (f := syncF f) (by rw [hI.hf]; rfl) (by rw [hI.hf]; rfl)
    simp only [hfs] at hS
    have hg := grS_set w1 g (k * 3 + 2) (.int .i64 (f.dat.length : Int))
    refine ⟨T, RdAt.files (fs := d.fs.set k (syncF f)) h1 hOk ((hg.block rb h1.lt (fun e => hne e.symm)).trans hI.row) hS h1.Trb (fun z hz => Nat.lt_of_lt_of_le (h1.hi z hz) hg.size), (Dv.one g1 hTrb).trans ⟨hg.mono (fun _ _ e => by rw [e]; exact hgT), fun _ h => .inl h⟩⟩⟩
  clear h1 g1 hI hch hOk h hok
  go_wp2_with fail
  go_region
  all_goals
    go_wp2
    go_ret
    exact ⟨rfl, dv_drew hfin.out⟩
/-- What Read answers. -/
def readR (d : Dk) (nm : List Nat) : List Nat × Nat := if ¬ named nm then ([], 192) else if d.down then ([], 190) else match get d.fs nm with
  | none => ([], 193)
  | some f => (f.dat, 0)
set_option maxRecDepth 4000 in
set_option maxHeartbeats 1000000 in
theorem rread_any {T : Nat → Prop} {rb : Nat} {d : Dk} {nm : List Nat} (hl : nm.length ≤ 4294967296) (hb : ∀ x ∈ nm, x < 256) (w : World) (h : RdAt w T rb d) : Calls Tryz.prog 24 #[.pointer (some ⟨rb, 0, none⟩), .string (strB nm)] w fun e w' => ∃ v, e = .returned (.tuple #[v, .int .i64 ((readR d nm).2 : Int)]) ∧ w'.ownsRow w.heap.size 5 1 v (readR d nm).1.length (bysV (readR d nm).1) ∧ Below w.heap.size w w' := by
  have hnm := rnamed_any (strB nm) (by rw [← bs_len, strB_bs hb]; exact hl) w
  rw [strB_bs hb] at hnm
  obtain ⟨v, hrow, -⟩ := h.ex
  obtain ⟨-, c1, -, -, -, -⟩ := rd_cells hrow
  unfold readR
  by_cases hn : named nm
  rotate_left
  · rw [if_pos hn]
    rw [decide_eq_false hn] at hnm
    clear hrow hn
    go_enter Tryz.func24, Tryz.ntmps24
    go_wp2_with (go_at_call 37; refine hnm.mono ?_; rintro e w1 ⟨rfl, hw⟩; subst w1)
    refine bodyPost_ret (v := .tuple #[.slice none 0 0, .int .i64 192]) (by simp [results, Tryz.results24, go_sem]) rfl ?_
    exact ⟨.slice none 0 0, rfl, World.ownsRow_nil _ _ _ _, Below.refl _ _⟩
  rw [if_neg (fun g => g hn)]
  rw [decide_eq_true hn] at hnm
  cases hd : d.down with
  | true =>
    rw [hd] at c1
    rw [if_pos rfl]
    clear hrow hn
    go_enter Tryz.func24, Tryz.ntmps24
    go_wp2_with (go_at_call 37; refine hnm.mono ?_; rintro e w1 ⟨rfl, hw⟩; subst w1)
    refine bodyPost_ret (v := .tuple #[.slice none 0 0, .int .i64 190]) (by simp [results, Tryz.results24, go_sem]) rfl ?_
    exact ⟨.slice none 0 0, rfl, World.ownsRow_nil _ _ _ _, Below.refl _ _⟩
  | false =>
    rw [hd] at c1
    rw [if_neg (by decide)]
    have hpl := place_any hb w h
    cases hg : get d.fs nm with
    | none =>
      rw [hg] at hpl
      clear hrow hn
      go_enter Tryz.func24, Tryz.ntmps24
      go_wp2_with (first | (go_at_call 37; refine hnm.mono ?_; rintro e w1 ⟨rfl, hw⟩; subst w1) | (go_at_call 38; refine hpl.mono ?_; rintro e w2 ⟨rfl, hb2⟩; replace hb2 := Hid.mk hb2))
      refine bodyPost_ret (v := .tuple #[.slice none 0 0, .int .i64 193]) (by simp [results, Tryz.results24, go_sem]) rfl ?_
      exact ⟨.slice none 0 0, rfl, World.ownsRow_nil _ _ _ _, hb2.out⟩
    | some f =>
      obtain ⟨hp, hpf⟩ := get_plc h.ok.srt hg
      obtain ⟨f', g, n, c, p, pc, hI⟩ := h.it hp
      obtain rfl : f' = f := hI.hf.symm.trans hpf
      have hsz := h.ok.siz f' (get_some hg).1
      rw [hg] at hpl
      obtain ⟨k, hk⟩ : ∃ k, plc d.fs nm = k := ⟨_, rfl⟩
      rw [hk] at hpl hI hp
      have hI2 : Hid (∀ Y, Below w.heap.size w Y → Y.cell? ⟨rb, 0, none⟩ = some (.slice (some ⟨g, 0, none⟩) n c) ∧ Y.cell? ⟨g, k * 3 + 1, none⟩ = some (.slice p f'.dat.length pc) ∧ Byts Y p f'.dat) := ⟨fun Y hY => by
        refine ⟨(hY.cell (p := ⟨rb, 0, none⟩) h.lt).trans (rd_cells hI.row).1, (hY.cell (p := ⟨g, k * 3 + 1, none⟩) (World.block_lt_of_cell? _ _ hI.dat)).trans hI.dat, ?_⟩
        exact (byts_of_own (n := f'.dat.length) hI.byt hI.own).later hY⟩
      have hpc := (own_pos (hI.own.mono (Nat.zero_le 0))).1
      have hkn' : (k : Int) < (n : Int) := by rw [hI.n]; omega
      have hk0' : (0 : Int) ≤ (k : Int) := by omega
      clear hrow hn hI hk hpf hp
      go_enter Tryz.func24, Tryz.ntmps24
      go_wp2_with (first | (go_at_call 37; refine hnm.mono ?_; rintro e w1 ⟨rfl, hw⟩; subst w1) | (go_at_call 38; refine hpl.mono ?_; rintro e w2 ⟨rfl, hb2⟩; obtain ⟨q0, q1, q2⟩ := hI2.out w2 hb2; have hcp := copied_any p pc hpc f'.dat (Nat.le_trans hsz (by decide)) w2 q2; replace hb2 := Hid.mk hb2) | (go_at_call 36; refine hcp.mono ?_; rintro e w3 ⟨p3, c3, rfl, ho3, hb3⟩; replace ho3 := Hid.mk ho3; replace hb3 := Hid.mk hb3))
      refine bodyPost_ret (v := .tuple #[.slice p3 f'.dat.length c3, .int .i64 0]) (by simp [results, Tryz.results24, go_sem]) rfl ?_
      exact ⟨_, rfl, ho3.out.mono hb2.out.size, hb2.out.trans (hb3.out.mono hb2.out.size)⟩
end Go.Proofs.YthbojlbgjmecoaaGreat.DJ


/- levyref19's disk: Remove. -/
namespace Go.Proofs.YthbojlbgjmecoaaGreat.DJ
open Go.RowKit
set_option linter.constructorNameAsVariable false

/-- The files stand in a new row. -/
theorem RdAt.list {T : Nat → Prop} {rb : Nat} {d : Dk} {X Y : World} {v v' : Value} {L : List (Fl × Value)} {m : Nat} (h : RdAt X T rb d) (hrow : X.heap[rb]? = some (rdRow v d)) (hB : Below X.heap.size X Y) (hm : m = L.length) (ho : Y.ownsRow X.heap.size 74 3 v' m (ffV L)) (hx : ∀ x ∈ L, FfB X 0 x ∧ ∀ z, x.2.ownBlock = some z → T z) (hok : Ok { d with fs := L.map Prod.fst }) : ∃ T', RdAt (Y.setCell ⟨rb, 0, none⟩ v') T' rb { d with fs := L.map Prod.fst } ∧ Dv T X T' (Y.setCell ⟨rb, 0, none⟩ v') := by
  subst hm
  have hrb := h.lt
  have hsub : ∀ z, v'.ownBlock = some z → X.heap.size ≤ z := fun z hz => (ho.lt z hz).1
  have hrY : Y.heap[rb]? = some (rdRow v d) := (hB.block rb hrb).trans hrow
  have hset := grS_set Y rb 0 v'
  have htot : X.heap.size ≤ (Y.setCell ⟨rb, 0, none⟩ v').heap.size := by simpa using hB.size
  have hGX : GrS (fun z => z = rb) X (Y.setCell ⟨rb, 0, none⟩ v') := (GrS.of_below hB).trans hset
  have hkeep : ∀ x ∈ L, FfB (Y.setCell ⟨rb, 0, none⟩ v') 0 x := fun x hm => by
    refine (hx x hm).1.grS hGX (fun z cs _ hc hz => ?_)
    rw [hz, hrow] at hc
    injection hc with hc
    injection hc with _ hc _
    exact absurd hc (by decide)
  have hoS : (Y.setCell ⟨rb, 0, none⟩ v').ownsRow 0 74 3 v' (L.map Prod.fst).length (ffV L) := by
    have h5 := hset.own ho (fun z hz e => by have := hsub z hz; omega)
    rw [List.length_map]
    exact h5.mono (Nat.zero_le _)
  refine ⟨fun z => T z ∨ v'.ownBlock = some z, ⟨hok, h.rigs.same rfl rfl rfl rfl, ⟨v', ?_, ⟨⟨L, rfl, hoS, fun x hm => ⟨hkeep x hm, fun z hz => .inl ((hx x hm).2 z hz)⟩⟩, fun z hz => .inr hz⟩⟩, .inl h.Trb, fun z hz => ?_⟩, ⟨?_, fun z hz => ?_⟩⟩
  · unfold rdRow at hrY
    rw [heap_setCell_same _ _ _ _ _ _ hrY]
    rfl
  · rcases hz with hz | hz
    · exact Nat.lt_of_lt_of_le (h.hi z hz) htot
    · exact (hoS.lt z hz).2
  · exact hGX.mono (fun _ _ e => by rw [e]; exact h.Trb)
  · rcases hz with hz | hz
    · exact .inl hz
    · exact .inr (hsub z hz)
set_option maxRecDepth 4000 in
set_option maxHeartbeats 2000000 in
theorem rremove_any {T : Nat → Prop} {rb : Nat} {d : Dk} {nm : List Nat} (hl : nm.length ≤ 4294967296) (hb : ∀ x ∈ nm, x < 256) (w : World) (h : RdAt w T rb d) : Calls Tryz.prog 22 #[.pointer (some ⟨rb, 0, none⟩), .string (strB nm)] w fun e w' => e = .returned (.int .i64 ((remove d nm).1 : Int)) ∧ ∃ T', RdAt w' T' rb (remove d nm).2 ∧ Dv T w T' w' := by
  have hch := rchanges_any hl hb w h
  obtain ⟨⟨k, e1, d1⟩, hq⟩ : ∃ q, chgD d nm = q := ⟨_, rfl⟩
  have hfs := chgD_fs d nm
  rw [hq] at hch hfs
  simp only at hch hfs
  have hTrb := h.Trb
  by_cases he : e1 = 0
  rotate_left
  · have hR : remove d nm = (e1, d1) := by unfold remove; rw [chgD_changes, hq, if_neg he]
    have he' : ((e1 : Int) == 0) = false := by simp; exact he
    rw [hR]
    clear hR hq he
    go_enter Tryz.func22, Tryz.ntmps22
    go_wp2_with (go_at_call 73; refine hch.mono ?_; rintro e w1 ⟨rfl, h1, g1⟩; replace h1 := Hid.mk h1; replace g1 := Hid.mk g1)
    go_ret
    exact ⟨rfl, T, h1.out, Dv.one g1.out hTrb⟩
  subst he
  obtain ⟨hk0, hp, hnm⟩ := chgD_ok h.ok.srt (nm := nm) (by rw [hq])
  rw [hq] at hk0
  simp only at hk0
  have hok := h.ok
  have hkd : k < d.fs.length := by rw [hk0]; exact hp
  have hR : remove d nm = (0, { d1 with fs := d.fs.take k ++ d.fs.drop (k + 1) }) := by
    unfold remove
    rw [chgD_changes, hq, if_pos rfl, del_eq hok.srt hp hnm]
    subst hk0
    rfl
  have hOk : Ok { d1 with fs := d.fs.take k ++ d.fs.drop (k + 1) } := by
    subst hk0
    exact Ok.del hok (nm := nm) (by show _ ++ _ = _; rw [del_eq hok.srt hp hnm])
  have h40 := hok.len
  rw [hR]
  clear hR hq hk0 hnm hp
  go_enter Tryz.func22, Tryz.ntmps22
  go_wp2_with (go_at_call 73; fail)
  refine hch.mono ?_
  rintro e w1 ⟨rfl, h1, g1⟩
  obtain ⟨v, hrow, hF⟩ := h1.ex
  obtain ⟨a, c, rfl, hac, hlc⟩ := hF.sl
  obtain ⟨⟨L, hLm, hLo, hLx⟩, hLT⟩ := hF
  have hLl : L.length = d1.fs.length := by rw [← hLm, List.length_map]
  have hone : ∀ x ∈ L, ∃ p n c, x.2 = .slice p n c := fun x hx => by
    obtain ⟨p, c, e⟩ := own_lenB (hLx x hx).1.own
    exact ⟨p, _, c, e⟩
  rw [hfs] at hrow hlc hLo hLl
  obtain ⟨n, hnn⟩ : ∃ n, d.fs.length = n := ⟨_, rfl⟩
  have hrb := h1.lt
  have hfin : Hid (∀ (v' : Value) (Y : World), Below w1.heap.size w1 Y → Y.ownsRow w1.heap.size 74 3 v' (0 + k + (n - (k + 1))) (ffV (L.take k) ++ ffV (L.drop (k + 1))) → ∃ T', RdAt (Y.setCell ⟨rb, 0, none⟩ v') T' rb { d1 with fs := d.fs.take k ++ d.fs.drop (k + 1) } ∧ Dv T w T' (Y.setCell ⟨rb, 0, none⟩ v')) := ⟨fun v' Y hB ho => by
    have hmp : (L.take k ++ L.drop (k + 1)).map Prod.fst = d.fs.take k ++ d.fs.drop (k + 1) := by rw [List.map_append, List.map_take, List.map_drop, hLm, hfs]
    rw [← ffV_app] at ho
    have hq := RdAt.list h1 hrow hB (L := L.take k ++ L.drop (k + 1)) (by rw [List.length_append, List.length_take, List.length_drop]; omega) ho (fun x hx => by
      rcases List.mem_append.1 hx with hx | hx
      · exact hLx x (List.mem_of_mem_take hx)
      · exact hLx x (List.mem_of_mem_drop hx)) (by rw [hmp]; exact hOk)
    rw [hmp] at hq
    obtain ⟨T', q1, q2⟩ := hq
    exact ⟨T', q1, (Dv.one g1 hTrb).trans q2⟩⟩
  rw [hnn] at hrow hlc hLo hLl hkd h40
  have hgr : Hid (∀ Y, Below w1.heap.size w1 Y → Y.heap[rb]? = some (rdRow (.slice a n c) d1)) := ⟨fun Y hY => (hY.block rb hrb).trans hrow⟩
  have c01 : w1.cell? ⟨rb, 0, none⟩ = some (.slice a n c) := (rd_cells hrow).1
  obtain ⟨ga, hga⟩ : ∃ ga, a = some ⟨ga, 0, none⟩ := by
    obtain ⟨q1, ⟨e, hn⟩ | ⟨g, cap, cur, e, hb, r, -⟩⟩ := hLo
    · omega
    · injection e with e1 _ _
      exact ⟨g, e1⟩
  subst hga
  have hkc : (k : Int) ≤ (c : Int) := by omega
  have hk0 : (0 : Int) ≤ (k : Int) := by omega
  have hkn : (k : Int) < (n : Int) := by omega
  have hk40 : (k : Int) < 40 := by omega
  have hcell : Hid (∀ Y, Below w1.heap.size w1 Y → ∀ j u, (ffV L)[j]? = some u → Y.cell? ⟨ga, j, none⟩ = some u) := ⟨fun Y hY j u hj => by
    have hjl : j < (ffV L).length := (List.getElem?_eq_some_iff.1 hj).1
    rw [ffV_len, hLl] at hjl
    exact (hY.cell (p := ⟨ga, j, none⟩) (hLo.lt ga rfl).2).trans ((hLo.cellAt j hjl).trans hj)⟩
  obtain ⟨ad, cp, hsl, had⟩ := slice_ff ga n c (k + 1) (by omega) hlc
  rw [show ((k + 1 : Nat) : Int) = (k : Int) + 1 by omega] at hsl
  have tk : ∀ j u, (ffV (L.take k))[j]? = some u → (ffV L)[j]? = some u := fun j u hj => by
    have e : ffV L = ffV (L.take k) ++ ffV (L.drop k) := by rw [← ffV_app, List.take_append_drop]
    rw [e, List.getElem?_append_left (List.getElem?_eq_some_iff.1 hj).1]
    exact hj
  have dk : ∀ j u, (ffV (L.drop (k + 1)))[j]? = some u → (ffV L)[(k + 1) * 3 + j]? = some u := fun j u hj => by
    have e : ffV L = ffV (L.take (k + 1)) ++ ffV (L.drop (k + 1)) := by rw [← ffV_app, List.take_append_drop]
    have e2 : (ffV (L.take (k + 1))).length = (k + 1) * 3 := by rw [ffV_len, List.length_take]; omega
    rw [e, List.getElem?_append_right (by omega), e2, Nat.add_sub_cancel_left]
    exact hj
  have l1 : (ffV (L.take k)).length = k * 3 := by rw [ffV_len, List.length_take]; omega
  have l3 : (ffV (L.drop (k + 1))).length = (n - (k + 1)) * 3 := by rw [ffV_len, List.length_drop]; omega
  have o1 := ffV_one (L.take k) (fun x hx => hone x (List.mem_of_mem_take hx))
  have o3 := ffV_one (L.drop (k + 1)) (fun x hx => hone x (List.mem_of_mem_drop hx))
  obtain ⟨C1, hC1⟩ : ∃ C1, ffV (L.take k) = C1 := ⟨_, rfl⟩
  obtain ⟨C3, hC3⟩ : ∃ C3, ffV (L.drop (k + 1)) = C3 := ⟨_, rfl⟩
  rw [hC1] at tk l1 o1 hfin
  rw [hC3] at dk l3 o3 hfin
  have h3c : Hid (∀ Y, Below w1.heap.size w1 Y → ∀ j u, C3[j]? = some u → Y.cell? (ad.add j) = some u) := ⟨fun Y hY j u hj => by
    have hj2 := (List.getElem?_eq_some_iff.1 hj).1
    rw [had (by omega), Go.WideShapes.add_plain]
    exact hcell.out Y hY _ u (dk j u hj)⟩
  have hgb : Hid (∀ (Y Z : World) (r : Option Nat), Below w1.heap.size w1 Y → Y.grownBy Z r → (∀ z, r = some z → w1.heap.size ≤ z) → Below w1.heap.size w1 Z) := ⟨fun Y Z r hY hZ hr => ⟨hZ.os.trans hY.os, hZ.tape.trans hY.tape, hZ.output.trans hY.output, Nat.le_trans hY.size hZ.size, fun q hq => (hZ.block q (Nat.lt_of_lt_of_le hq hY.size) (fun e => by have := hr q e.symm; omega)).trans (hY.block q hq)⟩⟩
  clear hLo hLx hLT hrow hac h1 g1 h had hOk hok hLm hone hC1 hC3 hfs hch hnn hTrb
  go_wp2_with (at_builtin; refine wpList_appF w1 rfl _ _ rfl w1.heap.size (Nat.le_refl _) _ 0 [] rfl (World.ownsRow_nil _ _ _ _) (some ⟨ga, 0, none⟩) k c rfl (fun e => by cases e) C1 l1 (fun p hp j u hj => by cases hp; rw [Go.WideShapes.add_plain, Nat.zero_add]; exact hcell.out w1 (Below.refl _ _) j u (tk j u hj)) o1 (by omega) ?_; intro v1 w2 ho1 hg1 ha1; have hb2 := hgb.out _ _ _ (Below.refl _ _) hg1 (fun z hz => by cases hz); have r2 := hgr.out w2 hb2; have c2 := (rd_cells r2).1; go_wp2_with (at_builtin; refine wpList_appF w2 rfl _ _ rfl w1.heap.size hb2.size _ (0 + k) _ rfl ho1 (some ad) (n - (k + 1)) cp rfl (fun e => by cases e) C3 l3 (fun p hp j u hj => by cases hp; exact h3c.out w2 hb2 j u hj) o3 (by omega) ?_; intro v3 w4 ho3 hg3 ha3; have hb4 := hgb.out _ _ _ hb2 hg3 (fun z hz => (ho1.lt z hz).1); have r4 := hgr.out w4 hb4; obtain ⟨c4, -, -, -, -, fz4⟩ := rd_cells r4; have f40 := fz4 0; clear fz4; obtain ⟨p3, q3, hv3⟩ := own_lenB ho3; have hfi := hfin.out v3 w4 hb4 ho3; rw [hv3] at hfi ⊢; replace hfi := Hid.mk hfi))
  go_ret
  rw [Nat.zero_add] at hfi
  exact ⟨rfl, hfi.out⟩
end Go.Proofs.YthbojlbgjmecoaaGreat.DJ

import Derived.Test.YthbojlbgjmecoaaGreatTurnRdK
import Derived.Test.YthbojlbgjmecoaaGreatJoin30
import Derived.Deep.RegionHeld3
/- levyref19's disk: Restart. -/
namespace Go.Proofs.YthbojlbgjmecoaaGreat.DJ
open Go.RowKit
set_option linter.constructorNameAsVariable false

theorem part_len (keep : List Int) (fs : List Fl) (i : Nat) : (part keep fs i).length = fs.length := by
  have := congrArg List.length (part_names keep fs i)
  simpa using this
theorem part_split (keep : List Int) {fs : List Fl} {i : Nat} (h : i < fs.length) : part keep fs i = cuts keep 0 (fs.take i) ++ fs[i] :: fs.drop (i + 1) ∧ part keep fs (i + 1) = cuts keep 0 (fs.take i) ++ cutF (keep.getD (i % keep.length) 0) fs[i] :: fs.drop (i + 1) ∧ (cuts keep 0 (fs.take i)).length = i := by
  refine ⟨?_, ?_, by rw [cuts_len, List.length_take]; omega⟩
  · unfold part
    rw [List.drop_eq_getElem_cons h]
  · unfold part
    rw [List.take_succ_eq_append_getElem h, cuts_append, List.length_take, Nat.min_eq_left (by omega), Nat.zero_add]
    simp [cuts]
theorem part_at (keep : List Int) {fs : List Fl} {i : Nat} (h : i < fs.length) (h' : i < (part keep fs i).length) : (part keep fs i)[i] = fs[i] := by
  obtain ⟨e1, -, e3⟩ := part_split keep h
  have : (part keep fs i)[i]? = some fs[i] := by
    rw [e1, List.getElem?_append_right (by omega), e3, Nat.sub_self]
    rfl
  exact (List.getElem?_eq_some_iff.1 this).2
theorem part_set (keep : List Int) {fs : List Fl} {i : Nat} (h : i < fs.length) : (part keep fs i).set i (cutF (keep.getD (i % keep.length) 0) fs[i]) = part keep fs (i + 1) := by
  obtain ⟨e1, e2, e3⟩ := part_split keep h
  rw [e1, e2, List.set_append_right _ _ (by omega), e3, Nat.sub_self]
  rfl
theorem Ok.part {d e : Dk} (h : Ok d) {keep : List Int} {i : Nat} (he : e.fs = DJ.part keep d.fs i) : Ok e := by
  have hm : ∀ f ∈ DJ.part keep d.fs i, f ∈ d.fs ∨ ∃ x ∈ d.fs, ∃ k, f = cutF k x := fun f hf => by
    unfold DJ.part at hf
    rcases List.mem_append.1 hf with hf | hf
    · obtain ⟨x, hx, k, e⟩ := mem_cuts hf
      exact .inr ⟨x, List.mem_of_mem_take hx, k, e⟩
    · exact .inl (List.mem_of_mem_drop hf)
  refine ⟨by rw [he]; exact srt_names h.srt (part_names keep d.fs i), by rw [he, part_len]; exact h.len, ?_, ?_, ?_, ?_⟩ <;>
    (intro f hf; rw [he] at hf; rcases hm f hf with hx | ⟨x, hx, k, rfl⟩)
  · exact h.nmd f hx
  · exact h.nmd x hx
  · exact h.siz f hx
  · exact Nat.le_trans (by simp [cutF]; omega) (h.siz x hx)
  · exact h.sur f hx
  · have := h.sur x hx
    simp only [cutF, List.length_take]; omega
  · exact h.byt f hx
  · intro y hy
    exact h.byt x hx y (List.mem_of_mem_take hy)
/-- A file's bytes have turned, and how many of them are sure. -/
theorem RdAt.both {T : Nat → Prop} {rb : Nat} {d : Dk} {w Y Z : World} {k g n c pc : Nat} {f f1 : Fl} {p : Option Addr} {x : Value} (h : RdAt w T rb d) (hI : ItP w T rb d k f g n c p pc) (hn : f1.nm = f.nm) (hb : ∀ y ∈ f1.dat, y < 256) (hY : Below w.heap.size w Y) (ho : Y.ownsRow w.heap.size 5 1 x f1.dat.length (bysV f1.dat)) (hZ : Below (Y.setCell ⟨g, k * 3 + 1, none⟩ x).heap.size (Y.setCell ⟨g, k * 3 + 1, none⟩ x) Z) (hOk : Ok { d with fs := d.fs.set k f1 }) : ∃ T', RdAt (Z.setCell ⟨g, k * 3 + 2, none⟩ (.int .i64 (f1.sure : Int))) T' rb { d with fs := d.fs.set k f1 } ∧ Dv T w T' (Z.setCell ⟨g, k * 3 + 2, none⟩ (.int .i64 (f1.sure : Int))) := by
  have hkl := hI.hk
  have hne := hI.fs.neR hI.row
  have hgT := hI.fs.blk
  have hF := (hI.fs.grS (GrS.of_below hY) (fun _ _ h => h)).mono (T' := fun z => T z ∨ x.ownBlock = some z) (fun _ _ h => .inl h)
  have hF1 := hF.dataF (i := k) hkl (f := ⟨f.nm, f1.dat, f.sure⟩) (x := x) (by rw [hI.hf]) (by rw [hI.hf]) hb (ho.mono (Nat.zero_le _)) (fun z hz => .inr hz)
  have hF2 := hF1.grS (GrS.of_below hZ) (fun _ _ h => h)
  have hS := hF2.sureF (i := k) (by rw [List.length_set]; exact hkl) (f := f1) (by rw [List.getElem_set_self]; exact hn) (by rw [List.getElem_set_self])
  rw [List.set_set] at hS
  have hg1 := grS_set Y g (k * 3 + 1) x
  have hg := grS_set Z g (k * 3 + 2) (.int .i64 (f1.sure : Int))
  have hgA := (((GrS.of_below (S := fun z => z = g) hY).trans hg1).trans (GrS.of_below hZ)).trans hg
  refine ⟨_, RdAt.files h hOk ((hgA.block rb h.lt (fun e => hne e.symm)).trans hI.row) hS (.inl h.Trb) (fun z hz => ?_), ⟨hgA.mono (fun _ _ e => by rw [e]; exact hgT), fun z hz => ?_⟩⟩
  · rcases hz with hz | hz
    · exact Nat.lt_of_lt_of_le (h.hi z hz) hgA.size
    · exact Nat.lt_of_lt_of_le (ho.lt z hz).2 ((hg1.trans ((GrS.of_below hZ).trans hg)).size)
  · rcases hz with hz | hz
    · exact .inl hz
    · exact .inr (ho.lt z hz).1
theorem up_set {T : Nat → Prop} {rb : Nat} {fs : List Fl} {w : World} (h : RdAt w T rb ⟨fs, true, none, 0, 0⟩) : RdAt (w.setCell ⟨rb, 1, none⟩ (.bool false)) T rb ⟨fs, false, none, 0, 0⟩ ∧ GrS (fun k => k = rb) w (w.setCell ⟨rb, 1, none⟩ (.bool false)) := by
  have hg := grS_set w rb 1 (.bool false)
  refine ⟨h.turn rfl ⟨fun u h => (by cases h), Nat.zero_le _, Nat.zero_le _, fun h => by cases h⟩ hg (fun v hrow => ?_), hg⟩
  unfold rdRow at hrow
  rw [heap_setCell_same _ _ _ _ _ _ hrow]
  rfl
set_option maxRecDepth 4000 in
set_option maxHeartbeats 4000000 in
theorem rrestart_any {T : Nat → Prop} {rb : Nat} {d : Dk} (ks : List Int) (hkl : ks.length ≤ 4611686018427387904) (a : Option Addr) (cap : Nat) (w : World) (hK : KpAt w a ks) (hap : ks = [] ∨ ∀ p, a = some p → ¬ T p.block) (h : RdAt w T rb d) : Calls Tryz.prog 33 #[.pointer (some ⟨rb, 0, none⟩), .slice a ks.length cap] w fun e w' => e = .returned (.tuple #[]) ∧ ∃ T', RdAt w' T' rb (restart d ks) ∧ Dv T w T' w' := by
  have hf0 := rfalls_any w h
  have hok := h.ok
  have hTrb := h.Trb
  have h40 := hok.len
  go_enter Tryz.func33, Tryz.ntmps33
  go_wp2_with (go_at_call 81; refine hf0.mono ?_; rintro e w1 ⟨rfl, hD1, hg1⟩; clear hf0)
  have hv1 := Dv.one hg1 hTrb
  have hK1 : KpAt w1 a ks := hap.elim .inl (fun hap => hK.grS hg1 (fun p hp e => hap p hp (by rw [e]; exact hTrb)))
  have hTd := h.hi
  clear hK hg1 h
  go_loopw [4] (fun v wr => ∃ i : Nat, i ≤ d.fs.length ∧ v = .int .i64 (i : Int) ∧ ∃ T', RdAt wr T' rb ⟨part ks d.fs i, true, none, 0, 0⟩ ∧ Dv T w1 T' wr) (fun v _ => d.fs.length - (intOf v).toNat)
  case atStart =>
    refine ⟨0, Nat.zero_le _, rfl, T, ?_, .refl _ _⟩
    rw [part_zero]
    exact hD1
  case round =>
    obtain ⟨i, hi, rfl, T', hDr, hvr⟩ := hrel
    clear hD1
    obtain ⟨v, hrow, hF⟩ := hDr.ex
    obtain ⟨va, vc, rfl, -, -⟩ := hF.sl
    obtain ⟨c0, c1, -, -, -, fzd⟩ := rd_cells hrow
    simp only [part_len] at c0
    by_cases hlt : i < d.fs.length
    · have hkl : i < (part ks d.fs i).length := by rw [part_len]; exact hlt
      obtain ⟨f, g, n, c, p, pc, hI⟩ := hDr.it hkl
      have hpt := part_at ks hlt hkl
      have hff : d.fs[i] = f := hpt.symm.trans hI.hf
      have hst := part_set ks hlt
      have hOk : Ok (⟨part ks d.fs (i + 1), true, none, 0, 0⟩ : Dk) := hok.part rfl
      have hsur := hok.sur _ (List.getElem_mem hlt)
      have hsiz := hok.siz _ (List.getElem_mem hlt)
      rw [hff] at hst hsur hsiz
      have hlt' : (i : Int) < (d.fs.length : Int) := by omega
      have hi0 : (0 : Int) ≤ (i : Int) := by omega
      have hn : n = d.fs.length := by have := hI.n; simp only [part_len] at this; exact this
      have hrw := hI.row
      rw [hrow] at hrw
      have hva : va = some ⟨g, 0, none⟩ ∧ vc = c := by
        injection hrw with hrw
        injection hrw with hrw
        have := congrArg (fun a : Array Value => a[0]?) hrw
        simp at this
        exact ⟨this.1, this.2.2⟩
      obtain ⟨rfl, rfl⟩ := hva
      have i0 := hI.nm
      have i1 := hI.dat
      have i2 := hI.sur
      have fz := hI.fs.frz
      have hgl : g < wr.heap.size := World.block_lt_of_cell? _ _ i1
      have hne := hI.fs.neR hI.row
      have hown := hI.own
      have hpc := (own_pos (hown.mono (Nat.zero_le 0))).1
      have hlpc : f.dat.length ≤ pc := by
        obtain ⟨q1, ⟨e, hn0⟩ | ⟨b, cap', cur, e, hb, r, h4, -⟩⟩ := hown
        · omega
        · injection e with e1 _ e2
          omega
      have hby := byts_of_own (n := f.dat.length) hI.byt hI.own
      obtain ⟨X, hXe⟩ : ∃ X, wr.alloc (.cells #[.string (strB f.nm), .slice p f.dat.length pc, .int .i64 (f.sure : Int)] 74) = X := ⟨_, rfl⟩
      have hb0 : Below wr.heap.size wr X := by rw [← hXe]; exact (Below.refl _ _).alloc (Nat.le_refl _) _
      obtain ⟨fb, hfb⟩ : ∃ fb, wr.heap.size = fb := ⟨_, rfl⟩
      have hXl : fb < X.heap.size := by rw [← hXe, ← hfb]; simp
      have hXr : X.heap[fb]? = some (.cells #[.string (strB f.nm), .slice p f.dat.length pc, .int .i64 (f.sure : Int)] 74 (0, 0)) := by rw [← hXe, ← hfb]; exact heap_alloc_new _ _
      have hst1 : Hid (∀ Y, Below X.heap.size X Y → Below wr.heap.size wr Y ∧ Y.cell? ⟨rb, 0, none⟩ = some (.slice (some ⟨g, 0, none⟩) d.fs.length vc) ∧ (∀ j, Y.frozen? ⟨g, j, none⟩ = false) ∧ Y.cell? ⟨g, i * 3 + 1, none⟩ = some (.slice p f.dat.length pc) ∧ Y.cell? ⟨g, i * 3 + 2, none⟩ = some (.int .i64 (f.sure : Int)) ∧ Y.cell? ⟨fb, 1, none⟩ = some (.slice p f.dat.length pc) ∧ Y.cell? ⟨fb, 2, none⟩ = some (.int .i64 (f.sure : Int))) := ⟨fun Y hY => by
        have hB := hb0.trans (hY.mono hb0.size)
        have hr := (hY.block fb hXl).trans hXr
        exact ⟨hB, (hB.cell (p := ⟨rb, 0, none⟩) hDr.lt).trans c0, (hI.fs.grS (GrS.of_below hB) (fun _ _ h => h)).frz, (hB.cell (p := ⟨g, i * 3 + 1, none⟩) hgl).trans i1, (hB.cell (p := ⟨g, i * 3 + 2, none⟩) hgl).trans i2, cell_of_row _ _ 1 _ _ _ hr, cell_of_row _ _ 2 _ _ _ hr⟩⟩
      have hst2 : Hid (∀ Y x, Below X.heap.size X Y → (Y.setCell ⟨g, i * 3 + 1, none⟩ x).cell? ⟨rb, 0, none⟩ = some (.slice (some ⟨g, 0, none⟩) d.fs.length vc) ∧ (∀ j, (Y.setCell ⟨g, i * 3 + 1, none⟩ x).frozen? ⟨g, j, none⟩ = false) ∧ (Y.setCell ⟨g, i * 3 + 1, none⟩ x).cell? ⟨g, i * 3 + 2, none⟩ = some (.int .i64 (f.sure : Int)) ∧ (Y.setCell ⟨g, i * 3 + 1, none⟩ x).cell? ⟨fb, 1, none⟩ = some (.slice p f.dat.length pc) ∧ (Y.setCell ⟨g, i * 3 + 1, none⟩ x).cell? ⟨fb, 2, none⟩ = some (.int .i64 (f.sure : Int))) := ⟨fun Y x hY => by
        obtain ⟨hB, q0, q1, q2, q3, q4, q5⟩ := hst1.out Y hY
        exact ⟨(World.cell?_setCell_far _ _ _ _ (by exact hne)).trans q0, fun j => by rw [World.frozen?_setCell]; exact q1 j, (World.cell?_setCell_other _ _ _ _ (by intro e; injection e with _ e _; omega)).trans q3, (World.cell?_setCell_far _ _ _ _ (by show g ≠ fb; omega)).trans q4, (World.cell?_setCell_far _ _ _ _ (by show g ≠ fb; omega)).trans q5⟩⟩
      have hfin : Hid (∀ (kk : Int) (K : Nat), kk = ks.getD (i % ks.length) 0 → K = f.sure + min kk.toNat (f.dat.length - f.sure) → ∀ (x : Value) Y, Below wr.heap.size wr Y → Y.ownsRow wr.heap.size 5 1 x K (bysV (f.dat.take K)) → ∀ Z, Below (Y.setCell ⟨g, i * 3 + 1, none⟩ x).heap.size (Y.setCell ⟨g, i * 3 + 1, none⟩ x) Z → ∃ T2, RdAt (Z.setCell ⟨g, i * 3 + 2, none⟩ (.int .i64 (K : Int))) T2 rb ⟨part ks d.fs (i + 1), true, none, 0, 0⟩ ∧ Dv T w1 T2 (Z.setCell ⟨g, i * 3 + 2, none⟩ (.int .i64 (K : Int)))) := ⟨fun kk K hkk hK x Y hY ho Z hZ => by
        have e1 : cutF kk f = ⟨f.nm, f.dat.take K, K⟩ := by unfold cutF; rw [← hK]
        rw [← hkk, e1] at hst
        obtain ⟨T2, q1, q2⟩ := RdAt.both (f1 := ⟨f.nm, f.dat.take K, K⟩) hDr hI rfl (fun y hy => hI.byt y (List.mem_of_mem_take hy)) hY (by show Y.ownsRow _ _ _ _ (f.dat.take K).length _; rw [List.length_take, Nat.min_eq_left (by omega)]; exact ho) hZ (by simp only [hst]; exact hOk)
        simp only [hst] at q1
        exact ⟨T2, q1, hvr.trans q2⟩⟩
      have hcp : Hid (∀ (K : Nat), K ≤ f.dat.length → ∀ Y, Below X.heap.size X Y → Calls Tryz.prog 36 #[.slice p K pc] Y fun e w' => ∃ p' c', e = .returned (.slice p' K c') ∧ w'.ownsRow Y.heap.size 5 1 (.slice p' K c') K (bysV (f.dat.take K)) ∧ Below Y.heap.size Y w') := ⟨fun K hK Y hY => by
        have hB := hb0.trans (hY.mono hb0.size)
        have := copied_any p pc hpc (f.dat.take K) (by rw [List.length_take]; omega) Y ((byts_tk hby K).later hB)
        rw [List.length_take, Nat.min_eq_left (by omega)] at this
        exact this⟩
      have hs0 : (0 : Int) ≤ (f.sure : Int) := by omega
      have hsI : (f.sure : Int) ≤ (f.dat.length : Int) := by omega
      have hdI : (f.dat.length : Int) ≤ 2097152 := by omega
      have hKr : KpAt wr a ks := hap.elim .inl (fun hap => hK1.grS hvr.gr hap)
      replace hv1 := Hid.mk hv1
      clear hown hby hI hF hrow hrw hDr hOk hst hff hpt hkl hok hn c1 fzd hvr hTrb
      obtain ⟨hB0, x0, x1, x2, x3, x4, x5⟩ := hst1.out X (Below.refl _ _)
      have goal2 : ∀ (kk : Int), kk = ks.getD (i % ks.length) 0 → ∃ K kn : Nat, min (max kk 0) ((f.dat.length : Int) - (f.sure : Int)) = (kn : Int) ∧ K = f.sure + kn ∧ K = f.sure + min kk.toNat (f.dat.length - f.sure) := fun kk _ => ⟨f.sure + min kk.toNat (f.dat.length - f.sure), min kk.toNat (f.dat.length - f.sure), by omega, rfl, rfl⟩
      replace goal2 := Hid.mk goal2
      by_cases hk0 : 0 < ks.length
      case' pos =>
        have hk0' : (0 : Int) < (ks.length : Int) := by omega
        obtain ⟨kb, ko, rfl, hkb, hkc⟩ := hKr.resolve_left (fun e => by rw [e] at hk0; simp at hk0)
        obtain ⟨j, hj⟩ : ∃ j, i % ks.length = j := ⟨_, rfl⟩
        have hjl : j < ks.length := by rw [← hj]; exact Nat.mod_lt _ hk0
        have hkj := hkc j hjl
        obtain ⟨kk, hk⟩ : ∃ kk, ks[j] = kk := ⟨_, rfl⟩
        have hkk : Hid (kk = ks.getD (i % ks.length) 0) := ⟨by rw [hj, ← hk, List.getD_eq_getElem?_getD, List.getElem?_eq_getElem hjl]; rfl⟩
        rw [hk] at hkj
        have hkX : X.cell? ⟨kb, ko + j, none⟩ = some (.int .i64 kk) := (hb0.cell (p := ⟨kb, ko + j, none⟩) hkb).trans hkj
        have hrem : Hid (Int.tmod (i : Int) (ks.length : Int) = (j : Int)) := ⟨by rw [← hj]; rw [Int.tmod_eq_emod_of_nonneg (by omega)]; omega⟩
        have hjI : (j : Int) < (ks.length : Int) := by omega
        have hj0 : (0 : Int) ≤ (j : Int) := by omega
        clear hkc hj hk hkj
        obtain ⟨K, kn, hmn, hK1, hK2⟩ := goal2.out kk hkk.out
        replace hK2 := Hid.mk hK2
        replace hb0 := Hid.mk hb0
        replace hmn := Hid.mk hmn
        replace hK1 := Hid.mk hK1
        go_upto_region 7 with fail
        have hrem' := hrem.out
        clear hXe hXr
        go_upto_region 10 with fail
        rw [hmn.out]
      case' neg =>
        have hk0' : ¬ (0 : Int) < (ks.length : Int) := by omega
        have hks : ks = [] := List.length_eq_zero_iff.mp (by omega)
        have hkk : Hid ((0 : Int) = ks.getD (i % ks.length) 0) := ⟨by rw [hks]; rfl⟩
        obtain ⟨K, kn, hmn, hK1, hK2⟩ := goal2.out 0 hkk.out
        rw [show max (0 : Int) 0 = 0 from rfl] at hmn
        obtain ⟨kk, hkz⟩ : ∃ kk : Int, (0 : Int) = kk := ⟨_, rfl⟩
        replace hkk : Hid (kk = ks.getD (i % ks.length) 0) := ⟨hkz ▸ hkk.out⟩
        replace hK2 : Hid (K = f.sure + min kk.toNat (f.dat.length - f.sure)) := ⟨hkz ▸ hK2⟩
        clear hks hkz
        replace hb0 := Hid.mk hb0
        replace hmn := Hid.mk hmn
        replace hK1 := Hid.mk hK1
        go_upto_region 10 with fail
        rw [hmn.out]
        clear hXe hXr
      all_goals
        have hKn : K ≤ f.dat.length := by have := hK2.out; omega
        have hsl := slice_toR p f.dat.length pc K (by omega)
        have hwr : IntKind.i64.wrap ((f.sure : Int) + (kn : Int)) = (K : Int) := by have := hK1.out; rw [IntKind.wrap_i64]; omega
        have hKI0 : (0 : Int) ≤ (K : Int) := by omega
        have hKI1 : (K : Int) ≤ (pc : Int) := by omega
        have hcX := hcp.out K hKn X.drew (Below.refl _ _).drew
        have hdB : Hid (Below X.heap.size X X.drew) := ⟨(Below.refl _ _).drew⟩
        have x1' := x1 (i * 3 + 1)
        replace hB0 := Hid.mk hB0
        clear goal2 hcp hKn
        have hS0 : X.drew.cell? ⟨rb, 0, none⟩ = some (.slice (some ⟨g, 0, none⟩) d.fs.length vc) ∧ X.drew.cell? ⟨fb, 1, none⟩ = some (.slice p f.dat.length pc) ∧ X.drew.cell? ⟨fb, 2, none⟩ = some (.int .i64 (f.sure : Int)) := ⟨x0, x4, x5⟩
        go_region_held3 (fun Y => Y.cell? ⟨rb, 0, none⟩ = some (.slice (some ⟨g, 0, none⟩) d.fs.length vc) ∧ Y.cell? ⟨fb, 1, none⟩ = some (.slice p f.dat.length pc) ∧ Y.cell? ⟨fb, 2, none⟩ = some (.int .i64 (f.sure : Int))) (assumption) ((go_at_call 36; refine hcX.mono ?_; rintro e w3 ⟨p3, c3, rfl, ho3, hb3⟩; have hBX := below_step hdB.out hb3; obtain ⟨hB3, y0, y1, y2, y3, y4, y5⟩ := hst1.out w3 hBX; have hS3 : w3.cell? ⟨rb, 0, none⟩ = some (.slice (some ⟨g, 0, none⟩) d.fs.length vc) ∧ w3.cell? ⟨fb, 1, none⟩ = some (.slice p f.dat.length pc) ∧ w3.cell? ⟨fb, 2, none⟩ = some (.int .i64 (f.sure : Int)) := ⟨y0, y4, y5⟩; obtain ⟨v0, -, -, v4, v5⟩ := hst2.out w3 (.slice p3 K c3) hBX; have hS4 : (w3.setCell ⟨g, i * 3 + 1, none⟩ (.slice p3 K c3)).cell? ⟨rb, 0, none⟩ = some (.slice (some ⟨g, 0, none⟩) d.fs.length vc) ∧ (w3.setCell ⟨g, i * 3 + 1, none⟩ (.slice p3 K c3)).cell? ⟨fb, 1, none⟩ = some (.slice p f.dat.length pc) ∧ (w3.setCell ⟨g, i * 3 + 1, none⟩ (.slice p3 K c3)).cell? ⟨fb, 2, none⟩ = some (.int .i64 (f.sure : Int)) := ⟨v0, v4, v5⟩; clear v0 v4 v5; have y1' := y1 (i * 3 + 1); replace ho3 := Hid.mk ho3; replace hb3 := Hid.mk hb3; replace hB3 := Hid.mk hB3; replace hBX := Hid.mk hBX))
        all_goals
          obtain ⟨Y4, hY4⟩ : ∃ Y, w3.setCell ⟨g, i * 3 + 1, none⟩ (.slice p3 K c3) = Y := ⟨_, rfl⟩
          clear hS0 hS3 hS4
          obtain ⟨z0, z1, z3, z4, z5⟩ := hst2.out w3 (.slice p3 K c3) hBX.out
          rw [hY4] at z0 z1 z3 z4 z5 ⊢
          have z1' := z1 (i * 3 + 2)
          clear x0 x1 x2 x3 x4 x5 x1' y0 y1 y2 y3 y4 y5 y1' hsl hcX
          go_wp2_with fail
          go_region
          all_goals
            go_wp2
            go_roundw
            case rel =>
              subst hY4
              have hZ := hfin.out kk K hkk.out hK2.out _ w3 hB3.out (ho3.out.mono (Nat.le_trans hb0.out.size hdB.out.size)) _ (Below.refl _ _)
              exact ⟨i + 1, by omega, by first | rfl | go_num, dv_drew hZ⟩
            case measure => simp [intOf]; omega
    · have hlt' : ¬ (i : Int) < (d.fs.length : Int) := by omega
      obtain rfl : i = d.fs.length := by omega
      rw [part_all] at hDr
      obtain ⟨q1, q2⟩ := up_set hDr
      have hTr := hDr.Trb
      replace q1 := Hid.mk q1
      have f1 := fzd 1
      clear hF hrow hDr
      go_wp2
      go_end0
      exact ⟨rfl, T', q1.out, hv1.trans (hvr.trans (Dv.one q2 hTr))⟩
end Go.Proofs.YthbojlbgjmecoaaGreat.DJ

import Derived.Test.YthbojlbgjmecoaaGreatJoin29
import Derived.Test.YthbojlbgjmecoaaGreatDmI
import Derived.Test.YthbojlbgjmecoaaGreatDmF
/- Restart: what is cut file by file. -/
namespace Go.Proofs.YthbojlbgjmecoaaGreat.DJ
open Go.RowKit

theorem cuts_append (keep : List Int) : ∀ (i : Nat) (a b : List Fl), cuts keep i (a ++ b) = cuts keep i a ++ cuts keep (i + a.length) b
  | _, [], _ => by simp [cuts]
  | i, f :: a, b => by
    simp only [List.cons_append, cuts, cuts_append keep (i + 1) a b, List.length_cons]
    rw [show i + 1 + a.length = i + (a.length + 1) by omega]
def part (keep : List Int) (fs : List Fl) (i : Nat) : List Fl := cuts keep 0 (fs.take i) ++ fs.drop i
theorem part_zero (keep : List Int) (fs : List Fl) : part keep fs 0 = fs := by simp [part, cuts]
theorem part_all (keep : List Int) (fs : List Fl) : part keep fs fs.length = cuts keep 0 fs := by simp [part]
theorem part_names (keep : List Int) (fs : List Fl) (i : Nat) : (part keep fs i).map (·.nm) = fs.map (·.nm) := by
  unfold part
  rw [List.map_append, cuts_names, ← List.map_append, List.take_append_drop]
theorem part_mem (keep : List Int) {fs : List Fl} {i : Nat} (h : i < fs.length) : fs[i] ∈ part keep fs i := by
  unfold part
  rw [List.drop_eq_getElem_cons h]
  exact List.mem_append_right _ List.mem_cons_self
theorem part_step (keep : List Int) {fs : List Fl} (hs : Srt fs) {i : Nat} (h : i < fs.length) : upd (part keep fs i) fs[i].nm (fun _ => cutF (keep.getD (i % keep.length) 0) fs[i]) = part keep fs (i + 1) := by
  have hp := List.pairwise_iff_getElem.1 hs
  have e1 : part keep fs i = cuts keep 0 (fs.take i) ++ fs[i] :: fs.drop (i + 1) := by unfold part; rw [List.drop_eq_getElem_cons h]
  have e2 : part keep fs (i + 1) = cuts keep 0 (fs.take i) ++ cutF (keep.getD (i % keep.length) 0) fs[i] :: fs.drop (i + 1) := by
    unfold part
    rw [List.take_succ_eq_append_getElem h, cuts_append, List.length_take, Nat.min_eq_left (by omega), Nat.zero_add]
    simp [cuts]
  have n1 : ∀ x ∈ cuts keep 0 (fs.take i), x.nm ≠ fs[i].nm := fun x hx => by
    obtain ⟨y, hy, k, rfl⟩ := mem_cuts hx
    obtain ⟨j, hj, e⟩ := List.mem_iff_getElem.1 hy
    rw [List.length_take] at hj
    rw [List.getElem_take] at e
    have := hp j i (by omega) h (by omega)
    rw [e] at this
    exact ltB_ne this
  have n2 : ∀ x ∈ fs.drop (i + 1), x.nm ≠ fs[i].nm := fun x hx => by
    obtain ⟨j, hj, e⟩ := List.mem_iff_getElem.1 hx
    rw [List.length_drop] at hj
    rw [List.getElem_drop] at e
    have := hp i (i + 1 + j) h (by omega) (by omega)
    rw [e] at this
    exact (ltB_ne this).symm
  rw [e1, e2]
  have e3 : ∀ (A B : List Fl) (x : Fl) (g : Fl → Fl), upd (A ++ x :: B) x.nm g = upd A x.nm g ++ g x :: upd B x.nm g := fun A B x g => by simp [upd]
  rw [e3, upd_not n1, upd_not n2]

/-- A list of ints that came in. -/
def KpAt (w : World) (a : Option Addr) (ks : List Int) : Prop := ks = [] ∨ ∃ b off, a = some ⟨b, off, none⟩ ∧ b < w.heap.size ∧ ∀ i (h : i < ks.length), w.cell? ⟨b, off + i, none⟩ = some (.int .i64 ks[i])
theorem KpAt.grS {S : Nat → Prop} {W W' : World} {a : Option Addr} {ks : List Int} (h : KpAt W a ks) (hg : GrS S W W') (hn : ∀ p, a = some p → ¬ S p.block) : KpAt W' a ks := by
  rcases h with h | ⟨b, off, rfl, hl, hc⟩
  · exact .inl h
  · exact .inr ⟨b, off, rfl, Nat.lt_of_lt_of_le hl hg.size, fun i hi => (hg.cell hl (hn _ rfl)).trans (hc i hi)⟩
end Go.Proofs.YthbojlbgjmecoaaGreat.DJ


/- Restart. -/
namespace Go.Proofs.YthbojlbgjmecoaaGreat.DJ
open Go.RowKit

theorem DiskAt.low {S : Nat → Prop} {W : World} {lo db : Nat} {d : Dk} (h : DiskAt W lo S db d) : ∀ k, S k → lo ≤ k ∧ k < W.heap.size := fun k hk => by
  obtain ⟨mb, D, fb, vv, h⟩ := h
  exact ⟨h.low k hk, h.hi k hk⟩
theorem cut_is {f : Fl} {k : Int} {n : Nat} (hs : f.sure ≤ f.dat.length) (hn : n = f.sure + min k.toNat (f.dat.length - f.sure)) : syncF (cutTo n f) = cutF k f := by
  unfold cutTo syncF cutF
  rw [← hn]
  split
  · simp only [List.length_take]
    rw [Nat.min_eq_left (by omega)]
  · rename_i h
    have e : n = f.dat.length := by omega
    rw [e, List.take_length]

set_option maxRecDepth 4000 in
set_option maxHeartbeats 1000000 in
theorem restart_any {lo db : Nat} {S : Nat → Prop} {d : Dk} (ks : List Int) (hkl : ks.length ≤ 4611686018427387904) (a : Option Addr) (cap : Nat) (w : World) (hlo : lo ≤ w.heap.size) (hK : KpAt w a ks) (hap : ∀ p, a = some p → ¬ S p.block) (h : DiskAt w lo S db d) :
    Calls Tryz.prog 31 #[.pointer (some ⟨db, 0, none⟩), .slice a ks.length cap] w fun e w' => e = .returned (.tuple #[]) ∧ ∃ S', DiskAt w' lo S' db (restart d ks) ∧ Dv S w S' w' := by
  have hC := crash_any w h
  have hSl := h.low
  have hSd : S db := by
    obtain ⟨mb, D, fb, vv, h⟩ := h
    exact h.Sdb
  have hok : Ok d := by
    obtain ⟨mb, D, fb, vv, h⟩ := h
    exact h.ok
  have h40 := hok.len
  go_enter Tryz.func31, Tryz.ntmps31
  go_wp2_with (first | (go_at_call 29; refine hC.mono ?_; rintro e w1 ⟨rfl, hD1, hg1⟩; clear hC) | (go_at_call 34; refine (names_any w1 hD1).mono ?_; rintro e w2 ⟨v, rfl, hrow, hb2⟩; obtain ⟨p, c, rfl⟩ := own_lenB hrow))
  have hrow' : w2.ownsRow w1.heap.size 9 1 (.slice p d.fs.length c) d.fs.length (nmV d.fs) := hrow
  have hD2 := hD1.later hb2
  have hv2 : Dv S w S w2 := ⟨(hg1.mono (fun k _ e => e ▸ hSd)).trans (.of_below hb2), fun _ h => .inl h⟩
  have hpS : ∀ q, p = some q → ¬ S q.block ∧ q.block < w2.heap.size := fun q hq => by
    subst hq
    obtain ⟨-, ⟨e, -⟩ | ⟨gg, cc, cur, e, hb, r, -⟩⟩ := hrow'
    · cases e
    · injection e with e1
      injection e1 with e1
      subst e1
      refine ⟨fun hS => ?_, (Array.getElem?_eq_some_iff.1 r).1⟩
      have h1 : gg < w.heap.size := (hSl _ hS).2
      have h2 := hg1.size
      have h3 : w1.heap.size ≤ gg := hb
      omega
  have hlo2 : lo ≤ w2.heap.size := Nat.le_trans hlo hv2.gr.size
  have hK2 : KpAt w2 a ks := hK.grS hv2.gr hap
  clear hrow hD1 hb2 hg1
  go_loopw [13] (fun v wr => ∃ i : Nat, i ≤ d.fs.length ∧ v = .int .i64 (i : Int) ∧ ∃ S', DiskAt wr lo S' db ⟨part ks d.fs i, true, none, 0, 0⟩ ∧ Dv S w2 S' wr) (fun v _ => d.fs.length - (intOf v).toNat)
  case atStart =>
    refine ⟨0, Nat.zero_le _, rfl, S, ?_, .refl _ _⟩
    rw [part_zero]
    exact hD2
  case round =>
    obtain ⟨i, hi, rfl, S', hDr, hvr⟩ := hrel
    clear hD2
    by_cases hlt : i < d.fs.length
    · have hlt' : (i : Int) < (d.fs.length : Int) := by omega
      have hi0 : (0 : Int) ≤ (i : Int) := by omega
      have hin := part_mem ks hlt
      have hstep := part_step ks hok.srt hlt
      obtain ⟨f, hf⟩ : ∃ f, d.fs[i] = f := ⟨_, rfl⟩
      rw [hf] at hin hstep
      obtain ⟨gp, hgp⟩ : ∃ gp, p = some ⟨gp, 0, none⟩ := by
        obtain ⟨-, ⟨e, h0⟩ | ⟨gg, cc, cur, e, -⟩⟩ := hrow'
        · omega
        · injection e with e1
          exact ⟨gg, e1⟩
      subst hgp
      have hnm := (hvr.gr.cell (b := gp) (o := i) (hpS _ rfl).2 (hpS _ rfl).1).trans (name_at hrow' hlt rfl)
      rw [hf] at hnm
      obtain ⟨mb, D, fb, vv, hL⟩ := hDr
      obtain ⟨c0, -⟩ := hL.cells
      have hlk := hL.look hin
      have hFA := hL.fil f hin
      obtain ⟨k0, k1, f0, f1⟩ := hFA.cells
      have hsur := hL.ok.sur f hin
      have hsiz := hL.ok.siz f hin
      have hbyt := hL.ok.byt f hin
      have hlor : lo ≤ wr.heap.size := Nat.le_trans hlo2 hvr.gr.size
      have hKr : KpAt wr a ks := hK2.grS hvr.gr hap
      obtain ⟨s, hs⟩ : ∃ s, strB f.nm = s := ⟨_, rfl⟩
      obtain ⟨b, hb⟩ : ∃ b, fb f.nm = b := ⟨_, rfl⟩
      rw [hs] at hnm hlk
      rw [hb] at hlk k0 k1 f0 f1 hFA
      obtain ⟨pv, cv, hv⟩ := own_lenB hFA.dat
      rw [hv] at k0
      have fin : ∀ (n : Nat) (k : Int) (X : World) (v' : Value), n = f.sure + min k.toNat (f.dat.length - f.sure) → k = ks.getD (i % ks.length) 0 → FileAt X lo b v' (cutTo n f) → GrS (fun z => z = b) wr X → (v'.ownBlock = (vv f.nm).ownBlock ∨ ∀ z, v'.ownBlock = some z → wr.heap.size ≤ z) → ∃ S', DiskAt (X.setCell ⟨b, 1, none⟩ (.int .i64 ((cutTo n f).dat.length : Int))) lo S' db ⟨part ks d.fs (i + 1), true, none, 0, 0⟩ ∧ Dv S w2 S' (X.setCell ⟨b, 1, none⟩ (.int .i64 ((cutTo n f).dat.length : Int))) := fun n k X v' hn hk hF hg hv' => by
        have hF' : FileAt (X.setCell ⟨b, 1, none⟩ (.int .i64 ((cutTo n f).dat.length : Int))) lo b v' (cutF k f) := by
          rw [← cut_is hsur hn]
          refine ⟨?_, ?_⟩
          · rw [heap_setCell_same _ _ _ _ _ _ hF.row]; rfl
          · refine (grS_set X b 1 _).own hF.dat (fun z hz e => ?_)
            obtain ⟨-, cs, r⟩ := own_row hF.dat hz
            rw [e, hF.row] at r
            simp at r
        have hlc : (cutF k f).dat.length ≤ f.dat.length := by simp [cutF]; omega
        subst hb
        obtain ⟨S2, hL2, hv2'⟩ := hL.turn (d' := ⟨part ks d.fs (i + 1), true, none, 0, 0⟩) hin ((hg.trans (grS_set X _ 1 _)).mono (fun z _ e => .inl e)) (f' := cutF k f) rfl hF' (fun z hz => hv'.elim (fun e => .inl (e ▸ hz)) (fun e => .inr (e z hz))) (by rw [hk]; exact hstep.symm) rfl rfl rfl rfl (Nat.le_trans hlc hsiz) (by simp only [cutF, List.length_take]; omega) (fun x hx => hbyt x (List.mem_of_mem_take hx))
        exact ⟨S2, ⟨mb, D, fb, _, hL2⟩, Dv.trans hvr hv2'⟩
      replace fin := Hid.mk fin
      have hcut : ∀ (n : Nat), n ≤ 9223372036854775807 → ∀ m, Calls Tryz.prog 75 #[.pointer (some ⟨b, 0, none⟩), .int .i64 (n : Int)] (wr.drewN m) fun e X => e = .returned (.tuple #[]) ∧ ∃ v', FileAt X lo b v' (cutTo n f) ∧ GrS (fun z => z = b) wr X ∧ (v'.ownBlock = (vv f.nm).ownBlock ∨ ∀ z, v'.ownBlock = some z → wr.heap.size ≤ z) := fun n hn m => by
        have hbm := below_drewN (Below.refl wr.heap.size wr) m
        refine (cut_any (n := n) hn hbyt hsiz hsur (wr.drewN m) (Nat.le_trans hlor hbm.size) (hFA.grS (S := fun _ => False) (.of_below hbm) (fun h => h) (fun _ _ h => h))).mono ?_
        rintro e X ⟨rfl, v', q1, q2, q3⟩
        exact ⟨rfl, v', q1, (GrS.of_below hbm).trans q2, q3.imp id (fun h z hz => Nat.le_trans hbm.size (h z hz))⟩
      have hsI : (f.sure : Int) ≤ (f.dat.length : Int) := by omega
      have hdI : (f.dat.length : Int) ≤ 2097152 := by omega
      have hs0 : (0 : Int) ≤ (f.sure : Int) := by omega
      rw [hv] at fin hcut
      by_cases hk0 : 0 < ks.length
      · have hk0' : (0 : Int) < (ks.length : Int) := by omega
        obtain ⟨kb, ko, rfl, hkb, hkc⟩ := hKr.resolve_left (fun e => by rw [e] at hk0; simp at hk0)
        obtain ⟨j, hj⟩ : ∃ j, i % ks.length = j := ⟨_, rfl⟩
        have hjl : j < ks.length := by rw [← hj]; exact Nat.mod_lt _ hk0
        have hkj := hkc j hjl
        obtain ⟨k, hk⟩ : ∃ k, ks[j] = k := ⟨_, rfl⟩
        have hkk : Hid (k = ks.getD (i % ks.length) 0) := ⟨by rw [hj, ← hk, List.getD_eq_getElem?_getD, List.getElem?_eq_getElem hjl]; rfl⟩
        rw [hk] at hkj
        have hrem : Hid (Int.tmod (i : Int) (ks.length : Int) = (j : Int)) := ⟨by rw [← hj]; rw [Int.tmod_eq_emod_of_nonneg (by omega)]; omega⟩
        have hjI : (j : Int) < (ks.length : Int) := by omega
        have hj0 : (0 : Int) ≤ (j : Int) := by omega
        obtain ⟨K, hKd⟩ : ∃ K, f.sure + min k.toNat (f.dat.length - f.sure) = K := ⟨_, rfl⟩
        have hKI : Hid ((f.sure : Int) + min (max k 0) ((f.dat.length : Int) - (f.sure : Int)) = (K : Int)) := ⟨by rw [← hKd]; omega⟩
        have hcK := hcut K (by omega)
        have hKn : Hid (K = f.sure + min k.toNat (f.dat.length - f.sure)) := ⟨hKd.symm⟩
        clear hkc hj hk hKd hcut hL hFA
        go_upto_region 6 with fail
        have hrem' := hrem.out
        go_quiet (fail)
        go_wp2_with (go_at_call 75; fail)
        rw [hKI.out]
        refine (hcK nq).mono ?_
        rintro e X ⟨rfl, v', hFX, hgX, hvX⟩
        obtain ⟨p', c', rfl⟩ := own_lenB hFX.dat
        have hfinX := fin.out K k X _ hKn.out hkk.out hFX hgX hvX
        obtain ⟨x0, x1, x2, x3⟩ := hFX.cells
        replace hfinX := Hid.mk hfinX
        clear hcK hFX fin hgX
        go_wp2
        go_roundw
        case rel => exact ⟨i + 1, by omega, by first | rfl | go_num, hfinX.out⟩
        case measure => simp [intOf]; omega
      · have hk0' : ¬ (0 : Int) < (ks.length : Int) := by omega
        have hks : ks = [] := List.length_eq_zero_iff.mp (by omega)
        have hkk : Hid ((0 : Int) = ks.getD (i % ks.length) 0) := ⟨by rw [hks]; rfl⟩
        have hKn : Hid (f.sure = f.sure + min (0 : Int).toNat (f.dat.length - f.sure)) := ⟨by simp⟩
        have hcK := hcut f.sure (by omega) 0
        rw [show wr.drewN 0 = wr from rfl] at hcK
        clear hks hcut hL hFA
        go_wp2_with (go_at_call 75; fail)
        refine hcK.mono ?_
        rintro e X ⟨rfl, v', hFX, hgX, hvX⟩
        obtain ⟨p', c', rfl⟩ := own_lenB hFX.dat
        have hfinX := fin.out f.sure 0 X _ hKn.out hkk.out hFX hgX hvX
        obtain ⟨x0, x1, x2, x3⟩ := hFX.cells
        replace hfinX := Hid.mk hfinX
        clear hcK hFX fin hgX
        go_wp2
        go_roundw
        case rel => exact ⟨i + 1, by omega, by first | rfl | go_num, hfinX.out⟩
        case measure => simp [intOf]; omega
    · have hlt' : ¬ (i : Int) < (d.fs.length : Int) := by omega
      obtain rfl : i = d.fs.length := by omega
      rw [part_all] at hDr
      obtain ⟨mb, D, fb, vv, hL⟩ := hDr
      obtain ⟨c0, c1, c2, c3, c4, c5⟩ := hL.cells
      have hr := hL.row
      unfold dkRow at hr
      have f5 := frozen_of_row wr db 5 _ _ hr
      have hF : Hid (∃ S', DiskAt (wr.setCell ⟨db, 5, none⟩ (.bool false)) lo S' db (restart d ks) ∧ Dv S w S' (wr.setCell ⟨db, 5, none⟩ (.bool false))) := ⟨S', ⟨mb, D, fb, vv, hL.flag (d' := restart d ks) (grS_set _ _ _ _) rfl ⟨fun u h => (by cases h), Nat.zero_le _, Nat.zero_le _, fun h => (by cases h)⟩ (by
        rw [heap_setCell_same _ _ _ _ _ _ hr]
        rfl)⟩, Dv.trans hv2 (Dv.trans hvr ⟨(grS_set wr db 5 _).mono (fun k _ e => e ▸ hL.Sdb), fun _ h => .inl h⟩)⟩
      clear hL hr
      go_wp2
      go_end0
      exact ⟨rfl, hF.out⟩
end Go.Proofs.YthbojlbgjmecoaaGreat.DJ


/- Restart, where the list may be empty. -/
namespace Go.Proofs.YthbojlbgjmecoaaGreat.DJ
open Go.RowKit

theorem KpAt.grS2 {S : Nat → Prop} {W W' : World} {a : Option Addr} {ks : List Int} (h : KpAt W a ks) (hg : GrS S W W') (hn : ks = [] ∨ ∀ p, a = some p → ¬ S p.block) : KpAt W' a ks := hn.elim .inl (fun hn => h.grS hg hn)
theorem GrS.byts2 {S : Nat → Prop} {W W' : World} (h : GrS S W W') {a : Option Addr} {bs : List Nat} (ho : Byts W a bs) (hn : bs = [] ∨ ∀ p, a = some p → ¬ S p.block) : Byts W' a bs := hn.elim (fun e => ⟨ho.1, .inl e⟩) (fun hn => h.byts ho hn)

set_option maxRecDepth 4000 in
set_option maxHeartbeats 1000000 in
theorem restart_any2 {lo db : Nat} {S : Nat → Prop} {d : Dk} (ks : List Int) (hkl : ks.length ≤ 4611686018427387904) (a : Option Addr) (cap : Nat) (w : World) (hlo : lo ≤ w.heap.size) (hK : KpAt w a ks) (hap : ks = [] ∨ ∀ p, a = some p → ¬ S p.block) (h : DiskAt w lo S db d) :
    Calls Tryz.prog 31 #[.pointer (some ⟨db, 0, none⟩), .slice a ks.length cap] w fun e w' => e = .returned (.tuple #[]) ∧ ∃ S', DiskAt w' lo S' db (restart d ks) ∧ Dv S w S' w' := by
  have hC := crash_any w h
  have hSl := h.low
  have hSd : S db := by
    obtain ⟨mb, D, fb, vv, h⟩ := h
    exact h.Sdb
  have hok : Ok d := by
    obtain ⟨mb, D, fb, vv, h⟩ := h
    exact h.ok
  have h40 := hok.len
  go_enter Tryz.func31, Tryz.ntmps31
  go_wp2_with (first | (go_at_call 29; refine hC.mono ?_; rintro e w1 ⟨rfl, hD1, hg1⟩; clear hC) | (go_at_call 34; refine (names_any w1 hD1).mono ?_; rintro e w2 ⟨v, rfl, hrow, hb2⟩; obtain ⟨p, c, rfl⟩ := own_lenB hrow))
  have hrow' : w2.ownsRow w1.heap.size 9 1 (.slice p d.fs.length c) d.fs.length (nmV d.fs) := hrow
  have hD2 := hD1.later hb2
  have hv2 : Dv S w S w2 := ⟨(hg1.mono (fun k _ e => e ▸ hSd)).trans (.of_below hb2), fun _ h => .inl h⟩
  have hpS : ∀ q, p = some q → ¬ S q.block ∧ q.block < w2.heap.size := fun q hq => by
    subst hq
    obtain ⟨-, ⟨e, -⟩ | ⟨gg, cc, cur, e, hb, r, -⟩⟩ := hrow'
    · cases e
    · injection e with e1
      injection e1 with e1
      subst e1
      refine ⟨fun hS => ?_, (Array.getElem?_eq_some_iff.1 r).1⟩
      have h1 : gg < w.heap.size := (hSl _ hS).2
      have h2 := hg1.size
      have h3 : w1.heap.size ≤ gg := hb
      omega
  have hlo2 : lo ≤ w2.heap.size := Nat.le_trans hlo hv2.gr.size
  have hK2 : KpAt w2 a ks := hK.grS2 hv2.gr hap
  clear hrow hD1 hb2 hg1
  go_loopw [13] (fun v wr => ∃ i : Nat, i ≤ d.fs.length ∧ v = .int .i64 (i : Int) ∧ ∃ S', DiskAt wr lo S' db ⟨part ks d.fs i, true, none, 0, 0⟩ ∧ Dv S w2 S' wr) (fun v _ => d.fs.length - (intOf v).toNat)
  case atStart =>
    refine ⟨0, Nat.zero_le _, rfl, S, ?_, .refl _ _⟩
    rw [part_zero]
    exact hD2
  case round =>
    obtain ⟨i, hi, rfl, S', hDr, hvr⟩ := hrel
    clear hD2
    by_cases hlt : i < d.fs.length
    · have hlt' : (i : Int) < (d.fs.length : Int) := by omega
      have hi0 : (0 : Int) ≤ (i : Int) := by omega
      have hin := part_mem ks hlt
      have hstep := part_step ks hok.srt hlt
      obtain ⟨f, hf⟩ : ∃ f, d.fs[i] = f := ⟨_, rfl⟩
      rw [hf] at hin hstep
      obtain ⟨gp, hgp⟩ : ∃ gp, p = some ⟨gp, 0, none⟩ := by
        obtain ⟨-, ⟨e, h0⟩ | ⟨gg, cc, cur, e, -⟩⟩ := hrow'
        · omega
        · injection e with e1
          exact ⟨gg, e1⟩
      subst hgp
      have hnm := (hvr.gr.cell (b := gp) (o := i) (hpS _ rfl).2 (hpS _ rfl).1).trans (name_at hrow' hlt rfl)
      rw [hf] at hnm
      obtain ⟨mb, D, fb, vv, hL⟩ := hDr
      obtain ⟨c0, -⟩ := hL.cells
      have hlk := hL.look hin
      have hFA := hL.fil f hin
      obtain ⟨k0, k1, f0, f1⟩ := hFA.cells
      have hsur := hL.ok.sur f hin
      have hsiz := hL.ok.siz f hin
      have hbyt := hL.ok.byt f hin
      have hlor : lo ≤ wr.heap.size := Nat.le_trans hlo2 hvr.gr.size
      have hKr : KpAt wr a ks := hK2.grS2 hvr.gr hap
      obtain ⟨s, hs⟩ : ∃ s, strB f.nm = s := ⟨_, rfl⟩
      obtain ⟨b, hb⟩ : ∃ b, fb f.nm = b := ⟨_, rfl⟩
      rw [hs] at hnm hlk
      rw [hb] at hlk k0 k1 f0 f1 hFA
      obtain ⟨pv, cv, hv⟩ := own_lenB hFA.dat
      rw [hv] at k0
      have fin : ∀ (n : Nat) (k : Int) (X : World) (v' : Value), n = f.sure + min k.toNat (f.dat.length - f.sure) → k = ks.getD (i % ks.length) 0 → FileAt X lo b v' (cutTo n f) → GrS (fun z => z = b) wr X → (v'.ownBlock = (vv f.nm).ownBlock ∨ ∀ z, v'.ownBlock = some z → wr.heap.size ≤ z) → ∃ S', DiskAt (X.setCell ⟨b, 1, none⟩ (.int .i64 ((cutTo n f).dat.length : Int))) lo S' db ⟨part ks d.fs (i + 1), true, none, 0, 0⟩ ∧ Dv S w2 S' (X.setCell ⟨b, 1, none⟩ (.int .i64 ((cutTo n f).dat.length : Int))) := fun n k X v' hn hk hF hg hv' => by
        have hF' : FileAt (X.setCell ⟨b, 1, none⟩ (.int .i64 ((cutTo n f).dat.length : Int))) lo b v' (cutF k f) := by
          rw [← cut_is hsur hn]
          refine ⟨?_, ?_⟩
          · rw [heap_setCell_same _ _ _ _ _ _ hF.row]; rfl
          · refine (grS_set X b 1 _).own hF.dat (fun z hz e => ?_)
            obtain ⟨-, cs, r⟩ := own_row hF.dat hz
            rw [e, hF.row] at r
            simp at r
        have hlc : (cutF k f).dat.length ≤ f.dat.length := by simp [cutF]; omega
        subst hb
        obtain ⟨S2, hL2, hv2'⟩ := hL.turn (d' := ⟨part ks d.fs (i + 1), true, none, 0, 0⟩) hin ((hg.trans (grS_set X _ 1 _)).mono (fun z _ e => .inl e)) (f' := cutF k f) rfl hF' (fun z hz => hv'.elim (fun e => .inl (e ▸ hz)) (fun e => .inr (e z hz))) (by rw [hk]; exact hstep.symm) rfl rfl rfl rfl (Nat.le_trans hlc hsiz) (by simp only [cutF, List.length_take]; omega) (fun x hx => hbyt x (List.mem_of_mem_take hx))
        exact ⟨S2, ⟨mb, D, fb, _, hL2⟩, Dv.trans hvr hv2'⟩
      replace fin := Hid.mk fin
      have hcut : ∀ (n : Nat), n ≤ 9223372036854775807 → ∀ m, Calls Tryz.prog 75 #[.pointer (some ⟨b, 0, none⟩), .int .i64 (n : Int)] (wr.drewN m) fun e X => e = .returned (.tuple #[]) ∧ ∃ v', FileAt X lo b v' (cutTo n f) ∧ GrS (fun z => z = b) wr X ∧ (v'.ownBlock = (vv f.nm).ownBlock ∨ ∀ z, v'.ownBlock = some z → wr.heap.size ≤ z) := fun n hn m => by
        have hbm := below_drewN (Below.refl wr.heap.size wr) m
        refine (cut_any (n := n) hn hbyt hsiz hsur (wr.drewN m) (Nat.le_trans hlor hbm.size) (hFA.grS (S := fun _ => False) (.of_below hbm) (fun h => h) (fun _ _ h => h))).mono ?_
        rintro e X ⟨rfl, v', q1, q2, q3⟩
        exact ⟨rfl, v', q1, (GrS.of_below hbm).trans q2, q3.imp id (fun h z hz => Nat.le_trans hbm.size (h z hz))⟩
      have hsI : (f.sure : Int) ≤ (f.dat.length : Int) := by omega
      have hdI : (f.dat.length : Int) ≤ 2097152 := by omega
      have hs0 : (0 : Int) ≤ (f.sure : Int) := by omega
      rw [hv] at fin hcut
      by_cases hk0 : 0 < ks.length
      · have hk0' : (0 : Int) < (ks.length : Int) := by omega
        obtain ⟨kb, ko, rfl, hkb, hkc⟩ := hKr.resolve_left (fun e => by rw [e] at hk0; simp at hk0)
        obtain ⟨j, hj⟩ : ∃ j, i % ks.length = j := ⟨_, rfl⟩
        have hjl : j < ks.length := by rw [← hj]; exact Nat.mod_lt _ hk0
        have hkj := hkc j hjl
        obtain ⟨k, hk⟩ : ∃ k, ks[j] = k := ⟨_, rfl⟩
        have hkk : Hid (k = ks.getD (i % ks.length) 0) := ⟨by rw [hj, ← hk, List.getD_eq_getElem?_getD, List.getElem?_eq_getElem hjl]; rfl⟩
        rw [hk] at hkj
        have hrem : Hid (Int.tmod (i : Int) (ks.length : Int) = (j : Int)) := ⟨by rw [← hj]; rw [Int.tmod_eq_emod_of_nonneg (by omega)]; omega⟩
        have hjI : (j : Int) < (ks.length : Int) := by omega
        have hj0 : (0 : Int) ≤ (j : Int) := by omega
        obtain ⟨K, hKd⟩ : ∃ K, f.sure + min k.toNat (f.dat.length - f.sure) = K := ⟨_, rfl⟩
        have hKI : Hid ((f.sure : Int) + min (max k 0) ((f.dat.length : Int) - (f.sure : Int)) = (K : Int)) := ⟨by rw [← hKd]; omega⟩
        have hcK := hcut K (by omega)
        have hKn : Hid (K = f.sure + min k.toNat (f.dat.length - f.sure)) := ⟨hKd.symm⟩
        clear hkc hj hk hKd hcut hL hFA
        go_upto_region 6 with fail
        have hrem' := hrem.out
        go_quiet (fail)
        go_wp2_with (go_at_call 75; fail)
        rw [hKI.out]
        refine (hcK nq).mono ?_
        rintro e X ⟨rfl, v', hFX, hgX, hvX⟩
        obtain ⟨p', c', rfl⟩ := own_lenB hFX.dat
        have hfinX := fin.out K k X _ hKn.out hkk.out hFX hgX hvX
        obtain ⟨x0, x1, x2, x3⟩ := hFX.cells
        replace hfinX := Hid.mk hfinX
        clear hcK hFX fin hgX
        go_wp2
        go_roundw
        case rel => exact ⟨i + 1, by omega, by first | rfl | go_num, hfinX.out⟩
        case measure => simp [intOf]; omega
      · have hk0' : ¬ (0 : Int) < (ks.length : Int) := by omega
        have hks : ks = [] := List.length_eq_zero_iff.mp (by omega)
        have hkk : Hid ((0 : Int) = ks.getD (i % ks.length) 0) := ⟨by rw [hks]; rfl⟩
        have hKn : Hid (f.sure = f.sure + min (0 : Int).toNat (f.dat.length - f.sure)) := ⟨by simp⟩
        have hcK := hcut f.sure (by omega) 0
        rw [show wr.drewN 0 = wr from rfl] at hcK
        clear hks hcut hL hFA
        go_wp2_with (go_at_call 75; fail)
        refine hcK.mono ?_
        rintro e X ⟨rfl, v', hFX, hgX, hvX⟩
        obtain ⟨p', c', rfl⟩ := own_lenB hFX.dat
        have hfinX := fin.out f.sure 0 X _ hKn.out hkk.out hFX hgX hvX
        obtain ⟨x0, x1, x2, x3⟩ := hFX.cells
        replace hfinX := Hid.mk hfinX
        clear hcK hFX fin hgX
        go_wp2
        go_roundw
        case rel => exact ⟨i + 1, by omega, by first | rfl | go_num, hfinX.out⟩
        case measure => simp [intOf]; omega
    · have hlt' : ¬ (i : Int) < (d.fs.length : Int) := by omega
      obtain rfl : i = d.fs.length := by omega
      rw [part_all] at hDr
      obtain ⟨mb, D, fb, vv, hL⟩ := hDr
      obtain ⟨c0, c1, c2, c3, c4, c5⟩ := hL.cells
      have hr := hL.row
      unfold dkRow at hr
      have f5 := frozen_of_row wr db 5 _ _ hr
      have hF : Hid (∃ S', DiskAt (wr.setCell ⟨db, 5, none⟩ (.bool false)) lo S' db (restart d ks) ∧ Dv S w S' (wr.setCell ⟨db, 5, none⟩ (.bool false))) := ⟨S', ⟨mb, D, fb, vv, hL.flag (d' := restart d ks) (grS_set _ _ _ _) rfl ⟨fun u h => (by cases h), Nat.zero_le _, Nat.zero_le _, fun h => (by cases h)⟩ (by
        rw [heap_setCell_same _ _ _ _ _ _ hr]
        rfl)⟩, Dv.trans hv2 (Dv.trans hvr ⟨(grS_set wr db 5 _).mono (fun k _ e => e ▸ hL.Sdb), fun _ h => .inl h⟩)⟩
      clear hL hr
      go_wp2
      go_end0
      exact ⟨rfl, hF.out⟩
end Go.Proofs.YthbojlbgjmecoaaGreat.DJ

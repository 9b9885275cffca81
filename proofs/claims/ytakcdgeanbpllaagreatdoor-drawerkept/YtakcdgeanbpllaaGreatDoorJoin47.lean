import Derived.Test.YtakcdgeanbpllaaGreatDoorDqG
import Derived.Test.YtakcdgeanbpllaaGreatDoorJoin44
import Derived.Test.YtakcdgeanbpllaaGreatDoorDmQ
import Derived.RangeFuncNested
import Derived.RangeFuncBound
import Derived.RangeFuncCalls
import Derived.RangeFuncLeaves
import Derived.RangeFuncWrites
import Derived.Shelf.Abstract
import Derived.OwnWalkIn
import Derived.TacticsInMore
import Derived.LoopNIn
import Derived.LoopIn
import Derived.Stop.RegionWithIn
/- mend. -/
namespace Go.Proofs.YtakcdgeanbpllaaGreatDoor.DJ
open Go.RowKit

def mendA (d : Dk) (f : Fl) (sz : Nat) : Nat × Dk :=
  andThen (if sz < f.dat.length then trim d f.nm sz else (0, d)) fun d1 => if f.sure < sz then sync d1 f.nm else (0, d1)
theorem andThen_assoc (r : Nat × Dk) (k l : Dk → Nat × Dk) : andThen (andThen r k) l = andThen r fun d => andThen (k d) l := by
  unfold andThen
  by_cases h : r.1 ≠ 0
  · simp [h]
  · simp [h]
theorem mend_is (d : Dk) (f : Fl) (sz : Nat) : mend d f sz = andThen (mendA d f sz) fun d2 => removes (others d2.fs (genOf f.nm)) d2 := by
  unfold mend mendA
  rw [andThen_assoc]
theorem changes_ok {d : Dk} {nm : List Nat} {g : List Fl → List Fl} (h : (changes d nm g).1 = 0) : (changes d nm g).2.fs = g d.fs := by
  unfold changes at h ⊢
  split at h
  · rename_i h1; exact absurd h h1
  · rename_i h1
    rw [if_neg h1]
    split at h
    · cases h
    · rename_i h2
      rw [if_neg h2]
      split at h
      · rfl
      · cases h

set_option maxRecDepth 4000 in
set_option maxHeartbeats 1000000 in
theorem mend_any {lo db wb sum g n : Nat} {stuck : Bool} {S : Nat → Prop} {d : Dk} (hg : g ≤ 99999999) {f : Fl} (hf : f ∈ d.fs) (hfn : f.nm = Nm g) (sz : Nat) (hsz : sz ≤ f.dat.length) (w : World) (hlo : lo ≤ w.heap.size) (ht : TabL lo w) (hw : DwAt w wb db sum g n stuck) (hwS : ¬ S wb) (h : DiskAt w lo S db d) :
    Calls Tryz.prog 109 #[.pointer (some ⟨wb, 0, none⟩), .int .i64 (sz : Int)] w fun e w' => e = .returned (.int .i64 ((mendA d f sz).1 : Nat)) ∧ ∃ S', DiskAt w' lo S' db (mendA d f sz).2 ∧ Dv S w S' w' := by
  have hLN := logName_any g hg lo w ht
  obtain ⟨s, hs⟩ : ∃ s, strB (Nm g) = s := ⟨_, rfl⟩
  rw [hs] at hLN
  obtain ⟨c0, c1, c2, c3, c4⟩ := hw.cells
  obtain ⟨mb, D, fb, vv, hL⟩ := h
  obtain ⟨b, hb⟩ : ∃ b, fb f.nm = b := ⟨_, rfl⟩
  have hsiz := hL.ok.siz f hf
  have hsur := hL.ok.sur f hf
  have hdI : (f.dat.length : Int) ≤ 2097152 := by omega
  have hpre : ∀ X, Below w.heap.size w X → X.cell? ⟨wb, 0, none⟩ = some (.pointer (some ⟨db, 0, none⟩)) ∧ X.cell? ⟨db, 0, none⟩ = some (.map (some mb)) ∧ (Instr.lookup 72 (.map (some mb)) (.string s) false).run Tryz.prog X = .ok (.pointer (some ⟨b, 0, none⟩)) X ∧ ∃ pv cv, X.cell? ⟨b, 0, none⟩ = some (.slice pv f.dat.length cv) ∧ X.cell? ⟨b, 1, none⟩ = some (.int .i64 (f.sure : Int)) := fun X hX => by
    have hLX := hL.grS (T := fun _ => False) (.of_below hX) (fun _ _ h => h)
    have hlk := hLX.look hf
    obtain ⟨k0, k1, -, -⟩ := (hLX.fil f hf).cells
    obtain ⟨pv, cv, hv⟩ := own_lenB (hLX.fil f hf).dat
    rw [hfn, hs] at hlk
    rw [← hfn, hb] at hlk
    rw [hb] at k0 k1
    rw [hv] at k0
    exact ⟨(hX.cell (p := ⟨wb, 0, none⟩) hw.lt).trans c0, hLX.cells.1, hlk, pv, cv, k0, k1⟩
  have hG0 : G.DiskG (fun fb' => fb' f.nm = b) w lo S db d := ⟨mb, D, fb, vv, hL, hb⟩
  have hD0 : DiskAt w lo S db d := ⟨mb, D, fb, vv, hL⟩
  obtain ⟨R, hR⟩ : ∃ R, mendA d f sz = R := ⟨_, rfl⟩
  rw [hR]
  have hRe : (andThen (if sz < f.dat.length then trim d f.nm sz else (0, d)) fun d1 => if f.sure < sz then sync d1 f.nm else (0, d1)) = R := hR
  clear hR
  by_cases hlt : sz < f.dat.length
  · rw [if_pos hlt] at hRe
    obtain ⟨r, hr⟩ : ∃ r, trim d f.nm sz = r := ⟨_, rfl⟩
    rw [hr, andThen] at hRe
    have hlt' : (sz : Int) < (f.dat.length : Int) := by omega
    have hT := fun X (hX : Below w.heap.size w X) => G.trim_any (nm := Nm g) (n := (sz : Int)) (by omega) (by omega) (Nm_len g) (Nm_lt g) X (Nat.le_trans hlo hX.size) (hG0.later hX)
    rw [hfn] at hr
    simp only [hr, hs] at hT
    have hfs : r.1 = 0 → r.2.fs = upd d.fs f.nm (trimF sz) := fun h0 => by
      have := changes_ok (d := d) (nm := Nm g) (g := fun fs => upd fs (Nm g) (trimF (sz : Int).toNat)) (by unfold trim at hr; rw [hr]; exact h0)
      unfold trim at hr
      rw [hr] at this
      rw [this, hfn]
      rfl
    have hmem : r.1 = 0 → trimF sz f ∈ r.2.fs := fun h0 => by
      rw [hfs h0]
      unfold upd
      exact List.mem_map.2 ⟨f, hf, by rw [if_pos rfl]⟩
    replace hRe := Hid.mk hRe
    replace hT := Hid.mk hT
    clear hr hfs
    by_cases hz : r.1 = 0
    case neg =>
      have hz' : ((r.1 : Int) != 0) = true := by rw [bne_iff_ne]; omega
      clear hmem
      go_enter Tryz.func109, Tryz.ntmps109
      go_wp2_with (first | (go_at_call 54; refine hLN.mono ?_; rintro e w1 ⟨rfl, hb1⟩; obtain ⟨y0, y1, y2, pv, cv, y3, y4⟩ := hpre _ hb1) | (go_at_call 98; refine (hT.out _ hb1).mono ?_; rintro e w2 ⟨rfl, S2, h2, hv2⟩))
      go_ret
      have e : r = R := by have := hRe.out; rw [if_pos hz] at this; exact this
      rw [← e]
      exact ⟨rfl, S2, h2.at, Dv.trans (.below hb1) hv2⟩
    have hz' : ((r.1 : Int) != 0) = false := by rw [hz]; rfl
    have hm := hmem hz
    clear hmem
    have hpre2 : ∀ S2 X, G.DiskG (fun fb' => fb' f.nm = b) X lo S2 db r.2 → ∃ pv cv, X.cell? ⟨b, 0, none⟩ = some (.slice pv sz cv) ∧ X.cell? ⟨b, 1, none⟩ = some (.int .i64 ((min f.sure sz : Nat) : Int)) := fun S2 X h2 => by
      obtain ⟨mb2, D2, fb2, vv2, hL2, hb2⟩ := h2
      obtain ⟨k0, k1, -, -⟩ := (hL2.fil _ hm).cells
      obtain ⟨pv, cv, hv⟩ := own_lenB (hL2.fil _ hm).dat
      have e1 : (trimF sz f).nm = f.nm := rfl
      have e2 : (trimF sz f).dat.length = sz := by simp [trimF]; omega
      have e3 : (trimF sz f).sure = min f.sure sz := by simp only [trimF, List.length_take]; rw [Nat.min_eq_left hsz]
      rw [e1] at k0 k1 hv
      rw [e2] at hv
      rw [show fb2 f.nm = b from hb2] at k0 k1
      rw [hv] at k0
      rw [e3] at k1
      exact ⟨pv, cv, k0, k1⟩
    replace hpre2 := Hid.mk hpre2
    obtain ⟨m, hmn⟩ : ∃ m, min f.sure sz = m := ⟨_, rfl⟩
    simp only [hmn] at hpre2
    by_cases hss : f.sure < sz
    · have hss' : (m : Int) < (sz : Int) := by omega
      have hY := fun (S2 : Nat → Prop) (X : World) (h2 : DiskAt X lo S2 db r.2) => sync_any (Nm_len g) (Nm_lt g) X h2
      simp only [hs] at hY
      clear hmn
      go_enter Tryz.func109, Tryz.ntmps109
      go_wp2_with (first | (go_at_call 54; refine hLN.mono ?_; rintro e w1 ⟨rfl, hb1⟩; obtain ⟨y0, y1, y2, pv, cv, y3, y4⟩ := hpre _ hb1) | (go_at_call 98; refine (hT.out _ hb1).mono ?_; rintro e w2 ⟨rfl, S2, h2, hv2⟩; obtain ⟨pw, cw, z3, z4⟩ := hpre2.out _ _ h2; have z0 := (hv2.gr.cell (b := wb) (o := 0) (Nat.lt_of_lt_of_le hw.lt hb1.size) hwS).trans y0))
      go_quiet (fail)
      have B2 : Below w2.heap.size w2 (w2.drewN nq) := below_drewN (Below.refl _ _) nq
      have h2D := h2.at.later B2
      go_wp2_with (go_at_call 56; refine (hY _ _ h2D).mono ?_; rintro e w3 ⟨rfl, S3, h3, hv3⟩)
      go_ret
      have e : sync r.2 (Nm g) = R := by have := hRe.out; rw [if_neg (fun h9 => h9 hz), if_pos hss, hfn] at this; exact this
      rw [← e]
      exact ⟨rfl, S3, h3, Dv.trans (.below hb1) (Dv.trans hv2 (Dv.trans (.below B2) hv3))⟩
    · have hss' : ¬ (m : Int) < (sz : Int) := by omega
      clear hmn
      go_enter Tryz.func109, Tryz.ntmps109
      go_wp2_with (first | (go_at_call 54; refine hLN.mono ?_; rintro e w1 ⟨rfl, hb1⟩; obtain ⟨y0, y1, y2, pv, cv, y3, y4⟩ := hpre _ hb1) | (go_at_call 98; refine (hT.out _ hb1).mono ?_; rintro e w2 ⟨rfl, S2, h2, hv2⟩; obtain ⟨pw, cw, z3, z4⟩ := hpre2.out _ _ h2))
      go_quiet (fail)
      have B2 : Below w2.heap.size w2 (w2.drewN nq) := below_drewN (Below.refl _ _) nq
      have h2D := h2.at.later B2
      go_wp2
      go_ret
      have e : ((0 : Nat), r.2) = R := by have := hRe.out; rw [if_neg (fun h9 => h9 hz), if_neg hss] at this; exact this
      rw [← e]
      exact ⟨rfl, S2, h2D, Dv.trans (.below hb1) (Dv.trans hv2 (.below B2))⟩
  · rw [if_neg hlt, andThen, if_neg (fun h9 => h9 rfl)] at hRe
    have hlt' : ¬ (sz : Int) < (f.dat.length : Int) := by omega
    obtain rfl : sz = f.dat.length := by omega
    replace hRe := Hid.mk hRe
    by_cases hss : f.sure < f.dat.length
    · have hss' : (f.sure : Int) < (f.dat.length : Int) := by omega
      have hY := fun (X : World) (hX : Below w.heap.size w X) => sync_any (Nm_len g) (Nm_lt g) X (hD0.later hX)
      simp only [hs] at hY
      go_enter Tryz.func109, Tryz.ntmps109
      go_wp2_with (go_at_call 54; refine hLN.mono ?_; rintro e w1 ⟨rfl, hb1⟩; obtain ⟨y0, y1, y2, pv, cv, y3, y4⟩ := hpre _ hb1)
      go_quiet (fail)
      have B2 : Below w1.heap.size w1 (w1.drewN nq) := below_drewN (Below.refl _ _) nq
      have hB2 := below_step hb1 B2
      go_wp2_with (go_at_call 56; refine (hY _ hB2).mono ?_; rintro e w3 ⟨rfl, S3, h3, hv3⟩)
      go_ret
      have e : sync d (Nm g) = R := by have := hRe.out; rw [if_pos hss, hfn] at this; exact this
      rw [← e]
      exact ⟨rfl, S3, h3, Dv.trans (.below hB2) hv3⟩
    · have hss' : ¬ (f.sure : Int) < (f.dat.length : Int) := by omega
      go_enter Tryz.func109, Tryz.ntmps109
      go_wp2_with (go_at_call 54; refine hLN.mono ?_; rintro e w1 ⟨rfl, hb1⟩; obtain ⟨y0, y1, y2, pv, cv, y3, y4⟩ := hpre _ hb1)
      go_quiet (fail)
      have B2 : Below w1.heap.size w1 (w1.drewN nq) := below_drewN (Below.refl _ _) nq
      have hB2 := below_step hb1 B2
      go_wp2
      go_ret
      have e : ((0 : Nat), d) = R := by have := hRe.out; rw [if_neg hss] at this; exact this
      rw [← e]
      exact ⟨rfl, S, hD0.later hB2, .below hB2⟩
end Go.Proofs.YtakcdgeanbpllaaGreatDoor.DJ


/- sweep. -/
namespace Go.Proofs.YtakcdgeanbpllaaGreatDoor.DJ
open Go.RowKit

theorem others_skip {f : Fl} {l : List Fl} {g : Nat} (h : genOf f.nm = 0 ∨ genOf f.nm = g) : others (f :: l) g = others l g := by
  unfold others
  rw [List.filter_cons_of_neg]
  simp only [ne_eq, decide_eq_true_eq, not_and, Classical.not_not]
  intro h0
  exact h.resolve_left h0
theorem others_take {f : Fl} {l : List Fl} {g : Nat} (h0 : genOf f.nm ≠ 0) (h1 : genOf f.nm ≠ g) : others (f :: l) g = f.nm :: others l g := by
  unfold others
  rw [List.filter_cons_of_pos (by simp [h0, h1])]
  rfl

set_option maxRecDepth 4000 in
set_option maxHeartbeats 1000000 in
/-- Where all files have a journal's name. -/
theorem sweep_any {lo db wb sum g n : Nat} {stuck : Bool} {S : Nat → Prop} {d : Dk} (hall : ∀ f ∈ d.fs, ∃ k, k ≤ 99999999 ∧ f.nm = Nm k) (w : World) (hlo : lo ≤ w.heap.size) (hw : DwAt w wb db sum g n stuck) (hwS : ¬ S wb) (h : DiskAt w lo S db d) :
    Calls Tryz.prog 110 #[.pointer (some ⟨wb, 0, none⟩)] w fun e w' => e = .returned (.int .i64 ((removes (others d.fs g) d).1 : Nat)) ∧ ∃ S', DiskAt w' lo S' db (removes (others d.fs g) d).2 ∧ Dv S w S' w' := by
  have hSl := h.low
  have h40 : d.fs.length ≤ 40 := by
    obtain ⟨mb, D, fb, vv, h⟩ := h
    exact h.ok.len
  obtain ⟨c0, c1, c2, c3, c4⟩ := hw.cells
  obtain ⟨fs, hfs⟩ : ∃ fs, d.fs = fs := ⟨_, rfl⟩
  have hN := names_any w h
  rw [hfs] at hN hall h40 ⊢
  obtain ⟨R, hR⟩ : ∃ R, removes (others fs g) d = R := ⟨_, rfl⟩
  rw [hR]
  replace hR := Hid.mk hR
  go_enter Tryz.func110, Tryz.ntmps110
  go_wp2_with (go_at_call 34; refine hN.mono ?_; rintro e w2 ⟨v, rfl, hrow, hb2⟩; obtain ⟨p, c, rfl⟩ := own_lenB hrow)
  have hD2 := h.later hb2
  have hw2 := hw.later hb2
  have hpS : ∀ q, p = some q → ¬ S q.block ∧ q.block < w2.heap.size := fun q hq => by
    subst hq
    obtain ⟨-, ⟨e, -⟩ | ⟨gg, cc, cur, e, hb, r, -⟩⟩ := hrow
    · cases e
    · injection e with e1
      injection e1 with e1
      subst e1
      refine ⟨fun hS => ?_, (Array.getElem?_eq_some_iff.1 r).1⟩
      have h1 : gg < w.heap.size := (hSl _ hS).2
      have h3 : w.heap.size ≤ gg := hb
      omega
  have hlo2 : lo ≤ w2.heap.size := Nat.le_trans hlo hb2.size
  have hb2' : Hid (Below w.heap.size w w2) := ⟨hb2⟩
  clear hN c0 c1 c2 c3 c4 hb2
  go_loopw [13] (fun v wr => ∃ i : Nat, i ≤ fs.length ∧ v = .int .i64 (i : Int) ∧ ∃ S' d', DiskAt wr lo S' db d' ∧ Dv S w2 S' wr ∧ Hid (removes (others (fs.drop i) g) d' = R)) (fun v _ => fs.length - (intOf v).toNat)
  case atStart => exact ⟨0, Nat.zero_le _, rfl, S, d, hD2, .refl _ _, ⟨hR.out⟩⟩
  case round =>
    obtain ⟨i, hi, rfl, S', d', hDr, hvr, hrem⟩ := hrel
    clear hD2 hR
    by_cases hlt : i < fs.length
    · have hlt' : (i : Int) < (fs.length : Int) := by omega
      have hi0 : (0 : Int) ≤ (i : Int) := by omega
      obtain ⟨gp, hgp⟩ : ∃ gp, p = some ⟨gp, 0, none⟩ := by
        obtain ⟨-, ⟨e, h0⟩ | ⟨gg, cc, cur, e, -⟩⟩ := hrow
        · omega
        · injection e with e1
          exact ⟨gg, e1⟩
      subst hgp
      have hnm := (hvr.gr.cell (b := gp) (o := i) (hpS _ rfl).2 (hpS _ rfl).1).trans (name_at hrow hlt rfl)
      obtain ⟨k, hk9, hkn⟩ := hall fs[i] (List.getElem_mem hlt)
      have hgen : genOf fs[i].nm = k := by rw [hkn, gen_Nm k hk9]
      have hdrop : fs.drop i = fs[i] :: fs.drop (i + 1) := List.drop_eq_getElem_cons hlt
      rw [hkn] at hnm
      have hG := genOf_Nm k hk9 wr
      have hwr := hw2.grS hvr.gr hwS
      obtain ⟨c0, c1, c2, c3, c4⟩ := hwr.cells
      have hRm := fun X (hX : Below wr.heap.size wr X) => remove_any (Nm_len k) (Nm_lt k) X (hDr.later hX)
      have hcc : ∀ X, Below wr.heap.size wr X → X.cell? ⟨wb, 0, none⟩ = some (.pointer (some ⟨db, 0, none⟩)) ∧ X.cell? ⟨wb, 2, none⟩ = some (.int .i64 (g : Int)) := fun X hX => ⟨(hX.cell (p := ⟨wb, 0, none⟩) hwr.lt).trans c0, (hX.cell (p := ⟨wb, 2, none⟩) hwr.lt).trans c2⟩
      obtain ⟨s, hs⟩ : ∃ s, strB (Nm k) = s := ⟨_, rfl⟩
      rw [hs] at hnm hG
      simp only [hs] at hRm
      by_cases hsk : k = 0 ∨ k = g
      · have hnext : Hid (removes (others (fs.drop (i + 1)) g) d' = R) := ⟨by
          have := hrem.out
          rw [hdrop, others_skip (by rw [hgen]; exact hsk)] at this
          exact this⟩
        clear hRm hs hrem hdrop
        by_cases hz : k = 0
        · have hz' : ((k : Int) == 0) = true := by rw [hz]; rfl
          clear hsk hz
          go_wp2_with (go_at_call 107; refine hG.mono ?_; rintro e w3 ⟨rfl, hb3⟩; have hcc3 := hcc _ hb3)
          go_roundw
          case rel => exact ⟨i + 1, by omega, by first | rfl | go_num, S', d', hDr.later hb3, Dv.trans hvr (.below hb3), hnext⟩
          case measure => simp [intOf]; omega
        · have hz' : ((k : Int) == 0) = false := by rw [beq_eq_false_iff_ne]; omega
          have hkg : ((k : Int) == (g : Int)) = true := by rw [hsk.resolve_left hz]; simp
          clear hsk hz
          go_wp2_with (go_at_call 107; refine hG.mono ?_; rintro e w3 ⟨rfl, hb3⟩; obtain ⟨y0, y2⟩ := hcc _ hb3)
          go_roundw
          case rel => exact ⟨i + 1, by omega, by first | rfl | go_num, S', d', hDr.later hb3, Dv.trans hvr (.below hb3), hnext⟩
          case measure => simp [intOf]; omega
      · have hz' : ((k : Int) == 0) = false := by rw [beq_eq_false_iff_ne]; omega
        have hkg : ((k : Int) == (g : Int)) = false := by rw [beq_eq_false_iff_ne]; omega
        obtain ⟨r, hr⟩ : ∃ r, remove d' (Nm k) = r := ⟨_, rfl⟩
        simp only [hr] at hRm
        have hnext : Hid ((if r.1 ≠ 0 then r else removes (others (fs.drop (i + 1)) g) r.2) = R) := ⟨by
          have := hrem.out
          rw [hdrop, others_take (by rw [hgen]; omega) (by rw [hgen]; omega)] at this
          rw [removes, hkn, andThen, hr] at this
          exact this⟩
        clear hs hrem hdrop hr hsk
        by_cases hz : r.1 = 0
        · have hz2 : ((r.1 : Int) != 0) = false := by rw [hz]; rfl
          go_wp2_with (first | (go_at_call 107; refine hG.mono ?_; rintro e w3 ⟨rfl, hb3⟩; obtain ⟨y0, y2⟩ := hcc _ hb3) | (go_at_call 62; refine (hRm _ hb3).mono ?_; rintro e w4 ⟨rfl, S4, h4, hv4⟩))
          go_roundw
          case rel => exact ⟨i + 1, by omega, by first | rfl | go_num, S4, r.2, h4, Dv.trans hvr (Dv.trans (.below hb3) hv4), ⟨by have := hnext.out; rw [if_neg (fun h9 => h9 hz)] at this; exact this⟩⟩
          case measure => simp [intOf]; omega
        · have hz2 : ((r.1 : Int) != 0) = true := by rw [bne_iff_ne]; omega
          go_wp2_with (first | (go_at_call 107; refine hG.mono ?_; rintro e w3 ⟨rfl, hb3⟩; obtain ⟨y0, y2⟩ := hcc _ hb3) | (go_at_call 62; refine (hRm _ hb3).mono ?_; rintro e w4 ⟨rfl, S4, h4, hv4⟩))
          go_ret
          have e : r = R := by have := hnext.out; rw [if_pos hz] at this; exact this
          rw [← e]
          exact ⟨rfl, S4, h4, Dv.trans (.below hb2'.out) (Dv.trans hvr (Dv.trans (.below hb3) hv4))⟩
    · have hlt' : ¬ (i : Int) < (fs.length : Int) := by omega
      have hiE : i = fs.length := by omega
      have hE : Hid (((0 : Nat), d') = R) := ⟨by
        have := hrem.out
        rw [hiE, List.drop_length] at this
        exact this⟩
      go_wp2
      go_ret
      rw [← hE.out]
      exact ⟨rfl, S', hDr, Dv.trans (.below hb2'.out) hvr⟩
end Go.Proofs.YtakcdgeanbpllaaGreatDoor.DJ


/- settle. -/
namespace Go.Proofs.YtakcdgeanbpllaaGreatDoor.DJ
open Go.RowKit

theorem changes_names (d : Dk) (nm : List Nat) (g : Fl → Fl) (hg : ∀ f, (g f).nm = f.nm) : (changes d nm fun fs => upd fs nm g).2.fs.map (·.nm) = d.fs.map (·.nm) := by
  unfold changes
  have h1 := first_fs d nm
  split
  · rw [h1]
  split
  · rw [h1]
  · split
    · exact upd_names hg
    · rename_i c heq
      have : c.fs = d.fs := by
        unfold pays at heq
        split at heq
        · cases heq
        · split at heq
          · cases heq
          · injection heq with _ e
            rw [← e]
            exact h1
      rw [this]
theorem mendA_names (d : Dk) (f : Fl) (sz : Nat) : (mendA d f sz).2.fs.map (·.nm) = d.fs.map (·.nm) := by
  have h1 : (if sz < f.dat.length then trim d f.nm sz else (0, d)).2.fs.map (·.nm) = d.fs.map (·.nm) := by
    split
    · exact changes_names d f.nm _ (fun _ => rfl)
    · rfl
  unfold mendA
  obtain ⟨X, hX⟩ : ∃ X, (if sz < f.dat.length then trim d f.nm sz else (0, d)) = X := ⟨_, rfl⟩
  rw [hX] at h1 ⊢
  unfold andThen
  split
  · exact h1
  · rw [← h1]
    simp only
    split
    · exact changes_names _ f.nm _ (fun _ => rfl)
    · rfl
theorem all_names {fs gs : List Fl} (e : gs.map (·.nm) = fs.map (·.nm)) (h : ∀ f ∈ fs, ∃ k, k ≤ 99999999 ∧ f.nm = Nm k) : ∀ f ∈ gs, ∃ k, k ≤ 99999999 ∧ f.nm = Nm k := fun f hf => by
  have : f.nm ∈ fs.map (·.nm) := e ▸ List.mem_map_of_mem hf
  obtain ⟨x, hx, hxe⟩ := List.mem_map.1 this
  obtain ⟨k, h1, h2⟩ := h x hx
  exact ⟨k, h1, by rw [← hxe]; exact h2⟩

set_option maxRecDepth 4000 in
set_option maxHeartbeats 1000000 in
theorem settle_some {lo db wb sum g n : Nat} {stuck : Bool} {S : Nat → Prop} {d : Dk} (hg1 : 1 ≤ g) (hg : g ≤ 99999999) {f : Fl} (hf : f ∈ d.fs) (hfn : f.nm = Nm g) (sz : Nat) (hsz : sz ≤ f.dat.length) (hall : ∀ f ∈ d.fs, ∃ k, k ≤ 99999999 ∧ f.nm = Nm k) (w : World) (hlo : lo ≤ w.heap.size) (ht : TabL lo w) (hw : DwAt w wb db sum g n stuck) (hwS : ¬ S wb) (h : DiskAt w lo S db d) :
    Calls Tryz.prog 50 #[.pointer (some ⟨wb, 0, none⟩), .int .i64 (sz : Int)] w fun e w' => e = .returned (.int .i64 ((mend d f sz).1 : Nat)) ∧ ∃ S', DiskAt w' lo S' db (mend d f sz).2 ∧ Dv S w S' w' := by
  have hM := mend_any hg hf hfn sz hsz w hlo ht hw hwS h
  have hgen : genOf f.nm = g := by rw [hfn, gen_Nm g hg]
  have hnames := mendA_names d f sz
  rw [mend_is, hgen]
  obtain ⟨r, hr⟩ : ∃ r, mendA d f sz = r := ⟨_, rfl⟩
  rw [hr] at hM hnames ⊢
  have hg0 : (0 : Int) < (g : Int) := by omega
  obtain ⟨c0, c1, c2, c3, c4⟩ := hw.cells
  by_cases h0 : r.1 = 0
  · have h0' : ((r.1 : Int) != 0) = false := by rw [h0]; rfl
    have hat : andThen r (fun d2 => removes (others d2.fs g) d2) = removes (others r.2.fs g) r.2 := by unfold andThen; rw [if_neg (fun x => x h0)]
    rw [hat]
    have hS := fun X S' (hX : lo ≤ X.heap.size) (hwX : DwAt X wb db sum g n stuck) (hwS' : ¬ S' wb) (hD : DiskAt X lo S' db r.2) => sweep_any (all_names hnames hall) X hX hwX hwS' hD
    obtain ⟨R, hR⟩ : ∃ R, removes (others r.2.fs g) r.2 = R := ⟨_, rfl⟩
    simp only [hR] at hS ⊢
    have hwl := hw.lt
    replace hS := Hid.mk hS
    clear hat hR hnames hall hr
    by_cases h1 : R.1 = 0
    · have h1' : ((R.1 : Int) != 0) = false := by rw [h1]; rfl
      have h1H := Hid.mk h1
      go_enter Tryz.func50, Tryz.ntmps50
      go_wp2_with (first | (go_at_call 109; refine hM.mono ?_; rintro e w1 ⟨rfl, S1, hD1, hv1⟩; have hw1 := hw.grS hv1.gr hwS; have hwS1 : ¬ S1 wb := (fun e => by rcases hv1.sub _ e with h' | h' <;> first | exact hwS h' | omega); have hlo1 := Nat.le_trans hlo hv1.gr.size) | (go_at_call 110; refine (hS.out _ _ hlo1 hw1 hwS1 hD1).mono ?_; rintro e w2 ⟨rfl, S2, hD2, hv2⟩; have k2 := (hw1.grS hv2.gr hwS1).cells.2.2.1))
      go_ret
      exact ⟨by rw [h1H.out]; rfl, S2, hD2, Dv.trans hv1 hv2⟩
    · have h1' : ((R.1 : Int) != 0) = true := by rw [bne_iff_ne]; omega
      go_enter Tryz.func50, Tryz.ntmps50
      go_wp2_with (first | (go_at_call 109; refine hM.mono ?_; rintro e w1 ⟨rfl, S1, hD1, hv1⟩; have hw1 := hw.grS hv1.gr hwS; have hwS1 : ¬ S1 wb := (fun e => by rcases hv1.sub _ e with h' | h' <;> first | exact hwS h' | omega); have hlo1 := Nat.le_trans hlo hv1.gr.size) | (go_at_call 110; refine (hS.out _ _ hlo1 hw1 hwS1 hD1).mono ?_; rintro e w2 ⟨rfl, S2, hD2, hv2⟩; have k2 := (hw1.grS hv2.gr hwS1).cells.2.2.1))
      go_ret
      exact ⟨rfl, S2, hD2, Dv.trans hv1 hv2⟩
  · have h0' : ((r.1 : Int) != 0) = true := by rw [bne_iff_ne]; omega
    have hat : andThen r (fun d2 => removes (others d2.fs g) d2) = r := by unfold andThen; rw [if_pos h0]
    rw [hat]
    clear hat hnames hall hr
    go_enter Tryz.func50, Tryz.ntmps50
    go_wp2_with (go_at_call 109; refine hM.mono ?_; rintro e w1 ⟨rfl, S1, hD1, hv1⟩)
    go_ret
    exact ⟨rfl, S1, hD1, hv1⟩

def newR (d : Dk) (sum : Nat) : Nat × Dk := andThen (removes (others d.fs 0) d) fun d1 => lays d1 (Nm 1) (piece 0 sum 0 [])
set_option maxRecDepth 4000 in
set_option maxHeartbeats 1000000 in
theorem settle_none {lo db wb sum n : Nat} {stuck : Bool} {S : Nat → Prop} {d : Dk} (hsum : sum < 4294967296) (sz : Int) (hall : ∀ f ∈ d.fs, ∃ k, k ≤ 99999999 ∧ f.nm = Nm k) (w : World) (hlo : lo ≤ w.heap.size) (ht : TabL lo w) (hw : DwAt w wb db sum 0 n stuck) (hwS : ¬ S wb) (hwlo : lo ≤ wb) (h : DiskAt w lo S db d) :
    Calls Tryz.prog 50 #[.pointer (some ⟨wb, 0, none⟩), .int .i64 sz] w fun e w' => e = .returned (.int .i64 ((newR d sum).1 : Nat)) ∧ ∃ S', DiskAt w' lo S' db (newR d sum).2 ∧ Dw S wb w S' w' ∧ ((newR d sum).1 = 0 → DwAt w' wb db sum 1 n stuck) := by
  have hS := sweep_any hall w hlo hw hwS h
  have hSl := h.low
  obtain ⟨r, hr⟩ : ∃ r, removes (others d.fs 0) d = r := ⟨_, rfl⟩
  unfold newR
  rw [hr] at hS ⊢
  obtain ⟨c0, c1, c2, c3, c4⟩ := hw.cells
  have c2 : w.cell? ⟨wb, 2, none⟩ = some (.int .i64 0) := c2
  have hwl := hw.lt
  clear hr hall
  by_cases h0 : r.1 = 0
  · have h0' : ((r.1 : Int) != 0) = false := by rw [h0]; rfl
    have hat : andThen r (fun d1 => lays d1 (Nm 1) (piece 0 sum 0 [])) = lays r.2 (Nm 1) (piece 0 sum 0 []) := by unfold andThen; rw [if_neg (fun x => x h0)]
    rw [hat]
    obtain ⟨R, hR⟩ : ∃ R, lays r.2 (Nm 1) (piece 0 sum 0 []) = R := ⟨_, rfl⟩
    rw [hR]
    have hpl : (piece 0 sum 0 []).length = 18 := by rw [piece_len]; rfl
    have hB := fun X => pbytes_any 0 sum 0 (by decide) hsum (by decide) none 0 (fun _ => rfl) [] (by decide) X ⟨fun x hx => by simp at hx, .inl rfl⟩
    have hLy := fun (X : World) (S' : Nat → Prop) ad cap hX htX hby hap hcap hcl hwX hwS' (hD : DiskAt X lo S' db r.2) => dlay_any (wb := wb) (sum := sum) (g0 := 1) (n := n) (stuck := stuck) 1 (by decide) (data := piece 0 sum 0 []) (by rw [hpl]; decide) ad cap hcap (by rw [hpl]; exact hcl) X hX htX hby hap hwX hwS' hD
    simp only [hpl, hR] at hLy
    have hpb : ∀ x ∈ piece 0 sum 0 [], x < 256 := piece_bytes (by decide) (fun x hx => by simp at hx)
    replace hLy := Hid.mk hLy
    replace hB := Hid.mk hB
    replace hpb := Hid.mk hpb
    clear hat hR hpl
    go_enter Tryz.func50, Tryz.ntmps50
    go_wp2_with (first | (go_at_call 110; refine hS.mono ?_; rintro e w1 ⟨rfl, S1, hD1, hv1⟩; have hw1 := hw.grS hv1.gr hwS; have k1 := hw1.cells.2.1; have k2 : w1.cell? ⟨wb, 2, none⟩ = some (.int .i64 0) := hw1.cells.2.2.1; have f2 := frozen_of_row w1 wb 2 _ _ hw1) | (go_at_call 33; refine (hB.out _).mono ?_; rintro e w2 ⟨v2, rfl, ho2, hb2⟩; refine stopJ ?_))
    unfold StopJ
    have hwS1 : ¬ S1 wb := fun e => by
      rcases hv1.sub _ e with h' | h'
      · exact hwS h'
      · omega
    have hD1' := hD1.grS (grS_set w1 wb 2 (.int .i64 1)) (fun k hk e => hwS1 (e ▸ hk))
    have hw1' : DwAt (w1.setCell ⟨wb, 2, none⟩ (.int .i64 1)) wb db sum 1 n stuck := by
      show (w1.setCell ⟨wb, 2, none⟩ (.int .i64 1)).heap[wb]? = _
      rw [heap_setCell_same _ _ _ _ _ _ hw1]
      rfl
    have hDw1 : Dw S wb w S1 (w1.setCell ⟨wb, 2, none⟩ (.int .i64 1)) := (hv1.dw wb).set 2 _
    have hB1 : Below lo w (w1.setCell ⟨wb, 2, none⟩ (.int .i64 1)) := hDw1.gr.below hlo (fun k hk => by
      rcases hk with hk | rfl
      · exact (hSl k hk).1
      · exact hwlo)
    generalize w1.setCell ⟨wb, 2, none⟩ (.int .i64 1) = w1' at *
    obtain ⟨p2, cc2, rfl⟩ := own_lenB ho2
    have ho3 := own_pos ho2
    have hw2 := hw1'.later hb2
    have hLL := hLy.out w2 S1 p2 cc2 (Nat.le_trans (Nat.le_trans hlo hB1.size) hb2.size) (ht.next (hB1.trans (hb2.mono (Nat.le_trans hlo hB1.size)))) (byts_of_own (n := 18) hpb.out (by rw [piece_len]; exact ho2)) (fun p hp hS' => by have h1 := own_block ho2 hp; have h2 := (hD1'.low _ hS').2; omega) ho3.1 ho3.2.1 hw2 hwS1 (hD1'.later hb2)
    replace hLL := Hid.mk hLL
    simp only [List.length_nil, Nat.zero_add]
    go_wp2_with (go_at_call 32; refine hLL.out.mono ?_; rintro e w3 ⟨rfl, S3, hD3, hv3⟩)
    go_ret
    refine ⟨rfl, S3, hD3, ?_, fun _ => hw2.grS hv3.gr hwS1⟩
    have hv23 : Dv S1 w1' S3 w3 := Dv.trans (.below hb2) hv3
    refine ⟨⟨hv23.gr.os.trans hDw1.gr.os, hv23.gr.tape.trans hDw1.gr.tape, hv23.gr.output.trans hDw1.gr.output, Nat.le_trans hDw1.gr.size hv23.gr.size, fun k hk hn => (hv23.gr.block k (Nat.lt_of_lt_of_le hk hDw1.gr.size) (fun e => ?_)).trans (hDw1.gr.block k hk hn)⟩, fun k hk => ?_⟩
    · rcases hDw1.sub k e with e | e
      · exact hn (.inl e)
      · omega
    · rcases hv23.sub k hk with e | e
      · exact hDw1.sub k e
      · exact .inr (Nat.le_trans hDw1.gr.size e)
  · have h0' : ((r.1 : Int) != 0) = true := by rw [bne_iff_ne]; omega
    have hat : andThen r (fun d1 => lays d1 (Nm 1) (piece 0 sum 0 [])) = r := by unfold andThen; rw [if_pos h0]
    rw [hat]
    clear hat
    go_enter Tryz.func50, Tryz.ntmps50
    go_wp2_with (go_at_call 110; refine hS.mono ?_; rintro e w1 ⟨rfl, S1, hD1, hv1⟩)
    go_ret
    exact ⟨rfl, S1, hD1, hv1.dw wb, fun e => absurd e h0⟩
end Go.Proofs.YtakcdgeanbpllaaGreatDoor.DJ


/- slices.Backward over names. -/
namespace Go.Proofs.YtakcdgeanbpllaaGreatDoor.DJ
open Go.RowKit Go.Shelf
attribute [local go_sem] Oper.semAt_some

def encB (i : Nat) (s : ByteArray) : Array Value := #[.int .i64 (i : Int), .string s]
/-- What is asked of the body of a range over slices.Backward of these names: k have been handed over. -/
structure TakesB (yl b : Nat) (a : Option Addr) (c : Nat) (xs : List ByteArray) (J Jx : Nat → World → Prop) : Prop where
  box : ∀ k X, J k X → X.cell? ⟨b, 0, none⟩ = some (.slice a xs.length c)
  row : ∀ k X, J k X → ∀ i (h : i < xs.length), ∃ g, a = some ⟨g, 0, none⟩ ∧ X.cell? ⟨g, i, none⟩ = some (.string xs[i])
  call : ∀ k X (m i : Nat) (hi : i < xs.length), i + k + 1 = xs.length → J k X → YieldAt Fence.wide m Tryz.prog yl (encB i xs[i]) X fun e X' => ∃ o : Bool, e = .returned (.bool o) ∧ (o = true → J (k + 1) X') ∧ (o = false → Jx (k + 1) X')

set_option maxRecDepth 8000 in
set_option maxHeartbeats 2000000 in
theorem back1_any (yl b : Nat) (a : Option Addr) (c : Nat) (xs : List ByteArray) (hxl : xs.length ≤ 1000000) (J Jx : Nat → World → Prop) (hT : TakesB yl b a c xs J Jx) (w : World) (h : J 0 w) :
    Calls Tryz.prog 136 #[.func (.yield yl) #[] #[], .pointer (some ⟨b, 0, none⟩)] w fun e w' => e = .returned (.tuple #[]) ∧ (J xs.length w' ∨ ∃ k, Jx k w') := by
  have c0 := hT.box _ _ h
  have hxI : (xs.length : Int) ≤ 1000000 := by omega
  refine (callsIn_wide (n := 3)).1 ?_
  refine callsIn_of_wp Tryz.func136 rfl trivial ?_ rfl
  simp only [Tryz.ntmps136, List.size_toArray, List.length_cons, List.length_nil, Nat.reduceAdd, Nat.reduceSub, Array.replicate_succ, Array.replicate_zero, List.push_toArray, List.append_toArray, List.nil_append, List.cons_append]
  gi_wp2
  gi_loopw [3] (fun iv wr => ∃ k : Nat, k ≤ xs.length ∧ iv = .int .i64 ((xs.length : Int) - 1 - (k : Int)) ∧ J k wr) (fun iv _ => (intOf iv + 1).toNat)
  case atStart => exact ⟨0, Nat.zero_le _, by first | rfl | (congr 1; omega), h⟩
  case round =>
    obtain ⟨k, hk, rfl, hJ⟩ := hrel
    have c1 := hT.box _ _ hJ
    by_cases hlt : k < xs.length
    · obtain ⟨i, hi⟩ : ∃ i, i + k + 1 = xs.length := ⟨xs.length - 1 - k, by omega⟩
      have hiI : (xs.length : Int) - 1 - (k : Int) = (i : Int) := by omega
      have hil : i < xs.length := by omega
      have hil' : (i : Int) < (xs.length : Int) := by omega
      have hi0 : (0 : Int) ≤ (i : Int) := by omega
      rw [hiI]
      obtain ⟨g, rfl, hg⟩ := hT.row _ _ hJ i hil
      obtain ⟨fn, tmps, assign, body, hy, hR⟩ := hT.call k wr 2 i hil hi hJ
      have hy' : (Instr.yield yl #[.int .i64 (i : Int), .string xs[i]]).run Tryz.prog wr = _ := hy
      generalize xs[i] = s at *
      clear hy hk
      replace hi := Hid.mk hi
      replace hlt := Hid.mk hlt
      gi_wp2_with (first | (with_reducible refine RoundIn.mono hR ?_; clear hR; rintro e w5 ⟨o, rfl, hJ5, hX5⟩))
      · refine bodyPost_ret (v := .tuple #[]) (by simp [results, Tryz.results136, go_sem]) rfl ⟨rfl, .inr ⟨k + 1, hX5 ?_⟩⟩
        cases o with
        | true => simp_all
        | false => rfl
      · have hi9 := hi.out
        refine ⟨⟨k + 1, by omega, ?_, hJ5 ?_⟩, by simp [intOf]⟩
        · congr 1
          omega
        · cases o with
          | true => rfl
          | false => simp_all
    · obtain rfl : k = xs.length := by omega
      have hm : (xs.length : Int) - 1 - (xs.length : Int) = -1 := by omega
      rw [hm]
      clear hm
      gi_wp2
      refine bodyPost_end (v := .tuple #[]) (by simp [results, Tryz.results136, go_sem]) rfl ⟨rfl, .inl hJ⟩

/-- What a statement's own book-keeping may turn: a block from B on that is no cells. -/
def StepB (B : Nat) (X Y : World) : Prop := ∃ row, X.grownBy Y row ∧ ∀ r, row = some r → B ≤ r ∧ ∃ o : Obj, X.heap[r]? = some o ∧ o.isCells = false
theorem stepB_put {B l : Nat} {X : World} {o : Obj} (o' : Obj) (hl : B ≤ l) (h : X.heap[l]? = some o) (hc : o.isCells = false) : StepB B X (X.putObj l o') :=
  ⟨some l, grownBy_putObj' X l o', fun r e => by cases e; exact ⟨hl, o, h, hc⟩⟩
theorem stepB_alloc (B : Nat) (X : World) (o : Obj) : StepB B X (X.alloc o) := ⟨none, World.grownBy_alloc X o none, fun r e => by cases e⟩
theorem grown_of_below {W W' : World} (h : Below W.heap.size W W') : W.grownBy W' none := ⟨h.os, h.tape, h.output, h.size, fun k hk _ => h.block k hk⟩
theorem stepB_below (B : Nat) {X Y : World} (h : Below X.heap.size X Y) : StepB B X Y := ⟨none, grown_of_below h, fun r e => by cases e⟩
/-- A step turns no block of a set S, where those at B and behind it are cells or lie elsewhere. -/
theorem StepB.grS {B : Nat} {X Y : World} (h : StepB B X Y) : GrS (fun k => B ≤ k ∧ ∃ o : Obj, X.heap[k]? = some o ∧ o.isCells = false) X Y := by
  obtain ⟨row, hg, hr⟩ := h
  exact .of_grown' hg (fun k e => hr k e)
theorem StepB.block {B : Nat} {X Y : World} {k : Nat} {cs : Array Value} {t : TypeId} {z : Nat × Nat} (hs : StepB B X Y) (h : X.heap[k]? = some (.cells cs t z)) : Y.heap[k]? = some (.cells cs t z) :=
  (hs.grS.block k (Array.getElem?_eq_some_iff.1 h).1 (fun e => by
    obtain ⟨-, o, h1, h2⟩ := e
    rw [h] at h1
    rw [← Option.some.inj h1] at h2
    cases h2)).trans h

/-- How a round is left: it goes on, or the function is left. -/
def bckPost (B : Nat) (I Ix : Nat → World → Prop) (k : Nat) (W : World) : Exit → Act → World → Prop
  | .normal, _, W' => KeepsFrom B W W' ∧ I k W'
  | .ret, _, W' => KeepsFrom B W W' ∧ Ix k W'
  | _, _, _ => False
theorem roundIn_depth {n m : Nat} {P : Program} {l : Nat} {f : FuncId} {tmps : Array Value} {assign body : Code} {w : World} {R : Ending → World → Prop} (h : RoundIn Fence.wide n P l f tmps assign body w R) : RoundIn Fence.wide m P l f tmps assign body w R :=
  ⟨h.1, fun c cs _ => h.2 c cs (room_wide _)⟩

set_option maxHeartbeats 1000000 in
/-- The statement 'for _, name := range slices.Backward(names)'; its body may leave the function. -/
theorem range_back {n : Nat} {g : Operand} {ps : Array Tmp} {assign body : Code} {Q : Exit → Act → World → Prop} {a : Act} {w : World} (b : Nat) (ad : Option Addr) (c : Nat) (xs : List ByteArray) (hxl : xs.length ≤ 1000000)
    (hg : a.eval g = .func (.func 136) #[] #[.pointer (some ⟨b, 0, none⟩)]) (hps : ps.size = 2) (I Ix : Nat → World → Prop)
    (hI : ∀ k X Y, I k X → StepB w.heap.size X Y → I k Y) (hIx : ∀ k X Y, Ix k X → StepB w.heap.size X Y → Ix k Y)
    (hBx : ∀ k X, I k X → X.cell? ⟨b, 0, none⟩ = some (.slice ad xs.length c)) (hRw : ∀ k X, I k X → ∀ i (h : i < xs.length), ∃ g, ad = some ⟨g, 0, none⟩ ∧ X.cell? ⟨g, i, none⟩ = some (.string xs[i]))
    (h0 : I 0 w) (Ax : ByteArray → Act → World → Prop) (hAx : ∀ s a' X Y, Ax s a' X → StepB w.heap.size X Y → Ax s a' Y)
    (hassign : ∀ (l k i : Nat) (hi : i < xs.length) (W : World) (K : Act → World → Prop), I k W → (∀ a' W', KeepsFrom w.heap.size W W' → I k W' → Ax xs[i] a' W' → K a' W') → assign.wpIn (Fence.wide.inRound l) 3 Tryz.prog (Exit.then K (fun _ _ _ => False)) { tmps := (ps.zip (encB i xs[i])).foldl (fun t (p, v) => t.setIfInBounds p v) a.tmps, defers := [] } W)
    (hbody : ∀ (l k i : Nat) (hi : i < xs.length) (a' : Act) (W : World), i + k + 1 = xs.length → I k W → Ax xs[i] a' W → body.wpIn (Fence.wide.inRound l) 3 Tryz.prog (bckPost w.heap.size I Ix (k + 1) W) a' W)
    (hdone : ∀ (D : Nat) (W : World), w.heap.size ≤ D → I xs.length W → W.heap[D]? = some (.deferred (some [])) → Q .normal { a with defers := { target := .collected D, args := #[] } :: a.defers } W)
    (hstop : ∀ (D k : Nat) (W : World), w.heap.size ≤ D → Ix k W → W.heap[D]? = some (.deferred (some [])) → Code.ret.wpIn Fence.wide n Tryz.prog Q { a with defers := { target := .collected D, args := #[] } :: a.defers } W) :
    (Code.rangeFunc g ps assign body).wpIn Fence.wide n Tryz.prog Q a w := by
  refine wpIn_rangeFunc fun fn hfn => ?_
  obtain ⟨L, hL⟩ : ∃ L : LoopState → Option Code → Loop, L = fun st pe => { state := st, pending := pe, fn := fn, tmps := a.tmps, params := ps, assign := assign, body := body, defers := w.heap.size } := ⟨_, rfl⟩
  obtain ⟨V, hV⟩ : ∃ V, (w.alloc (.deferred (some []))).alloc (.loop (L .ready none)) = V := ⟨_, rfl⟩
  have hV1 : V.heap[w.heap.size + 1]? = some (.loop (L .ready none)) := by
    rw [← hV]
    have := World.alloc_heap_new (w.alloc (.deferred (some []))) (.loop (L .ready none))
    rwa [World.size_alloc] at this
  have hV0 : V.heap[w.heap.size]? = some (.deferred (some [])) := by
    rw [← hV]
    exact (Below.heap_alloc _ _ _ (by simp)).trans (World.alloc_heap_new w _)
  have hIV : I 0 V := by rw [← hV]; exact hI _ _ _ (hI _ _ _ h0 (stepB_alloc _ _ _)) (stepB_alloc _ _ _)
  have hT : TakesB (w.heap.size + 1) b ad c xs (fun k W => I k W ∧ W.heap[w.heap.size + 1]? = some (.loop (L .ready none)) ∧ W.heap[w.heap.size]? = some (.deferred (some [])))
      (fun k W => Ix k W ∧ W.heap[w.heap.size + 1]? = some (.loop (L .done (some .ret))) ∧ W.heap[w.heap.size]? = some (.deferred (some []))) := by
    refine ⟨fun k W h => hBx _ _ h.1, fun k W h => hRw _ _ h.1, ?_⟩
    rintro k Wr m i hi hik ⟨hi0, h10, h20⟩
    have hy := run_yield (P := Tryz.prog) (args := encB i xs[i]) h10 (by rw [hL]; exact hps.symm)
    rw [hL] at hy
    refine ⟨fn, _, assign, body, hy, roundIn_depth (n := 3) (roundIn_of_wpIn hfn (hassign _ k i hi Wr _ hi0 fun a' W hkf hiW hax => ?_))⟩
    have h1 := hkf.same _ _ (Nat.le_succ _) h10 rfl
    have h2 := hkf.same _ _ (Nat.le_refl _) h20 rfl
    have hlt : w.heap.size + 1 < W.heap.size := (Array.getElem?_eq_some_iff.1 h1).1
    refine ⟨_, run_beginRound h1 (by rw [hL]), ?_⟩
    have s1 := stepB_put (B := w.heap.size) (.loop { L .ready none with state := .busy }) (Nat.le_succ _) h1 rfl
    have k1 : (W.putObj (w.heap.size + 1) (.loop { L .ready none with state := .busy })).heap[w.heap.size + 1]? = some (.loop { L .ready none with state := .busy }) := World.putObj_heap_same hlt
    have k0 : (W.putObj (w.heap.size + 1) (.loop { L .ready none with state := .busy })).heap[w.heap.size]? = some (.deferred (some [])) := (World.putObj_heap_other (by omega)).trans h2
    refine wpIn_mono (hbody _ k i hi _ _ hik (hI _ _ _ hiW s1) (hAx _ _ _ _ hax s1)) ?_
    have fin : ∀ (jump : Option Code) (X : World), KeepsFrom w.heap.size (W.putObj (w.heap.size + 1) (.loop { L .ready none with state := .busy })) X →
        (Instr.endRound (w.heap.size + 1) jump).run Tryz.prog X = .ok (.bool jump.isNone) (X.putObj (w.heap.size + 1) (.loop (L (if jump.isNone then .ready else .done) jump))) ∧ StepB w.heap.size X (X.putObj (w.heap.size + 1) (.loop (L (if jump.isNone then .ready else .done) jump))) ∧
        (X.putObj (w.heap.size + 1) (.loop (L (if jump.isNone then .ready else .done) jump))).heap[w.heap.size + 1]? = some (.loop (L (if jump.isNone then .ready else .done) jump)) ∧
        (X.putObj (w.heap.size + 1) (.loop (L (if jump.isNone then .ready else .done) jump))).heap[w.heap.size]? = some (.deferred (some [])) := fun jump X hX => by
      have e1 := hX.same _ _ (Nat.le_succ _) k1 rfl
      have e0 := hX.same _ _ (Nat.le_refl _) k0 rfl
      have e2 := run_endRound (P := Tryz.prog) jump e1
      refine ⟨by rw [hL] at e2 ⊢; exact e2, stepB_put _ (Nat.le_succ _) e1 rfl, World.putObj_heap_same (Array.getElem?_eq_some_iff.1 e1).1, (World.putObj_heap_other (by omega)).trans e0⟩
    rintro e a3 X hp
    cases e with
    | normal =>
      obtain ⟨hX, hi3⟩ := hp
      obtain ⟨hr, hs, e1, e0⟩ := fin none X hX
      exact ⟨_, _, hr, true, rfl, fun _ => ⟨hI _ _ _ hi3 hs, e1, e0⟩, fun e => (by cases e)⟩
    | ret =>
      obtain ⟨hX, hi3⟩ := hp
      obtain ⟨hr, hs, e1, e0⟩ := fin (some .ret) X hX
      exact ⟨_, _, hr, false, rfl, fun e => (by cases e), fun _ => ⟨hIx _ _ _ hi3 hs, e1, e0⟩⟩
    | exit i => exact hp.elim
    | goto t => exact hp.elim
    | panic ch => exact hp.elim
    | outgrown => exact hp.elim
  refine ⟨w.heap.size + 1, [{ target := .collected w.heap.size, args := #[] }], V, { target := .fn (.func 136) #[.pointer (some ⟨b, 0, none⟩)], args := #[.func (.yield (w.heap.size + 1)) #[] #[]] }, V, 136,
    #[.func (.yield (w.heap.size + 1)) #[] #[], .pointer (some ⟨b, 0, none⟩)], V, ?_, ?_, ?_, ?_, fun e => by simp [Fence.wide] at e, ?_⟩
  · rw [← hV, hL]; exact run_enterLoop_outer _ _ _ _ _
  · simp only [resolve, hg]
    simp [go_sem]
  · intro f' _; trivial
  · simp [invoke, go_sem]
  · refine (callsIn_wide.2 (back1_any (w.heap.size + 1) b ad c xs hxl _ _ hT V ⟨hIV, hV1, hV0⟩)).mono ?_
    rintro e X ⟨rfl, ⟨hi, e1, e0⟩ | ⟨k, hi, e1, e0⟩⟩
    · have hs := stepB_put (B := w.heap.size) (.loop { L .ready none with state := .exhausted }) (Nat.le_succ _) e1 rfl
      refine ⟨none, _, by have := run_endLoop (P := Tryz.prog) e1 (by rw [hL]; simp); rw [hL] at this ⊢; exact this, hdone _ _ (Nat.le_refl _) (hI _ _ _ hi hs) ((World.putObj_heap_other (by omega)).trans e0)⟩
    · have hs := stepB_put (B := w.heap.size) (.loop { L .done (some .ret) with state := .exhausted }) (Nat.le_succ _) e1 rfl
      refine ⟨some .ret, _, by have := run_endLoop (P := Tryz.prog) e1 (by rw [hL]; simp); rw [hL] at this ⊢; exact this, hstop _ k _ (Nat.le_refl _) (hIx _ _ _ hi hs) ((World.putObj_heap_other (by omega)).trans e0)⟩

theorem back_iter (a : Option Addr) (n c : Nat) (w : World) : Calls Tryz.prog 106 #[.slice a n c] w fun e w' => e = .returned (.func (.func 136) #[] #[.pointer (some ⟨w.heap.size, 0, none⟩)]) ∧ w' = w.alloc (.cells #[.slice a n c] 84) := by
  go_enter Tryz.func106, Tryz.ntmps106
  go_wp2
  go_ret
  exact ⟨rfl, rfl⟩
end Go.Proofs.YtakcdgeanbpllaaGreatDoor.DJ

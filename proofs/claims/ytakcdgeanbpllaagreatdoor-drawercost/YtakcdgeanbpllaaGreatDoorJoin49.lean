import Derived.Test.YtakcdgeanbpllaaGreatDoorDqG
import Derived.Test.YtakcdgeanbpllaaGreatDoorJoin44
/- mend. -/
namespace Go.Proofs.YtakcdgeanbpllaaGreatDoor.DJ
open Go.RowKit

def mendA (d : Dk) (f : Fl) (sz : Nat) : Nat × Dk :=
  andThen (if sz < f.dat.length then trim d f.nm sz else (0, d)) fun d1 => if f.sure < sz then sync d1 f.nm else (0, d1)
theorem andThen_assoc (r : Nat × Dk) (k l : Dk → Nat × Dk) : andThen (andThen r k) l = andThen r fun d => andThen (k d) l := by
  unfold andThen
  by_cases h : r.1 ≠ 0
  · simp [h]
  · simp [h]
theorem mend_is (d : Dk) (f : Fl) (sz : Nat) : mend d f sz = andThen (mendA d f sz) fun d2 => removes (others d2.fs (genOf f.nm)) d2 := by
  unfold mend mendA
  rw [andThen_assoc]
theorem changes_ok {d : Dk} {nm : List Nat} {g : List Fl → List Fl} (h : (changes d nm g).1 = 0) : (changes d nm g).2.fs = g d.fs := by
  unfold changes at h ⊢
  split at h
  · rename_i h1; exact absurd h h1
  · rename_i h1
    rw [if_neg h1]
    split at h
    · cases h
    · rename_i h2
      rw [if_neg h2]
      split at h
      · rfl
      · cases h

set_option maxRecDepth 4000 in
set_option maxHeartbeats 1000000 in
theorem mend_any {lo db wb sum g n : Nat} {stuck : Bool} {S : Nat → Prop} {d : Dk} (hg : g ≤ 99999999) {f : Fl} (hf : f ∈ d.fs) (hfn : f.nm = Nm g) (sz : Nat) (hsz : sz ≤ f.dat.length) (w : World) (hlo : lo ≤ w.heap.size) (ht : TabL lo w) (hw : DwAt w wb db sum g n stuck) (hwS : ¬ S wb) (h : DiskAt w lo S db d) :
    Calls Tryz.prog 109 #[.pointer (some ⟨wb, 0, none⟩), .int .i64 (sz : Int)] w fun e w' => e = .returned (.int .i64 ((mendA d f sz).1 : Nat)) ∧ ∃ S', DiskAt w' lo S' db (mendA d f sz).2 ∧ Dv S w S' w' := by
  have hLN := logName_any g hg lo w ht
  obtain ⟨s, hs⟩ : ∃ s, strB (Nm g) = s := ⟨_, rfl⟩
  rw [hs] at hLN
  obtain ⟨c0, c1, c2, c3, c4⟩ := hw.cells
  obtain ⟨mb, D, fb, vv, hL⟩ := h
  obtain ⟨b, hb⟩ : ∃ b, fb f.nm = b := ⟨_, rfl⟩
  have hsiz := hL.ok.siz f hf
  have hsur := hL.ok.sur f hf
  have hdI : (f.dat.length : Int) ≤ 2097152 := by omega
  have hpre : ∀ X, Below w.heap.size w X → X.cell? ⟨wb, 0, none⟩ = some (.pointer (some ⟨db, 0, none⟩)) ∧ X.cell? ⟨db, 0, none⟩ = some (.map (some mb)) ∧ (Instr.lookup 72 (.map (some mb)) (.string s) false).run Tryz.prog X = .ok (.pointer (some ⟨b, 0, none⟩)) X ∧ ∃ pv cv, X.cell? ⟨b, 0, none⟩ = some (.slice pv f.dat.length cv) ∧ X.cell? ⟨b, 1, none⟩ = some (.int .i64 (f.sure : Int)) := fun X hX => by
    have hLX := hL.grS (T := fun _ => False) (.of_below hX) (fun _ _ h => h)
    have hlk := hLX.look hf
    obtain ⟨k0, k1, -, -⟩ := (hLX.fil f hf).cells
    obtain ⟨pv, cv, hv⟩ := own_lenB (hLX.fil f hf).dat
    rw [hfn, hs] at hlk
    rw [← hfn, hb] at hlk
    rw [hb] at k0 k1
    rw [hv] at k0
    exact ⟨(hX.cell (p := ⟨wb, 0, none⟩) hw.lt).trans c0, hLX.cells.1, hlk, pv, cv, k0, k1⟩
  have hG0 : G.DiskG (fun fb' => fb' f.nm = b) w lo S db d := ⟨mb, D, fb, vv, hL, hb⟩
  have hD0 : DiskAt w lo S db d := ⟨mb, D, fb, vv, hL⟩
  obtain ⟨R, hR⟩ : ∃ R, mendA d f sz = R := ⟨_, rfl⟩
  rw [hR]
  have hRe : (andThen (if sz < f.dat.length then trim d f.nm sz else (0, d)) fun d1 => if f.sure < sz then sync d1 f.nm else (0, d1)) = R := hR
  clear hR
  by_cases hlt : sz < f.dat.length
  · rw [if_pos hlt] at hRe
    obtain ⟨r, hr⟩ : ∃ r, trim d f.nm sz = r := ⟨_, rfl⟩
    rw [hr, andThen] at hRe
    have hlt' : (sz : Int) < (f.dat.length : Int) := by omega
    have hT := fun X (hX : Below w.heap.size w X) => G.trim_any (nm := Nm g) (n := (sz : Int)) (by omega) (by omega) (Nm_len g) (Nm_lt g) X (Nat.le_trans hlo hX.size) (hG0.later hX)
    rw [hfn] at hr
    simp only [hr, hs] at hT
    have hfs : r.1 = 0 → r.2.fs = upd d.fs f.nm (trimF sz) := fun h0 => by
      have := changes_ok (d := d) (nm := Nm g) (g := fun fs => upd fs (Nm g) (trimF (sz : Int).toNat)) (by unfold trim at hr; rw [hr]; exact h0)
      unfold trim at hr
      rw [hr] at this
      rw [this, hfn]
      rfl
    have hmem : r.1 = 0 → trimF sz f ∈ r.2.fs := fun h0 => by
      rw [hfs h0]
      unfold upd
      exact List.mem_map.2 ⟨f, hf, by rw [if_pos rfl]⟩
    replace hRe := Hid.mk hRe
    replace hT := Hid.mk hT
    clear hr hfs
    by_cases hz : r.1 = 0
    case neg =>
      have hz' : ((r.1 : Int) != 0) = true := by rw [bne_iff_ne]; omega
      clear hmem
      go_enter Tryz.func109, Tryz.ntmps109
      go_wp2_with (first | (go_at_call 54; refine hLN.mono ?_; rintro e w1 ⟨rfl, hb1⟩; obtain ⟨y0, y1, y2, pv, cv, y3, y4⟩ := hpre _ hb1) | (go_at_call 98; refine (hT.out _ hb1).mono ?_; rintro e w2 ⟨rfl, S2, h2, hv2⟩))
      go_ret
      have e : r = R := by have := hRe.out; rw [if_pos hz] at this; exact this
      rw [← e]
      exact ⟨rfl, S2, h2.at, Dv.trans (.below hb1) hv2⟩
    have hz' : ((r.1 : Int) != 0) = false := by rw [hz]; rfl
    have hm := hmem hz
    clear hmem
    have hpre2 : ∀ S2 X, G.DiskG (fun fb' => fb' f.nm = b) X lo S2 db r.2 → ∃ pv cv, X.cell? ⟨b, 0, none⟩ = some (.slice pv sz cv) ∧ X.cell? ⟨b, 1, none⟩ = some (.int .i64 ((min f.sure sz : Nat) : Int)) := fun S2 X h2 => by
      obtain ⟨mb2, D2, fb2, vv2, hL2, hb2⟩ := h2
      obtain ⟨k0, k1, -, -⟩ := (hL2.fil _ hm).cells
      obtain ⟨pv, cv, hv⟩ := own_lenB (hL2.fil _ hm).dat
      have e1 : (trimF sz f).nm = f.nm := rfl
      have e2 : (trimF sz f).dat.length = sz := by simp [trimF]; omega
      have e3 : (trimF sz f).sure = min f.sure sz := by simp only [trimF, List.length_take]; rw [Nat.min_eq_left hsz]
      rw [e1] at k0 k1 hv
      rw [e2] at hv
      rw [show fb2 f.nm = b from hb2] at k0 k1
      rw [hv] at k0
      rw [e3] at k1
      exact ⟨pv, cv, k0, k1⟩
    replace hpre2 := Hid.mk hpre2
    obtain ⟨m, hmn⟩ : ∃ m, min f.sure sz = m := ⟨_, rfl⟩
    simp only [hmn] at hpre2
    by_cases hss : f.sure < sz
    · have hss' : (m : Int) < (sz : Int) := by omega
      have hY := fun (S2 : Nat → Prop) (X : World) (h2 : DiskAt X lo S2 db r.2) => sync_any (Nm_len g) (Nm_lt g) X h2
      simp only [hs] at hY
      clear hmn
      go_enter Tryz.func109, Tryz.ntmps109
      go_wp2_with (first | (go_at_call 54; refine hLN.mono ?_; rintro e w1 ⟨rfl, hb1⟩; obtain ⟨y0, y1, y2, pv, cv, y3, y4⟩ := hpre _ hb1) | (go_at_call 98; refine (hT.out _ hb1).mono ?_; rintro e w2 ⟨rfl, S2, h2, hv2⟩; obtain ⟨pw, cw, z3, z4⟩ := hpre2.out _ _ h2; have z0 := (hv2.gr.cell (b := wb) (o := 0) (Nat.lt_of_lt_of_le hw.lt hb1.size) hwS).trans y0))
      go_quiet (fail)
      have B2 : Below w2.heap.size w2 (w2.drewN nq) := below_drewN (Below.refl _ _) nq
      have h2D := h2.at.later B2
      go_wp2_with (go_at_call 56; refine (hY _ _ h2D).mono ?_; rintro e w3 ⟨rfl, S3, h3, hv3⟩)
      go_ret
      have e : sync r.2 (Nm g) = R := by have := hRe.out; rw [if_neg (fun h9 => h9 hz), if_pos hss, hfn] at this; exact this
      rw [← e]
      exact ⟨rfl, S3, h3, Dv.trans (.below hb1) (Dv.trans hv2 (Dv.trans (.below B2) hv3))⟩
    · have hss' : ¬ (m : Int) < (sz : Int) := by omega
      clear hmn
      go_enter Tryz.func109, Tryz.ntmps109
      go_wp2_with (first | (go_at_call 54; refine hLN.mono ?_; rintro e w1 ⟨rfl, hb1⟩; obtain ⟨y0, y1, y2, pv, cv, y3, y4⟩ := hpre _ hb1) | (go_at_call 98; refine (hT.out _ hb1).mono ?_; rintro e w2 ⟨rfl, S2, h2, hv2⟩; obtain ⟨pw, cw, z3, z4⟩ := hpre2.out _ _ h2))
      go_quiet (fail)
      have B2 : Below w2.heap.size w2 (w2.drewN nq) := below_drewN (Below.refl _ _) nq
      have h2D := h2.at.later B2
      go_wp2
      go_ret
      have e : ((0 : Nat), r.2) = R := by have := hRe.out; rw [if_neg (fun h9 => h9 hz), if_neg hss] at this; exact this
      rw [← e]
      exact ⟨rfl, S2, h2D, Dv.trans (.below hb1) (Dv.trans hv2 (.below B2))⟩
  · rw [if_neg hlt, andThen, if_neg (fun h9 => h9 rfl)] at hRe
    have hlt' : ¬ (sz : Int) < (f.dat.length : Int) := by omega
    obtain rfl : sz = f.dat.length := by omega
    replace hRe := Hid.mk hRe
    by_cases hss : f.sure < f.dat.length
    · have hss' : (f.sure : Int) < (f.dat.length : Int) := by omega
      have hY := fun (X : World) (hX : Below w.heap.size w X) => sync_any (Nm_len g) (Nm_lt g) X (hD0.later hX)
      simp only [hs] at hY
      go_enter Tryz.func109, Tryz.ntmps109
      go_wp2_with (go_at_call 54; refine hLN.mono ?_; rintro e w1 ⟨rfl, hb1⟩; obtain ⟨y0, y1, y2, pv, cv, y3, y4⟩ := hpre _ hb1)
      go_quiet (fail)
      have B2 : Below w1.heap.size w1 (w1.drewN nq) := below_drewN (Below.refl _ _) nq
      have hB2 := below_step hb1 B2
      go_wp2_with (go_at_call 56; refine (hY _ hB2).mono ?_; rintro e w3 ⟨rfl, S3, h3, hv3⟩)
      go_ret
      have e : sync d (Nm g) = R := by have := hRe.out; rw [if_pos hss, hfn] at this; exact this
      rw [← e]
      exact ⟨rfl, S3, h3, Dv.trans (.below hB2) hv3⟩
    · have hss' : ¬ (f.sure : Int) < (f.dat.length : Int) := by omega
      go_enter Tryz.func109, Tryz.ntmps109
      go_wp2_with (go_at_call 54; refine hLN.mono ?_; rintro e w1 ⟨rfl, hb1⟩; obtain ⟨y0, y1, y2, pv, cv, y3, y4⟩ := hpre _ hb1)
      go_quiet (fail)
      have B2 : Below w1.heap.size w1 (w1.drewN nq) := below_drewN (Below.refl _ _) nq
      have hB2 := below_step hb1 B2
      go_wp2
      go_ret
      have e : ((0 : Nat), d) = R := by have := hRe.out; rw [if_neg hss] at this; exact this
      rw [← e]
      exact ⟨rfl, S, hD0.later hB2, .below hB2⟩
end Go.Proofs.YtakcdgeanbpllaaGreatDoor.DJ


/- sweep. -/
namespace Go.Proofs.YtakcdgeanbpllaaGreatDoor.DJ
open Go.RowKit

theorem others_skip {f : Fl} {l : List Fl} {g : Nat} (h : genOf f.nm = 0 ∨ genOf f.nm = g) : others (f :: l) g = others l g := by
  unfold others
  rw [List.filter_cons_of_neg]
  simp only [ne_eq, decide_eq_true_eq, not_and, Classical.not_not]
  intro h0
  exact h.resolve_left h0
theorem others_take {f : Fl} {l : List Fl} {g : Nat} (h0 : genOf f.nm ≠ 0) (h1 : genOf f.nm ≠ g) : others (f :: l) g = f.nm :: others l g := by
  unfold others
  rw [List.filter_cons_of_pos (by simp [h0, h1])]
  rfl

set_option maxRecDepth 4000 in
set_option maxHeartbeats 1000000 in
/-- Where all files have a journal's name. -/
theorem sweep_any {lo db wb sum g n : Nat} {stuck : Bool} {S : Nat → Prop} {d : Dk} (hall : ∀ f ∈ d.fs, ∃ k, k ≤ 99999999 ∧ f.nm = Nm k) (w : World) (hlo : lo ≤ w.heap.size) (hw : DwAt w wb db sum g n stuck) (hwS : ¬ S wb) (h : DiskAt w lo S db d) :
    Calls Tryz.prog 110 #[.pointer (some ⟨wb, 0, none⟩)] w fun e w' => e = .returned (.int .i64 ((removes (others d.fs g) d).1 : Nat)) ∧ ∃ S', DiskAt w' lo S' db (removes (others d.fs g) d).2 ∧ Dv S w S' w' := by
  have hSl := h.low
  have h40 : d.fs.length ≤ 40 := by
    obtain ⟨mb, D, fb, vv, h⟩ := h
    exact h.ok.len
  obtain ⟨c0, c1, c2, c3, c4⟩ := hw.cells
  obtain ⟨fs, hfs⟩ : ∃ fs, d.fs = fs := ⟨_, rfl⟩
  have hN := names_any w h
  rw [hfs] at hN hall h40 ⊢
  obtain ⟨R, hR⟩ : ∃ R, removes (others fs g) d = R := ⟨_, rfl⟩
  rw [hR]
  replace hR := Hid.mk hR
  go_enter Tryz.func110, Tryz.ntmps110
  go_wp2_with (go_at_call 34; refine hN.mono ?_; rintro e w2 ⟨v, rfl, hrow, hb2⟩; obtain ⟨p, c, rfl⟩ := own_lenB hrow)
  have hD2 := h.later hb2
  have hw2 := hw.later hb2
  have hpS : ∀ q, p = some q → ¬ S q.block ∧ q.block < w2.heap.size := fun q hq => by
    subst hq
    obtain ⟨-, ⟨e, -⟩ | ⟨gg, cc, cur, e, hb, r, -⟩⟩ := hrow
    · cases e
    · injection e with e1
      injection e1 with e1
      subst e1
      refine ⟨fun hS => ?_, (Array.getElem?_eq_some_iff.1 r).1⟩
      have h1 : gg < w.heap.size := (hSl _ hS).2
      have h3 : w.heap.size ≤ gg := hb
      omega
  have hlo2 : lo ≤ w2.heap.size := Nat.le_trans hlo hb2.size
  have hb2' : Hid (Below w.heap.size w w2) := ⟨hb2⟩
  clear hN c0 c1 c2 c3 c4 hb2
  go_loopw [13] (fun v wr => ∃ i : Nat, i ≤ fs.length ∧ v = .int .i64 (i : Int) ∧ ∃ S' d', DiskAt wr lo S' db d' ∧ Dv S w2 S' wr ∧ Hid (removes (others (fs.drop i) g) d' = R)) (fun v _ => fs.length - (intOf v).toNat)
  case atStart => exact ⟨0, Nat.zero_le _, rfl, S, d, hD2, .refl _ _, ⟨hR.out⟩⟩
  case round =>
    obtain ⟨i, hi, rfl, S', d', hDr, hvr, hrem⟩ := hrel
    clear hD2 hR
    by_cases hlt : i < fs.length
    · have hlt' : (i : Int) < (fs.length : Int) := by omega
      have hi0 : (0 : Int) ≤ (i : Int) := by omega
      obtain ⟨gp, hgp⟩ : ∃ gp, p = some ⟨gp, 0, none⟩ := by
        obtain ⟨-, ⟨e, h0⟩ | ⟨gg, cc, cur, e, -⟩⟩ := hrow
        · omega
        · injection e with e1
          exact ⟨gg, e1⟩
      subst hgp
      have hnm := (hvr.gr.cell (b := gp) (o := i) (hpS _ rfl).2 (hpS _ rfl).1).trans (name_at hrow hlt rfl)
      obtain ⟨k, hk9, hkn⟩ := hall fs[i] (List.getElem_mem hlt)
      have hgen : genOf fs[i].nm = k := by rw [hkn, gen_Nm k hk9]
      have hdrop : fs.drop i = fs[i] :: fs.drop (i + 1) := List.drop_eq_getElem_cons hlt
      rw [hkn] at hnm
      have hG := genOf_Nm k hk9 wr
      have hwr := hw2.grS hvr.gr hwS
      obtain ⟨c0, c1, c2, c3, c4⟩ := hwr.cells
      have hRm := fun X (hX : Below wr.heap.size wr X) => remove_any (Nm_len k) (Nm_lt k) X (hDr.later hX)
      have hcc : ∀ X, Below wr.heap.size wr X → X.cell? ⟨wb, 0, none⟩ = some (.pointer (some ⟨db, 0, none⟩)) ∧ X.cell? ⟨wb, 2, none⟩ = some (.int .i64 (g : Int)) := fun X hX => ⟨(hX.cell (p := ⟨wb, 0, none⟩) hwr.lt).trans c0, (hX.cell (p := ⟨wb, 2, none⟩) hwr.lt).trans c2⟩
      obtain ⟨s, hs⟩ : ∃ s, strB (Nm k) = s := ⟨_, rfl⟩
      rw [hs] at hnm hG
      simp only [hs] at hRm
      by_cases hsk : k = 0 ∨ k = g
      · have hnext : Hid (removes (others (fs.drop (i + 1)) g) d' = R) := ⟨by
          have := hrem.out
          rw [hdrop, others_skip (by rw [hgen]; exact hsk)] at this
          exact this⟩
        clear hRm hs hrem hdrop
        by_cases hz : k = 0
        · have hz' : ((k : Int) == 0) = true := by rw [hz]; rfl
          clear hsk hz
          go_wp2_with (go_at_call 107; refine hG.mono ?_; rintro e w3 ⟨rfl, hb3⟩; have hcc3 := hcc _ hb3)
          go_roundw
          case rel => exact ⟨i + 1, by omega, by first | rfl | go_num, S', d', hDr.later hb3, Dv.trans hvr (.below hb3), hnext⟩
          case measure => simp [intOf]; omega
        · have hz' : ((k : Int) == 0) = false := by rw [beq_eq_false_iff_ne]; omega
          have hkg : ((k : Int) == (g : Int)) = true := by rw [hsk.resolve_left hz]; simp
          clear hsk hz
          go_wp2_with (go_at_call 107; refine hG.mono ?_; rintro e w3 ⟨rfl, hb3⟩; obtain ⟨y0, y2⟩ := hcc _ hb3)
          go_roundw
          case rel => exact ⟨i + 1, by omega, by first | rfl | go_num, S', d', hDr.later hb3, Dv.trans hvr (.below hb3), hnext⟩
          case measure => simp [intOf]; omega
      · have hz' : ((k : Int) == 0) = false := by rw [beq_eq_false_iff_ne]; omega
        have hkg : ((k : Int) == (g : Int)) = false := by rw [beq_eq_false_iff_ne]; omega
        obtain ⟨r, hr⟩ : ∃ r, remove d' (Nm k) = r := ⟨_, rfl⟩
        simp only [hr] at hRm
        have hnext : Hid ((if r.1 ≠ 0 then r else removes (others (fs.drop (i + 1)) g) r.2) = R) := ⟨by
          have := hrem.out
          rw [hdrop, others_take (by rw [hgen]; omega) (by rw [hgen]; omega)] at this
          rw [removes, hkn, andThen, hr] at this
          exact this⟩
        clear hs hrem hdrop hr hsk
        by_cases hz : r.1 = 0
        · have hz2 : ((r.1 : Int) != 0) = false := by rw [hz]; rfl
          go_wp2_with (first | (go_at_call 107; refine hG.mono ?_; rintro e w3 ⟨rfl, hb3⟩; obtain ⟨y0, y2⟩ := hcc _ hb3) | (go_at_call 62; refine (hRm _ hb3).mono ?_; rintro e w4 ⟨rfl, S4, h4, hv4⟩))
          go_roundw
          case rel => exact ⟨i + 1, by omega, by first | rfl | go_num, S4, r.2, h4, Dv.trans hvr (Dv.trans (.below hb3) hv4), ⟨by have := hnext.out; rw [if_neg (fun h9 => h9 hz)] at this; exact this⟩⟩
          case measure => simp [intOf]; omega
        · have hz2 : ((r.1 : Int) != 0) = true := by rw [bne_iff_ne]; omega
          go_wp2_with (first | (go_at_call 107; refine hG.mono ?_; rintro e w3 ⟨rfl, hb3⟩; obtain ⟨y0, y2⟩ := hcc _ hb3) | (go_at_call 62; refine (hRm _ hb3).mono ?_; rintro e w4 ⟨rfl, S4, h4, hv4⟩))
          go_ret
          have e : r = R := by have := hnext.out; rw [if_pos hz] at this; exact this
          rw [← e]
          exact ⟨rfl, S4, h4, Dv.trans (.below hb2'.out) (Dv.trans hvr (Dv.trans (.below hb3) hv4))⟩
    · have hlt' : ¬ (i : Int) < (fs.length : Int) := by omega
      have hiE : i = fs.length := by omega
      have hE : Hid (((0 : Nat), d') = R) := ⟨by
        have := hrem.out
        rw [hiE, List.drop_length] at this
        exact this⟩
      go_wp2
      go_ret
      rw [← hE.out]
      exact ⟨rfl, S', hDr, Dv.trans (.below hb2'.out) hvr⟩
end Go.Proofs.YtakcdgeanbpllaaGreatDoor.DJ

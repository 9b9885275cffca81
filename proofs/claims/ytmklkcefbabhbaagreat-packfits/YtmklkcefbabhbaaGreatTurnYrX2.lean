import Derived.Test.YtmklkcefbabhbaaGreatJoin45
import Derived.Deep.RegionHeld3
/- How many cells. -/
namespace Go.Proofs.YtmklkcefbabhbaaGreat.R6
open Go.RowKit

def rwG (g : List UInt8 × Int) : Int := rwF g.2
theorem rwG_b (g : List UInt8 × Int) : 0 ≤ rwG g ∧ rwG g ≤ 8 := by unfold rwG rwF; omega
theorem at?_noneL {α : Type} {l : List α} {n : Int} (h : ¬ (0 ≤ n ∧ n < l.length)) : at? l n = none := by
  unfold at?
  by_cases h0 : 0 ≤ n
  · rw [if_pos h0]
    exact List.getElem?_eq_none (by omega)
  · rw [if_neg h0]
theorem at?_some {α : Type} {l : List α} {n : Int} (h0 : 0 ≤ n) (h1 : n < l.length) : at? l n = some (l[n.toNat]'(by omega)) := by
  unfold at?
  rw [if_pos h0]
  exact List.getElem?_eq_getElem (by omega)
theorem ceF_b (p : Pk) (g : Int) : 0 ≤ ceF p g ∧ ceF p g ≤ 8 := by
  unfold ceF
  split
  · exact rwG_b _
  · decide
theorem wr64 (z : Int) (h0 : -9223372036854775808 ≤ z) (h1 : z ≤ 9223372036854775807) : IntKind.i64.wrap z = z := by rw [IntKind.wrap_i64]; omega
theorem rinr_any (g : List UInt8 × Int) (W : World) : Calls Tryz.prog 66 #[.int .i64 g.2] W fun e W' => e = .returned (.int .i64 (rwG g)) ∧ W' = W := by
  obtain ⟨N, hN⟩ : ∃ N, rwG g = N := ⟨_, rfl⟩
  rw [hN]
  unfold rwG rwF at hN
  by_cases h0 : g.2 < 0
  · have hN' : Hid (0 = N) := ⟨by omega⟩
    clear hN
    go_enter Tryz.func66, Tryz.ntmps66
    go_wp2
    go_ret
    exact ⟨congrArg (fun z => Ending.returned (.int .i64 z)) hN'.out, rfl⟩
  · by_cases h1 : 8 < g.2
    · have hN' : Hid (8 = N) := ⟨by omega⟩
      clear hN
      go_enter Tryz.func66, Tryz.ntmps66
      go_wp2
      go_ret
      exact ⟨congrArg (fun z => Ending.returned (.int .i64 z)) hN'.out, rfl⟩
    · have hN' : Hid (g.2 = N) := ⟨by omega⟩
      clear hN
      go_enter Tryz.func66, Tryz.ntmps66
      go_wp2
      go_ret
      exact ⟨congrArg (fun z => Ending.returned (.int .i64 z)) hN'.out, rfl⟩
set_option maxRecDepth 20000 in
set_option maxHeartbeats 1000000 in
theorem rrows_any (p : Pk) (a3 a4 a5 a6 a7 : Option Addr) (c3 c4 c5 c6 c7 : Nat) (t : Int) (W : World) (hG : RowR eG W AnyB p.grps a5) : Calls Tryz.prog 65 #[.agg #[.string ⟨p.name.toArray⟩, .int .i64 p.year, .slice a3 p.opts.length c3, .slice a4 p.tabs.length c4, .slice a5 p.grps.length c5, .slice a6 p.lns.length c6, .slice a7 p.cks.length c7], .int .i64 t] W (Lk (.int .i64 (ceF p t)) W) := by
  obtain ⟨A, hA⟩ : ∃ A, A = Obj.cells #[.string ⟨p.name.toArray⟩, .int .i64 p.year, .slice a3 p.opts.length c3, .slice a4 p.tabs.length c4, .slice a5 p.grps.length c5, .slice a6 p.lns.length c6, .slice a7 p.cks.length c7] 28 := ⟨_, rfl⟩
  have hb0 := (Below.refl W.heap.size W).alloc (Nat.le_refl _) A
  have hr0 := heap_alloc_new W A
  obtain ⟨X, hX⟩ : ∃ X, X = W.alloc A := ⟨_, rfl⟩
  rw [← hX] at hb0 hr0
  rw [hA] at hr0 hX
  have hXl : W.heap.size < X.heap.size := (Array.getElem?_eq_some_iff.1 hr0).1
  have hXe : W.alloc (.cells #[.string ⟨p.name.toArray⟩, .int .i64 p.year, .slice a3 p.opts.length c3, .slice a4 p.tabs.length c4, .slice a5 p.grps.length c5, .slice a6 p.lns.length c6, .slice a7 p.cks.length c7] 28) = X := hX.symm
  have hGr := row_bel hG hb0 (Nat.le_refl _)
  have b4 : X.cell? ⟨W.heap.size, 4, none⟩ = some (.slice a5 p.grps.length c5) := cell_of_row _ _ 4 _ _ _ hr0
  clear hX hA hr0 hG
  by_cases h0 : 0 ≤ t
  rotate_left
  · have h0' : t < 0 := by omega
    rw [ceF, at?_noneL (fun h => h0 h.1)]
    clear h0
    go_enter Tryz.func65, Tryz.ntmps65
    go_wp2
    go_ret
    exact ⟨rfl, hb0⟩
  have h0' : ¬ t < 0 := by omega
  by_cases h1 : t < p.grps.length
  rotate_left
  · have h1' : (p.grps.length : Int) ≤ t := by omega
    rw [ceF, at?_noneL (fun h => h1 h.2)]
    clear h0 h1
    go_enter Tryz.func65, Tryz.ntmps65
    go_wp2
    go_ret
    exact ⟨rfl, hb0⟩
  have h1' : ¬ (p.grps.length : Int) ≤ t := by omega
  obtain ⟨i, rfl⟩ := Int.eq_ofNat_of_zero_le h0
  have hi : i < p.grps.length := by omega
  rw [ceF, at?_some h0 h1]
  simp only [Int.toNat_natCast]
  obtain ⟨g, o, hga⟩ := hGr.some hi
  rw [hga] at hGr b4 hXe ⊢
  obtain ⟨cs, -, -, ⟨rfl, -⟩, hcc⟩ := hGr.item hi
  have e1 : X.cell? ⟨g, o + i * 2 + 1, none⟩ = some (.int .i64 (p.grps[i]).2) := hcc 1 (by decide)
  have hcall := rinr_any (p.grps[i]) X
  generalize p.grps[i] = y at *
  clear hga hGr hcc hi
  go_enter Tryz.func65, Tryz.ntmps65
  go_wp2_with (go_at_call 66; fail)
  refine hcall.mono ?_
  rintro e w3 ⟨rfl, rfl⟩
  clear hcall
  go_wp2
  go_ret
  exact ⟨rfl, hb0⟩

theorem map_snoc {α : Type} (f : α → Int) (xs : List α) (k : Nat) (h : k < xs.length) : ((xs.take (k + 1)).map f).sum = ((xs.take k).map f).sum + f xs[k] := by
  rw [List.take_succ_eq_append_getElem h]
  simp only [List.map_append, List.map_cons, List.map_nil, List.sum_append, List.sum_cons, List.sum_nil]
  omega
theorem map_bd {α : Type} (f : α → Int) (hf : ∀ x, 0 ≤ f x ∧ f x ≤ 8) (xs : List α) : 0 ≤ (xs.map f).sum ∧ (xs.map f).sum ≤ 8 * (xs.length : Int) := by
  induction xs with
  | nil => simp
  | cons x xs ih =>
    have := hf x
    simp only [List.map_cons, List.sum_cons, List.length_cons]
    omega

set_option maxRecDepth 20000 in
set_option maxHeartbeats 1000000 in
theorem rcells_any (p : Pk) (a3 a4 a5 a6 a7 : Option Addr) (c3 c4 c5 c6 c7 : Nat) (W : World) (hR5 : RowR eG W AnyB p.grps a5) (hR6 : RowR eL W AnyB p.lns a6) (hR7 : RowR eK W AnyB p.cks a7) (h5 : p.grps.length ≤ 1000000) (h6 : p.lns.length ≤ 1000000) (h7 : p.cks.length ≤ 1000000) : Calls Tryz.prog 29 #[.agg #[.string ⟨p.name.toArray⟩, .int .i64 p.year, .slice a3 p.opts.length c3, .slice a4 p.tabs.length c4, .slice a5 p.grps.length c5, .slice a6 p.lns.length c6, .slice a7 p.cks.length c7]] W (Lk (.int .i64 (cesF p)) W) := by
  obtain ⟨A, hA⟩ : ∃ A, A = Obj.cells #[.string ⟨p.name.toArray⟩, .int .i64 p.year, .slice a3 p.opts.length c3, .slice a4 p.tabs.length c4, .slice a5 p.grps.length c5, .slice a6 p.lns.length c6, .slice a7 p.cks.length c7] 28 := ⟨_, rfl⟩
  have hb0 := (Below.refl W.heap.size W).alloc (Nat.le_refl _) A
  have hr0 := heap_alloc_new W A
  obtain ⟨X, hX⟩ : ∃ X, X = W.alloc A := ⟨_, rfl⟩
  rw [← hX] at hb0 hr0
  rw [hA] at hr0 hX
  have hXl : W.heap.size < X.heap.size := (Array.getElem?_eq_some_iff.1 hr0).1
  have hXe : W.alloc (.cells #[.string ⟨p.name.toArray⟩, .int .i64 p.year, .slice a3 p.opts.length c3, .slice a4 p.tabs.length c4, .slice a5 p.grps.length c5, .slice a6 p.lns.length c6, .slice a7 p.cks.length c7] 28) = X := hX.symm
  have hGr := row_bel hR5 hb0 (Nat.le_refl _)
  have hLr := row_bel hR6 hb0 (Nat.le_refl _)
  have hKr := row_bel hR7 hb0 (Nat.le_refl _)
  have hBx : Hid (∀ w : World, Below X.heap.size X w → (w.cell? ⟨W.heap.size, 0, none⟩ = some (.string ⟨p.name.toArray⟩) ∧ w.cell? ⟨W.heap.size, 1, none⟩ = some (.int .i64 p.year) ∧ w.cell? ⟨W.heap.size, 2, none⟩ = some (.slice a3 p.opts.length c3) ∧ w.cell? ⟨W.heap.size, 3, none⟩ = some (.slice a4 p.tabs.length c4) ∧ w.cell? ⟨W.heap.size, 4, none⟩ = some (.slice a5 p.grps.length c5) ∧ w.cell? ⟨W.heap.size, 5, none⟩ = some (.slice a6 p.lns.length c6) ∧ w.cell? ⟨W.heap.size, 6, none⟩ = some (.slice a7 p.cks.length c7))) := ⟨fun w hw => ⟨(bel_cell hw hXl 0).trans (cell_of_row _ _ 0 _ _ _ hr0), (bel_cell hw hXl 1).trans (cell_of_row _ _ 1 _ _ _ hr0), (bel_cell hw hXl 2).trans (cell_of_row _ _ 2 _ _ _ hr0), (bel_cell hw hXl 3).trans (cell_of_row _ _ 3 _ _ _ hr0), (bel_cell hw hXl 4).trans (cell_of_row _ _ 4 _ _ _ hr0), (bel_cell hw hXl 5).trans (cell_of_row _ _ 5 _ _ _ hr0), (bel_cell hw hXl 6).trans (cell_of_row _ _ 6 _ _ _ hr0)⟩⟩
  have hces : Hid (cesF p = (p.lns.map (fun l => ceF p l.group)).sum + (p.grps.map rwG).sum + (p.cks.map (fun c => ceF p c.group)).sum) := ⟨rfl⟩
  have hB1 := map_bd (fun l : Ln => ceF p l.group) (fun x => ceF_b p _) p.lns
  have hB2 := map_bd rwG rwG_b p.grps
  obtain ⟨T, hT⟩ : ∃ T, cesF p = T := ⟨_, rfl⟩
  rw [hT] at hces ⊢
  obtain ⟨N1, hN1⟩ : ∃ N1, (p.lns.map (fun l : Ln => ceF p l.group)).sum = N1 := ⟨_, rfl⟩
  obtain ⟨N2, hN2⟩ : ∃ N2, N1 + (p.grps.map rwG).sum = N2 := ⟨_, rfl⟩
  have hces2 : Hid (T = N2 + (p.cks.map (fun c => ceF p c.group)).sum) := ⟨by rw [hces.out, ← hN2, ← hN1]⟩
  have hN1b : 0 ≤ N1 ∧ N1 ≤ 8000000 := by rw [← hN1]; omega
  have hN2b : 0 ≤ N2 ∧ N2 ≤ 16000000 := by rw [← hN2]; omega
  replace hN1 := Hid.mk hN1
  replace hN2 := Hid.mk hN2
  clear hX hA hr0 hR5 hR6 hR7 hT hces hB1 hB2
  go_enter Tryz.func29, Tryz.ntmps29
  go_wp2
  go_loopw [3, 4] (fun nv iv wr => ∃ (k : Nat), k ≤ p.lns.length ∧ iv = .int .i64 (k : Int) ∧ nv = .int .i64 (0 + ((p.lns.take k).map (fun l : Ln => ceF p l.group)).sum) ∧ Below X.heap.size X wr) (fun _ iv _ => p.lns.length - (intOf iv).toNat)
  case atStart => exact ⟨0, Nat.zero_le _, rfl, by simp, Below.refl _ _⟩
  case round =>
    obtain ⟨k, hk, rfl, rfl, hb⟩ := hrel
    obtain ⟨wz, hwz⟩ : ∃ wz, wz = wr := ⟨_, rfl⟩
    rw [← hwz] at hb ⊢
    clear hwz
    obtain ⟨q0, q1, q2, q3, q4, q5, q6⟩ := hBx.out wz hb
    have hbd := map_bd (fun l : Ln => ceF p l.group) (fun x => ceF_b p x.group) (p.lns.take k)
    have htl : ((p.lns.take k).length : Int) ≤ 1000000 := by rw [List.length_take]; omega
    obtain ⟨n, hn⟩ : ∃ n, 0 + ((p.lns.take k).map (fun l : Ln => ceF p l.group)).sum = n := ⟨_, rfl⟩
    have hn0 : 0 ≤ n ∧ n ≤ 8000000 := by omega
    rw [hn]
    replace hn := Hid.mk hn
    clear hbd htl
    by_cases hlt : k < p.lns.length
    · have hlt' : (k : Int) < (p.lns.length : Int) := by omega
      have hk0 : (0 : Int) ≤ (k : Int) := by omega
      obtain ⟨ga, oa, hga⟩ := hLr.some hlt
      have hBd : Below wz.heap.size wz wz.drew := (Below.refl _ _).drew
      have hbD := belT hb hBd
      have hrw := row_bel hLr hbD (Nat.le_refl _)
      have hst := Hid.mk (map_snoc (fun l : Ln => ceF p l.group) p.lns k hlt)
      rw [hga] at hrw
      obtain ⟨cx, hcl, -, hE1, hcc⟩ := hrw.item hlt
      generalize p.lns[k] = y at *
      have hst : Hid (((p.lns.take (k + 1)).map (fun l : Ln => ceF p l.group)).sum = ((p.lns.take k).map (fun l : Ln => ceF p l.group)).sum + ceF p y.group) := hst
      obtain ⟨a1, c1, rfl, -, -⟩ := hE1
      have e1 : wz.drew.cell? ⟨ga, oa + k * 7 + 5, none⟩ = some (.int .i64 y.group) := hcc 5 (by decide)
      have hgl : ga < wz.drew.heap.size := World.block_lt_of_cell? _ _ e1
      have hcall := rrows_any p a3 a4 a5 a6 a7 c3 c4 c5 c6 c7 y.group wz.drew (row_bel hGr hbD (Nat.le_refl _))
      have hyb := ceF_b p y.group
      have hkeep : ∀ Y, Below wz.drew.heap.size wz.drew Y → Y.cell? ⟨W.heap.size, 0, none⟩ = some (.string ⟨p.name.toArray⟩) ∧ Y.cell? ⟨W.heap.size, 1, none⟩ = some (.int .i64 p.year) ∧ Y.cell? ⟨W.heap.size, 2, none⟩ = some (.slice a3 p.opts.length c3) ∧ Y.cell? ⟨W.heap.size, 3, none⟩ = some (.slice a4 p.tabs.length c4) ∧ Y.cell? ⟨W.heap.size, 4, none⟩ = some (.slice a5 p.grps.length c5) ∧ Y.cell? ⟨W.heap.size, 5, none⟩ = some (.slice (some ⟨ga, oa, none⟩) p.lns.length c6) ∧ Y.cell? ⟨W.heap.size, 6, none⟩ = some (.slice a7 p.cks.length c7) ∧ Y.cell? ⟨ga, oa + k * 7 + 5, none⟩ = some (.int .i64 y.group) := fun Y hY => by
        have h := hBx.out Y (belT hbD hY)
        rw [hga] at h
        obtain ⟨h0, h1, h2, h3, h4, h5, h6⟩ := h
        exact ⟨h0, h1, h2, h3, h4, h5, h6, (bel_cell hY hgl _).trans e1⟩
      have hS0 := hkeep wz.drew (Below.refl _ _)
      rw [hga] at q5 hcall
      have hkeepH := Hid.mk hkeep
      clear hcc hcl hrw hkeep e1 hga
      go_wp2_with fail
      go_region_held3 (fun Y => Y.cell? ⟨W.heap.size, 0, none⟩ = some (.string ⟨p.name.toArray⟩) ∧ Y.cell? ⟨W.heap.size, 1, none⟩ = some (.int .i64 p.year) ∧ Y.cell? ⟨W.heap.size, 2, none⟩ = some (.slice a3 p.opts.length c3) ∧ Y.cell? ⟨W.heap.size, 3, none⟩ = some (.slice a4 p.tabs.length c4) ∧ Y.cell? ⟨W.heap.size, 4, none⟩ = some (.slice a5 p.grps.length c5) ∧ Y.cell? ⟨W.heap.size, 5, none⟩ = some (.slice (some ⟨ga, oa, none⟩) p.lns.length c6) ∧ Y.cell? ⟨W.heap.size, 6, none⟩ = some (.slice a7 p.cks.length c7) ∧ Y.cell? ⟨ga, oa + k * 7 + 5, none⟩ = some (.int .i64 y.group)) (with_reducible assumption)
        (first | (go_at_call 65; refine hcall.mono ?_; rintro e w3 ⟨rfl, hb3⟩; have hS5 := hkeepH.out w3 hb3))
      have hbE := belT hbD hb3
      clear hcall q0 q1 q2 q3 q4 q5 q6 hkeepH hS0
      go_wp2
      go_roundw
      case rel => exact ⟨k + 1, by omega, by go_num, by rw [hst.out]; have h2 := hn.out; rw [show IntKind.i64.wrap (n + ceF p y.group) = n + ceF p y.group from wr64 _ (by omega) (by omega)]; simp only [Value.int.injEq, true_and]; omega, hbE⟩
      case measure => simp [intOf]; omega
    · have hlt' : ¬ (k : Int) < (p.lns.length : Int) := by omega
      obtain rfl : k = p.lns.length := by omega
      have hfin : Hid (N1 = n) := ⟨by have h2 := hn.out; rw [List.take_length] at h2; have h3 := hN1.out; omega⟩
      clear hn
      have hfin := hfin.out
      subst hfin
      have hbA := hb
      go_wp2
      clear hb q0 q1 q2 q3 q4 q5 q6 hlt hlt' hk hn0
      go_loopw [3, 5] (fun nv iv wr => ∃ (k : Nat), k ≤ p.grps.length ∧ iv = .int .i64 (k : Int) ∧ nv = .int .i64 (N1 + ((p.grps.take k).map rwG).sum) ∧ Below X.heap.size X wr) (fun _ iv _ => p.grps.length - (intOf iv).toNat)
      case atStart => exact ⟨0, Nat.zero_le _, rfl, by simp, hbA⟩
      case round =>
        obtain ⟨k, hk, rfl, rfl, hb⟩ := hrel
        obtain ⟨wz, hwz⟩ : ∃ wz, wz = wr := ⟨_, rfl⟩
        rw [← hwz] at hb ⊢
        clear hwz
        obtain ⟨q0, q1, q2, q3, q4, q5, q6⟩ := hBx.out wz hb
        have hbd := map_bd rwG (fun x => rwG_b x) (p.grps.take k)
        have htl : ((p.grps.take k).length : Int) ≤ 1000000 := by rw [List.length_take]; omega
        obtain ⟨n, hn⟩ : ∃ n, N1 + ((p.grps.take k).map rwG).sum = n := ⟨_, rfl⟩
        have hn0 : 0 ≤ n ∧ n ≤ 16000000 := by omega
        rw [hn]
        replace hn := Hid.mk hn
        clear hbd htl
        by_cases hlt : k < p.grps.length
        · have hlt' : (k : Int) < (p.grps.length : Int) := by omega
          have hk0 : (0 : Int) ≤ (k : Int) := by omega
          obtain ⟨ga, oa, hga⟩ := hGr.some hlt
          have hBd : Below wz.heap.size wz wz := Below.refl _ _
          have hbD := belT hb hBd
          have hrw := row_bel hGr hbD (Nat.le_refl _)
          have hst := Hid.mk (map_snoc rwG p.grps k hlt)
          rw [hga] at hrw
          obtain ⟨cx, hcl, -, hE1, hcc⟩ := hrw.item hlt
          generalize p.grps[k] = y at *
          have hst : Hid (((p.grps.take (k + 1)).map rwG).sum = ((p.grps.take k).map rwG).sum + rwG y) := hst
          obtain ⟨rfl, -⟩ := hE1
          have e1 : wz.cell? ⟨ga, oa + k * 2 + 1, none⟩ = some (.int .i64 y.2) := hcc 1 (by decide)
          have hgl : ga < wz.heap.size := World.block_lt_of_cell? _ _ e1
          have hcall := rinr_any y wz
          have hyb := rwG_b y
          have hkeep : ∀ Y, Below wz.heap.size wz Y → Y.cell? ⟨W.heap.size, 4, none⟩ = some (.slice (some ⟨ga, oa, none⟩) p.grps.length c5) ∧ Y.cell? ⟨ga, oa + k * 2 + 1, none⟩ = some (.int .i64 y.2) := fun Y hY => by
            have h := hBx.out Y (belT hbD hY)
            rw [hga] at h
            obtain ⟨h0, h1, h2, h3, h4, h5, h6⟩ := h
            exact ⟨h4, (bel_cell hY hgl _).trans e1⟩
          have hS0 := hkeep wz (Below.refl _ _)
          rw [hga] at q4
          have hkeepH := Hid.mk hkeep
          clear hcc hcl hrw hkeep e1 hga
          obtain ⟨g4, ge1⟩ := hS0
          go_wp2_with (go_at_call 66; fail)
          refine hcall.mono ?_
          rintro e w3 ⟨rfl, rfl⟩
          have hbE := hb
          clear hcall q0 q1 q2 q3 q4 q5 q6 hkeepH g4 ge1
          go_wp2
          go_roundw
          case rel => exact ⟨k + 1, by omega, by go_num, by rw [hst.out]; have h2 := hn.out; simp only [Value.int.injEq, true_and]; omega, hbE⟩
          case measure => simp [intOf]; omega
        · have hlt' : ¬ (k : Int) < (p.grps.length : Int) := by omega
          obtain rfl : k = p.grps.length := by omega
          have hfin : Hid (N2 = n) := ⟨by have h2 := hn.out; rw [List.take_length] at h2; have h3 := hN2.out; omega⟩
          clear hn
          have hfin := hfin.out
          subst hfin
          have hbB := hb
          go_wp2
          clear hb q0 q1 q2 q3 q4 q5 q6 hlt hlt' hk hn0
          go_loopw [3, 6] (fun nv iv wr => ∃ (k : Nat), k ≤ p.cks.length ∧ iv = .int .i64 (k : Int) ∧ nv = .int .i64 (N2 + ((p.cks.take k).map (fun c : Ck => ceF p c.group)).sum) ∧ Below X.heap.size X wr) (fun _ iv _ => p.cks.length - (intOf iv).toNat)
          case atStart => exact ⟨0, Nat.zero_le _, rfl, by simp, hbB⟩
          case round =>
            obtain ⟨k, hk, rfl, rfl, hb⟩ := hrel
            obtain ⟨wz, hwz⟩ : ∃ wz, wz = wr := ⟨_, rfl⟩
            rw [← hwz] at hb ⊢
            clear hwz
            obtain ⟨q0, q1, q2, q3, q4, q5, q6⟩ := hBx.out wz hb
            have hbd := map_bd (fun c : Ck => ceF p c.group) (fun x => ceF_b p x.group) (p.cks.take k)
            have htl : ((p.cks.take k).length : Int) ≤ 1000000 := by rw [List.length_take]; omega
            obtain ⟨n, hn⟩ : ∃ n, N2 + ((p.cks.take k).map (fun c : Ck => ceF p c.group)).sum = n := ⟨_, rfl⟩
            have hn0 : 0 ≤ n ∧ n ≤ 24000000 := by omega
            rw [hn]
            replace hn := Hid.mk hn
            clear hbd htl
            by_cases hlt : k < p.cks.length
            · have hlt' : (k : Int) < (p.cks.length : Int) := by omega
              have hk0 : (0 : Int) ≤ (k : Int) := by omega
              obtain ⟨ga, oa, hga⟩ := hKr.some hlt
              have hBd : Below wz.heap.size wz wz.drew := (Below.refl _ _).drew
              have hbD := belT hb hBd
              have hrw := row_bel hKr hbD (Nat.le_refl _)
              have hst := Hid.mk (map_snoc (fun c : Ck => ceF p c.group) p.cks k hlt)
              rw [hga] at hrw
              obtain ⟨cx, hcl, -, hE1, hcc⟩ := hrw.item hlt
              generalize p.cks[k] = y at *
              have hst : Hid (((p.cks.take (k + 1)).map (fun c : Ck => ceF p c.group)).sum = ((p.cks.take k).map (fun c : Ck => ceF p c.group)).sum + ceF p y.group) := hst
              obtain ⟨a1, c1, rfl, -, -, -⟩ := hE1
              have e1 : wz.drew.cell? ⟨ga, oa + k * 9 + 2, none⟩ = some (.int .i64 y.group) := hcc 2 (by decide)
              have hgl : ga < wz.drew.heap.size := World.block_lt_of_cell? _ _ e1
              have hcall := rrows_any p a3 a4 a5 a6 a7 c3 c4 c5 c6 c7 y.group wz.drew (row_bel hGr hbD (Nat.le_refl _))
              have hyb := ceF_b p y.group
              have hkeep : ∀ Y, Below wz.drew.heap.size wz.drew Y → Y.cell? ⟨W.heap.size, 0, none⟩ = some (.string ⟨p.name.toArray⟩) ∧ Y.cell? ⟨W.heap.size, 1, none⟩ = some (.int .i64 p.year) ∧ Y.cell? ⟨W.heap.size, 2, none⟩ = some (.slice a3 p.opts.length c3) ∧ Y.cell? ⟨W.heap.size, 3, none⟩ = some (.slice a4 p.tabs.length c4) ∧ Y.cell? ⟨W.heap.size, 4, none⟩ = some (.slice a5 p.grps.length c5) ∧ Y.cell? ⟨W.heap.size, 5, none⟩ = some (.slice a6 p.lns.length c6) ∧ Y.cell? ⟨W.heap.size, 6, none⟩ = some (.slice (some ⟨ga, oa, none⟩) p.cks.length c7) ∧ Y.cell? ⟨ga, oa + k * 9 + 2, none⟩ = some (.int .i64 y.group) := fun Y hY => by
                have h := hBx.out Y (belT hbD hY)
                rw [hga] at h
                obtain ⟨h0, h1, h2, h3, h4, h5, h6⟩ := h
                exact ⟨h0, h1, h2, h3, h4, h5, h6, (bel_cell hY hgl _).trans e1⟩
              have hS0 := hkeep wz.drew (Below.refl _ _)
              rw [hga] at q6 hcall
              have hkeepH := Hid.mk hkeep
              clear hcc hcl hrw hkeep e1 hga
              go_wp2_with fail
              go_region_held3 (fun Y => Y.cell? ⟨W.heap.size, 0, none⟩ = some (.string ⟨p.name.toArray⟩) ∧ Y.cell? ⟨W.heap.size, 1, none⟩ = some (.int .i64 p.year) ∧ Y.cell? ⟨W.heap.size, 2, none⟩ = some (.slice a3 p.opts.length c3) ∧ Y.cell? ⟨W.heap.size, 3, none⟩ = some (.slice a4 p.tabs.length c4) ∧ Y.cell? ⟨W.heap.size, 4, none⟩ = some (.slice a5 p.grps.length c5) ∧ Y.cell? ⟨W.heap.size, 5, none⟩ = some (.slice a6 p.lns.length c6) ∧ Y.cell? ⟨W.heap.size, 6, none⟩ = some (.slice (some ⟨ga, oa, none⟩) p.cks.length c7) ∧ Y.cell? ⟨ga, oa + k * 9 + 2, none⟩ = some (.int .i64 y.group)) (with_reducible assumption)
                (first | (go_at_call 65; refine hcall.mono ?_; rintro e w3 ⟨rfl, hb3⟩; have hS5 := hkeepH.out w3 hb3))
              have hbE := belT hbD hb3
              clear hcall q0 q1 q2 q3 q4 q5 q6 hkeepH hS0
              go_wp2
              go_roundw
              case rel => exact ⟨k + 1, by omega, by go_num, by rw [hst.out]; have h2 := hn.out; rw [show IntKind.i64.wrap (n + ceF p y.group) = n + ceF p y.group from wr64 _ (by omega) (by omega)]; simp only [Value.int.injEq, true_and]; omega, hbE⟩
              case measure => simp [intOf]; omega
            · have hlt' : ¬ (k : Int) < (p.cks.length : Int) := by omega
              obtain rfl : k = p.cks.length := by omega
              have hfin : Hid (T = n) := ⟨by have h2 := hn.out; rw [List.take_length] at h2; have h3 := hces2.out; omega⟩
              clear hn
              clear q0 q1 q2 q3 q5 q4
              go_wp2
              go_ret
              exact ⟨congrArg (fun z => Ending.returned (.int .i64 z)) hfin.out.symm, belT hb0 hb⟩

end Go.Proofs.YtmklkcefbabhbaaGreat.R6

import Derived.Test.YthnmjafoplfikaaGreatDoorJoin54
import Derived.Test.YthnmjafoplfikaaGreatDoorTurnRmPack
import Derived.Deep.CutBlock
import Derived.Deep.DeepCutAuto
import Derived.Test.YthnmjafoplfikaaGreatDoorTurnYSh
import Derived.Test.YthnmjafoplfikaaGreatDoorJoin51
import Derived.Test.YthnmjafoplfikaaGreatDoorJoin50
namespace Go.Proofs.YthnmjafoplfikaaGreatDoor
open Go.RowKit

/-- What Few tells. -/
def FwP (p : Pk) (W : World) (e : Ending) (W' : World) : Prop := ∃ o : Bool, e = .returned (.bool o) ∧ Below W.heap.size W W' ∧ Hid (o = true → SzR p ∧ cP p ≤ 1000000)
theorem sum_mem {α : Type} (f : α → Nat) : ∀ (xs : List α) (x : α), x ∈ xs → f x ≤ cSum f xs
  | [], x, h => by cases h
  | y :: ys, x, h => by
    have h0 : cSum f (y :: ys) = f y + cSum f ys := by simp [cSum]
    rcases List.mem_cons.1 h with rfl | h
    · omega
    · have := sum_mem f ys x h
      omega
theorem take_one {α : Type} (f : α → Nat) (xs : List α) (k : Nat) (h : k < xs.length) : cSum f (xs.take (k + 1)) = cSum f (xs.take k) + f xs[k] := by
  rw [List.take_succ_eq_append_getElem h, cSum_snoc]
/-- A box of seven cells. -/
theorem few_end (p : Pk) (n : Int) (hn : n ≤ 10000) (he : n = (p.opts.length : Int) + p.tabs.length + p.grps.length + p.lns.length + p.cks.length + cSum (fun x => x.2.length) p.opts + cSum (fun x => x.2.length) p.tabs + cSum wK p.cks + cSum (fun l : Ln => cSum wC l.cls) p.lns) : SzR p ∧ cP p ≤ 1000000 := by
  have hq : ∀ xs : List Ln, cSum wL xs = cSum (fun l : Ln => cSum wC l.cls) xs + xs.length := by
    intro xs
    induction xs with
    | nil => rfl
    | cons x xs ih =>
      have h1 : cSum wL (x :: xs) = wL x + cSum wL xs := by simp [cSum]
      have h2 : cSum (fun l : Ln => cSum wC l.cls) (x :: xs) = cSum wC x.cls + cSum (fun l : Ln => cSum wC l.cls) xs := by simp [cSum]
      have h3 : wL x = cSum wC x.cls + 1 := rfl
      rw [h1, h2, ih, h3, List.length_cons]; omega
  have hL := hq p.lns
  have hcl : ∀ xs : List Cl, xs.length ≤ cSum wC xs := by
    intro xs
    induction xs with
    | nil => exact Nat.le_refl _
    | cons x xs ih =>
      have h1 : cSum wC (x :: xs) = wC x + cSum wC xs := by simp [cSum]
      have h3 : wC x = cNf x.guard.args + cNf x.body.args + 2 := rfl
      rw [h1, h3, List.length_cons]; omega
  have e1 : cLn p.lns = cSum wL p.lns := rfl
  have e2 : cK p.cks = cSum wK p.cks := rfl
  refine ⟨⟨by omega, fun x hx => ?_, by omega, fun x hx => ?_, by omega, by omega, fun x hx => ?_, by omega, by omega, by omega⟩, ?_⟩
  · have := sum_mem (fun x : List UInt8 × List (List UInt8) => x.2.length) _ x hx
    omega
  · have := sum_mem (fun x : List UInt8 × List (Int × Int) => x.2.length) _ x hx
    omega
  · have h1 := sum_mem (fun l : Ln => cSum wC l.cls) _ x hx
    have h2 := hcl x.cls
    omega
  · unfold cP cO; omega

set_option maxRecDepth 4000 in
set_option maxHeartbeats 4000000 in
theorem few_any (p : Pk) (a3 a4 a5 a6 a7 : Option Addr) (c3 c4 c5 c6 c7 : Nat) (W : World) (hs : SwP p) (h0 : RowR eO W AnyB p.opts a3) (h1 : RowR eT W AnyB p.tabs a4) (h3 : RowR eL W AnyB p.lns a6) (h4 : RowR eK W AnyB p.cks a7) :
    Calls Tryz.prog 4 #[.agg #[.string ⟨p.name.toArray⟩, .int .i64 p.year, .slice a3 p.opts.length c3, .slice a4 p.tabs.length c4, .slice a5 p.grps.length c5, .slice a6 p.lns.length c6, .slice a7 p.cks.length c7]] W (FwP p W) := by
  obtain ⟨A, hA⟩ : ∃ A, A = Obj.cells #[.string ⟨p.name.toArray⟩, .int .i64 p.year, .slice a3 p.opts.length c3, .slice a4 p.tabs.length c4, .slice a5 p.grps.length c5, .slice a6 p.lns.length c6, .slice a7 p.cks.length c7] 28 := ⟨_, rfl⟩
  have hb0 := bel_alloc W A
  have hr0 := heap_alloc_new W A
  obtain ⟨X, hX⟩ : ∃ X, X = W.alloc A := ⟨_, rfl⟩
  rw [← hX] at hb0 hr0
  rw [hA] at hr0 hX
  have hXl : W.heap.size < X.heap.size := (Array.getElem?_eq_some_iff.1 hr0).1
  have hXe : W.alloc (.cells #[.string ⟨p.name.toArray⟩, .int .i64 p.year, .slice a3 p.opts.length c3, .slice a4 p.tabs.length c4, .slice a5 p.grps.length c5, .slice a6 p.lns.length c6, .slice a7 p.cks.length c7] 28) = X := hX.symm
  have hOr := row_bel h0 hb0 (Nat.le_refl _)
  have hTr := row_bel h1 hb0 (Nat.le_refl _)
  have hLr := row_bel h3 hb0 (Nat.le_refl _)
  have hKr := row_bel h4 hb0 (Nat.le_refl _)
  have b2 : X.cell? ⟨W.heap.size, 2, none⟩ = some (.slice a3 p.opts.length c3) := cell_of_row _ _ 2 _ _ _ hr0
  have b3 : X.cell? ⟨W.heap.size, 3, none⟩ = some (.slice a4 p.tabs.length c4) := cell_of_row _ _ 3 _ _ _ hr0
  have b4 : X.cell? ⟨W.heap.size, 4, none⟩ = some (.slice a5 p.grps.length c5) := cell_of_row _ _ 4 _ _ _ hr0
  have b5 : X.cell? ⟨W.heap.size, 5, none⟩ = some (.slice a6 p.lns.length c6) := cell_of_row _ _ 5 _ _ _ hr0
  have b6 : X.cell? ⟨W.heap.size, 6, none⟩ = some (.slice a7 p.cks.length c7) := cell_of_row _ _ 6 _ _ _ hr0
  obtain ⟨⟨so, so2⟩, ⟨st, st2⟩, sg, ⟨sl, sl2⟩, sk, sk2⟩ := hs
  have hfin := Hid.mk (few_end p)
  obtain ⟨Q, hQ⟩ : ∃ Q, FwP p W = Q := ⟨_, rfl⟩
  have hno : Hid (∀ (o : Bool) W', Below X.heap.size X W' → (o = true → SzR p ∧ cP p ≤ 1000000) → Q (.returned (.bool o)) W') := ⟨fun o W' hb ho => by rw [← hQ]; exact ⟨o, rfl, bel2 hb0 hb, ⟨ho⟩⟩⟩
  rw [hQ]
  generalize hOs : p.opts = os at *
  generalize hTs : p.tabs = ts at *
  generalize hLs : p.lns = ls at *
  generalize hKs : p.cks = ks at *
  generalize hGs : p.grps.length = gl at *
  replace so2 := Hid.mk so2
  replace st2 := Hid.mk st2
  replace sl2 := Hid.mk sl2
  replace sk2 := Hid.mk sk2
  clear hX hA hr0 hb0 h0 h1 h3 h4 hOs hTs hLs hKs hGs hQ
  go_enter Tryz.func4, Tryz.ntmps4
  go_upto_block 0 with fail
  have hN0 : (0 : Int) ≤ (os.length : Int) + ts.length + gl + ls.length + ks.length ∧ (os.length : Int) + ts.length + gl + ls.length + ks.length ≤ 1000000000000000 := by omega
  obtain ⟨N0, hN0e⟩ : ∃ N0 : Int, N0 = (os.length : Int) + ts.length + gl + ls.length + ks.length := ⟨_, rfl⟩
  rw [← hN0e] at hN0 ⊢
  replace hN0e := Hid.mk hN0e
  go_cut [3] (fun nv wx => ∃ n : Int, nv = .int .i64 n ∧ Below X.heap.size X wx ∧ (0 ≤ n ∧ n ≤ 1000000000000000) ∧ Hid (n ≤ 10000 → n = N0 + cSum (fun x : List UInt8 × List (List UInt8) => x.2.length) os))
  case first =>
    go_wp2_with fail
    go_loopw [3, 4] (fun nv iv wr => ∃ (k : Nat) (n : Int), k ≤ os.length ∧ iv = .int .i64 (k : Int) ∧ nv = .int .i64 n ∧ (0 ≤ n ∧ n ≤ 1000000000000000) ∧ Hid (n ≤ 10000 → n = N0 + cSum (fun x : List UInt8 × List (List UInt8) => x.2.length) (os.take k)) ∧ Below X.heap.size X wr) (fun _ iv _ => os.length - (intOf iv).toNat)
    case atStart => exact ⟨0, N0, Nat.zero_le _, rfl, rfl, ⟨by omega, by omega⟩, ⟨fun _ => by simp [cSum]⟩, Below.refl _ _⟩
    case round =>
      obtain ⟨k, n, hk, rfl, rfl, ⟨hn0, hn1⟩, hn, hb⟩ := hrel
      obtain ⟨wz, hwz⟩ : ∃ wz, wz = wr := ⟨_, rfl⟩
      rw [← hwz] at hb ⊢
      clear hwz
      have d := (bel_cell hb hXl 2).trans b2
      by_cases hlt : k < os.length
      · have hlt' : (k : Int) < (os.length : Int) := by omega
        have hk0 : (0 : Int) ≤ (k : Int) := by omega
        by_cases hle : n ≤ 10000
        · obtain ⟨ga, oa, hga⟩ := hOr.some hlt
          have hrw := row_bel hOr hb (Nat.le_refl _)
          rw [hga] at hrw d
          clear hga
          obtain ⟨cx, hcl, -, hE1, hcc⟩ := hrw.item hlt
          have hym := so2.out _ (List.getElem_mem hlt)
          have htk := Hid.mk (take_one (fun x : List UInt8 × List (List UInt8) => x.2.length) os k hlt)
          generalize os[k] = y at *
          obtain ⟨a1, c1, rfl, -⟩ := hE1
          have e1 : wz.cell? ⟨ga, oa + k * 2 + 1, none⟩ = some (.slice a1 y.2.length c1) := hcc 1 (by decide)
          have hnv := hn.out hle
          have hnvH := Hid.mk hnv
          clear hcc hcl hn hnv hrw
          go_wp2
          go_roundw
          case rel => exact ⟨k + 1, n + (y.2.length : Int), by omega, by go_num, by go_num, ⟨by omega, by omega⟩, ⟨fun h => by have h2 := hnvH.out; have h3 := htk.out; omega⟩, hb⟩
          case measure => simp [intOf]; omega
        · have hle' : ¬ n ≤ 10000 := hle
          clear hn
          go_wp2_with fail
          go_meet
          exact ⟨n, rfl, hb, ⟨hn0, hn1⟩, ⟨fun h => by omega⟩⟩
      · have hlt' : ¬ (k : Int) < (os.length : Int) := by omega
        obtain rfl : k = os.length := by omega
        rw [List.take_length] at hn
        go_wp2_with fail
        go_meet
        exact ⟨n, rfl, hb, ⟨hn0, hn1⟩, hn⟩
  case rest =>
  obtain ⟨N1, rfl, hb1, ⟨hn10, hn11⟩, hN1⟩ := hcut
  obtain ⟨w1, hw1⟩ : ∃ w1, w1 = wc := ⟨_, rfl⟩
  rw [← hw1] at hb1 ⊢
  clear hw1
  go_upto_block 2 with fail
  go_cut [3] (fun nv wx => ∃ n : Int, nv = .int .i64 n ∧ Below X.heap.size X wx ∧ (0 ≤ n ∧ n ≤ 1000000000000000) ∧ Hid (n ≤ 10000 → n = N1 + cSum (fun x : List UInt8 × List (Int × Int) => x.2.length) ts))
  case first =>
    go_wp2_with fail
    go_loopw [3, 5] (fun nv iv wr => ∃ (k : Nat) (n : Int), k ≤ ts.length ∧ iv = .int .i64 (k : Int) ∧ nv = .int .i64 n ∧ (0 ≤ n ∧ n ≤ 1000000000000000) ∧ Hid (n ≤ 10000 → n = N1 + cSum (fun x : List UInt8 × List (Int × Int) => x.2.length) (ts.take k)) ∧ Below X.heap.size X wr) (fun _ iv _ => ts.length - (intOf iv).toNat)
    case atStart => exact ⟨0, N1, Nat.zero_le _, rfl, rfl, ⟨by omega, by omega⟩, ⟨fun _ => by simp [cSum]⟩, hb1⟩
    case round =>
      obtain ⟨k, n, hk, rfl, rfl, ⟨hn0, hn1⟩, hn, hb⟩ := hrel
      obtain ⟨wz, hwz⟩ : ∃ wz, wz = wr := ⟨_, rfl⟩
      rw [← hwz] at hb ⊢
      clear hwz
      have d := (bel_cell hb hXl 3).trans b3
      by_cases hlt : k < ts.length
      · have hlt' : (k : Int) < (ts.length : Int) := by omega
        have hk0 : (0 : Int) ≤ (k : Int) := by omega
        by_cases hle : n ≤ 10000
        · obtain ⟨ga, oa, hga⟩ := hTr.some hlt
          have hrw := row_bel hTr hb (Nat.le_refl _)
          rw [hga] at hrw d
          clear hga
          obtain ⟨cx, hcl, -, hE1, hcc⟩ := hrw.item hlt
          have hym := st2.out _ (List.getElem_mem hlt)
          have htk := Hid.mk (take_one (fun x : List UInt8 × List (Int × Int) => x.2.length) ts k hlt)
          generalize ts[k] = y at *
          obtain ⟨a1, c1, rfl, -⟩ := hE1
          have e1 : wz.cell? ⟨ga, oa + k * 2 + 1, none⟩ = some (.slice a1 y.2.length c1) := hcc 1 (by decide)
          have hnv := hn.out hle
          have hnvH := Hid.mk hnv
          clear hcc hcl hn hnv hrw
          go_wp2
          go_roundw
          case rel => exact ⟨k + 1, n + (y.2.length : Int), by omega, by go_num, by go_num, ⟨by omega, by omega⟩, ⟨fun h => by have h2 := hnvH.out; have h3 := htk.out; omega⟩, hb⟩
          case measure => simp [intOf]; omega
        · have hle' : ¬ n ≤ 10000 := hle
          clear hn
          go_wp2_with fail
          go_meet
          exact ⟨n, rfl, hb, ⟨hn0, hn1⟩, ⟨fun h => by omega⟩⟩
      · have hlt' : ¬ (k : Int) < (ts.length : Int) := by omega
        obtain rfl : k = ts.length := by omega
        rw [List.take_length] at hn
        go_wp2_with fail
        go_meet
        exact ⟨n, rfl, hb, ⟨hn0, hn1⟩, hn⟩
  case rest =>
  obtain ⟨N2, rfl, hb2, ⟨hn20, hn21⟩, hN2⟩ := hcut
  obtain ⟨w2, hw2⟩ : ∃ w2, w2 = wc := ⟨_, rfl⟩
  rw [← hw2] at hb2 ⊢
  clear hw2
  go_upto_block 4 with fail
  go_cut [3] (fun nv wx => ∃ n : Int, nv = .int .i64 n ∧ Below X.heap.size X wx ∧ (0 ≤ n ∧ n ≤ 1000000000000000) ∧ Hid (n ≤ 10000 → n = N2 + cSum wK ks))
  case first =>
    go_wp2_with fail
    go_loopw [3, 6] (fun nv iv wr => ∃ (k : Nat) (n : Int), k ≤ ks.length ∧ iv = .int .i64 (k : Int) ∧ nv = .int .i64 n ∧ (0 ≤ n ∧ n ≤ 1000000000000000) ∧ Hid (n ≤ 10000 → n = N2 + cSum wK (ks.take k)) ∧ Below X.heap.size X wr) (fun _ iv _ => ks.length - (intOf iv).toNat)
    case atStart => exact ⟨0, N2, Nat.zero_le _, rfl, rfl, ⟨by omega, by omega⟩, ⟨fun _ => by simp [cSum]⟩, hb2⟩
    case round =>
      obtain ⟨k, n, hk, rfl, rfl, ⟨hn0, hn1⟩, hn, hb⟩ := hrel
      obtain ⟨wz, hwz⟩ : ∃ wz, wz = wr := ⟨_, rfl⟩
      rw [← hwz] at hb ⊢
      clear hwz
      have d := (bel_cell hb hXl 6).trans b6
      by_cases hlt : k < ks.length
      · have hlt' : (k : Int) < (ks.length : Int) := by omega
        have hk0 : (0 : Int) ≤ (k : Int) := by omega
        by_cases hle : n ≤ 10000
        · obtain ⟨ga, oa, hga⟩ := hKr.some hlt
          have hrw := row_bel hKr hb (Nat.le_refl _)
          rw [hga] at hrw d
          clear hga
          obtain ⟨cx, hcl, -, hE1, hcc⟩ := hrw.item hlt
          have hym := sk2.out _ (List.getElem_mem hlt)
          have htk := Hid.mk (take_one wK ks k hlt)
          generalize ks[k] = y at *
          obtain ⟨a1, c1, rfl, -, -, hFo⟩ := hE1
          have e0 : wz.cell? ⟨ga, oa + k * 9 + 3, none⟩ = some (.int .i64 y.when_.op) := hcc 3 (by decide)
          have e1 : wz.cell? ⟨ga, oa + k * 9 + 4, none⟩ = some (.int .i64 y.when_.num) := hcc 4 (by decide)
          have e2 : wz.cell? ⟨ga, oa + k * 9 + 5, none⟩ = some (.int .i64 y.when_.den) := hcc 5 (by decide)
          have e3 : wz.cell? ⟨ga, oa + k * 9 + 6, none⟩ = some (.int .i64 y.when_.mode) := hcc 6 (by decide)
          have e4 : wz.cell? ⟨ga, oa + k * 9 + 7, none⟩ = some (.slice a1 y.when_.args.len c1) := hcc 7 (by decide)
          have hcall := parts_two y.when_ a1 c1 wz (10000 - n) (by omega) (by omega) hym hFo
          have hnv := hn.out hle
          have hnvH := Hid.mk hnv
          have hwy : Hid (wK y = cNf y.when_.args + 1) := ⟨rfl⟩
          clear hcc hcl hn hnv hrw hFo hym
          go_wp2_with (go_at_call 17; fail)
          refine hcall.mono ?_
          rintro e w3 ⟨r, rfl, ⟨hr0, hr1, hrm⟩, hr, hb3⟩
          clear e0 e1 e2 e3 e4 hcall d hrm
          go_wp2
          go_roundw
          case rel => exact ⟨k + 1, n + r, by omega, by go_num, by go_num, ⟨by omega, by omega⟩, ⟨fun h => by have h1 := hr.out (by omega); have h2 := hnvH.out; have h3 := htk.out; have h4 := hwy.out; omega⟩, bel2 hb hb3⟩
          case measure => simp [intOf]; omega
        · have hle' : ¬ n ≤ 10000 := hle
          clear hn
          go_wp2_with fail
          go_meet
          exact ⟨n, rfl, hb, ⟨hn0, hn1⟩, ⟨fun h => by omega⟩⟩
      · have hlt' : ¬ (k : Int) < (ks.length : Int) := by omega
        obtain rfl : k = ks.length := by omega
        rw [List.take_length] at hn
        go_wp2_with fail
        go_meet
        exact ⟨n, rfl, hb, ⟨hn0, hn1⟩, hn⟩
  case rest =>
  obtain ⟨N3, rfl, hb3, ⟨hn30, hn31⟩, hN3⟩ := hcut
  obtain ⟨w3, hw3⟩ : ∃ w3, w3 = wc := ⟨_, rfl⟩
  rw [← hw3] at hb3 ⊢
  clear hw3
  go_upto_block 6 with fail
  go_cut [3] (fun nv wx => ∃ n : Int, nv = .int .i64 n ∧ Below X.heap.size X wx ∧ (0 ≤ n ∧ n ≤ 1000000000000000) ∧ Hid (n ≤ 10000 → n = N3 + cSum (fun l : Ln => cSum wC l.cls) ls))
  case first =>
    go_wp2_with fail
    go_loopw [3, 7] (fun nv iv wr => ∃ (k : Nat) (n : Int), k ≤ ls.length ∧ iv = .int .i64 (k : Int) ∧ nv = .int .i64 n ∧ (0 ≤ n ∧ n ≤ 1000000000000000) ∧ Hid (n ≤ 10000 → n = N3 + cSum (fun l : Ln => cSum wC l.cls) (ls.take k)) ∧ Below X.heap.size X wr) (fun _ iv _ => ls.length - (intOf iv).toNat)
    case atStart => exact ⟨0, N3, Nat.zero_le _, rfl, rfl, ⟨by omega, by omega⟩, ⟨fun _ => by simp [cSum]⟩, hb3⟩
    case round =>
      obtain ⟨k, n, hk, rfl, rfl, ⟨hn0, hn1⟩, hn, hb⟩ := hrel
      obtain ⟨wz, hwz⟩ : ∃ wz, wz = wr := ⟨_, rfl⟩
      rw [← hwz] at hb ⊢
      clear hwz
      have d := (bel_cell hb hXl 5).trans b5
      by_cases hlt : k < ls.length
      · have hlt' : (k : Int) < (ls.length : Int) := by omega
        have hk0 : (0 : Int) ≤ (k : Int) := by omega
        by_cases hle : n ≤ 10000
        · obtain ⟨ga, oa, hga⟩ := hLr.some hlt
          have hrw := row_bel hLr hb (Nat.le_refl _)
          rw [hga] at hrw d
          clear hga
          obtain ⟨cx, hcl, -, hE1, hcc⟩ := hrw.item hlt
          have hym := sl2.out _ (List.getElem_mem hlt)
          have htk := Hid.mk (take_one (fun l : Ln => cSum wC l.cls) ls k hlt)
          generalize ls[k] = y at *
          obtain ⟨a1, c1, rfl, -, hCr⟩ := hE1
          have e6 : wz.cell? ⟨ga, oa + k * 7 + 6, none⟩ = some (.slice a1 y.cls.length c1) := hcc 6 (by decide)
          have hnv := hn.out hle
          have hnvH := Hid.mk hnv
          have hyl := hym.1
          have hyl2 := Hid.mk hym.2
          have htk : Hid (cSum (fun l : Ln => cSum wC l.cls) (ls.take (k + 1)) = cSum (fun l : Ln => cSum wC l.cls) (ls.take k) + cSum wC y.cls) := htk
          generalize y.cls = cl at *
          clear hcc hcl hn hnv hrw hym
          · skip
            go_wp2_with fail
            clear d e6
            go_loopw [3, 9] (fun nv iv wr => ∃ (k2 : Nat) (m : Int), k2 ≤ cl.length ∧ iv = .int .i64 (k2 : Int) ∧ nv = .int .i64 m ∧ (0 ≤ m ∧ m ≤ 1000000000000000) ∧ Hid (m ≤ 10000 → m = n + cSum wC (cl.take k2)) ∧ Below wz.heap.size wz wr) (fun _ iv _ => cl.length - (intOf iv).toNat)
            case atStart => exact ⟨0, n, Nat.zero_le _, rfl, rfl, ⟨by omega, by omega⟩, ⟨fun _ => by simp [cSum]⟩, Below.refl _ _⟩
            case round =>
              obtain ⟨k2, m, hk2, rfl, rfl, ⟨hm0, hm1⟩, hm, hb'⟩ := hrel
              obtain ⟨wy, hwy⟩ : ∃ wy, wy = wr := ⟨_, rfl⟩
              rw [← hwy] at hb' ⊢
              clear hwy
              by_cases hlt2 : k2 < cl.length
              · have hlt2' : (k2 : Int) < (cl.length : Int) := by omega
                have hk20 : (0 : Int) ≤ (k2 : Int) := by omega
                by_cases hle2 : m ≤ 10000
                · obtain ⟨gb, ob, hgb⟩ := hCr.some hlt2
                  have hrw2 := row_bel hCr hb' (Nat.le_refl _)
                  rw [hgb] at hrw2 ⊢
                  clear hgb
                  obtain ⟨cx2, hcl2, -, hE2, hcc2⟩ := hrw2.item hlt2
                  have hym2 := hyl2.out _ (List.getElem_mem hlt2)
                  have htk2 := Hid.mk (take_one wC cl k2 hlt2)
                  generalize cl[k2] = z at *
                  obtain ⟨a2, c2, a3b, c3b, rfl, -, -, hFg, hFb⟩ := hE2
                  have e0 : wy.cell? ⟨gb, ob + k2 * 12 + 2, none⟩ = some (.int .i64 z.guard.op) := hcc2 2 (by decide)
                  have e1 : wy.cell? ⟨gb, ob + k2 * 12 + 3, none⟩ = some (.int .i64 z.guard.num) := hcc2 3 (by decide)
                  have e2 : wy.cell? ⟨gb, ob + k2 * 12 + 4, none⟩ = some (.int .i64 z.guard.den) := hcc2 4 (by decide)
                  have e3 : wy.cell? ⟨gb, ob + k2 * 12 + 5, none⟩ = some (.int .i64 z.guard.mode) := hcc2 5 (by decide)
                  have e4 : wy.cell? ⟨gb, ob + k2 * 12 + 6, none⟩ = some (.slice a2 z.guard.args.len c2) := hcc2 6 (by decide)
                  have hcall := parts_two z.guard a2 c2 wy (10000 - m) (by omega) (by omega) hym2.1 hFg
                  have hnv := hm.out hle2
                  have hnvH2 := Hid.mk hnv
                  have hwz2 : Hid (wC z = cNf z.guard.args + cNf z.body.args + 2) := ⟨rfl⟩
                  have hgl : gb < wy.heap.size := World.block_lt_of_cell? _ _ e0
                  have hcc2 := Hid.mk hcc2
                  clear hcl2 hm hnv hrw2 hFg
                  go_wp2_with (go_at_call 17; fail)
                  refine hcall.mono ?_
                  rintro e w4 ⟨r, rfl, ⟨hr0, hr1, hrm⟩, hr, hb4⟩
                  replace hrm := hrm (by omega)
                  clear e0 e1 e2 e3 e4 hcall
                  have hcc3 := fun j hj => (bel_cell hb4 hgl (ob + k2 * 12 + j)).trans (hcc2.out j hj)
                  have e0 : w4.cell? ⟨gb, ob + k2 * 12 + 7, none⟩ = some (.int .i64 z.body.op) := hcc3 7 (by decide)
                  have e1 : w4.cell? ⟨gb, ob + k2 * 12 + 8, none⟩ = some (.int .i64 z.body.num) := hcc3 8 (by decide)
                  have e2 : w4.cell? ⟨gb, ob + k2 * 12 + 9, none⟩ = some (.int .i64 z.body.den) := hcc3 9 (by decide)
                  have e3 : w4.cell? ⟨gb, ob + k2 * 12 + 10, none⟩ = some (.int .i64 z.body.mode) := hcc3 10 (by decide)
                  have e4 : w4.cell? ⟨gb, ob + k2 * 12 + 11, none⟩ = some (.slice a3b z.body.args.len c3b) := hcc3 11 (by decide)
                  have hcall := parts_two z.body a3b c3b w4 (10000 - (m + r)) (by omega) (by omega) hym2.2 (fo_bel hFb hb4 (Nat.le_refl _))
                  clear hcc2 hcc3 hFb
                  go_wp2_with (go_at_call 17; fail)
                  refine hcall.mono ?_
                  rintro e w5 ⟨r2, rfl, ⟨hr20, hr21, hrm2⟩, hr2, hb5⟩
                  clear e0 e1 e2 e3 e4 hcall hrm2
                  go_wp2
                  go_roundw
                  case rel => exact ⟨k2 + 1, m + r + r2, by omega, by go_num, by go_num, ⟨by omega, by omega⟩, ⟨fun h => by have h1 := hr.out (by omega); have h5 := hr2.out (by omega); have h2 := hnvH2.out; have h3 := htk2.out; have h4 := hwz2.out; omega⟩, bel2 (bel2 hb' hb4) hb5⟩
                  case measure => simp [intOf]; omega
                · have hle' : ¬ m ≤ 10000 := hle2
                  clear hm
                  go_wp2
                  go_roundw
                  case rel => exact ⟨k + 1, m, by omega, by go_num, by go_num, ⟨hm0, hm1⟩, ⟨fun h => by omega⟩, bel2 hb hb'⟩
                  case measure => simp [intOf]; omega
              · have hlt' : ¬ (k2 : Int) < (cl.length : Int) := by omega
                obtain rfl : k2 = cl.length := by omega
                rw [List.take_length] at hm
                go_wp2
                go_roundw
                case rel => exact ⟨k + 1, m, by omega, by go_num, by go_num, ⟨hm0, hm1⟩, ⟨fun h => by have h1 := hm.out h; have h2 := hnvH.out; have h3 := htk.out; omega⟩, bel2 hb hb'⟩
                case measure => simp [intOf]; omega
        · have hle' : ¬ n ≤ 10000 := hle
          clear hn
          go_wp2_with fail
          go_meet
          exact ⟨n, rfl, hb, ⟨hn0, hn1⟩, ⟨fun h => by omega⟩⟩
      · have hlt' : ¬ (k : Int) < (ls.length : Int) := by omega
        obtain rfl : k = ls.length := by omega
        rw [List.take_length] at hn
        go_wp2_with fail
        go_meet
        exact ⟨n, rfl, hb, ⟨hn0, hn1⟩, hn⟩
  case rest =>
  obtain ⟨N4, rfl, hb4, ⟨hn40, hn41⟩, hN4⟩ := hcut
  obtain ⟨w4, hw4⟩ : ∃ w4, w4 = wc := ⟨_, rfl⟩
  rw [← hw4] at hb4 ⊢
  clear hw4
  by_cases hle : N4 ≤ 10000
  · have hf := hno.out true w4 hb4 (fun _ => hfin.out N4 hle (by have h4 := hN4.out hle; have h3 := hN3.out (by omega); have h2 := hN2.out (by omega); have h1 := hN1.out (by omega); have h0 := hN0e.out; omega))
    clear hno hfin
    go_wp2
    exact hf
  · have hle' : ¬ N4 ≤ 10000 := hle
    have hf := hno.out false w4 hb4 (fun h => by cases h)
    clear hno hfin
    go_wp2
    exact hf

end Go.Proofs.YthnmjafoplfikaaGreatDoor


namespace Go.Proofs.YthnmjafoplfikaaGreatDoor
open Go.RowKit

theorem sz_sw : ∀ f : Fo, SwF f → SzF f
  | .nil, _ => trivial
  | .cons _ _ _ _ _ r, h => ⟨by have := h.1.1; omega, sz_sw _ h.1.2, sz_sw r h.2⟩
theorem szE_sw {x : Ex} (h : SwE x) : SzE x := ⟨by have := h.1; omega, sz_sw _ h.2⟩
theorem szL_sw {x : Ln} (h : SwL x) : SzL x := ⟨by have := h.1; omega, fun c hc => ⟨szE_sw (h.2 c hc).1, szE_sw (h.2 c hc).2⟩⟩
/-- The lists of a pack. -/
def PRows (W : World) (p : Pk) (a3 a4 a5 a6 a7 : Option Addr) : Prop := RowR eO W AnyB p.opts a3 ∧ RowR eT W AnyB p.tabs a4 ∧ RowR eG W AnyB p.grps a5 ∧ RowR eL W AnyB p.lns a6 ∧ RowR eK W AnyB p.cks a7
theorem PRows.bel {W W' : World} {p : Pk} {a3 a4 a5 a6 a7 : Option Addr} (h : PRows W p a3 a4 a5 a6 a7) (hb : Below W.heap.size W W') : PRows W' p a3 a4 a5 a6 a7 :=
  ⟨row_bel h.1 hb (Nat.le_refl _), row_bel h.2.1 hb (Nat.le_refl _), row_bel h.2.2.1 hb (Nat.le_refl _), row_bel h.2.2.2.1 hb (Nat.le_refl _), row_bel h.2.2.2.2 hb (Nat.le_refl _)⟩
def nils : Array Value := #[.slice none 0 0, .slice none 0 0, .slice none 0 0, .slice none 0 0, .slice none 0 0, .slice none 0 0, .slice none 0 0, .slice none 0 0, .slice none 0 0, .slice none 0 0, .slice none 0 0, .slice none 0 0, .slice none 0 0, .slice none 0 0, .slice none 0 0, .slice none 0 0, .slice none 0 0, .slice none 0 0, .slice none 0 0, .slice none 0 0, .slice none 0 0]

theorem nils_at : ∀ j, j < 21 → nils[j]? = some (.slice none 0 0)
  | 0, _ => rfl
  | 1, _ => rfl
  | 2, _ => rfl
  | 3, _ => rfl
  | 4, _ => rfl
  | 5, _ => rfl
  | 6, _ => rfl
  | 7, _ => rfl
  | 8, _ => rfl
  | 9, _ => rfl
  | 10, _ => rfl
  | 11, _ => rfl
  | 12, _ => rfl
  | 13, _ => rfl
  | 14, _ => rfl
  | 15, _ => rfl
  | 16, _ => rfl
  | 17, _ => rfl
  | 18, _ => rfl
  | 19, _ => rfl
  | 20, _ => rfl
  | j + 21, h => absurd h (by omega)

set_option maxRecDepth 20000 in
set_option maxHeartbeats 2000000 in
theorem looks_walk (p : Pk) (a3 a4 a5 a6 a7 : Option Addr) (c3 c4 c5 c6 c7 : Nat) (nm : List UInt8) (tb ln k n : Int) (W : World) (hK : Kinds W) (hs : SwP p) (hP : PRows W p a3 a4 a5 a6 a7) : Calls Tryz.prog 3 #[.agg #[.string ⟨p.name.toArray⟩, .int .i64 p.year, .slice a3 p.opts.length c3, .slice a4 p.tabs.length c4, .slice a5 p.grps.length c5, .slice a6 p.lns.length c6, .slice a7 p.cks.length c7], .string ⟨nm.toArray⟩, .int .i64 tb, .int .i64 ln, .agg #[.int .i64 k, .int .i64 n]] W (Lk (.bool true) W) := by
  obtain ⟨A, hA⟩ : ∃ A, A = Obj.cells #[.string ⟨p.name.toArray⟩, .int .i64 p.year, .slice a3 p.opts.length c3, .slice a4 p.tabs.length c4, .slice a5 p.grps.length c5, .slice a6 p.lns.length c6, .slice a7 p.cks.length c7] 28 := ⟨_, rfl⟩
  have hb0 := bel_alloc W A
  have hr0 := heap_alloc_new W A
  have hs1 : (W.alloc A).heap.size = W.heap.size + 1 := by simp
  have hb1 := bel_alloc (W.alloc A) (.cells #[.int .i64 k, .int .i64 n] 30)
  have hr1 := heap_alloc_new (W.alloc A) (.cells #[.int .i64 k, .int .i64 n] 30)
  rw [hs1] at hr1
  obtain ⟨X, hX⟩ : ∃ X, X = (W.alloc A).alloc (.cells #[.int .i64 k, .int .i64 n] 30) := ⟨_, rfl⟩
  rw [← hX] at hb1 hr1
  have hbX : Below W.heap.size W X := belT hb0 hb1
  have hr0 : X.heap[W.heap.size]? = some A := bel_cells hb1 (by omega) hr0
  rw [hA] at hr0 hX
  have hXe : (W.alloc (.cells #[.string ⟨p.name.toArray⟩, .int .i64 p.year, .slice a3 p.opts.length c3, .slice a4 p.tabs.length c4, .slice a5 p.grps.length c5, .slice a6 p.lns.length c6, .slice a7 p.cks.length c7] 28)).alloc (.cells #[.int .i64 k, .int .i64 n] 30) = X := hX.symm
  have hX1 : W.heap.size + 1 < X.heap.size := (Array.getElem?_eq_some_iff.1 hr1).1
  have hX0 : W.heap.size < X.heap.size := by omega
  have hBx : Hid (∀ w : World, Below X.heap.size X w → (w.cell? ⟨W.heap.size, 0, none⟩ = some (.string ⟨p.name.toArray⟩) ∧ w.cell? ⟨W.heap.size, 1, none⟩ = some (.int .i64 p.year) ∧ w.cell? ⟨W.heap.size, 2, none⟩ = some (.slice a3 p.opts.length c3) ∧ w.cell? ⟨W.heap.size, 3, none⟩ = some (.slice a4 p.tabs.length c4) ∧ w.cell? ⟨W.heap.size, 4, none⟩ = some (.slice a5 p.grps.length c5) ∧ w.cell? ⟨W.heap.size, 5, none⟩ = some (.slice a6 p.lns.length c6) ∧ w.cell? ⟨W.heap.size, 6, none⟩ = some (.slice a7 p.cks.length c7)) ∧ (w.cell? ⟨W.heap.size + 1, 0, none⟩ = some (.int .i64 k) ∧ w.cell? ⟨W.heap.size + 1, 1, none⟩ = some (.int .i64 n))) := ⟨fun w hw => ⟨⟨(bel_cell hw hX0 0).trans (cell_of_row _ _ 0 _ _ _ hr0), (bel_cell hw hX0 1).trans (cell_of_row _ _ 1 _ _ _ hr0), (bel_cell hw hX0 2).trans (cell_of_row _ _ 2 _ _ _ hr0), (bel_cell hw hX0 3).trans (cell_of_row _ _ 3 _ _ _ hr0), (bel_cell hw hX0 4).trans (cell_of_row _ _ 4 _ _ _ hr0), (bel_cell hw hX0 5).trans (cell_of_row _ _ 5 _ _ _ hr0), (bel_cell hw hX0 6).trans (cell_of_row _ _ 6 _ _ _ hr0)⟩, (bel_cell hw hX1 0).trans (cell_of_row _ _ 0 _ _ _ hr1), (bel_cell hw hX1 1).trans (cell_of_row _ _ 1 _ _ _ hr1)⟩⟩
  have hPX := hP.bel hbX
  have hfew := few_any p a3 a4 a5 a6 a7 c3 c4 c5 c6 c7 X hs hPX.1 hPX.2.1 hPX.2.2.2.1 hPX.2.2.2.2
  have hKX := Hid.mk (hK.later hbX)
  have hPX := Hid.mk hPX
  have hbX := Hid.mk hbX
  have hsH := Hid.mk hs
  obtain ⟨⟨p0, p1, p2, p3, p4, p5, p6⟩, v0, v1⟩ := hBx.out X (Below.refl _ _)
  clear hX hA hr0 hr1 hb0 hb1 hs1 hP hK hs
  go_enter Tryz.func3, Tryz.ntmps3
  go_wp2_with (go_at_call 4; fail)
  refine hfew.mono ?_
  rintro e w1 ⟨o, rfl, hb1, ho⟩
  clear hfew hXe p0 p1 p2 p3 p4 p5 p6 v0 v1
  cases o with
  | false =>
    have hbf := belT hbX.out hb1
    clear hBx ho
    go_wp2
    go_ret
    exact ⟨rfl, hbf⟩
  | true =>
  obtain ⟨hsz, hcp⟩ := ho.out rfl
  obtain ⟨⟨p0, p1, p2, p3, p4, p5, p6⟩, v0, v1⟩ := hBx.out w1 hb1
  have hbR := bel_alloc w1 (.cells nils 55)
  have hR0 := rm_new w1 nils nils_at
  have hP1 := hPX.out.bel hb1
  have hP2 := hP1.bel hbR
  have hlow : PRows w1 p a3 a4 a5 a6 a7 → True := fun _ => trivial
  have hpk := pack_rm p w1.heap.size w1.heap.size 0 (fun _ => .slice none 0 0) (fun _ => []) a3 a4 a5 a6 a7 c3 c4 c5 c6 c7 (w1.alloc (.cells nils 55)) hsz (by omega) hR0 ((hP1.1.mo (fun b hlt _ => hlt)).fr hbR.size (fun b hb _ => hbR.block b hb)) ((hP1.2.1.mo (fun b hlt _ => hlt)).fr hbR.size (fun b hb _ => hbR.block b hb)) ((hP1.2.2.1.mo (fun b hlt _ => hlt)).fr hbR.size (fun b hb _ => hbR.block b hb)) ((hP1.2.2.2.1.mo (fun b hlt _ => hlt)).fr hbR.size (fun b hb _ => hbR.block b hb)) ((hP1.2.2.2.2.mo (fun b hlt _ => hlt)).fr hbR.size (fun b hb _ => hbR.block b hb))
  obtain ⟨w2, hw2⟩ : ∃ w2, w1.alloc (.cells nils 55) = w2 := ⟨_, rfl⟩
  rw [hw2] at hpk hbR hR0
  unfold nils at hw2
  have hR0 := Hid.mk hR0
  have hP1 := Hid.mk hP1
  obtain ⟨⟨r0, r1, r2, r3, r4, r5, r6⟩, -⟩ := hBx.out w2 (belT hb1 hbR)
  have hcpH := Hid.mk hcp
  have hszH := Hid.mk hsz
  clear ho hP2 hlow hcp hsz p0 p1 p2 p3 p4 p5 p6 v0 v1
  go_wp2_with (go_at_call 5; fail)
  refine hpk.mono ?_
  rintro e w3 ⟨g0, g1, g2, g3, g4, K', V', rfl, hR3, hs3, m0, m1, m2, m3, m4⟩
  have hBl : Below w1.heap.size w2 w3 := RmStep.below hR0.out hs3
  have hb13 : Below w1.heap.size w1 w3 := hbR.trans hBl
  have hbX3 := belT hb1 hb13
  have hP3 := hP1.out.bel hb13
  have hQ3 : PRows w3 p (some ⟨g0, 0, none⟩) (some ⟨g1, 0, none⟩) (some ⟨g2, 0, none⟩) (some ⟨g3, 0, none⟩) (some ⟨g4, 0, none⟩) := ⟨m0.mo (fun _ _ _ => trivial), m1.mo (fun _ _ _ => trivial), m2.mo (fun _ _ _ => trivial), m3.mo (fun _ _ _ => trivial), m4.mo (fun _ _ _ => trivial)⟩
  have hK3 := hKX.out.later hbX3
  have hb34 := bel_alloc w3 (.cells #[.string ⟨p.name.toArray⟩, .int .i64 p.year, .slice (some ⟨g0, 0, none⟩) p.opts.length (p.opts.length + 40), .slice (some ⟨g1, 0, none⟩) p.tabs.length (p.tabs.length + 40), .slice (some ⟨g2, 0, none⟩) p.grps.length (p.grps.length + 40), .slice (some ⟨g3, 0, none⟩) p.lns.length (p.lns.length + 40), .slice (some ⟨g4, 0, none⟩) p.cks.length (p.cks.length + 40)] 28)
  have hr4 := heap_alloc_new w3 (.cells #[.string ⟨p.name.toArray⟩, .int .i64 p.year, .slice (some ⟨g0, 0, none⟩) p.opts.length (p.opts.length + 40), .slice (some ⟨g1, 0, none⟩) p.tabs.length (p.tabs.length + 40), .slice (some ⟨g2, 0, none⟩) p.grps.length (p.grps.length + 40), .slice (some ⟨g3, 0, none⟩) p.lns.length (p.lns.length + 40), .slice (some ⟨g4, 0, none⟩) p.cks.length (p.cks.length + 40)] 28)
  obtain ⟨w4, hw4⟩ : ∃ w4, w3.alloc (.cells #[.string ⟨p.name.toArray⟩, .int .i64 p.year, .slice (some ⟨g0, 0, none⟩) p.opts.length (p.opts.length + 40), .slice (some ⟨g1, 0, none⟩) p.tabs.length (p.tabs.length + 40), .slice (some ⟨g2, 0, none⟩) p.grps.length (p.grps.length + 40), .slice (some ⟨g3, 0, none⟩) p.lns.length (p.lns.length + 40), .slice (some ⟨g4, 0, none⟩) p.cks.length (p.cks.length + 40)] 28) = w4 := ⟨_, rfl⟩
  rw [hw4] at hb34 hr4
  have hq4 : w3.heap.size < w4.heap.size := (Array.getElem?_eq_some_iff.1 hr4).1
  have hAll : Hid (∀ w : World, Below w4.heap.size w4 w → (((w.cell? ⟨W.heap.size, 0, none⟩ = some (.string ⟨p.name.toArray⟩) ∧ w.cell? ⟨W.heap.size, 1, none⟩ = some (.int .i64 p.year) ∧ w.cell? ⟨W.heap.size, 2, none⟩ = some (.slice a3 p.opts.length c3) ∧ w.cell? ⟨W.heap.size, 3, none⟩ = some (.slice a4 p.tabs.length c4) ∧ w.cell? ⟨W.heap.size, 4, none⟩ = some (.slice a5 p.grps.length c5) ∧ w.cell? ⟨W.heap.size, 5, none⟩ = some (.slice a6 p.lns.length c6) ∧ w.cell? ⟨W.heap.size, 6, none⟩ = some (.slice a7 p.cks.length c7)) ∧ (w.cell? ⟨W.heap.size + 1, 0, none⟩ = some (.int .i64 k) ∧ w.cell? ⟨W.heap.size + 1, 1, none⟩ = some (.int .i64 n)) ∧ (w.cell? ⟨w3.heap.size, 0, none⟩ = some (.string ⟨p.name.toArray⟩) ∧ w.cell? ⟨w3.heap.size, 1, none⟩ = some (.int .i64 p.year) ∧ w.cell? ⟨w3.heap.size, 2, none⟩ = some (.slice (some ⟨g0, 0, none⟩) p.opts.length (p.opts.length + 40)) ∧ w.cell? ⟨w3.heap.size, 3, none⟩ = some (.slice (some ⟨g1, 0, none⟩) p.tabs.length (p.tabs.length + 40)) ∧ w.cell? ⟨w3.heap.size, 4, none⟩ = some (.slice (some ⟨g2, 0, none⟩) p.grps.length (p.grps.length + 40)) ∧ w.cell? ⟨w3.heap.size, 5, none⟩ = some (.slice (some ⟨g3, 0, none⟩) p.lns.length (p.lns.length + 40)) ∧ w.cell? ⟨w3.heap.size, 6, none⟩ = some (.slice (some ⟨g4, 0, none⟩) p.cks.length (p.cks.length + 40))))) ∧ Kinds w ∧ PRows w p a3 a4 a5 a6 a7 ∧ PRows w p (some ⟨g0, 0, none⟩) (some ⟨g1, 0, none⟩) (some ⟨g2, 0, none⟩) (some ⟨g3, 0, none⟩) (some ⟨g4, 0, none⟩) ∧ RmAt w w1.heap.size w1.heap.size K' V' (0 + cP p) ∧ Below W.heap.size W w) := ⟨fun w hw => by
    have h1 := belT hb34 hw
    have h2 := belT hbX3 h1
    obtain ⟨hc1, hc2⟩ := hBx.out w h2
    exact ⟨⟨hc1, hc2, (bel_cell hw hq4 0).trans (cell_of_row _ _ 0 _ _ _ hr4), (bel_cell hw hq4 1).trans (cell_of_row _ _ 1 _ _ _ hr4), (bel_cell hw hq4 2).trans (cell_of_row _ _ 2 _ _ _ hr4), (bel_cell hw hq4 3).trans (cell_of_row _ _ 3 _ _ _ hr4), (bel_cell hw hq4 4).trans (cell_of_row _ _ 4 _ _ _ hr4), (bel_cell hw hq4 5).trans (cell_of_row _ _ 5 _ _ _ hr4), (bel_cell hw hq4 6).trans (cell_of_row _ _ 6 _ _ _ hr4)⟩, hK3.later h1, hP3.bel h1, hQ3.bel h1, (hR3.new hb34).new hw, belT hbX.out h2⟩⟩
  clear hpk hBx r0 r1 r2 r3 r4 r5 r6 m0 m1 m2 m3 m4 hQ3 hP3 hK3 hr4 hR3 hs3 hBl hb13 hbX3 hb34 hR0 hP1 hPX hKX hbX hw2 hbR hb1 hq4
  obtain ⟨NA, hNA⟩ : ∃ N, ixF nmL p.lns nm 0 = N := ⟨_, rfl⟩
  obtain ⟨NB, hNB⟩ : ∃ N, opIx p.opts tb nm = N := ⟨_, rfl⟩
  obtain ⟨NC, hNC⟩ : ∃ N, fitF p ln k n = N := ⟨_, rfl⟩
  obtain ⟨ND, hND⟩ : ∃ N, cesF p = N := ⟨_, rfl⟩
  have hNA' : (NA != NA) = false := by simp
  have hNB' : (NB != NB) = false := by simp
  have hNC' : (NC != NC) = false := by simp
  have hND' : (ND != ND) = false := by simp
  replace hNA := Hid.mk hNA
  replace hNB := Hid.mk hNB
  replace hNC := Hid.mk hNC
  replace hND := Hid.mk hND
  have hbb := Below.refl w4.heap.size w4
  obtain ⟨⟨⟨p0, p1, p2, p3, p4, p5, p6⟩, ⟨v0, v1⟩, q0, q1, q2, q3, q4, q5, q6⟩, hKw, hPw, hQw, hRw, hBw⟩ := hAll.out w4 hbb
  have hc := tline_any p (some ⟨g0, 0, none⟩) (some ⟨g1, 0, none⟩) (some ⟨g2, 0, none⟩) (some ⟨g3, 0, none⟩) (some ⟨g4, 0, none⟩) (p.opts.length + 40) (p.tabs.length + 40) (p.grps.length + 40) (p.lns.length + 40) (p.cks.length + 40) nm w4 hQw.2.2.2.1 (by have := hszH.out.l1; omega)
  rw [hNA.out] at hc
  clear hKw hPw hQw hRw hBw
  go_wp2_with (go_at_call 6; fail)
  refine hc.mono ?_
  rintro e w5 ⟨rfl, hb'⟩
  replace hbb := belT hbb hb'
  clear hc hb' p0 p1 p2 p3 p4 p5 p6 v0 v1 q0 q1 q2 q3 q4 q5 q6 hw4
  obtain ⟨⟨⟨p0, p1, p2, p3, p4, p5, p6⟩, ⟨v0, v1⟩, q0, q1, q2, q3, q4, q5, q6⟩, hKw, hPw, hQw, hRw, hBw⟩ := hAll.out w5 hbb
  have hc := topt_any p (some ⟨g0, 0, none⟩) (some ⟨g1, 0, none⟩) (some ⟨g2, 0, none⟩) (some ⟨g3, 0, none⟩) (some ⟨g4, 0, none⟩) (p.opts.length + 40) (p.tabs.length + 40) (p.grps.length + 40) (p.lns.length + 40) (p.cks.length + 40) tb nm w5 hQw.1 (by have := hszH.out.o1; omega) (fun o ho => by have := hszH.out.o2 o ho; omega)
  rw [hNB.out] at hc
  clear hKw hPw hQw hRw hBw
  go_wp2_with (go_at_call 7; fail)
  refine hc.mono ?_
  rintro e w6 ⟨rfl, hb'⟩
  replace hbb := belT hbb hb'
  clear hc hb' p0 p1 p2 p3 p4 p5 p6 v0 v1 q0 q1 q2 q3 q4 q5 q6
  obtain ⟨⟨⟨p0, p1, p2, p3, p4, p5, p6⟩, ⟨v0, v1⟩, q0, q1, q2, q3, q4, q5, q6⟩, hKw, hPw, hQw, hRw, hBw⟩ := hAll.out w6 hbb
  have hc := tfits_any p (some ⟨g0, 0, none⟩) (some ⟨g1, 0, none⟩) (some ⟨g2, 0, none⟩) (some ⟨g3, 0, none⟩) (some ⟨g4, 0, none⟩) (p.opts.length + 40) (p.tabs.length + 40) (p.grps.length + 40) (p.lns.length + 40) (p.cks.length + 40) ln k n w6 hKw hQw.1 hQw.2.2.2.1 (by have := hszH.out.l1; omega)
  rw [hNC.out] at hc
  clear hKw hPw hQw hRw hBw
  go_wp2_with (go_at_call 8; fail)
  refine hc.mono ?_
  rintro e w7 ⟨rfl, hb'⟩
  replace hbb := belT hbb hb'
  clear hc hb' p0 p1 p2 p3 p4 p5 p6 v0 v1 q0 q1 q2 q3 q4 q5 q6
  obtain ⟨⟨⟨p0, p1, p2, p3, p4, p5, p6⟩, ⟨v0, v1⟩, q0, q1, q2, q3, q4, q5, q6⟩, hKw, hPw, hQw, hRw, hBw⟩ := hAll.out w7 hbb
  have hc := Cells_any p (some ⟨g0, 0, none⟩) (some ⟨g1, 0, none⟩) (some ⟨g2, 0, none⟩) (some ⟨g3, 0, none⟩) (some ⟨g4, 0, none⟩) (p.opts.length + 40) (p.tabs.length + 40) (p.grps.length + 40) (p.lns.length + 40) (p.cks.length + 40) w7 hQw.2.2.1 hQw.2.2.2.1 hQw.2.2.2.2 hszH.out.g1 hszH.out.l1 hszH.out.k1
  rw [hND.out] at hc
  clear hKw hPw hQw hRw hBw
  go_wp2_with (go_at_call 9; fail)
  refine hc.mono ?_
  rintro e w8 ⟨rfl, hb'⟩
  replace hbb := belT hbb hb'
  clear hc hb' p0 p1 p2 p3 p4 p5 p6 v0 v1 q0 q1 q2 q3 q4 q5 q6
  obtain ⟨⟨⟨p0, p1, p2, p3, p4, p5, p6⟩, ⟨v0, v1⟩, q0, q1, q2, q3, q4, q5, q6⟩, hKw, hPw, hQw, hRw, hBw⟩ := hAll.out w8 hbb
  have hc := rline_any p a3 a4 a5 a6 a7 c3 c4 c5 c6 c7 nm w8 hPw.2.2.2.1 (by have := hszH.out.l1; omega)
  rw [hNA.out] at hc
  clear hKw hPw hQw hRw hBw
  go_wp2_with (go_at_call 10; fail)
  refine hc.mono ?_
  rintro e w9 ⟨rfl, hb'⟩
  replace hbb := belT hbb hb'
  clear hc hb' p0 p1 p2 p3 p4 p5 p6 v0 v1 q0 q1 q2 q3 q4 q5 q6
  obtain ⟨⟨⟨p0, p1, p2, p3, p4, p5, p6⟩, ⟨v0, v1⟩, q0, q1, q2, q3, q4, q5, q6⟩, hKw, hPw, hQw, hRw, hBw⟩ := hAll.out w9 hbb
  have hc := ropt_any p a3 a4 a5 a6 a7 c3 c4 c5 c6 c7 tb nm w9 hPw.1 (by have := hszH.out.o1; omega) (fun o ho => by have := hszH.out.o2 o ho; omega)
  rw [hNB.out] at hc
  clear hKw hPw hQw hRw hBw
  go_wp2_with (go_at_call 11; fail)
  refine hc.mono ?_
  rintro e w10 ⟨rfl, hb'⟩
  replace hbb := belT hbb hb'
  clear hc hb' p0 p1 p2 p3 p4 p5 p6 v0 v1 q0 q1 q2 q3 q4 q5 q6
  obtain ⟨⟨⟨p0, p1, p2, p3, p4, p5, p6⟩, ⟨v0, v1⟩, q0, q1, q2, q3, q4, q5, q6⟩, hKw, hPw, hQw, hRw, hBw⟩ := hAll.out w10 hbb
  have hc := rfits_any p a3 a4 a5 a6 a7 c3 c4 c5 c6 c7 ln k n w10 hKw hPw.1 hPw.2.2.2.1 (by have := hszH.out.l1; omega) (by have := hszH.out.o1; omega) (fun o ho => by have := hszH.out.o2 o ho; omega)
  rw [hNC.out] at hc
  clear hKw hPw hQw hRw hBw
  go_wp2_with (go_at_call 12; fail)
  refine hc.mono ?_
  rintro e w11 ⟨rfl, hb'⟩
  replace hbb := belT hbb hb'
  clear hc hb' p0 p1 p2 p3 p4 p5 p6 v0 v1 q0 q1 q2 q3 q4 q5 q6
  obtain ⟨⟨⟨p0, p1, p2, p3, p4, p5, p6⟩, ⟨v0, v1⟩, q0, q1, q2, q3, q4, q5, q6⟩, hKw, hPw, hQw, hRw, hBw⟩ := hAll.out w11 hbb
  have hc := rcells_any p a3 a4 a5 a6 a7 c3 c4 c5 c6 c7 w11 hPw.2.2.1 hPw.2.2.2.1 hPw.2.2.2.2 hszH.out.g1 hszH.out.l1 hszH.out.k1
  rw [hND.out] at hc
  clear hKw hPw hQw hRw hBw
  go_wp2_with (go_at_call 13; fail)
  refine hc.mono ?_
  rintro e w12 ⟨rfl, hb'⟩
  replace hbb := belT hbb hb'
  clear hc hb' p0 p1 p2 p3 p4 p5 p6 v0 v1 q0 q1 q2 q3 q4 q5 q6
  obtain ⟨⟨⟨p0, p1, p2, p3, p4, p5, p6⟩, ⟨v0, v1⟩, q0, q1, q2, q3, q4, q5, q6⟩, hKw, hPw, hQw, hRw, hBw⟩ := hAll.out w12 hbb
  have hc := samePack_any p.name p.name p.year p.year p.opts p.opts p.tabs p.tabs p.grps p.grps p.lns p.lns p.cks p.cks a3 a4 a5 a6 a7 (some ⟨g0, 0, none⟩) (some ⟨g1, 0, none⟩) (some ⟨g2, 0, none⟩) (some ⟨g3, 0, none⟩) (some ⟨g4, 0, none⟩) c3 c4 c5 c6 c7 (p.opts.length + 40) (p.tabs.length + 40) (p.grps.length + 40) (p.lns.length + 40) (p.cks.length + 40) w12 ⟨⟨(by have := hszH.out.o1; omega), fun x hx => by have := hszH.out.o2 x hx; omega⟩, ⟨(by have := hszH.out.t1; omega), fun x hx => by have := hszH.out.t2 x hx; omega⟩, (by have := hszH.out.g1; omega)⟩ ⟨⟨(by have := hszH.out.l1; omega), fun x hx => szL_sw (hsH.out.2.2.2.1.2 x hx)⟩, (by have := hszH.out.k1; omega), fun x hx => szE_sw (hsH.out.2.2.2.2.2 x hx)⟩ hPw.1 hQw.1 hPw.2.1 hQw.2.1 hPw.2.2.1 hQw.2.2.1 hPw.2.2.2.1 hQw.2.2.2.1 hPw.2.2.2.2 hQw.2.2.2.2 ⟨rfl, rfl, rfl, rfl, rfl⟩
  clear hKw hPw hQw hRw hBw
  go_wp2_with (go_at_call 14; fail)
  refine hc.mono ?_
  rintro e w13 ⟨hb', r, rfl, hr⟩
  replace hbb := belT hbb hb'
  obtain rfl : r = true := hr.2 ⟨⟨rfl, rfl, rfl, rfl, rfl⟩, rfl, rfl⟩
  clear hc hb' hr p0 p1 p2 p3 p4 p5 p6 v0 v1 q0 q1 q2 q3 q4 q5 q6
  obtain ⟨-, -, -, -, hRw, -⟩ := hAll.out w13 hbb
  have hc := hold_rm w1.heap.size w1.heap.size (0 + cP p) K' V' w13 (by have := hcpH.out; omega) hRw
  clear hRw
  go_wp2_with (go_at_call 15; fail)
  refine hc.mono ?_
  rintro e w14 ⟨rfl, hb'⟩
  replace hbb := belT hbb hb'
  clear hc hb'
  have hc := known_any w14
  go_wp2_with (go_at_call 16; fail)
  refine hc.mono ?_
  rintro e w15 ⟨rfl, hb'⟩
  replace hbb := belT hbb hb'
  obtain ⟨-, -, -, -, -, hBw⟩ := hAll.out w15 hbb
  clear hc hb' hAll
  go_wp2
  go_ret
  exact ⟨rfl, hBw⟩

end Go.Proofs.YthnmjafoplfikaaGreatDoor

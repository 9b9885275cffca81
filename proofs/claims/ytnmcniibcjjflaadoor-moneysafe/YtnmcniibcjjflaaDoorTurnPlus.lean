import Derived.Test.YtnmcniibcjjflaaDoorJoin17
import Derived.Test.YtnmcniibcjjflaaDoorJoin16
import Derived.Lib.MinMax
namespace Go.Proofs.YtnmcniibcjjflaaDoor
open Go.RowKit

theorem getD_out {l : List Nat} {i : Nat} (h : ¬ i < l.length) : l.getD i 0 = 0 := by rw [List.getD_eq_getElem?_getD, List.getElem?_eq_none (by omega)]; rfl

theorem plus_lo {m i s : Nat} {S : Int} {f : Nat → Nat} (h : S = (s : Int)) : (if m = i then (.int .i64 S : Value) else dv (f m)) = dv (if m = i then s else f m) := by
  split
  · rw [h]
  · rfl

theorem plus_zero {m i x : Nat} {f : Nat → Nat} (h : f i = x) : dv (f m) = dv (if m = i then x + (0 + 0) else f m) := by
  by_cases e : m = i
  · subst e; rw [if_pos rfl, h]; rfl
  · rw [if_neg e]

theorem plus_hi {m i s : Nat} {S : Int} {X : Value} {f : Nat → Nat} (h : S = ((s - 10 : Nat) : Int)) : (if m = i + 1 then (.int .i64 1 : Value) else if m = i then .int .i64 S else if m = i then X else dv (f m)) = dv (if m = i then s - 10 else if m = i + 1 then 1 else f m) := by
  by_cases e : m = i
  · subst e
    rw [if_pos rfl, if_neg (by omega), if_pos rfl, h]
  · by_cases e2 : m = i + 1
    · subst e2; simp
    · rw [if_neg e, if_neg e2, if_neg e2, if_neg e, if_neg e]

set_option maxHeartbeats 4000000 in
theorem plus_any (a b : Option Addr) (ca cb : Nat) (A B : List Nat) (n : Nat) (hn1 : A.length < n) (hn2 : B.length < n) (hn3 : Hid (max (A.length : Int) B.length + 1 = n)) (hn : n ≤ 100) (dA : ∀ i, A.getD i 0 ≤ 9) (dB : ∀ i, B.getD i 0 ≤ 9) (w : World) (hDa : Dig w a A) (hDb : Dig w b B) :
    Calls Tryd.prog 71 #[.slice a A.length ca, .slice b B.length cb] w fun e w' => ∃ f : Nat → Nat, e = .returned (.slice (some ⟨w.heap.size, 0, none⟩) n n) ∧
      Hid (M.fval f n = M.val A + M.val B ∧ ∀ j, j < n → f j ≤ 9) ∧ w'.rowIs w.heap.size 3 n (fun j => dv (f j)) ∧ Below w.heap.size w w' := by
  have hmk := fun w1 : World => run_make_row' (P := Tryd.prog) 83 3 (.int .i64 0) 8 Tryd.underlying83 infoInt rfl .i64 .i64 n (by omega) (by omega) w1
  have hR0 : (w.alloc (.cells (madeCells #[.int .i64 0] n) 3)).rowIs w.heap.size 3 n (fun j => dv ((fun _ => 0) j)) := World.rowIs_made w (.int .i64 0) _ _
  have hB0 : Below w.heap.size w (w.alloc (.cells (madeCells #[.int .i64 0] n) 3)) := (Below.refl _ _).alloc (Nat.le_refl _) _
  have hmx : max (A.length : Int) B.length + 1 = n := hn3
  have hlenA : (A.length : Int) < n := by omega
  have hlenB : (B.length : Int) < n := by omega
  go_enter Tryd.func71, Tryd.ntmps71
  go_wp2
  go_loopw [7] (fun x wr => ∃ (i : Nat) (f : Nat → Nat), i ≤ n ∧ x = .int .i64 i ∧ Hid (M.Sums A B n i f) ∧ wr.rowIs w.heap.size 3 n (fun j => dv (f j)) ∧ Below w.heap.size w wr) (fun x _ => n - (intOf x).toNat)
  case atStart => exact ⟨0, fun _ => 0, Nat.zero_le _, rfl, M.sums_zero A B n, hR0, hB0⟩
  case round =>
    obtain ⟨i, f, hi, rfl, hf, hrow, hb⟩ := hrel
    clear hR0 hB0 hmk hmx hn3
    by_cases hlt : i < n
    · have hlt' : (i : Int) < n := by omega
      have hc0 := hrow.cell (i := i) hlt
      have hf0 := hrow.frozen i
      have hx1 := hf.out.2.2.1
      have hLO := M.sums_low (A := A) (B := B) hf.out hlt
      have hHI := fun h => M.sums_high (A := A) (B := B) hf.out (i := i) h (dA i) (dB i)
      have hNC := M.no_carry (A := A) (B := B) hf.out (by omega) (by omega)
      have hz1 : Hid (i + 1 < n → f (i + 1) = 0) := fun _ => hf.out.2.2.2 (i + 1) (by omega)
      by_cases ha : i < A.length
      · have ha' : (i : Int) < A.length := by omega
        by_cases hbb : i < B.length
        · have hb' : (i : Int) < B.length := by omega
          obtain ⟨ga, rfl, hga, hca⟩ := hDa.at ha
          have hca2 := (hb.cell (p := ⟨ga, i, none⟩) hga).trans hca
          obtain ⟨gb, rfl, hgb, hcb⟩ := hDb.at hbb
          have hdA := dA i
          have hdB := dB i
          clear dA dB
          generalize A.getD i 0 = α at *
          generalize B.getD i 0 = β at *
          obtain ⟨x, hx⟩ : ∃ x, f i = x := ⟨_, rfl⟩
          rw [hx] at hx1 hc0 hLO hHI hNC
          have HX : Hid (f i = x) := hx
          clear hx
          have HLO : Hid (_ → _) := hLO
          have HHI : Hid (_ → _ → _) := hHI
          have HNC : Hid (_ → _) := hNC
          clear hLO hHI hNC
          dsimp only [dv] at hc0
          dsimp only [dv] at hca2
          go_wp2
          go_region
          obtain ⟨w1, e1⟩ : ∃ w1, (wr.setCell ⟨w.heap.size, i, none⟩ (.int .i64 ((x : Int) + (α : Int)))).drew = w1 := ⟨_, rfl⟩
          have hrow1 : w1.rowIs w.heap.size 3 n (fun j => if j = i then .int .i64 ((x : Int) + (α : Int)) else dv (f j)) := by rw [← e1]; exact (hrow.set i _).drew
          have hb1 : Below w.heap.size w w1 := by rw [← e1]; exact (hb.setCell (Nat.le_refl _) _).drew
          rw [e1]
          clear e1 hrow hc0 hf0 hca2 hb
          have hc0 := hrow1.cell (i := i) hlt
          have hf0 := hrow1.frozen i
          rw [if_pos rfl] at hc0
          have hcb2 := (hb1.cell (p := ⟨gb, i, none⟩) hgb).trans hcb
          dsimp only [dv] at hcb2
          go_wp2
          go_region
          obtain ⟨w2, e2⟩ : ∃ w2, (w1.setCell ⟨w.heap.size, i, none⟩ (.int .i64 ((x : Int) + (α : Int) + (β : Int)))).drew = w2 := ⟨_, rfl⟩
          have hrow2 : w2.rowIs w.heap.size 3 n (fun j => if j = i then .int .i64 ((x : Int) + (α : Int) + (β : Int)) else dv (f j)) := by rw [← e2]; exact ((hrow1.set i _).drew).congr fun m _ => by split <;> simp [*]
          have hb2 : Below w.heap.size w w2 := by rw [← e2]; exact (hb1.setCell (Nat.le_refl _) _).drew
          rw [e2]
          clear e2 hrow1 hc0 hf0 hcb2 hb1
          have hc0 := hrow2.cell (i := i) hlt
          have hf0 := hrow2.frozen i
          rw [if_pos rfl] at hc0
          by_cases hc : 9 < x + (α + β)
          · have hi1 : i + 1 < n := by { by_cases e : i + 1 = n; exact absurd hc (HNC.out e); omega }
            have hi1' : (i : Int) + 1 < n := by omega
            have hi2 : (i : Int) + 1 ≤ n := by omega
            have HH : Hid (M.Sums A B n (i + 1) _) := HHI.out hi1 hc
            have hc1 := hrow2.cell (i := i + 1) hi1
            rw [if_neg (by omega), hz1.out hi1] at hc1
            have hf1 := hrow2.frozen (i + 1)
            dsimp only [dv] at hc1
            have hc' : 9 < (x : Int) + (α : Int) + (β : Int) := by omega
            have hcw : (x : Int) + (α : Int) + (β : Int) ≤ 19 := by omega
            have hj0 : 0 ≤ (i : Int) + 1 := by omega
            have hjn : ((i : Int) + 1).toNat = i + 1 := by omega
            clear HLO HHI HNC
            go_wp2
            go_roundw
            case rel => exact ⟨i + 1, _, by omega, by go_num, HH, ((hrow2.set i _).set (i + 1) _).congr fun m _ => plus_hi (by omega), ((hb2.setCell (Nat.le_refl _) _).setCell (Nat.le_refl _) _)⟩
            case measure => simp [intOf]; omega
          · have HL : Hid (M.Sums A B n (i + 1) _) := HLO.out hc
            have hc' : ¬ 9 < (x : Int) + (α : Int) + (β : Int) := by omega
            clear HLO HHI HNC
            go_wp2
            go_roundw
            case rel => exact ⟨i + 1, _, by omega, by go_num, HL, hrow2.congr fun m _ => plus_lo (by omega), hb2⟩
            case measure => simp [intOf]; omega
        · have hb' : ¬ (i : Int) < B.length := by omega
          obtain ⟨ga, rfl, hga, hca⟩ := hDa.at ha
          have hca2 := (hb.cell (p := ⟨ga, i, none⟩) hga).trans hca
          have eb : B.getD i 0 = 0 := getD_out hbb
          have hdA := dA i
          have hdB := dB i
          clear dA dB
          generalize A.getD i 0 = α at *
          generalize B.getD i 0 = β at *
          subst eb
          obtain ⟨x, hx⟩ : ∃ x, f i = x := ⟨_, rfl⟩
          rw [hx] at hx1 hc0 hLO hHI hNC
          have HX : Hid (f i = x) := hx
          clear hx
          have HLO : Hid (_ → _) := hLO
          have HHI : Hid (_ → _ → _) := hHI
          have HNC : Hid (_ → _) := hNC
          clear hLO hHI hNC
          dsimp only [dv] at hc0
          dsimp only [dv] at hca2
          go_wp2
          go_region
          obtain ⟨w1, e1⟩ : ∃ w1, (wr.setCell ⟨w.heap.size, i, none⟩ (.int .i64 ((x : Int) + (α : Int)))).drew = w1 := ⟨_, rfl⟩
          have hrow1 : w1.rowIs w.heap.size 3 n (fun j => if j = i then .int .i64 ((x : Int) + (α : Int)) else dv (f j)) := by rw [← e1]; exact (hrow.set i _).drew
          have hb1 : Below w.heap.size w w1 := by rw [← e1]; exact (hb.setCell (Nat.le_refl _) _).drew
          rw [e1]
          clear e1 hrow hc0 hf0 hca2 hb
          have hc0 := hrow1.cell (i := i) hlt
          have hf0 := hrow1.frozen i
          rw [if_pos rfl] at hc0
          by_cases hc : 9 < x + (α + 0)
          · have hi1 : i + 1 < n := by { by_cases e : i + 1 = n; exact absurd hc (HNC.out e); omega }
            have hi1' : (i : Int) + 1 < n := by omega
            have hi2 : (i : Int) + 1 ≤ n := by omega
            have HH : Hid (M.Sums A B n (i + 1) _) := HHI.out hi1 hc
            have hc1 := hrow1.cell (i := i + 1) hi1
            rw [if_neg (by omega), hz1.out hi1] at hc1
            have hf1 := hrow1.frozen (i + 1)
            dsimp only [dv] at hc1
            have hc' : 9 < (x : Int) + (α : Int) := by omega
            have hcw : (x : Int) + (α : Int) ≤ 19 := by omega
            have hj0 : 0 ≤ (i : Int) + 1 := by omega
            have hjn : ((i : Int) + 1).toNat = i + 1 := by omega
            clear HLO HHI HNC
            go_wp2
            go_roundw
            case rel => exact ⟨i + 1, _, by omega, by go_num, HH, ((hrow1.set i _).set (i + 1) _).congr fun m _ => plus_hi (by omega), ((hb1.setCell (Nat.le_refl _) _).setCell (Nat.le_refl _) _)⟩
            case measure => simp [intOf]; omega
          · have HL : Hid (M.Sums A B n (i + 1) _) := HLO.out hc
            have hc' : ¬ 9 < (x : Int) + (α : Int) := by omega
            clear HLO HHI HNC
            go_wp2
            go_roundw
            case rel => exact ⟨i + 1, _, by omega, by go_num, HL, hrow1.congr fun m _ => plus_lo (by omega), hb1⟩
            case measure => simp [intOf]; omega
      · have ha' : ¬ (i : Int) < A.length := by omega
        by_cases hbb : i < B.length
        · have hb' : (i : Int) < B.length := by omega
          have ea : A.getD i 0 = 0 := getD_out ha
          obtain ⟨gb, rfl, hgb, hcb⟩ := hDb.at hbb
          have hdA := dA i
          have hdB := dB i
          clear dA dB
          generalize A.getD i 0 = α at *
          generalize B.getD i 0 = β at *
          subst ea
          obtain ⟨x, hx⟩ : ∃ x, f i = x := ⟨_, rfl⟩
          rw [hx] at hx1 hc0 hLO hHI hNC
          have HX : Hid (f i = x) := hx
          clear hx
          have HLO : Hid (_ → _) := hLO
          have HHI : Hid (_ → _ → _) := hHI
          have HNC : Hid (_ → _) := hNC
          clear hLO hHI hNC
          dsimp only [dv] at hc0
          have hcb2 := (hb.cell (p := ⟨gb, i, none⟩) hgb).trans hcb
          dsimp only [dv] at hcb2
          go_wp2
          go_region
          obtain ⟨w2, e2⟩ : ∃ w2, (wr.setCell ⟨w.heap.size, i, none⟩ (.int .i64 ((x : Int) + (β : Int)))).drew = w2 := ⟨_, rfl⟩
          have hrow2 : w2.rowIs w.heap.size 3 n (fun j => if j = i then .int .i64 ((x : Int) + (β : Int)) else dv (f j)) := by rw [← e2]; exact (hrow.set i _).drew
          have hb2 : Below w.heap.size w w2 := by rw [← e2]; exact (hb.setCell (Nat.le_refl _) _).drew
          rw [e2]
          clear e2 hrow hc0 hf0 hcb2 hb
          have hc0 := hrow2.cell (i := i) hlt
          have hf0 := hrow2.frozen i
          rw [if_pos rfl] at hc0
          by_cases hc : 9 < x + (0 + β)
          · have hi1 : i + 1 < n := by { by_cases e : i + 1 = n; exact absurd hc (HNC.out e); omega }
            have hi1' : (i : Int) + 1 < n := by omega
            have hi2 : (i : Int) + 1 ≤ n := by omega
            have HH : Hid (M.Sums A B n (i + 1) _) := HHI.out hi1 hc
            have hc1 := hrow2.cell (i := i + 1) hi1
            rw [if_neg (by omega), hz1.out hi1] at hc1
            have hf1 := hrow2.frozen (i + 1)
            dsimp only [dv] at hc1
            have hc' : 9 < (x : Int) + (β : Int) := by omega
            have hcw : (x : Int) + (β : Int) ≤ 19 := by omega
            have hj0 : 0 ≤ (i : Int) + 1 := by omega
            have hjn : ((i : Int) + 1).toNat = i + 1 := by omega
            clear HLO HHI HNC
            go_wp2
            go_roundw
            case rel => exact ⟨i + 1, _, by omega, by go_num, HH, ((hrow2.set i _).set (i + 1) _).congr fun m _ => plus_hi (by omega), ((hb2.setCell (Nat.le_refl _) _).setCell (Nat.le_refl _) _)⟩
            case measure => simp [intOf]; omega
          · have HL : Hid (M.Sums A B n (i + 1) _) := HLO.out hc
            have hc' : ¬ 9 < (x : Int) + (β : Int) := by omega
            clear HLO HHI HNC
            go_wp2
            go_roundw
            case rel => exact ⟨i + 1, _, by omega, by go_num, HL, hrow2.congr fun m _ => plus_lo (by omega), hb2⟩
            case measure => simp [intOf]; omega
        · have hb' : ¬ (i : Int) < B.length := by omega
          have ea : A.getD i 0 = 0 := getD_out ha
          have eb : B.getD i 0 = 0 := getD_out hbb
          have hdA := dA i
          have hdB := dB i
          clear dA dB
          generalize A.getD i 0 = α at *
          generalize B.getD i 0 = β at *
          subst ea
          subst eb
          obtain ⟨x, hx⟩ : ∃ x, f i = x := ⟨_, rfl⟩
          rw [hx] at hx1 hc0 hLO hHI hNC
          have HX : Hid (f i = x) := hx
          clear hx
          have HLO : Hid (_ → _) := hLO
          have HHI : Hid (_ → _ → _) := hHI
          have HNC : Hid (_ → _) := hNC
          clear hLO hHI hNC
          dsimp only [dv] at hc0
          have hc := HLO.out (by omega)
          have HL : Hid (M.Sums A B n (i + 1) _) := hc
          clear hc
          go_wp2
          go_roundw
          case rel => exact ⟨i + 1, _, by omega, by go_num, HL, hrow.congr fun m _ => plus_zero HX.out, hb⟩
          case measure => simp [intOf]; omega
    · have HE := hf.out
      have e : i = n := by omega
      rw [e] at HE
      have HE := M.sums_end HE (by omega) (by omega)
      have HZ : Hid (M.fval f n = M.val A + M.val B ∧ ∀ j, j < n → f j ≤ 9) := HE
      clear HE hf
      go_wp2
      go_ret
      exact ⟨f, rfl, HZ, hrow, hb⟩

theorem plus_v (a b : Option Addr) (ca cb : Nat) (A B : List Nat) (hA : A.length ≤ 99) (hB : B.length ≤ 99) (dA : ∀ i, A.getD i 0 ≤ 9) (dB : ∀ i, B.getD i 0 ≤ 9) (w : World) (hDa : Dig w a A) (hDb : Dig w b B) :
    Calls Tryd.prog 71 #[.slice a A.length ca, .slice b B.length cb] w fun e w' => ∃ (ds : List Nat) (c : Option Addr), e = .returned (.slice c ds.length ds.length) ∧ Hid (M.val ds = M.val A + M.val B ∧ ds.length = max A.length B.length + 1 ∧ ∀ i, ds.getD i 0 ≤ 9) ∧ Dig w' c ds ∧ Below w.heap.size w w' := by
  refine (plus_any a b ca cb A B (max A.length B.length + 1) (by omega) (by omega) (by unfold Hid; omega) (by omega) dA dB w hDa hDb).mono ?_
  rintro e w' ⟨f, rfl, hf, hrow, hb⟩
  generalize max A.length B.length + 1 = n at *
  refine ⟨(List.range n).map f, some ⟨w.heap.size, 0, none⟩, by simp, ⟨by rw [M.val_range]; exact hf.out.1, by simp, fun i => ?_⟩, .inr ⟨w.heap.size, rfl, hrow.lt, fun i hi => ?_⟩, hb⟩
  · by_cases h : i < n
    · have h9 := hf.out.2 i h
      simp [List.getD_eq_getElem?_getD, h]
      omega
    · simp [List.getD_eq_getElem?_getD, List.getElem?_eq_none (l := List.range n) (i := i) (by simp; omega)]
  · have h : i < n := by simpa using hi
    rw [hrow.cell h]
    simp [List.getD_eq_getElem?_getD, h]

end Go.Proofs.YtnmcniibcjjflaaDoor

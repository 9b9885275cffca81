import Derived.Test.YtaecodgmfmijlaaDoorMonthsWalk0
import Derived.Test.YtaecodgmfmijlaaDoorDShareF
import Derived.Test.YtaecodgmfmijlaaDoorDKnown
import Derived.Test.YtaecodgmfmijlaaDoorDPlain4
namespace Go.Proofs.YtaecodgmfmijlaaDoor
open Go.RowKit

def z300 : Array Value := Array.replicate 300 (.int .i64 0)
theorem zero300 (w : World) : (zeroValue 39).run Tryd.prog w = .ok (.agg z300) w := by kernel_rfl

/-- The array of the years. -/
def Yrs (W : World) (g : Nat) (f : Int → Int) : Prop := ∀ j : Nat, j < 300 → W.cell? ⟨g, j, none⟩ = some (.int .i64 (f (1900 + j))) ∧ W.frozen? ⟨g, j, none⟩ = false
theorem Yrs.lt {W : World} {g : Nat} {f : Int → Int} (h : Yrs W g f) : g < W.heap.size := World.block_lt_of_cell? _ _ (h 0 (by omega)).1
theorem Yrs.later {W W' : World} {g : Nat} {f : Int → Int} (h : Yrs W g f) (hb : Below W.heap.size W W') : Yrs W' g f := fun j hj => ⟨(hb.cell (p := ⟨g, j, none⟩) h.lt).trans (h j hj).1, (hb.frozen (p := ⟨g, j, none⟩) h.lt).trans (h j hj).2⟩
theorem Yrs.new (W : World) (t : TypeId) : Yrs (W.alloc (.cells z300 t)) W.heap.size (fun _ => 0) := fun j hj => ⟨by simp [z300, hj], by simp⟩
theorem Yrs.set {W : World} {g : Nat} {f : Int → Int} (h : Yrs W g f) (i : Nat) (hi : i < 300) (v : Int) : Yrs (W.setCell ⟨g, i, none⟩ (.int .i64 v)) g (fun y => if y = 1900 + i then v else f y) := fun j hj => by
  refine ⟨?_, by rw [World.frozen?_setCell]; exact (h j hj).2⟩
  by_cases e : j = i
  · subst e
    rw [World.cell?_setCell_same _ _ _ (h j hj).1]
    simp
  · rw [World.cell?_setCell_other _ _ _ _ (by intro h; injection h; omega), (h j hj).1]
    dsimp only
    rw [if_neg (by omega)]

theorem At4.set {w : World} {g i : Nat} {x : Pc} (h : At4 w g i x) {k j : Nat} (hk : k ≠ g) (v : Value) : At4 (w.setCell ⟨k, j, none⟩ v) g i x := by
  obtain ⟨h0, h1, h2, h3⟩ := h
  have o : ∀ p : Addr, p.block = g → (w.setCell ⟨k, j, none⟩ v).cell? p = w.cell? p := fun p hp => World.cell?_setCell_other _ _ _ _ (fun e => hk (by rw [← hp, ← e]))
  exact ⟨(o _ rfl).trans h0, (o _ rfl).trans h1, (o _ rfl).trans h2, (o _ rfl).trans h3⟩

/-- How many of the days from a on, below m, lie in the year y. -/
def cnt (a m y : Int) : Int := span (if a < D.ys y then D.ys y else a) (if D.ys (y + 1) - 1 < m - 1 then D.ys (y + 1) - 1 else m - 1)

theorem cnt_start (a y : Int) : cnt a a y = 0 := by
  unfold cnt span
  generalize D.ys y = p
  generalize D.ys (y + 1) = q
  repeat' split
  all_goals omega
theorem cnt_bd (a m y : Int) (h : a ≤ m) : 0 ≤ cnt a m y ∧ cnt a m y ≤ m - a := by
  unfold cnt span
  generalize D.ys y = p
  generalize D.ys (y + 1) = q
  repeat' split
  all_goals omega
theorem cnt_step {a m en k d : Int} (ha : a ≤ m) (hk : D.At m k d) (h0 : m ≤ en) (h1 : en ≤ m + D.ln k - (d + 1)) (y : Int) : cnt a (en + 1) y = if y = 1900 + k / 12 then cnt a m y + (en - m + 1) else cnt a m y := by
  have hk2 : D.At en k (d + (en - m)) := ⟨hk.k0, hk.k1, by have := hk.d0; omega, by omega, by have := hk.eq; omega⟩
  have y1 := hk.year
  have y2 := hk2.year
  by_cases c : y = 1900 + k / 12
  · rw [if_pos c]
    subst c
    unfold cnt span
    generalize D.ys (1900 + k / 12) = p at *
    generalize D.ys (1900 + k / 12 + 1) = q at *
    repeat' split
    all_goals omega
  · rw [if_neg c]
    by_cases c2 : y < 1900 + k / 12
    · have l := D.ys_le (show y + 1 ≤ 1900 + k / 12 by omega)
      have l2 := D.ys_le (show y ≤ y + 1 by omega)
      unfold cnt span
      generalize D.ys (1900 + k / 12) = p at *
      generalize D.ys (y + 1) = q at *
      generalize D.ys y = r at *
      repeat' split
      all_goals omega
    · have l := D.ys_le (show 1900 + k / 12 + 1 ≤ y by omega)
      have l2 := D.ys_le (show y ≤ y + 1 by omega)
      unfold cnt span
      generalize D.ys (1900 + k / 12 + 1) = p at *
      generalize D.ys (y + 1) = q at *
      generalize D.ys y = r at *
      repeat' split
      all_goals omega
/-- What the years up to y hold of the days from a to b. -/
def upto (a b y : Int) : Int := if D.ys y ≤ a then 0 else if b + 1 ≤ D.ys y then b + 1 - a else D.ys y - a
theorem upto_step (a b y : Int) (h : a ≤ b) : upto a b (y + 1) = upto a b y + cnt a (b + 1) y := by
  have l2 := D.ys_le (show y ≤ y + 1 by omega)
  unfold upto cnt span
  generalize D.ys (y + 1) = q at *
  generalize D.ys y = r at *
  repeat' split
  all_goals omega
theorem upto_bd (a b y : Int) (h : a ≤ b) : 0 ≤ upto a b y ∧ upto a b y ≤ b + 1 - a := by
  unfold upto
  generalize D.ys y = r at *
  repeat' split
  all_goals omega
theorem upto_first (a b : Int) (h : 0 ≤ a) : upto a b 1900 = 0 := by unfold upto; rw [D.ys_0, if_pos h]
theorem upto_last (a b : Int) (h : a ≤ b) (hb : b ≤ 109572) : upto a b 2200 = b + 1 - a := by unfold upto; rw [D.ys_end, if_neg (by omega), if_pos (by omega)]
theorem share_cnt (a b y : Int) : span (if a < D.ys y then D.ys y else a) (if D.ys (y + 1) - 1 < b then D.ys (y + 1) - 1 else b) = cnt a (b + 1) y := by
  unfold cnt
  rw [show b + 1 - 1 = b by omega]

set_option maxRecDepth 100000 in
set_option maxHeartbeats 4000000 in
theorem shares_from (n0 m0 A B : Int) (lo0 : 0 ≤ A) (hlh : A ≤ B) (hi0 : B ≤ 109572) (full : List Pc) (hF : Hid (Mo B A full)) (W : World) (hM : Mon W)
    (hA : ∀ W, Calls Tryd.prog 10 #[.int .i64 n0] W fun e w' => e = .returned (.int .i64 A) ∧ w' = W) (hB : ∀ W, Calls Tryd.prog 10 #[.int .i64 m0] W fun e w' => e = .returned (.int .i64 B) ∧ w' = W)
    (hMo : ∀ w, Calls Tryd.prog 7 #[.int .i64 A, .int .i64 B] w fun e w' => e = .returned (.func (.func 21) #[] #[.pointer (some ⟨w.heap.size, 0, none⟩), .pointer (some ⟨w.heap.size + 1, 0, none⟩)]) ∧ w' = (w.alloc (.cells #[.int .i64 A] 3)).alloc (.cells #[.int .i64 B] 3)) :
    Calls Tryd.prog 4 #[.int .i64 n0, .int .i64 m0] W fun e W' => e = .returned (.bool true) ∧ Below W.heap.size W W' := by
  go_enter Tryd.func4, Tryd.ntmps4
  have hlen : full.length ≤ 3600 := by
    have := hF.out.len hi0 0 (by omega) (by omega) (by rw [D.bg_0]; exact lo0)
    omega
  have hne : full ≠ [] := fun h => by
    subst h
    cases hF.out with
    | nil h => omega
  have tok1 : True := trivial
  have hz3 := zero300
  have hba : ¬ B < A := by omega
  go_wp2_with (first | (go_at_call 9; refine (known_true _ hM).mono ?_; rintro _ W1 ⟨rfl, hB1⟩; have hM1 := hM.later hB1) | (go_at_call 10; have _u := tok1; clear tok1; refine (hA _).mono ?_; clear hA; rintro _ W2 ⟨rfl, rfl⟩) | (go_at_call 10; refine (hB _).mono ?_; clear hB; rintro _ W2 ⟨rfl, rfl⟩) | (go_at_call 7; refine (hMo _).mono ?_; clear hMo; rintro _ W3 ⟨rfl, rfl⟩) | (go_at_call 8; fail))
  have c1 := Bx.new (W2.alloc (.cells z300 39)) (.int .i64 A) 3
  have c2 := Bx.new ((W2.alloc (.cells z300 39)).alloc (.cells #[.int .i64 A] 3)) (.int .i64 B) 3
  simp only [World.size_alloc] at c1 c2
  have c1' := c1.later ((Below.refl _ ((W2.alloc (.cells z300 39)).alloc (.cells #[.int .i64 A] 3))).alloc (Nat.le_refl _) (.cells #[.int .i64 B] 3))
  have hBX : Below W2.heap.size W2 (((W2.alloc (.cells z300 39)).alloc (.cells #[.int .i64 A] 3)).alloc (.cells #[.int .i64 B] 3)) := (((Below.refl _ W2).alloc (Nat.le_refl _) _).alloc (by simp) _).alloc (by simp; omega) _
  have hYr0 := ((Yrs.new W2 39).later ((Below.refl _ _).alloc (Nat.le_refl _) (.cells #[.int .i64 A] 3))).later ((Below.refl _ _).alloc (Nat.le_refl _) (.cells #[.int .i64 B] 3))
  have hP := pieces_any (W2.heap.size + 1) (W2.heap.size + 1 + 1) 0 A B lo0 hi0 full hF.out _ (hM1.later hBX) c1'.1 c2.1
  rw [cutP_no (by omega)] at hP
  refine hP.mono ?_
  clear hP
  rintro _ W4 ⟨v, rfl, ho, hB4⟩
  have hBW := below_step hB1 (below_step hBX hB4)
  have hY4 := hYr0.later hB4
  obtain ⟨g3, cap3, rfl, hv3⟩ := (row4_of ho).some hne
  have hg3 : W2.heap.size < g3 := by
    have := (ho.lt g3 rfl).1
    simp at this
    omega
  have hgW := hB1.size
  generalize W2.heap.size = gY at *
  clear c1 c2 c1' hBX hYr0 hB4 ho hM1 hB1
  go_wp2
  go_loopw [5, 9] (fun va vi wr => ∃ (i : Nat) (m : Int) (rest : List Pc) (f : Int → Int), va = .int .i64 m ∧ vi = .int .i64 i ∧ i ≤ full.length ∧ A ≤ m ∧ m ≤ B + 1 ∧ Hid (full.drop i = rest) ∧ Hid (Mo B m rest) ∧ Hid (m = A ∨ B < m ∨ ∃ k, 0 ≤ k ∧ k < 3600 ∧ m = D.bg k) ∧ Hid (∀ y, f y = cnt A m y) ∧ Yrs wr gY f ∧ (∀ i, i < full.length → At4 wr g3 i (full.getD i ⟨0, 0, 0, 0⟩)) ∧ Below W.heap.size W wr)
    (fun _ vi _ => full.length - (intOf vi).toNat)
  case atStart => exact ⟨0, A, full, fun _ => 0, rfl, rfl, by omega, by omega, by omega, rfl, hF, .inl rfl, fun y => (cnt_start A y).symm, hY4, hv3, hBW⟩
  case round =>
    obtain ⟨i, m, rest, f, rfl, rfl, hi, m0, m1, hdr, hmo, hbd, hf, hY, hv, hBr⟩ := hrel
    have hMr := hM.later hBr
    by_cases hin : i < full.length
    · obtain ⟨k, d, hk, en, he, l, hrest, hl⟩ : ∃ k d, ∃ _ : D.At m k d, ∃ en, ∃ _ : en = (if B < m + D.ln k - (d + 1) then B else m + D.ln k - (d + 1)), ∃ l, rest = ⟨1900 + k / 12, k % 12 + 1, d + 1, en - m + 1⟩ :: l ∧ Hid (Mo B (en + 1) l) := by
        have hne2 : rest ≠ [] := by rw [← hdr.out]; intro h; have := congrArg List.length h; simp at this; omega
        cases hmo.out with
        | nil h => exact absurd rfl hne2
        | cons h k d hk en he hl => exact ⟨k, d, hk, en, he, _, rfl, hl⟩
      have hxe : full.getD i ⟨0, 0, 0, 0⟩ = ⟨1900 + k / 12, k % 12 + 1, d + 1, en - m + 1⟩ := by
        have := congrArg (fun l => l[0]?) hdr.out
        rw [hrest] at this
        simp at this
        rw [List.getD_eq_getElem?_getD, this]
        rfl
      have hdr2 : Hid (full.drop (i + 1) = l) := by
        have := congrArg List.tail hdr.out
        rw [hrest] at this
        unfold Hid
        simpa using this
      have hle : m ≤ B := by
        cases hmo.out with
        | nil h => cases hrest
        | cons h => exact h
      have he2 := mo_en hle hk
      rw [← he] at he2
      obtain ⟨en0, en1⟩ := he2
      have hNum := fun W hM => number_any (1900 + k / 12) (k % 12 + 1) (d + 1) W hM m 0 (by unfold Hid; rw [D.at_num hk])
      have hLa := fun W hM => last_any (1900 + k / 12) (k % 12 + 1) W hM (D.ln k) rfl
      have k0 := hk.k0
      have k1 := hk.k1
      have d0 := hk.d0
      have d1 := hk.d1
      have lb := D.ln_bd k
      have hday : m = A ∨ d = 0 := by
        rcases hbd.out with h | h | ⟨k', q0, q1, q2⟩
        · exact .inl h
        · omega
        · have := D.at_of q0 q1 (n := m) (by omega) (by rw [D.bg_succ]; have := D.ln_bd k'; omega)
          have := (hk.uniq this).2
          omega
      have hen : en ≤ m + D.ln k - (d + 1) := by rw [he]; split <;> omega
      have hyear : Hid (∀ y, cnt A (en + 1) y = if y = 1900 + k / 12 then cnt A m y + (en - m + 1) else cnt A m y) := fun y => cnt_step m0 hk en0 hen y
      have hbd2 : Hid (en + 1 = A ∨ B < en + 1 ∨ ∃ k, 0 ≤ k ∧ k < 3600 ∧ en + 1 = D.bg k) := by
        unfold Hid
        by_cases q : B < en + 1
        · exact .inr (.inl q)
        · have q1 : ¬ B < m + D.ln k - (d + 1) := fun q1 => by rw [if_pos q1] at he; omega
          rw [if_neg q1] at he
          have q2 : en + 1 = D.bg (k + 1) := by rw [D.bg_succ]; have := hk.eq; omega
          refine .inr (.inr ⟨k + 1, by omega, ?_, q2⟩)
          by_cases q3 : k + 1 < 3600
          · exact q3
          · rw [show k + 1 = 3600 by omega, D.bg_end] at q2
            omega
      have hcb : 0 ≤ cnt A m (1900 + k / 12) ∧ cnt A m (1900 + k / 12) ≤ 109573 := by have := cnt_bd A m (1900 + k / 12) m0; omega
      obtain ⟨j, hj⟩ : ∃ j : Nat, k / 12 = j := ⟨(k / 12).toNat, by omega⟩
      have hjl : j < 300 := by omega
      have hxi := hv i hin
      rw [hxe, hj] at hxi
      rw [hj] at hNum hLa hcb hyear
      obtain ⟨F, hF2⟩ : ∃ F, cnt A m (1900 + j) = F := ⟨_, rfl⟩
      have hfj : f (1900 + j) = F := (hf.out _).trans hF2
      have hF3 : Hid (cnt A m (1900 + j) = F) := hF2
      rw [hF2] at hcb
      have hYc := hY j hjl
      rw [hfj] at hYc
      clear hF2
      generalize k % 12 + 1 = Mm at *
      generalize D.ln k = L at *
      obtain ⟨K, hK⟩ : ∃ K, d + 1 = K := ⟨_, rfl⟩
      obtain ⟨c, hc⟩ : ∃ c, en - m + 1 = c := ⟨_, rfl⟩
      rw [hK, hc] at hxi
      rw [hK] at hNum
      have K0 : 1 ≤ K ∧ K ≤ 31 := by omega
      have cc : 1 ≤ c ∧ c ≤ 31 ∧ K + c - 1 ≤ L := by omega
      have hKA : m = A ∨ ¬ 1 < K := by omega
      have e0 : en + 1 = m + c := by omega
      rw [hc] at hyear
      rw [e0] at hl hyear hbd2
      clear hK hc he hen hk d0 d1 hday en0 hbd hmo hdr hrest hxe
      obtain ⟨p0, p1, p2, p3⟩ := id hxi
      have hg3l : g3 < wr.heap.size := World.block_lt_of_cell? _ _ p0
      go_wp2
      go_region_held3 (fun X => X.cell? ⟨g3, i * 4, none⟩ = some (.int .i64 (1900 + j)) ∧ X.cell? ⟨g3, i * 4 + 1, none⟩ = some (.int .i64 Mm) ∧ X.cell? ⟨g3, i * 4 + 2, none⟩ = some (.int .i64 K) ∧ X.cell? ⟨g3, i * 4 + 3, none⟩ = some (.int .i64 c)) (go_keep) (first | fail)
      clear p0 p1 p2 p3
      have hX := (Box3.new wr (.int .i64 (1900 + j)) (.int .i64 Mm) (.int .i64 K) 33).drew
      have hB5 := ((Below.refl wr.heap.size wr).alloc (Nat.le_refl _) (.cells #[.int .i64 (1900 + j), .int .i64 Mm, .int .i64 K] 33)).drew
      generalize (wr.alloc (.cells #[.int .i64 (1900 + j), .int .i64 Mm, .int .i64 K] 33)).drew = W5 at *
      have hM5 := hMr.later hB5
      obtain ⟨z0, z1, z2, -⟩ := id hX
      go_wp2_with (go_at_call 11; refine (hNum _ hM5).mono ?_; clear hNum; rintro _ W6 ⟨rfl, hB6⟩)
      have hX6 := hX.later hB6
      have hM6 := hM5.later hB6
      obtain ⟨z0, z1, z2, -⟩ := id hX6
      clear hX
      have e1 : IntKind.i64.wrap (K + c) = K + c := by rw [IntKind.wrap_i64]; omega
      have e2 : IntKind.i64.wrap (K + c - 1) = K + c - 1 := by rw [IntKind.wrap_i64]; omega
      have g0 : ¬ c < 1 := by omega
      have g1 : ¬ 31 < c := by omega
      have g2 : ¬ 1900 + (j : Int) < 1900 := by omega
      have g3' : ¬ 2199 < 1900 + (j : Int) := by omega
      have g4 : ¬ L < K + c - 1 := by omega
      have hKA2 : ¬ 1 < K ∨ (1 < K ∧ (m != A) = false) := by
        rcases hKA with h | h
        · by_cases q : 1 < K
          · exact .inr ⟨q, by simp [h]⟩
          · exact .inl q
        · exact .inl (by omega)
      rcases hKA2 with g5 | ⟨g5, g6⟩
      · go_quiet ((go_at_call 12; exact Calls.quiet_of_same (hLa _ (hM6.drewN _))))
        have hX7 := hX6.drewN nq
        have hB7 := below_drewN (below_step hB5 hB6) nq
        have hY7 := hY.later hB7
        have hv7 := fun i hi => (hv i hi).later hB7
        have hBr7 := below_step hBr hB7
        have hgy : gY ≠ wr.heap.size := Nat.ne_of_lt hY.lt
        clear hX6 hM6 hM5 hB5 hB6 hB7 z0 z1 z2 hLa hY hv hYc hBr hMr hxi
        generalize W6.drewN nq = W7 at *
        obtain ⟨z0, z1, z2, -⟩ := id hX7
        obtain ⟨y0, y1⟩ := hY7 j hjl
        rw [hfj] at y0
        have e3 : wrap64 (m + c) = m + c := wrap64_id (by omega) (by omega)
        have e4 : wrap64 (F + c) = F + c := wrap64_id (by omega) (by omega)
        have e5 : IntKind.i64.wrap (1900 + (j : Int) - 1900) = (j : Int) := by rw [IntKind.wrap_i64]; omega
        have e6 : IntKind.i64.wrap (F + c) = F + c := by rw [IntKind.wrap_i64]; omega
        go_wp2
        go_region
        go_wp2
        go_roundw
        case rel =>
          refine ⟨i + 1, m + c, l, fun y => if y = 1900 + (j : Int) then F + c else f y, rfl, by go_num, by omega, by omega, by omega, hdr2, hl, hbd2, ?_, ((hY7.set j hjl (F + c)).later (Below.refl _ _).drew), fun i hi => ((hv7 i hi).set (by omega) _).later (Below.refl _ _).drew, (hBr7.setCell (p := ⟨gY, j, none⟩) hgW _).drew⟩
          intro y
          dsimp only
          rw [hyear.out y]
          by_cases hy : y = 1900 + (j : Int)
          · rw [if_pos hy, if_pos hy, hy, hF3.out]
          · rw [if_neg hy, if_neg hy, hf.out y]
        case measure => simp [intOf]; omega
      · go_quiet ((go_at_call 12; exact Calls.quiet_of_same (hLa _ (hM6.drewN _))))
        have hX7 := hX6.drewN nq
        have hB7 := below_drewN (below_step hB5 hB6) nq
        have hY7 := hY.later hB7
        have hv7 := fun i hi => (hv i hi).later hB7
        have hBr7 := below_step hBr hB7
        have hgy : gY ≠ wr.heap.size := Nat.ne_of_lt hY.lt
        clear hX6 hM6 hM5 hB5 hB6 hB7 z0 z1 z2 hLa hY hv hYc hBr hMr hxi
        generalize W6.drewN nq = W7 at *
        obtain ⟨z0, z1, z2, -⟩ := id hX7
        obtain ⟨y0, y1⟩ := hY7 j hjl
        rw [hfj] at y0
        have e3 : wrap64 (m + c) = m + c := wrap64_id (by omega) (by omega)
        have e4 : wrap64 (F + c) = F + c := wrap64_id (by omega) (by omega)
        have e5 : IntKind.i64.wrap (1900 + (j : Int) - 1900) = (j : Int) := by rw [IntKind.wrap_i64]; omega
        have e6 : IntKind.i64.wrap (F + c) = F + c := by rw [IntKind.wrap_i64]; omega
        go_wp2
        go_region
        go_wp2
        go_roundw
        case rel =>
          refine ⟨i + 1, m + c, l, fun y => if y = 1900 + (j : Int) then F + c else f y, rfl, by go_num, by omega, by omega, by omega, hdr2, hl, hbd2, ?_, ((hY7.set j hjl (F + c)).later (Below.refl _ _).drew), fun i hi => ((hv7 i hi).set (by omega) _).later (Below.refl _ _).drew, (hBr7.setCell (p := ⟨gY, j, none⟩) hgW _).drew⟩
          intro y
          dsimp only
          rw [hyear.out y]
          by_cases hy : y = 1900 + (j : Int)
          · rw [if_pos hy, if_pos hy, hy, hF3.out]
          · rw [if_neg hy, if_neg hy, hf.out y]
        case measure => simp [intOf]; omega
    · obtain rfl : i = full.length := by omega
      have hr0 : rest = [] := by rw [← hdr.out]; simp
      subst hr0
      have hBm : B < m := by cases hmo.out; assumption
      obtain rfl : m = B + 1 := by omega
      have e1 : wrap64 (B + 1) = B + 1 := wrap64_id (by omega) (by omega)
      clear hmo hdr hbd hv hv3 hY4 hBW hin
      go_wp2
      go_loopw [14, 15] (fun vs vy wr => ∃ y : Int, vs = .int .i64 (upto A B y) ∧ vy = .int .i64 y ∧ 1900 ≤ y ∧ y ≤ 2200 ∧ Yrs wr gY f ∧ Below W.heap.size W wr) (fun _ vy _ => (2201 - intOf vy).toNat)
      case atStart => exact ⟨1900, by rw [upto_first A B lo0], rfl, by omega, by omega, hY, hBr⟩
      case round =>
        clear hY hBr hMr
        obtain ⟨y, rfl, rfl, y0, y1, hY, hBr⟩ := hrel
        have hMr := hM.later hBr
        by_cases hy : y < 2200
        · obtain ⟨j, rfl⟩ : ∃ j : Nat, y = 1900 + j := ⟨(y - 1900).toNat, by omega⟩
          have hjl : j < 300 := by omega
          have hS := share_any A B (1900 + j) _ _ 0 (ShareIs.yes ⟨⟨⟨lo0, by omega⟩, by omega, hi0⟩, y0, by omega⟩ hlh) wr hMr
          rw [share_cnt] at hS
          have hL := fun W => leap_any (1900 + j) W
          have hys := D.ys_succ (1900 + j)
          rw [D.lv_leap] at hys
          have hfy : f (1900 + j) = cnt A (B + 1) (1900 + j) := hf.out _
          have hcb := cnt_bd A (B + 1) (1900 + j) (by omega)
          have hub := upto_bd A B (1900 + j) hlh
          have hus2 : Hid (upto A B (1900 + j + 1) = upto A B (1900 + j) + cnt A (B + 1) (1900 + j)) := upto_step A B (1900 + j) hlh
          have hwh : D.ys (1900 + j + 1) - D.ys (1900 + j) = 365 + if D.leap (1900 + j) = true then 1 else 0 := by omega
          rw [hwh] at hS
          clear hwh hys
          generalize cnt A (B + 1) (1900 + j) = p at *
          have e2 : wrap64 (upto A B (1900 + j) + p) = upto A B (1900 + j) + p := wrap64_id (by omega) (by omega)
          cases hlp : D.leap (1900 + j) with
          | true =>
            have hL2 : D.leap (1900 + (j : Int)) = true := hlp
            rw [hlp] at hS hL
            have hwh : 365 + (if true = true then (1 : Int) else 0) = 366 := by simp
            rw [hwh] at hS
            clear hL2 hlp hwh
            go_wp2_with (first | (go_at_call 13; refine hS.mono ?_; clear hS; rintro _ W5 ⟨rfl, hB5⟩; have ⟨c1, c2⟩ := (hY.later hB5) j hjl; rw [hfy] at c1) | (go_at_call 14; refine (hL _).mono ?_; clear hL; rintro _ W6 ⟨rfl, rfl⟩))
            go_roundw
            case rel => exact ⟨1900 + (j : Int) + 1, by rw [hus2.out], by go_num, by omega, by omega, hY.later hB5, below_step hBr hB5⟩
            case measure => simp [intOf]; omega
          | false =>
            have hL2 : D.leap (1900 + (j : Int)) = false := hlp
            rw [hlp] at hS hL
            have hwh : 365 + (if false = true then (1 : Int) else 0) = 365 := by simp
            rw [hwh] at hS
            clear hL2 hlp hwh
            go_wp2_with (first | (go_at_call 13; refine hS.mono ?_; clear hS; rintro _ W5 ⟨rfl, hB5⟩; have ⟨c1, c2⟩ := (hY.later hB5) j hjl; rw [hfy] at c1) | (go_at_call 14; refine (hL _).mono ?_; clear hL; rintro _ W6 ⟨rfl, rfl⟩))
            go_roundw
            case rel => exact ⟨1900 + (j : Int) + 1, by rw [hus2.out], by go_num, by omega, by omega, hY.later hB5, below_step hBr hB5⟩
            case measure => simp [intOf]; omega
        · obtain rfl : y = 2200 := by omega
          have hul := upto_last A B hlh hi0
          have e3 : wrap64 (B - A) = B - A := wrap64_id (by omega) (by omega)
          have e4 : wrap64 (B - A + 1) = B - A + 1 := wrap64_id (by omega) (by omega)
          rw [hul]
          go_wp2
          go_ret
          exact ⟨by simp; omega, hBr⟩

set_option maxRecDepth 100000 in
set_option maxHeartbeats 4000000 in
theorem shares_swap (n0 m0 A B : Int) (lo0 : 0 ≤ A) (hlh : A ≤ B) (hi0 : B ≤ 109572) (hlt : A < B) (full : List Pc) (hF : Hid (Mo B A full)) (W : World) (hM : Mon W)
    (hA : ∀ W, Calls Tryd.prog 10 #[.int .i64 n0] W fun e w' => e = .returned (.int .i64 B) ∧ w' = W) (hB : ∀ W, Calls Tryd.prog 10 #[.int .i64 m0] W fun e w' => e = .returned (.int .i64 A) ∧ w' = W)
    (hMo : ∀ w, Calls Tryd.prog 7 #[.int .i64 A, .int .i64 B] w fun e w' => e = .returned (.func (.func 21) #[] #[.pointer (some ⟨w.heap.size, 0, none⟩), .pointer (some ⟨w.heap.size + 1, 0, none⟩)]) ∧ w' = (w.alloc (.cells #[.int .i64 A] 3)).alloc (.cells #[.int .i64 B] 3)) :
    Calls Tryd.prog 4 #[.int .i64 n0, .int .i64 m0] W fun e W' => e = .returned (.bool true) ∧ Below W.heap.size W W' := by
  go_enter Tryd.func4, Tryd.ntmps4
  have hlen : full.length ≤ 3600 := by
    have := hF.out.len hi0 0 (by omega) (by omega) (by rw [D.bg_0]; exact lo0)
    omega
  have hne : full ≠ [] := fun h => by
    subst h
    cases hF.out with
    | nil h => omega
  have tok1 : True := trivial
  have hz3 := zero300
  go_wp2_with (first | (go_at_call 9; refine (known_true _ hM).mono ?_; rintro _ W1 ⟨rfl, hB1⟩; have hM1 := hM.later hB1) | (go_at_call 10; have _u := tok1; clear tok1; refine (hA _).mono ?_; clear hA; rintro _ W2 ⟨rfl, rfl⟩) | (go_at_call 10; refine (hB _).mono ?_; clear hB; rintro _ W2 ⟨rfl, rfl⟩) | (go_at_call 7; refine (hMo _).mono ?_; clear hMo; rintro _ W3 ⟨rfl, rfl⟩) | (go_at_call 8; fail))
  have c1 := Bx.new (W2.alloc (.cells z300 39)) (.int .i64 A) 3
  have c2 := Bx.new ((W2.alloc (.cells z300 39)).alloc (.cells #[.int .i64 A] 3)) (.int .i64 B) 3
  simp only [World.size_alloc] at c1 c2
  have c1' := c1.later ((Below.refl _ ((W2.alloc (.cells z300 39)).alloc (.cells #[.int .i64 A] 3))).alloc (Nat.le_refl _) (.cells #[.int .i64 B] 3))
  have hBX : Below W2.heap.size W2 (((W2.alloc (.cells z300 39)).alloc (.cells #[.int .i64 A] 3)).alloc (.cells #[.int .i64 B] 3)) := (((Below.refl _ W2).alloc (Nat.le_refl _) _).alloc (by simp) _).alloc (by simp; omega) _
  have hYr0 := ((Yrs.new W2 39).later ((Below.refl _ _).alloc (Nat.le_refl _) (.cells #[.int .i64 A] 3))).later ((Below.refl _ _).alloc (Nat.le_refl _) (.cells #[.int .i64 B] 3))
  have hP := pieces_any (W2.heap.size + 1) (W2.heap.size + 1 + 1) 0 A B lo0 hi0 full hF.out _ (hM1.later hBX) c1'.1 c2.1
  rw [cutP_no (by omega)] at hP
  refine hP.mono ?_
  clear hP
  rintro _ W4 ⟨v, rfl, ho, hB4⟩
  have hBW := below_step hB1 (below_step hBX hB4)
  have hY4 := hYr0.later hB4
  obtain ⟨g3, cap3, rfl, hv3⟩ := (row4_of ho).some hne
  have hg3 : W2.heap.size < g3 := by
    have := (ho.lt g3 rfl).1
    simp at this
    omega
  have hgW := hB1.size
  generalize W2.heap.size = gY at *
  clear c1 c2 c1' hBX hYr0 hB4 ho hM1 hB1
  go_wp2
  go_loopw [5, 9] (fun va vi wr => ∃ (i : Nat) (m : Int) (rest : List Pc) (f : Int → Int), va = .int .i64 m ∧ vi = .int .i64 i ∧ i ≤ full.length ∧ A ≤ m ∧ m ≤ B + 1 ∧ Hid (full.drop i = rest) ∧ Hid (Mo B m rest) ∧ Hid (m = A ∨ B < m ∨ ∃ k, 0 ≤ k ∧ k < 3600 ∧ m = D.bg k) ∧ Hid (∀ y, f y = cnt A m y) ∧ Yrs wr gY f ∧ (∀ i, i < full.length → At4 wr g3 i (full.getD i ⟨0, 0, 0, 0⟩)) ∧ Below W.heap.size W wr)
    (fun _ vi _ => full.length - (intOf vi).toNat)
  case atStart => exact ⟨0, A, full, fun _ => 0, rfl, rfl, by omega, by omega, by omega, rfl, hF, .inl rfl, fun y => (cnt_start A y).symm, hY4, hv3, hBW⟩
  case round =>
    obtain ⟨i, m, rest, f, rfl, rfl, hi, m0, m1, hdr, hmo, hbd, hf, hY, hv, hBr⟩ := hrel
    have hMr := hM.later hBr
    by_cases hin : i < full.length
    · obtain ⟨k, d, hk, en, he, l, hrest, hl⟩ : ∃ k d, ∃ _ : D.At m k d, ∃ en, ∃ _ : en = (if B < m + D.ln k - (d + 1) then B else m + D.ln k - (d + 1)), ∃ l, rest = ⟨1900 + k / 12, k % 12 + 1, d + 1, en - m + 1⟩ :: l ∧ Hid (Mo B (en + 1) l) := by
        have hne2 : rest ≠ [] := by rw [← hdr.out]; intro h; have := congrArg List.length h; simp at this; omega
        cases hmo.out with
        | nil h => exact absurd rfl hne2
        | cons h k d hk en he hl => exact ⟨k, d, hk, en, he, _, rfl, hl⟩
      have hxe : full.getD i ⟨0, 0, 0, 0⟩ = ⟨1900 + k / 12, k % 12 + 1, d + 1, en - m + 1⟩ := by
        have := congrArg (fun l => l[0]?) hdr.out
        rw [hrest] at this
        simp at this
        rw [List.getD_eq_getElem?_getD, this]
        rfl
      have hdr2 : Hid (full.drop (i + 1) = l) := by
        have := congrArg List.tail hdr.out
        rw [hrest] at this
        unfold Hid
        simpa using this
      have hle : m ≤ B := by
        cases hmo.out with
        | nil h => cases hrest
        | cons h => exact h
      have he2 := mo_en hle hk
      rw [← he] at he2
      obtain ⟨en0, en1⟩ := he2
      have hNum := fun W hM => number_any (1900 + k / 12) (k % 12 + 1) (d + 1) W hM m 0 (by unfold Hid; rw [D.at_num hk])
      have hLa := fun W hM => last_any (1900 + k / 12) (k % 12 + 1) W hM (D.ln k) rfl
      have k0 := hk.k0
      have k1 := hk.k1
      have d0 := hk.d0
      have d1 := hk.d1
      have lb := D.ln_bd k
      have hday : m = A ∨ d = 0 := by
        rcases hbd.out with h | h | ⟨k', q0, q1, q2⟩
        · exact .inl h
        · omega
        · have := D.at_of q0 q1 (n := m) (by omega) (by rw [D.bg_succ]; have := D.ln_bd k'; omega)
          have := (hk.uniq this).2
          omega
      have hen : en ≤ m + D.ln k - (d + 1) := by rw [he]; split <;> omega
      have hyear : Hid (∀ y, cnt A (en + 1) y = if y = 1900 + k / 12 then cnt A m y + (en - m + 1) else cnt A m y) := fun y => cnt_step m0 hk en0 hen y
      have hbd2 : Hid (en + 1 = A ∨ B < en + 1 ∨ ∃ k, 0 ≤ k ∧ k < 3600 ∧ en + 1 = D.bg k) := by
        unfold Hid
        by_cases q : B < en + 1
        · exact .inr (.inl q)
        · have q1 : ¬ B < m + D.ln k - (d + 1) := fun q1 => by rw [if_pos q1] at he; omega
          rw [if_neg q1] at he
          have q2 : en + 1 = D.bg (k + 1) := by rw [D.bg_succ]; have := hk.eq; omega
          refine .inr (.inr ⟨k + 1, by omega, ?_, q2⟩)
          by_cases q3 : k + 1 < 3600
          · exact q3
          · rw [show k + 1 = 3600 by omega, D.bg_end] at q2
            omega
      have hcb : 0 ≤ cnt A m (1900 + k / 12) ∧ cnt A m (1900 + k / 12) ≤ 109573 := by have := cnt_bd A m (1900 + k / 12) m0; omega
      obtain ⟨j, hj⟩ : ∃ j : Nat, k / 12 = j := ⟨(k / 12).toNat, by omega⟩
      have hjl : j < 300 := by omega
      have hxi := hv i hin
      rw [hxe, hj] at hxi
      rw [hj] at hNum hLa hcb hyear
      obtain ⟨F, hF2⟩ : ∃ F, cnt A m (1900 + j) = F := ⟨_, rfl⟩
      have hfj : f (1900 + j) = F := (hf.out _).trans hF2
      have hF3 : Hid (cnt A m (1900 + j) = F) := hF2
      rw [hF2] at hcb
      have hYc := hY j hjl
      rw [hfj] at hYc
      clear hF2
      generalize k % 12 + 1 = Mm at *
      generalize D.ln k = L at *
      obtain ⟨K, hK⟩ : ∃ K, d + 1 = K := ⟨_, rfl⟩
      obtain ⟨c, hc⟩ : ∃ c, en - m + 1 = c := ⟨_, rfl⟩
      rw [hK, hc] at hxi
      rw [hK] at hNum
      have K0 : 1 ≤ K ∧ K ≤ 31 := by omega
      have cc : 1 ≤ c ∧ c ≤ 31 ∧ K + c - 1 ≤ L := by omega
      have hKA : m = A ∨ ¬ 1 < K := by omega
      have e0 : en + 1 = m + c := by omega
      rw [hc] at hyear
      rw [e0] at hl hyear hbd2
      clear hK hc he hen hk d0 d1 hday en0 hbd hmo hdr hrest hxe
      obtain ⟨p0, p1, p2, p3⟩ := id hxi
      have hg3l : g3 < wr.heap.size := World.block_lt_of_cell? _ _ p0
      go_wp2
      go_region_held3 (fun X => X.cell? ⟨g3, i * 4, none⟩ = some (.int .i64 (1900 + j)) ∧ X.cell? ⟨g3, i * 4 + 1, none⟩ = some (.int .i64 Mm) ∧ X.cell? ⟨g3, i * 4 + 2, none⟩ = some (.int .i64 K) ∧ X.cell? ⟨g3, i * 4 + 3, none⟩ = some (.int .i64 c)) (go_keep) (first | fail)
      clear p0 p1 p2 p3
      have hX := (Box3.new wr (.int .i64 (1900 + j)) (.int .i64 Mm) (.int .i64 K) 33).drew
      have hB5 := ((Below.refl wr.heap.size wr).alloc (Nat.le_refl _) (.cells #[.int .i64 (1900 + j), .int .i64 Mm, .int .i64 K] 33)).drew
      generalize (wr.alloc (.cells #[.int .i64 (1900 + j), .int .i64 Mm, .int .i64 K] 33)).drew = W5 at *
      have hM5 := hMr.later hB5
      obtain ⟨z0, z1, z2, -⟩ := id hX
      go_wp2_with (go_at_call 11; refine (hNum _ hM5).mono ?_; clear hNum; rintro _ W6 ⟨rfl, hB6⟩)
      have hX6 := hX.later hB6
      have hM6 := hM5.later hB6
      obtain ⟨z0, z1, z2, -⟩ := id hX6
      clear hX
      have e1 : IntKind.i64.wrap (K + c) = K + c := by rw [IntKind.wrap_i64]; omega
      have e2 : IntKind.i64.wrap (K + c - 1) = K + c - 1 := by rw [IntKind.wrap_i64]; omega
      have g0 : ¬ c < 1 := by omega
      have g1 : ¬ 31 < c := by omega
      have g2 : ¬ 1900 + (j : Int) < 1900 := by omega
      have g3' : ¬ 2199 < 1900 + (j : Int) := by omega
      have g4 : ¬ L < K + c - 1 := by omega
      have hKA2 : ¬ 1 < K ∨ (1 < K ∧ (m != A) = false) := by
        rcases hKA with h | h
        · by_cases q : 1 < K
          · exact .inr ⟨q, by simp [h]⟩
          · exact .inl q
        · exact .inl (by omega)
      rcases hKA2 with g5 | ⟨g5, g6⟩
      · go_quiet ((go_at_call 12; exact Calls.quiet_of_same (hLa _ (hM6.drewN _))))
        have hX7 := hX6.drewN nq
        have hB7 := below_drewN (below_step hB5 hB6) nq
        have hY7 := hY.later hB7
        have hv7 := fun i hi => (hv i hi).later hB7
        have hBr7 := below_step hBr hB7
        have hgy : gY ≠ wr.heap.size := Nat.ne_of_lt hY.lt
        clear hX6 hM6 hM5 hB5 hB6 hB7 z0 z1 z2 hLa hY hv hYc hBr hMr hxi
        generalize W6.drewN nq = W7 at *
        obtain ⟨z0, z1, z2, -⟩ := id hX7
        obtain ⟨y0, y1⟩ := hY7 j hjl
        rw [hfj] at y0
        have e3 : wrap64 (m + c) = m + c := wrap64_id (by omega) (by omega)
        have e4 : wrap64 (F + c) = F + c := wrap64_id (by omega) (by omega)
        have e5 : IntKind.i64.wrap (1900 + (j : Int) - 1900) = (j : Int) := by rw [IntKind.wrap_i64]; omega
        have e6 : IntKind.i64.wrap (F + c) = F + c := by rw [IntKind.wrap_i64]; omega
        go_wp2
        go_region
        go_wp2
        go_roundw
        case rel =>
          refine ⟨i + 1, m + c, l, fun y => if y = 1900 + (j : Int) then F + c else f y, rfl, by go_num, by omega, by omega, by omega, hdr2, hl, hbd2, ?_, ((hY7.set j hjl (F + c)).later (Below.refl _ _).drew), fun i hi => ((hv7 i hi).set (by omega) _).later (Below.refl _ _).drew, (hBr7.setCell (p := ⟨gY, j, none⟩) hgW _).drew⟩
          intro y
          dsimp only
          rw [hyear.out y]
          by_cases hy : y = 1900 + (j : Int)
          · rw [if_pos hy, if_pos hy, hy, hF3.out]
          · rw [if_neg hy, if_neg hy, hf.out y]
        case measure => simp [intOf]; omega
      · go_quiet ((go_at_call 12; exact Calls.quiet_of_same (hLa _ (hM6.drewN _))))
        have hX7 := hX6.drewN nq
        have hB7 := below_drewN (below_step hB5 hB6) nq
        have hY7 := hY.later hB7
        have hv7 := fun i hi => (hv i hi).later hB7
        have hBr7 := below_step hBr hB7
        have hgy : gY ≠ wr.heap.size := Nat.ne_of_lt hY.lt
        clear hX6 hM6 hM5 hB5 hB6 hB7 z0 z1 z2 hLa hY hv hYc hBr hMr hxi
        generalize W6.drewN nq = W7 at *
        obtain ⟨z0, z1, z2, -⟩ := id hX7
        obtain ⟨y0, y1⟩ := hY7 j hjl
        rw [hfj] at y0
        have e3 : wrap64 (m + c) = m + c := wrap64_id (by omega) (by omega)
        have e4 : wrap64 (F + c) = F + c := wrap64_id (by omega) (by omega)
        have e5 : IntKind.i64.wrap (1900 + (j : Int) - 1900) = (j : Int) := by rw [IntKind.wrap_i64]; omega
        have e6 : IntKind.i64.wrap (F + c) = F + c := by rw [IntKind.wrap_i64]; omega
        go_wp2
        go_region
        go_wp2
        go_roundw
        case rel =>
          refine ⟨i + 1, m + c, l, fun y => if y = 1900 + (j : Int) then F + c else f y, rfl, by go_num, by omega, by omega, by omega, hdr2, hl, hbd2, ?_, ((hY7.set j hjl (F + c)).later (Below.refl _ _).drew), fun i hi => ((hv7 i hi).set (by omega) _).later (Below.refl _ _).drew, (hBr7.setCell (p := ⟨gY, j, none⟩) hgW _).drew⟩
          intro y
          dsimp only
          rw [hyear.out y]
          by_cases hy : y = 1900 + (j : Int)
          · rw [if_pos hy, if_pos hy, hy, hF3.out]
          · rw [if_neg hy, if_neg hy, hf.out y]
        case measure => simp [intOf]; omega
    · obtain rfl : i = full.length := by omega
      have hr0 : rest = [] := by rw [← hdr.out]; simp
      subst hr0
      have hBm : B < m := by cases hmo.out; assumption
      obtain rfl : m = B + 1 := by omega
      have e1 : wrap64 (B + 1) = B + 1 := wrap64_id (by omega) (by omega)
      clear hmo hdr hbd hv hv3 hY4 hBW hin
      go_wp2
      go_loopw [14, 15] (fun vs vy wr => ∃ y : Int, vs = .int .i64 (upto A B y) ∧ vy = .int .i64 y ∧ 1900 ≤ y ∧ y ≤ 2200 ∧ Yrs wr gY f ∧ Below W.heap.size W wr) (fun _ vy _ => (2201 - intOf vy).toNat)
      case atStart => exact ⟨1900, by rw [upto_first A B lo0], rfl, by omega, by omega, hY, hBr⟩
      case round =>
        clear hY hBr hMr
        obtain ⟨y, rfl, rfl, y0, y1, hY, hBr⟩ := hrel
        have hMr := hM.later hBr
        by_cases hy : y < 2200
        · obtain ⟨j, rfl⟩ : ∃ j : Nat, y = 1900 + j := ⟨(y - 1900).toNat, by omega⟩
          have hjl : j < 300 := by omega
          have hS := share_any A B (1900 + j) _ _ 0 (ShareIs.yes ⟨⟨⟨lo0, by omega⟩, by omega, hi0⟩, y0, by omega⟩ hlh) wr hMr
          rw [share_cnt] at hS
          have hL := fun W => leap_any (1900 + j) W
          have hys := D.ys_succ (1900 + j)
          rw [D.lv_leap] at hys
          have hfy : f (1900 + j) = cnt A (B + 1) (1900 + j) := hf.out _
          have hcb := cnt_bd A (B + 1) (1900 + j) (by omega)
          have hub := upto_bd A B (1900 + j) hlh
          have hus2 : Hid (upto A B (1900 + j + 1) = upto A B (1900 + j) + cnt A (B + 1) (1900 + j)) := upto_step A B (1900 + j) hlh
          have hwh : D.ys (1900 + j + 1) - D.ys (1900 + j) = 365 + if D.leap (1900 + j) = true then 1 else 0 := by omega
          rw [hwh] at hS
          clear hwh hys
          generalize cnt A (B + 1) (1900 + j) = p at *
          have e2 : wrap64 (upto A B (1900 + j) + p) = upto A B (1900 + j) + p := wrap64_id (by omega) (by omega)
          cases hlp : D.leap (1900 + j) with
          | true =>
            have hL2 : D.leap (1900 + (j : Int)) = true := hlp
            rw [hlp] at hS hL
            have hwh : 365 + (if true = true then (1 : Int) else 0) = 366 := by simp
            rw [hwh] at hS
            clear hL2 hlp hwh
            go_wp2_with (first | (go_at_call 13; refine hS.mono ?_; clear hS; rintro _ W5 ⟨rfl, hB5⟩; have ⟨c1, c2⟩ := (hY.later hB5) j hjl; rw [hfy] at c1) | (go_at_call 14; refine (hL _).mono ?_; clear hL; rintro _ W6 ⟨rfl, rfl⟩))
            go_roundw
            case rel => exact ⟨1900 + (j : Int) + 1, by rw [hus2.out], by go_num, by omega, by omega, hY.later hB5, below_step hBr hB5⟩
            case measure => simp [intOf]; omega
          | false =>
            have hL2 : D.leap (1900 + (j : Int)) = false := hlp
            rw [hlp] at hS hL
            have hwh : 365 + (if false = true then (1 : Int) else 0) = 365 := by simp
            rw [hwh] at hS
            clear hL2 hlp hwh
            go_wp2_with (first | (go_at_call 13; refine hS.mono ?_; clear hS; rintro _ W5 ⟨rfl, hB5⟩; have ⟨c1, c2⟩ := (hY.later hB5) j hjl; rw [hfy] at c1) | (go_at_call 14; refine (hL _).mono ?_; clear hL; rintro _ W6 ⟨rfl, rfl⟩))
            go_roundw
            case rel => exact ⟨1900 + (j : Int) + 1, by rw [hus2.out], by go_num, by omega, by omega, hY.later hB5, below_step hBr hB5⟩
            case measure => simp [intOf]; omega
        · obtain rfl : y = 2200 := by omega
          have hul := upto_last A B hlh hi0
          have e3 : wrap64 (B - A) = B - A := wrap64_id (by omega) (by omega)
          have e4 : wrap64 (B - A + 1) = B - A + 1 := wrap64_id (by omega) (by omega)
          rw [hul]
          go_wp2
          go_ret
          exact ⟨by simp; omega, hBr⟩

theorem shares_walk (n0 m0 : Int) (W : World) (hM : Mon W) (hn : -9223372036854775808 ≤ n0 ∧ n0 ≤ 9223372036854775807) (hm : -9223372036854775808 ≤ m0 ∧ m0 ≤ 9223372036854775807) :
    Calls Tryd.prog 4 #[.int .i64 n0, .int .i64 m0] W fun e W' => e = .returned (.bool true) ∧ Below W.heap.size W W' := by
  have hA := fun W => day_any n0 hn.1 hn.2 W
  have hB := fun W => day_any m0 hm.1 hm.2 W
  have ha := D.dn_bd n0
  have hb := D.dn_bd m0
  generalize D.dn n0 = A at *
  generalize D.dn m0 = B at *
  have hMo : ∀ lo hi : Int, 0 ≤ lo → hi ≤ 109572 → _ := fun lo hi h0 h1 w => by
    have := months_any lo hi w
    rw [if_pos h0, if_pos h1] at this
    exact this
  by_cases c : A ≤ B
  · obtain ⟨full, hfull⟩ := mo_ex B hb.2 _ A ha.1 (Nat.le_refl _)
    exact shares_from n0 m0 A B ha.1 c hb.2 full hfull W hM hA hB (hMo A B ha.1 hb.2)
  · obtain ⟨full, hfull⟩ := mo_ex A ha.2 _ B hb.1 (Nat.le_refl _)
    exact shares_swap n0 m0 B A hb.1 (by omega) ha.2 (by omega) full hfull W hM hA hB (hMo B A hb.1 ha.2)

end Go.Proofs.YtaecodgmfmijlaaDoor

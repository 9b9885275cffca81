import Derived.Test.YtmppgcijbeipfaaDoorRfHeld
import Derived.Maps.AppendAt
import Derived.Deep.DeepCutAuto
import Derived.Test.YtmppgcijbeipfaaDoorRfDifP
import Derived.Test.YtmppgcijbeipfaaDoorTChange
import Derived.Deep.RegionLaw
import Derived.BigQuiet
namespace Go.Proofs.YtmppgcijbeipfaaDoor
open Go.RowKit

def dfR (w : World) (A B : Es) (R : List Ch) (lv iv kv : Value) (X : World) : Prop := ∃ (i k : Nat) (D : List Ch), Hid (i ≤ A.length ∧ k ≤ B.length ∧ D.length ≤ i + k) ∧ iv = .int .i64 (i : Int) ∧ kv = .int .i64 (k : Int) ∧ Hid (∃ n, (A.length - i) + (B.length - k) ≤ n ∧ R = D ++ rdif n (A.drop i) (B.drop k)) ∧ X.ownsRow w.heap.size 99 7 lv D.length (flat7 D) ∧ Below w.heap.size w X

theorem rf_allocD (W : World) (cs : List Value) (t : TypeId) (n : Nat) (hn : W.heap.size = n) : ∀ j u, cs[j]? = some u → (W.alloc (.cells cs.toArray t)).cell? ((⟨n, 0, none⟩ : Addr).add j) = some u := by
  intro j u h
  subst hn
  have e : (⟨W.heap.size, 0, none⟩ : Addr).add j = ⟨W.heap.size, j, none⟩ := by unfold Addr.add; by_cases hj : j = 0 <;> simp [hj]
  rw [e, cell_of_row _ _ j _ _ _ (heap_alloc_last W (.cells cs.toArray t))]
  simpa using h
theorem rf_nl {n i k a b : Nat} (h1 : n + 1 ≤ i + k) (h2 : i ≤ a) (h3 : k ≤ b) (h4 : a ≤ 5000000000) (h5 : b ≤ 5000000000) : n + 1 ≤ maxLen ∧ (n + 1) * 40 ≤ 140737488355328 := by unfold maxLen; omega
theorem rf_ms {a b i k i1 k1 : Nat} (h : i1 ≤ a ∧ k1 ≤ b ∧ i + k < i1 + k1) : a + b - (i1 + k1) < a + b - (i + k) := by omega
/-- What a round tells. -/
def rdc (d : Bool) (c : Ch) : List Ch := if d then [c] else []
theorem rdc_t (c : Ch) : rdc true c = [c] := rfl
theorem rdc_f (c : Ch) : rdc false c = [] := rfl
theorem rd_round {A B : Es} {i k i1 k1 k1' k2 : Nat} {D R : List Ch} {had has : Bool} {wx wy nx ny : Int}
    (hHad : (¬ k < B.length ∧ had = true) ∨ (k < B.length ∧ ¬ i < A.length ∧ had = false) ∨ (∃ (hi : i < A.length) (hk : k < B.length), had = decide (A[i].1 ≤ B[k].1)))
    (hHas : (¬ i < A.length ∧ has = true) ∨ (i < A.length ∧ ¬ k < B.length ∧ has = false) ∨ (∃ (hi : i < A.length) (hk : k < B.length), has = decide (B[k].1 ≤ A[i].1)))
    (hdn : i < A.length ∨ k < B.length) (hRn : ∃ n, (A.length - i) + (B.length - k) ≤ n ∧ R = D ++ rdif n (A.drop i) (B.drop k))
    (pAF : had = false → i1 = i ∧ k1 = 0 ∧ wx = 0 ∧ wy = 0) (pAT : had = true → ∃ h : i < A.length, i1 = i + 1 ∧ (k1 = A[i].1 ∧ wx = A[i].2.1) ∧ wy = A[i].2.2)
    (pBF : has = false → k1' = k ∧ k2 = k1 ∧ nx = 0 ∧ ny = 0) (pBT : has = true → ∃ h : k < B.length, k1' = k + 1 ∧ (k2 = B[k].1 ∧ nx = B[k].2.1) ∧ ny = B[k].2.2)
    (hik : i ≤ A.length ∧ k ≤ B.length ∧ D.length ≤ i + k) :
    ∃ d : Bool, (d = true ↔ (had = false ∨ has = false ∨ ¬ wx = nx ∨ ¬ wy = ny)) ∧ i + k < i1 + k1' ∧ ∃ c : Ch, chL c = [.int .u32 (k2 : Int), .bool had, .bool has, .int .i64 wx, .int .i64 wy, .int .i64 nx, .int .i64 ny] ∧
      (i1 ≤ A.length ∧ k1' ≤ B.length ∧ (D ++ rdc d c).length ≤ i1 + k1') ∧ ∃ n, (A.length - i1) + (B.length - k1') ≤ n ∧ R = (D ++ rdc d c) ++ rdif n (A.drop i1) (B.drop k1') := by
  obtain ⟨h1, h2, h3⟩ := hik
  rcases rd_next hHad hHas hdn hRn with ⟨z1, z2, hi, hRx⟩ | ⟨z1, z2, hk, hRx⟩ | ⟨z1, z2, hi, hk, hkey, hRx⟩
  · subst z1 z2
    obtain ⟨_, rfl, ⟨rfl, rfl⟩, rfl⟩ := pAT rfl
    obtain ⟨rfl, rfl, rfl, rfl⟩ := pBF rfl
    exact ⟨true, by simp, by omega, _, rfl, ⟨hi, h2, by rw [rdc_t]; simp; omega⟩, hRx⟩
  · subst z1 z2
    obtain ⟨rfl, rfl, rfl, rfl⟩ := pAF rfl
    obtain ⟨_, rfl, ⟨rfl, rfl⟩, rfl⟩ := pBT rfl
    exact ⟨true, by simp, by omega, _, rfl, ⟨h1, hk, by rw [rdc_t]; simp; omega⟩, hRx⟩
  · subst z1 z2
    obtain ⟨_, rfl, ⟨rfl, rfl⟩, rfl⟩ := pAT rfl
    obtain ⟨_, rfl, ⟨rfl, rfl⟩, rfl⟩ := pBT rfl
    rcases hRx with ⟨he, hRx⟩ | ⟨hne, hRx⟩
    · exact ⟨false, by simp [he], by omega, (B[k].1, (some A[i].2, some B[k].2)), rfl, ⟨hi, hk, by rw [rdc_f]; simp; omega⟩, by rw [rdc_f, List.append_nil]; exact hRx⟩
    · refine ⟨true, ?_, by omega, (B[k].1, (some A[i].2, some B[k].2)), rfl, ⟨hi, hk, by rw [rdc_t]; simp; omega⟩, by rw [rdc_t, ← hkey]; exact hRx⟩
      have : ¬ (A[i].2.1 = B[k].2.1 ∧ A[i].2.2 = B[k].2.2) := fun h => hne (Prod.ext h.1 h.2)
      simp only [true_iff]
      by_cases e1 : A[i].2.1 = B[k].2.1
      · exact .inr (.inr (.inr fun e2 => this ⟨e1, e2⟩))
      · exact .inr (.inr (.inl e1))

set_option maxRecDepth 4000 in
set_option maxHeartbeats 80000000 in
theorem diff_rf (a b : Nat) (A B : Es) (hA : A.length ≤ 5000000000) (hB : B.length ≤ 5000000000) (w : World) (ha : RfAt w a A) (hb : RfAt w b B) : Calls Tryd.prog 29 #[.pointer (some ⟨a, 0, none⟩), .pointer (some ⟨b, 0, none⟩)] w fun e w' => ∃ q c, e = .returned (.slice q (rdif (A.length + B.length) A B).length c) ∧ w'.ownsRow w.heap.size 99 7 (.slice q (rdif (A.length + B.length) A B).length c) (rdif (A.length + B.length) A B).length (flat7 (rdif (A.length + B.length) A B)) ∧ Below w.heap.size w w' := by
  have hal : Hid (a < w.heap.size) := ha.lt
  have hbl : Hid (b < w.heap.size) := hb.lt
  obtain ⟨ai, av, az, ci, cv, cs, c0, c1, c2, hc⟩ := ha.cells
  obtain ⟨bi, bv, bz, di, dv, ds, d0, d1, d2, hd⟩ := hb.cells
  clear c2 d2 ha hb
  obtain ⟨R, hR⟩ : ∃ R, R = rdif (A.length + B.length) A B := ⟨_, rfl⟩
  rw [← hR]
  have hR0 : Hid (∃ n, A.length + B.length ≤ n ∧ R = [] ++ rdif n (A.drop 0) (B.drop 0)) := ⟨_, Nat.le_refl _, by rw [hR]; rfl⟩
  clear hR
  go_enter Tryd.func29, Tryd.ntmps29
  go_wp2
  go_loopw [5, 6, 7] (fun lv iv kv X => dfR w A B R lv iv kv X) (fun _ iv kv _ => A.length + B.length - ((intOf iv).toNat + (intOf kv).toNat))
  case atStart => exact ⟨0, 0, [], ⟨Nat.zero_le _, Nat.zero_le _, Nat.zero_le _⟩, rfl, rfl, hR0, World.ownsRow_nil _ _ _ _, Below.refl _ _⟩
  case round =>
    clear hR0
    obtain ⟨i, k, D, hik, rfl, rfl, hRn, hown, hBw⟩ := hrel
    obtain ⟨ea, ec, rfl, -⟩ := own_sl hown
    have e0 := (hBw.cell (p := ⟨a, 0, none⟩) hal.out).trans c0
    have e1 := (hBw.cell (p := ⟨a, 1, none⟩) hal.out).trans c1
    have g0 := (hBw.cell (p := ⟨b, 0, none⟩) hbl.out).trans d0
    have g1 := (hBw.cell (p := ⟨b, 1, none⟩) hbl.out).trans d1
    have hlA : Hid (A.length ≤ 5000000000 ∧ B.length ≤ 5000000000) := ⟨hA, hB⟩
    have hfa : Hid (∀ Y, Below w.heap.size w Y → Y.cell? ⟨a, 0, none⟩ = some (.slice ai A.length ci) ∧ Y.cell? ⟨b, 0, none⟩ = some (.slice bi B.length di)) := fun Y hY => ⟨(hY.cell (p := ⟨a, 0, none⟩) hal.out).trans c0, (hY.cell (p := ⟨b, 0, none⟩) hbl.out).trans d0⟩
    have hi0 : (0 : Int) ≤ (i : Int) := Int.natCast_nonneg _
    have hk0 : (0 : Int) ≤ (k : Int) := Int.natCast_nonneg _
    by_cases hdone : i < A.length ∨ k < B.length
    · obtain ⟨had, hHad⟩ : ∃ had : Bool, Hid ((¬ k < B.length ∧ had = true) ∨ (k < B.length ∧ ¬ i < A.length ∧ had = false) ∨ (∃ (hi : i < A.length) (hk : k < B.length), had = decide (A[i].1 ≤ B[k].1))) := by
        by_cases h1 : k < B.length
        · by_cases h2 : i < A.length
          · exact ⟨_, .inr (.inr ⟨h2, h1, rfl⟩)⟩
          · exact ⟨_, .inr (.inl ⟨h1, h2, rfl⟩)⟩
        · exact ⟨_, .inl ⟨h1, rfl⟩⟩
      obtain ⟨has, hHas⟩ : ∃ has : Bool, Hid ((¬ i < A.length ∧ has = true) ∨ (i < A.length ∧ ¬ k < B.length ∧ has = false) ∨ (∃ (hi : i < A.length) (hk : k < B.length), has = decide (B[k].1 ≤ A[i].1))) := by
        by_cases h1 : i < A.length
        · by_cases h2 : k < B.length
          · exact ⟨_, .inr (.inr ⟨h1, h2, rfl⟩)⟩
          · exact ⟨_, .inr (.inl ⟨h1, h2, rfl⟩)⟩
        · exact ⟨_, .inl ⟨h1, rfl⟩⟩
      have hca : Hid (∀ h : i < A.length, ∃ g, ai = some ⟨g, 0, none⟩ ∧ g < w.heap.size ∧ w.cell? ⟨g, i, none⟩ = some (.int .u32 (A[i].1 : Int))) := fun h => by
        obtain ⟨gi, gv, gs, e1, e2, e3, h1, h2, -, hcc, -⟩ := hc (Nat.lt_of_le_of_lt (Nat.zero_le _) h)
        exact ⟨gi, e1, h1, (hcc i h).1⟩
      have hcb : Hid (∀ h : k < B.length, ∃ g, bi = some ⟨g, 0, none⟩ ∧ g < w.heap.size ∧ w.cell? ⟨g, k, none⟩ = some (.int .u32 (B[k].1 : Int))) := fun h => by
        obtain ⟨gi, gv, gs, e1, e2, e3, h1, h2, -, hcc, -⟩ := hd (Nat.lt_of_le_of_lt (Nat.zero_le _) h)
        exact ⟨gi, e1, h1, (hcc k h).1⟩
      have hBc := rf_bal hBw (.cells #[.int .u32 0, .bool false, .bool false, .int .i64 0, .int .i64 0, .int .i64 0, .int .i64 0] 99)
      have hrc := heap_alloc_last wr (.cells #[.int .u32 0, .bool false, .bool false, .int .i64 0, .int .i64 0, .int .i64 0, .int .i64 0] 99)
      have hownc := own_laterB hown ((Below.refl wr.heap.size wr).alloc (Nat.le_refl _) (.cells #[.int .u32 0, .bool false, .bool false, .int .i64 0, .int .i64 0, .int .i64 0, .int .i64 0] 99))
      have hcb2 : Hid (w.heap.size ≤ wr.heap.size) := hBw.size
      have hne : Hid ((Value.slice ea D.length ec).ownBlock = none ∨ (Value.slice ea D.length ec).ownBlock ≠ some wr.heap.size) := .inr fun e => Nat.lt_irrefl _ (hown.lt _ e).2
      have hdn : Hid (i < A.length ∨ k < B.length) := hdone
      have hcH : Hid (∀ _ : 0 < A.length, _) := hc
      have hdH : Hid (∀ _ : 0 < B.length, _) := hd
      have hcd : Hid (w.cell? ⟨a, 1, none⟩ = some (.slice av A.length cv) ∧ w.cell? ⟨b, 1, none⟩ = some (.slice bv B.length dv)) := ⟨c1, d1⟩
      clear hc hd c0 c1 d0 d1 hown hdone e1 g1
      go_upto_region 4 with fail
      go_cut [24] (fun c wx => c = .bool true ∧ wx = wr)
      case first =>
        by_cases hi : i < A.length
        · have hi' : (i : Int) < (A.length : Int) := Int.ofNat_lt.2 hi
          go_wp2_with fail
          go_meet
          exact ⟨rfl, rfl⟩
        · have hi' : ¬ (i : Int) < (A.length : Int) := fun h => hi (Int.ofNat_lt.1 h)
          have hk' : (k : Int) < (B.length : Int) := Int.ofNat_lt.2 (hdn.out.resolve_left hi)
          go_wp2_with fail
          go_meet
          exact ⟨rfl, rfl⟩
      case rest =>
        obtain ⟨rfl, hwc⟩ := hcut
        have hwd := hwc.symm
        clear hwc
        subst hwd
        go_upto_region 6 with fail
        clear e0 g0
        generalize wr.alloc (.cells #[.int .u32 0, .bool false, .bool false, .int .i64 0, .int .i64 0, .int .i64 0, .int .i64 0] 99) = X at *
        generalize wr.heap.size = cb at *
        go_upto_region 6 with fail
        go_cut [26] (fun _ wx => wx.heap[cb]? = some (.cells #[.int .u32 0, .bool had, .bool false, .int .i64 0, .int .i64 0, .int .i64 0, .int .i64 0] 99) ∧ Below w.heap.size w wx ∧ wx.ownsRow w.heap.size 99 7 (.slice ea D.length ec) D.length (flat7 D))
        case first => as_aux_lemma =>
          have hBe := fun v => rf_bset hBc.drew (p := ⟨cb, 1, none⟩) hcb2.out v
          have hre := fun v => heap_setCell_same X.drew cb 1 _ _ v hrc
          have hoe := fun v => hownc.kept ((grown_drew X (some cb)).trans (grown_set X.drew cb 1 v)) hne.out
          have x1 : X.cell? ⟨cb, 1, none⟩ = some (.bool false) := cell_of_row _ _ 1 _ _ _ hrc
          have f1 := frozen_of_row hrc 1
          rcases hHad.out with ⟨hq, hv⟩ | ⟨hq, ho, hv⟩ | ⟨hia, hkb, hv⟩
          · as_aux_lemma =>
              have hq' : ¬ (k : Int) < (B.length : Int) := fun h => hq (Int.ofNat_lt.1 h)
              have hq2 : (B.length : Int) ≤ (k : Int) := Int.not_lt.1 hq'
              subst hv
              have hSd := hfa.out _ hBc.drew
              have hSe := hfa.out _ (hBe (.bool true))
              refine wp_region_held_drew (S := fun Y => Y.cell? ⟨a, 0, none⟩ = some (.slice ai A.length ci) ∧ Y.cell? ⟨b, 0, none⟩ = some (.slice bi B.length di)) (by kernel_rfl) hSd (fun hSd2 => ?_)
              clear hSd2
              refine tkH (i := 0) (d := some 26) (v := ?_) rfl rfl (by kernel_rfl) (by kernel_rfl) (by kernel_rfl) (fun _ _ _ h => h) (by rfl) ?_ (by with_reducible assumption) ?_
              rotate_left
              · (intro w hSw; (try dsimp only at hSw); go_simp; (try with_reducible rfl))
              simp only [Act.put, List.setIfInBounds_toArray, List.set_cons_zero, List.set_cons_succ]
              refine tkH (i := 1) (d := some 27) (v := ?_) rfl rfl (by kernel_rfl) (by kernel_rfl) (by kernel_rfl) (fun _ _ _ h => h) (by rfl) ?_ (by with_reducible assumption) ?_
              rotate_left
              · (intro w hSw; (try dsimp only at hSw); go_simp; (try with_reducible rfl))
              simp only [Act.put, List.setIfInBounds_toArray, List.set_cons_zero, List.set_cons_succ]
              refine tkH (i := 2) (d := some 28) (v := ?_) rfl rfl (by kernel_rfl) (by kernel_rfl) (by kernel_rfl) (fun _ _ _ h => h) (by rfl) ?_ (by with_reducible assumption) ?_
              rotate_left
              · (intro w hSw; (try dsimp only at hSw); go_simp; (try with_reducible rfl))
              simp only [Act.put, List.setIfInBounds_toArray, List.set_cons_zero, List.set_cons_succ]
              refine tkH (i := 3) (d := some 29) (v := ?_) rfl rfl (by kernel_rfl) (by kernel_rfl) (by kernel_rfl) (fun _ _ _ h => h) (by rfl) ?_ (by with_reducible assumption) ?_
              rotate_left
              · (intro w hSw; (try dsimp only at hSw); go_simp; (try with_reducible rfl))
              simp only [Act.put, List.setIfInBounds_toArray, List.set_cons_zero, List.set_cons_succ]
              refine tkH (i := 4) (d := some 30) (v := ?_) rfl rfl (by kernel_rfl) (by kernel_rfl) (by kernel_rfl) (fun _ _ _ h => h) (by rfl) ?_ (by with_reducible assumption) ?_
              rotate_left
              · (intro w hSw; (try dsimp only at hSw); go_simp; (try with_reducible rfl))
              simp only [Act.put, List.setIfInBounds_toArray, List.set_cons_zero, List.set_cons_succ]
              refine tkH (i := 5) (d := some 31) (v := ?_) rfl rfl (by kernel_rfl) (by kernel_rfl) (by kernel_rfl) (fun _ _ _ h => h) (by rfl) ?_ (by with_reducible assumption) ?_
              rotate_left
              · (intro w hSw; (try dsimp only at hSw); go_simp; (try with_reducible rfl))
              simp only [Act.put, List.setIfInBounds_toArray, List.set_cons_zero, List.set_cons_succ]
              refine tkH (i := 6) (d := some 32) (v := ?_) rfl rfl (by kernel_rfl) (by kernel_rfl) (by kernel_rfl) (fun _ _ _ h => h) (by rfl) ?_ (by with_reducible assumption) ?_
              rotate_left
              · (intro w hSw; (try dsimp only at hSw); go_simp; (try with_reducible rfl))
              simp only [Act.put, List.setIfInBounds_toArray, List.set_cons_zero, List.set_cons_succ]
              refine tkH (i := 7) (d := some 33) (v := ?_) rfl rfl (by kernel_rfl) (by kernel_rfl) (by kernel_rfl) (fun _ _ _ h => h) (by rfl) ?_ (by with_reducible assumption) ?_
              rotate_left
              · (intro w hSw; (try dsimp only at hSw); go_simp; (try with_reducible rfl))
              simp only [Act.put, List.setIfInBounds_toArray, List.set_cons_zero, List.set_cons_succ]
              refine skH (i := 8) (d := some 34) rfl rfl (by kernel_rfl) (by kernel_rfl) (by kernel_rfl) (fun _ _ _ h => h) (by rfl) (by with_reducible assumption) ?_
              simp only [Act.put, List.setIfInBounds_toArray, List.set_cons_zero, List.set_cons_succ]
              refine skH (i := 9) (d := some 35) rfl rfl (by kernel_rfl) (by kernel_rfl) (by kernel_rfl) (fun _ _ _ h => h) (by rfl) (by with_reducible assumption) ?_
              simp only [Act.put, List.setIfInBounds_toArray, List.set_cons_zero, List.set_cons_succ]
              refine skH (i := 10) (d := some 36) rfl rfl (by kernel_rfl) (by kernel_rfl) (by kernel_rfl) (fun _ _ _ h => h) (by rfl) (by with_reducible assumption) ?_
              simp only [Act.put, List.setIfInBounds_toArray, List.set_cons_zero, List.set_cons_succ]
              refine skH (i := 11) (d := some 37) rfl rfl (by kernel_rfl) (by kernel_rfl) (by kernel_rfl) (fun _ _ _ h => h) (by rfl) (by with_reducible assumption) ?_
              simp only [Act.put, List.setIfInBounds_toArray, List.set_cons_zero, List.set_cons_succ]
              refine skH (i := 12) (d := some 38) rfl rfl (by kernel_rfl) (by kernel_rfl) (by kernel_rfl) (fun _ _ _ h => h) (by rfl) (by with_reducible assumption) ?_
              simp only [Act.put, List.setIfInBounds_toArray, List.set_cons_zero, List.set_cons_succ]
              refine skH (i := 13) (d := some 39) rfl rfl (by kernel_rfl) (by kernel_rfl) (by kernel_rfl) (fun _ _ _ h => h) (by rfl) (by with_reducible assumption) ?_
              simp only [Act.put, List.setIfInBounds_toArray, List.set_cons_zero, List.set_cons_succ]
              refine skH (i := 14) (d := some 40) rfl rfl (by kernel_rfl) (by kernel_rfl) (by kernel_rfl) (fun _ _ _ h => h) (by rfl) (by with_reducible assumption) ?_
              simp only [Act.put, List.setIfInBounds_toArray, List.set_cons_zero, List.set_cons_succ]
              refine skH (i := 15) (d := some 41) rfl rfl (by kernel_rfl) (by kernel_rfl) (by kernel_rfl) (fun _ _ _ h => h) (by rfl) (by with_reducible assumption) ?_
              simp only [Act.put, List.setIfInBounds_toArray, List.set_cons_zero, List.set_cons_succ]
              refine skH (i := 16) (d := some 42) rfl rfl (by kernel_rfl) (by kernel_rfl) (by kernel_rfl) (fun _ _ _ h => h) (by rfl) (by with_reducible assumption) ?_
              simp only [Act.put, List.setIfInBounds_toArray, List.set_cons_zero, List.set_cons_succ]
              refine skH (i := 17) (d := some 43) rfl rfl (by kernel_rfl) (by kernel_rfl) (by kernel_rfl) (fun _ _ _ h => h) (by rfl) (by with_reducible assumption) ?_
              simp only [Act.put, List.setIfInBounds_toArray, List.set_cons_zero, List.set_cons_succ]
              refine skH (i := 18) (d := some 44) rfl rfl (by kernel_rfl) (by kernel_rfl) (by kernel_rfl) (fun _ _ _ h => h) (by rfl) (by with_reducible assumption) ?_
              simp only [Act.put, List.setIfInBounds_toArray, List.set_cons_zero, List.set_cons_succ]
              refine skH (i := 19) (d := some 45) rfl rfl (by kernel_rfl) (by kernel_rfl) (by kernel_rfl) (fun _ _ _ h => h) (by rfl) (by with_reducible assumption) ?_
              simp only [Act.put, List.setIfInBounds_toArray, List.set_cons_zero, List.set_cons_succ]
              refine skH (i := 20) (d := some 46) rfl rfl (by kernel_rfl) (by kernel_rfl) (by kernel_rfl) (fun _ _ _ h => h) (by rfl) (by with_reducible assumption) ?_
              simp only [Act.put, List.setIfInBounds_toArray, List.set_cons_zero, List.set_cons_succ]
              refine skH (i := 21) (d := some 47) rfl rfl (by kernel_rfl) (by kernel_rfl) (by kernel_rfl) (fun _ _ _ h => h) (by rfl) (by with_reducible assumption) ?_
              simp only [Act.put, List.setIfInBounds_toArray, List.set_cons_zero, List.set_cons_succ]
              refine skH (i := 22) (d := some 48) rfl rfl (by kernel_rfl) (by kernel_rfl) (by kernel_rfl) (fun _ _ _ h => h) (by rfl) (by with_reducible assumption) ?_
              simp only [Act.put, List.setIfInBounds_toArray, List.set_cons_zero, List.set_cons_succ]
              refine skH (i := 23) (d := some 49) rfl rfl (by kernel_rfl) (by kernel_rfl) (by kernel_rfl) (fun _ _ _ h => h) (by rfl) (by with_reducible assumption) ?_
              simp only [Act.put, List.setIfInBounds_toArray, List.set_cons_zero, List.set_cons_succ]
              refine skH (i := 24) (d := some 50) rfl rfl (by kernel_rfl) (by kernel_rfl) (by kernel_rfl) (fun _ _ _ h => h) (by rfl) (by with_reducible assumption) ?_
              simp only [Act.put, List.setIfInBounds_toArray, List.set_cons_zero, List.set_cons_succ]
              refine skH (i := 25) (d := some 51) rfl rfl (by kernel_rfl) (by kernel_rfl) (by kernel_rfl) (fun _ _ _ h => h) (by rfl) (by with_reducible assumption) ?_
              simp only [Act.put, List.setIfInBounds_toArray, List.set_cons_zero, List.set_cons_succ]
              refine skH (i := 26) (d := some 52) rfl rfl (by kernel_rfl) (by kernel_rfl) (by kernel_rfl) (fun _ _ _ h => h) (by rfl) (by with_reducible assumption) ?_
              simp only [Act.put, List.setIfInBounds_toArray, List.set_cons_zero, List.set_cons_succ]
              refine skH (i := 27) (d := some 53) rfl rfl (by kernel_rfl) (by kernel_rfl) (by kernel_rfl) (fun _ _ _ h => h) (by rfl) (by with_reducible assumption) ?_
              simp only [Act.put, List.setIfInBounds_toArray, List.set_cons_zero, List.set_cons_succ]
              refine skH (i := 28) (d := some 54) rfl rfl (by kernel_rfl) (by kernel_rfl) (by kernel_rfl) (fun _ _ _ h => h) (by rfl) (by with_reducible assumption) ?_
              simp only [Act.put, List.setIfInBounds_toArray, List.set_cons_zero, List.set_cons_succ]
              refine skH (i := 29) (d := some 55) rfl rfl (by kernel_rfl) (by kernel_rfl) (by kernel_rfl) (fun _ _ _ h => h) (by rfl) (by with_reducible assumption) ?_
              simp only [Act.put, List.setIfInBounds_toArray, List.set_cons_zero, List.set_cons_succ]
              refine skH (i := 30) (d := some 56) rfl rfl (by kernel_rfl) (by kernel_rfl) (by kernel_rfl) (fun _ _ _ h => h) (by rfl) (by with_reducible assumption) ?_
              simp only [Act.put, List.setIfInBounds_toArray, List.set_cons_zero, List.set_cons_succ]
              refine skH (i := 31) (d := some 57) rfl rfl (by kernel_rfl) (by kernel_rfl) (by kernel_rfl) (fun _ _ _ h => h) (by rfl) (by with_reducible assumption) ?_
              simp only [Act.put, List.setIfInBounds_toArray, List.set_cons_zero, List.set_cons_succ]
              refine tkH (i := 32) (d := some 58) (v := ?_) rfl rfl (by kernel_rfl) (by kernel_rfl) (by kernel_rfl) (fun _ _ _ h => h) (by rfl) ?_ (by with_reducible assumption) ?_
              rotate_left
              · (intro w hSw; (try dsimp only at hSw); go_simp; (try with_reducible rfl))
              simp only [Act.put, List.setIfInBounds_toArray, List.set_cons_zero, List.set_cons_succ]
              refine tkH (i := 33) (d := some 59) (v := ?_) rfl rfl (by kernel_rfl) (by kernel_rfl) (by kernel_rfl) (fun _ _ _ h => h) (by rfl) ?_ (by with_reducible assumption) ?_
              rotate_left
              · (intro w hSw; (try dsimp only at hSw); go_simp; (try with_reducible rfl))
              simp only [Act.put, List.setIfInBounds_toArray, List.set_cons_zero, List.set_cons_succ]
              refine wpAnyH_ready (rs := [34]) (by kernel_rfl) (by simp) ?_
              refine AllReadyH.cons rfl (fun K hK => ?_) AllReadyH.nil
              go_simp
              refine hK.out _ _ hSe (fun _ => ?_)
              clear hK K
              refine wpAnyH_done (by kernel_rfl) ?_ _
              go_wp2_with fail
              go_meet
              exact ⟨hre _, hBe _, hoe _⟩
          · as_aux_lemma =>
              have hq' : (k : Int) < (B.length : Int) := Int.ofNat_lt.2 hq
              have hq2 : ¬ (B.length : Int) ≤ (k : Int) := Int.not_le.2 hq'
              have ho' : ¬ (i : Int) < (A.length : Int) := fun h => ho (Int.ofNat_lt.1 h)
              subst hv
              have hSd := hfa.out _ hBc.drew
              have hSe := hfa.out _ (hBe (.bool false))
              refine wp_region_held_drew (S := fun Y => Y.cell? ⟨a, 0, none⟩ = some (.slice ai A.length ci) ∧ Y.cell? ⟨b, 0, none⟩ = some (.slice bi B.length di)) (by kernel_rfl) hSd (fun hSd2 => ?_)
              clear hSd2
              refine tkH (i := 0) (d := some 26) (v := ?_) rfl rfl (by kernel_rfl) (by kernel_rfl) (by kernel_rfl) (fun _ _ _ h => h) (by rfl) ?_ (by with_reducible assumption) ?_
              rotate_left
              · (intro w hSw; (try dsimp only at hSw); go_simp; (try with_reducible rfl))
              simp only [Act.put, List.setIfInBounds_toArray, List.set_cons_zero, List.set_cons_succ]
              refine tkH (i := 1) (d := some 27) (v := ?_) rfl rfl (by kernel_rfl) (by kernel_rfl) (by kernel_rfl) (fun _ _ _ h => h) (by rfl) ?_ (by with_reducible assumption) ?_
              rotate_left
              · (intro w hSw; (try dsimp only at hSw); go_simp; (try with_reducible rfl))
              simp only [Act.put, List.setIfInBounds_toArray, List.set_cons_zero, List.set_cons_succ]
              refine tkH (i := 2) (d := some 28) (v := ?_) rfl rfl (by kernel_rfl) (by kernel_rfl) (by kernel_rfl) (fun _ _ _ h => h) (by rfl) ?_ (by with_reducible assumption) ?_
              rotate_left
              · (intro w hSw; (try dsimp only at hSw); go_simp; (try with_reducible rfl))
              simp only [Act.put, List.setIfInBounds_toArray, List.set_cons_zero, List.set_cons_succ]
              refine tkH (i := 3) (d := some 29) (v := ?_) rfl rfl (by kernel_rfl) (by kernel_rfl) (by kernel_rfl) (fun _ _ _ h => h) (by rfl) ?_ (by with_reducible assumption) ?_
              rotate_left
              · (intro w hSw; (try dsimp only at hSw); go_simp; (try with_reducible rfl))
              simp only [Act.put, List.setIfInBounds_toArray, List.set_cons_zero, List.set_cons_succ]
              refine tkH (i := 4) (d := some 30) (v := ?_) rfl rfl (by kernel_rfl) (by kernel_rfl) (by kernel_rfl) (fun _ _ _ h => h) (by rfl) ?_ (by with_reducible assumption) ?_
              rotate_left
              · (intro w hSw; (try dsimp only at hSw); go_simp; (try with_reducible rfl))
              simp only [Act.put, List.setIfInBounds_toArray, List.set_cons_zero, List.set_cons_succ]
              refine tkH (i := 5) (d := some 31) (v := ?_) rfl rfl (by kernel_rfl) (by kernel_rfl) (by kernel_rfl) (fun _ _ _ h => h) (by rfl) ?_ (by with_reducible assumption) ?_
              rotate_left
              · (intro w hSw; (try dsimp only at hSw); go_simp; (try with_reducible rfl))
              simp only [Act.put, List.setIfInBounds_toArray, List.set_cons_zero, List.set_cons_succ]
              refine tkH (i := 6) (d := some 32) (v := ?_) rfl rfl (by kernel_rfl) (by kernel_rfl) (by kernel_rfl) (fun _ _ _ h => h) (by rfl) ?_ (by with_reducible assumption) ?_
              rotate_left
              · (intro w hSw; (try dsimp only at hSw); go_simp; (try with_reducible rfl))
              simp only [Act.put, List.setIfInBounds_toArray, List.set_cons_zero, List.set_cons_succ]
              refine tkH (i := 7) (d := some 33) (v := ?_) rfl rfl (by kernel_rfl) (by kernel_rfl) (by kernel_rfl) (fun _ _ _ h => h) (by rfl) ?_ (by with_reducible assumption) ?_
              rotate_left
              · (intro w hSw; (try dsimp only at hSw); go_simp; (try with_reducible rfl))
              simp only [Act.put, List.setIfInBounds_toArray, List.set_cons_zero, List.set_cons_succ]
              refine tkH (i := 8) (d := some 34) (v := ?_) rfl rfl (by kernel_rfl) (by kernel_rfl) (by kernel_rfl) (fun _ _ _ h => h) (by rfl) ?_ (by with_reducible assumption) ?_
              rotate_left
              · (intro w hSw; (try dsimp only at hSw); go_simp; (try with_reducible rfl))
              simp only [Act.put, List.setIfInBounds_toArray, List.set_cons_zero, List.set_cons_succ]
              refine tkH (i := 9) (d := some 35) (v := ?_) rfl rfl (by kernel_rfl) (by kernel_rfl) (by kernel_rfl) (fun _ _ _ h => h) (by rfl) ?_ (by with_reducible assumption) ?_
              rotate_left
              · (intro w hSw; (try dsimp only at hSw); go_simp; (try with_reducible rfl))
              simp only [Act.put, List.setIfInBounds_toArray, List.set_cons_zero, List.set_cons_succ]
              refine tkH (i := 10) (d := some 36) (v := ?_) rfl rfl (by kernel_rfl) (by kernel_rfl) (by kernel_rfl) (fun _ _ _ h => h) (by rfl) ?_ (by with_reducible assumption) ?_
              rotate_left
              · (intro w hSw; (try dsimp only at hSw); go_simp; (try with_reducible rfl))
              simp only [Act.put, List.setIfInBounds_toArray, List.set_cons_zero, List.set_cons_succ]
              refine tkH (i := 11) (d := some 37) (v := ?_) rfl rfl (by kernel_rfl) (by kernel_rfl) (by kernel_rfl) (fun _ _ _ h => h) (by rfl) ?_ (by with_reducible assumption) ?_
              rotate_left
              · (intro w hSw; (try dsimp only at hSw); go_simp; (try with_reducible rfl))
              simp only [Act.put, List.setIfInBounds_toArray, List.set_cons_zero, List.set_cons_succ]
              refine tkH (i := 12) (d := some 38) (v := ?_) rfl rfl (by kernel_rfl) (by kernel_rfl) (by kernel_rfl) (fun _ _ _ h => h) (by rfl) ?_ (by with_reducible assumption) ?_
              rotate_left
              · (intro w hSw; (try dsimp only at hSw); go_simp; (try with_reducible rfl))
              simp only [Act.put, List.setIfInBounds_toArray, List.set_cons_zero, List.set_cons_succ]
              refine tkH (i := 13) (d := some 39) (v := ?_) rfl rfl (by kernel_rfl) (by kernel_rfl) (by kernel_rfl) (fun _ _ _ h => h) (by rfl) ?_ (by with_reducible assumption) ?_
              rotate_left
              · (intro w hSw; (try dsimp only at hSw); go_simp; (try with_reducible rfl))
              simp only [Act.put, List.setIfInBounds_toArray, List.set_cons_zero, List.set_cons_succ]
              refine tkH (i := 14) (d := some 40) (v := ?_) rfl rfl (by kernel_rfl) (by kernel_rfl) (by kernel_rfl) (fun _ _ _ h => h) (by rfl) ?_ (by with_reducible assumption) ?_
              rotate_left
              · (intro w hSw; (try dsimp only at hSw); go_simp; (try with_reducible rfl))
              simp only [Act.put, List.setIfInBounds_toArray, List.set_cons_zero, List.set_cons_succ]
              refine tkH (i := 15) (d := some 41) (v := ?_) rfl rfl (by kernel_rfl) (by kernel_rfl) (by kernel_rfl) (fun _ _ _ h => h) (by rfl) ?_ (by with_reducible assumption) ?_
              rotate_left
              · (intro w hSw; (try dsimp only at hSw); go_simp; (try with_reducible rfl))
              simp only [Act.put, List.setIfInBounds_toArray, List.set_cons_zero, List.set_cons_succ]
              refine skH (i := 16) (d := some 42) rfl rfl (by kernel_rfl) (by kernel_rfl) (by kernel_rfl) (fun _ _ _ h => h) (by rfl) (by with_reducible assumption) ?_
              simp only [Act.put, List.setIfInBounds_toArray, List.set_cons_zero, List.set_cons_succ]
              refine skH (i := 17) (d := some 43) rfl rfl (by kernel_rfl) (by kernel_rfl) (by kernel_rfl) (fun _ _ _ h => h) (by rfl) (by with_reducible assumption) ?_
              simp only [Act.put, List.setIfInBounds_toArray, List.set_cons_zero, List.set_cons_succ]
              refine skH (i := 18) (d := some 44) rfl rfl (by kernel_rfl) (by kernel_rfl) (by kernel_rfl) (fun _ _ _ h => h) (by rfl) (by with_reducible assumption) ?_
              simp only [Act.put, List.setIfInBounds_toArray, List.set_cons_zero, List.set_cons_succ]
              refine skH (i := 19) (d := some 45) rfl rfl (by kernel_rfl) (by kernel_rfl) (by kernel_rfl) (fun _ _ _ h => h) (by rfl) (by with_reducible assumption) ?_
              simp only [Act.put, List.setIfInBounds_toArray, List.set_cons_zero, List.set_cons_succ]
              refine skH (i := 20) (d := some 46) rfl rfl (by kernel_rfl) (by kernel_rfl) (by kernel_rfl) (fun _ _ _ h => h) (by rfl) (by with_reducible assumption) ?_
              simp only [Act.put, List.setIfInBounds_toArray, List.set_cons_zero, List.set_cons_succ]
              refine skH (i := 21) (d := some 47) rfl rfl (by kernel_rfl) (by kernel_rfl) (by kernel_rfl) (fun _ _ _ h => h) (by rfl) (by with_reducible assumption) ?_
              simp only [Act.put, List.setIfInBounds_toArray, List.set_cons_zero, List.set_cons_succ]
              refine skH (i := 22) (d := some 48) rfl rfl (by kernel_rfl) (by kernel_rfl) (by kernel_rfl) (fun _ _ _ h => h) (by rfl) (by with_reducible assumption) ?_
              simp only [Act.put, List.setIfInBounds_toArray, List.set_cons_zero, List.set_cons_succ]
              refine skH (i := 23) (d := some 49) rfl rfl (by kernel_rfl) (by kernel_rfl) (by kernel_rfl) (fun _ _ _ h => h) (by rfl) (by with_reducible assumption) ?_
              simp only [Act.put, List.setIfInBounds_toArray, List.set_cons_zero, List.set_cons_succ]
              refine skH (i := 24) (d := some 50) rfl rfl (by kernel_rfl) (by kernel_rfl) (by kernel_rfl) (fun _ _ _ h => h) (by rfl) (by with_reducible assumption) ?_
              simp only [Act.put, List.setIfInBounds_toArray, List.set_cons_zero, List.set_cons_succ]
              refine skH (i := 25) (d := some 51) rfl rfl (by kernel_rfl) (by kernel_rfl) (by kernel_rfl) (fun _ _ _ h => h) (by rfl) (by with_reducible assumption) ?_
              simp only [Act.put, List.setIfInBounds_toArray, List.set_cons_zero, List.set_cons_succ]
              refine skH (i := 26) (d := some 52) rfl rfl (by kernel_rfl) (by kernel_rfl) (by kernel_rfl) (fun _ _ _ h => h) (by rfl) (by with_reducible assumption) ?_
              simp only [Act.put, List.setIfInBounds_toArray, List.set_cons_zero, List.set_cons_succ]
              refine skH (i := 27) (d := some 53) rfl rfl (by kernel_rfl) (by kernel_rfl) (by kernel_rfl) (fun _ _ _ h => h) (by rfl) (by with_reducible assumption) ?_
              simp only [Act.put, List.setIfInBounds_toArray, List.set_cons_zero, List.set_cons_succ]
              refine skH (i := 28) (d := some 54) rfl rfl (by kernel_rfl) (by kernel_rfl) (by kernel_rfl) (fun _ _ _ h => h) (by rfl) (by with_reducible assumption) ?_
              simp only [Act.put, List.setIfInBounds_toArray, List.set_cons_zero, List.set_cons_succ]
              refine skH (i := 29) (d := some 55) rfl rfl (by kernel_rfl) (by kernel_rfl) (by kernel_rfl) (fun _ _ _ h => h) (by rfl) (by with_reducible assumption) ?_
              simp only [Act.put, List.setIfInBounds_toArray, List.set_cons_zero, List.set_cons_succ]
              refine skH (i := 30) (d := some 56) rfl rfl (by kernel_rfl) (by kernel_rfl) (by kernel_rfl) (fun _ _ _ h => h) (by rfl) (by with_reducible assumption) ?_
              simp only [Act.put, List.setIfInBounds_toArray, List.set_cons_zero, List.set_cons_succ]
              refine tkH (i := 31) (d := some 57) (v := ?_) rfl rfl (by kernel_rfl) (by kernel_rfl) (by kernel_rfl) (fun _ _ _ h => h) (by rfl) ?_ (by with_reducible assumption) ?_
              rotate_left
              · (intro w hSw; (try dsimp only at hSw); go_simp; (try with_reducible rfl))
              simp only [Act.put, List.setIfInBounds_toArray, List.set_cons_zero, List.set_cons_succ]
              refine tkH (i := 32) (d := some 58) (v := ?_) rfl rfl (by kernel_rfl) (by kernel_rfl) (by kernel_rfl) (fun _ _ _ h => h) (by rfl) ?_ (by with_reducible assumption) ?_
              rotate_left
              · (intro w hSw; (try dsimp only at hSw); go_simp; (try with_reducible rfl))
              simp only [Act.put, List.setIfInBounds_toArray, List.set_cons_zero, List.set_cons_succ]
              refine tkH (i := 33) (d := some 59) (v := ?_) rfl rfl (by kernel_rfl) (by kernel_rfl) (by kernel_rfl) (fun _ _ _ h => h) (by rfl) ?_ (by with_reducible assumption) ?_
              rotate_left
              · (intro w hSw; (try dsimp only at hSw); go_simp; (try with_reducible rfl))
              simp only [Act.put, List.setIfInBounds_toArray, List.set_cons_zero, List.set_cons_succ]
              refine wpAnyH_ready (rs := [34]) (by kernel_rfl) (by simp) ?_
              refine AllReadyH.cons rfl (fun K hK => ?_) AllReadyH.nil
              go_simp
              refine hK.out _ _ hSe (fun _ => ?_)
              clear hK K
              refine wpAnyH_done (by kernel_rfl) ?_ _
              go_wp2_with fail
              go_meet
              exact ⟨hre _, hBe _, hoe _⟩
          · as_aux_lemma =>
              have hqa : (i : Int) < (A.length : Int) := Int.ofNat_lt.2 hia
              have hqb : (k : Int) < (B.length : Int) := Int.ofNat_lt.2 hkb
              have hqa2 : ¬ (A.length : Int) ≤ (i : Int) := Int.not_le.2 hqa
              have hqb2 : ¬ (B.length : Int) ≤ (k : Int) := Int.not_le.2 hqb
              obtain ⟨gai, hgai, hgl, hgc⟩ := hca.out hia
              obtain ⟨gbi, hgbi, hgm, hgd⟩ := hcb.out hkb
              subst hgai hgbi
              have hfb : Hid (∀ Y, Below w.heap.size w Y → Y.cell? ⟨a, 0, none⟩ = some (.slice (some ⟨gai, 0, none⟩) A.length ci) ∧ Y.cell? ⟨b, 0, none⟩ = some (.slice (some ⟨gbi, 0, none⟩) B.length di) ∧ Y.cell? ⟨gai, i, none⟩ = some (.int .u32 (A[i].1 : Int)) ∧ Y.cell? ⟨gbi, k, none⟩ = some (.int .u32 (B[k].1 : Int))) := fun Y hY => ⟨(hfa.out Y hY).1, (hfa.out Y hY).2, (hY.cell (p := ⟨gai, i, none⟩) hgl).trans hgc, (hY.cell (p := ⟨gbi, k, none⟩) hgm).trans hgd⟩
              clear hgc hgd
              generalize A[i].1 = ka at *
              generalize B[k].1 = kb at *
              subst hv
              have hSd := hfb.out _ hBc.drew
              have hSe := hfb.out _ (hBe (.bool (decide (ka ≤ kb))))
              refine wp_region_held_drew (S := fun Y => Y.cell? ⟨a, 0, none⟩ = some (.slice (some ⟨gai, 0, none⟩) A.length ci) ∧ Y.cell? ⟨b, 0, none⟩ = some (.slice (some ⟨gbi, 0, none⟩) B.length di) ∧ Y.cell? ⟨gai, i, none⟩ = some (.int .u32 (ka : Int)) ∧ Y.cell? ⟨gbi, k, none⟩ = some (.int .u32 (kb : Int))) (by kernel_rfl) hSd (fun hSd2 => ?_)
              clear hSd2
              refine tkH (i := 0) (d := some 26) (v := ?_) rfl rfl (by kernel_rfl) (by kernel_rfl) (by kernel_rfl) (fun _ _ _ h => h) (by rfl) ?_ (by with_reducible assumption) ?_
              rotate_left
              · (intro w hSw; (try dsimp only at hSw); go_simp; (try with_reducible rfl))
              simp only [Act.put, List.setIfInBounds_toArray, List.set_cons_zero, List.set_cons_succ]
              refine tkH (i := 1) (d := some 27) (v := ?_) rfl rfl (by kernel_rfl) (by kernel_rfl) (by kernel_rfl) (fun _ _ _ h => h) (by rfl) ?_ (by with_reducible assumption) ?_
              rotate_left
              · (intro w hSw; (try dsimp only at hSw); go_simp; (try with_reducible rfl))
              simp only [Act.put, List.setIfInBounds_toArray, List.set_cons_zero, List.set_cons_succ]
              refine tkH (i := 2) (d := some 28) (v := ?_) rfl rfl (by kernel_rfl) (by kernel_rfl) (by kernel_rfl) (fun _ _ _ h => h) (by rfl) ?_ (by with_reducible assumption) ?_
              rotate_left
              · (intro w hSw; (try dsimp only at hSw); go_simp; (try with_reducible rfl))
              simp only [Act.put, List.setIfInBounds_toArray, List.set_cons_zero, List.set_cons_succ]
              refine tkH (i := 3) (d := some 29) (v := ?_) rfl rfl (by kernel_rfl) (by kernel_rfl) (by kernel_rfl) (fun _ _ _ h => h) (by rfl) ?_ (by with_reducible assumption) ?_
              rotate_left
              · (intro w hSw; (try dsimp only at hSw); go_simp; (try with_reducible rfl))
              simp only [Act.put, List.setIfInBounds_toArray, List.set_cons_zero, List.set_cons_succ]
              refine tkH (i := 4) (d := some 30) (v := ?_) rfl rfl (by kernel_rfl) (by kernel_rfl) (by kernel_rfl) (fun _ _ _ h => h) (by rfl) ?_ (by with_reducible assumption) ?_
              rotate_left
              · (intro w hSw; (try dsimp only at hSw); go_simp; (try with_reducible rfl))
              simp only [Act.put, List.setIfInBounds_toArray, List.set_cons_zero, List.set_cons_succ]
              refine tkH (i := 5) (d := some 31) (v := ?_) rfl rfl (by kernel_rfl) (by kernel_rfl) (by kernel_rfl) (fun _ _ _ h => h) (by rfl) ?_ (by with_reducible assumption) ?_
              rotate_left
              · (intro w hSw; (try dsimp only at hSw); go_simp; (try with_reducible rfl))
              simp only [Act.put, List.setIfInBounds_toArray, List.set_cons_zero, List.set_cons_succ]
              refine tkH (i := 6) (d := some 32) (v := ?_) rfl rfl (by kernel_rfl) (by kernel_rfl) (by kernel_rfl) (fun _ _ _ h => h) (by rfl) ?_ (by with_reducible assumption) ?_
              rotate_left
              · (intro w hSw; (try dsimp only at hSw); go_simp; (try with_reducible rfl))
              simp only [Act.put, List.setIfInBounds_toArray, List.set_cons_zero, List.set_cons_succ]
              refine tkH (i := 7) (d := some 33) (v := ?_) rfl rfl (by kernel_rfl) (by kernel_rfl) (by kernel_rfl) (fun _ _ _ h => h) (by rfl) ?_ (by with_reducible assumption) ?_
              rotate_left
              · (intro w hSw; (try dsimp only at hSw); go_simp; (try with_reducible rfl))
              simp only [Act.put, List.setIfInBounds_toArray, List.set_cons_zero, List.set_cons_succ]
              refine tkH (i := 8) (d := some 34) (v := ?_) rfl rfl (by kernel_rfl) (by kernel_rfl) (by kernel_rfl) (fun _ _ _ h => h) (by rfl) ?_ (by with_reducible assumption) ?_
              rotate_left
              · (intro w hSw; (try dsimp only at hSw); go_simp; (try with_reducible rfl))
              simp only [Act.put, List.setIfInBounds_toArray, List.set_cons_zero, List.set_cons_succ]
              refine tkH (i := 9) (d := some 35) (v := ?_) rfl rfl (by kernel_rfl) (by kernel_rfl) (by kernel_rfl) (fun _ _ _ h => h) (by rfl) ?_ (by with_reducible assumption) ?_
              rotate_left
              · (intro w hSw; (try dsimp only at hSw); go_simp; (try with_reducible rfl))
              simp only [Act.put, List.setIfInBounds_toArray, List.set_cons_zero, List.set_cons_succ]
              refine tkH (i := 10) (d := some 36) (v := ?_) rfl rfl (by kernel_rfl) (by kernel_rfl) (by kernel_rfl) (fun _ _ _ h => h) (by rfl) ?_ (by with_reducible assumption) ?_
              rotate_left
              · (intro w hSw; (try dsimp only at hSw); go_simp; (try with_reducible rfl))
              simp only [Act.put, List.setIfInBounds_toArray, List.set_cons_zero, List.set_cons_succ]
              refine tkH (i := 11) (d := some 37) (v := ?_) rfl rfl (by kernel_rfl) (by kernel_rfl) (by kernel_rfl) (fun _ _ _ h => h) (by rfl) ?_ (by with_reducible assumption) ?_
              rotate_left
              · (intro w hSw; (try dsimp only at hSw); go_simp; (try with_reducible rfl))
              simp only [Act.put, List.setIfInBounds_toArray, List.set_cons_zero, List.set_cons_succ]
              refine tkH (i := 12) (d := some 38) (v := ?_) rfl rfl (by kernel_rfl) (by kernel_rfl) (by kernel_rfl) (fun _ _ _ h => h) (by rfl) ?_ (by with_reducible assumption) ?_
              rotate_left
              · (intro w hSw; (try dsimp only at hSw); go_simp; (try with_reducible rfl))
              simp only [Act.put, List.setIfInBounds_toArray, List.set_cons_zero, List.set_cons_succ]
              refine tkH (i := 13) (d := some 39) (v := ?_) rfl rfl (by kernel_rfl) (by kernel_rfl) (by kernel_rfl) (fun _ _ _ h => h) (by rfl) ?_ (by with_reducible assumption) ?_
              rotate_left
              · (intro w hSw; (try dsimp only at hSw); go_simp; (try with_reducible rfl))
              simp only [Act.put, List.setIfInBounds_toArray, List.set_cons_zero, List.set_cons_succ]
              refine tkH (i := 14) (d := some 40) (v := ?_) rfl rfl (by kernel_rfl) (by kernel_rfl) (by kernel_rfl) (fun _ _ _ h => h) (by rfl) ?_ (by with_reducible assumption) ?_
              rotate_left
              · (intro w hSw; (try dsimp only at hSw); go_simp; (try with_reducible rfl))
              simp only [Act.put, List.setIfInBounds_toArray, List.set_cons_zero, List.set_cons_succ]
              refine tkH (i := 15) (d := some 41) (v := ?_) rfl rfl (by kernel_rfl) (by kernel_rfl) (by kernel_rfl) (fun _ _ _ h => h) (by rfl) ?_ (by with_reducible assumption) ?_
              rotate_left
              · (intro w hSw; (try dsimp only at hSw); go_simp; (try with_reducible rfl))
              simp only [Act.put, List.setIfInBounds_toArray, List.set_cons_zero, List.set_cons_succ]
              refine tkH (i := 16) (d := some 42) (v := ?_) rfl rfl (by kernel_rfl) (by kernel_rfl) (by kernel_rfl) (fun _ _ _ h => h) (by rfl) ?_ (by with_reducible assumption) ?_
              rotate_left
              · (intro w hSw; (try dsimp only at hSw); go_simp; (try with_reducible rfl))
              simp only [Act.put, List.setIfInBounds_toArray, List.set_cons_zero, List.set_cons_succ]
              refine tkH (i := 17) (d := some 43) (v := ?_) rfl rfl (by kernel_rfl) (by kernel_rfl) (by kernel_rfl) (fun _ _ _ h => h) (by rfl) ?_ (by with_reducible assumption) ?_
              rotate_left
              · (intro w hSw; (try dsimp only at hSw); go_simp; (try with_reducible rfl))
              simp only [Act.put, List.setIfInBounds_toArray, List.set_cons_zero, List.set_cons_succ]
              refine tkH (i := 18) (d := some 44) (v := ?_) rfl rfl (by kernel_rfl) (by kernel_rfl) (by kernel_rfl) (fun _ _ _ h => h) (by rfl) ?_ (by with_reducible assumption) ?_
              rotate_left
              · (intro w hSw; (try dsimp only at hSw); go_simp; (try with_reducible rfl))
              simp only [Act.put, List.setIfInBounds_toArray, List.set_cons_zero, List.set_cons_succ]
              refine tkH (i := 19) (d := some 45) (v := ?_) rfl rfl (by kernel_rfl) (by kernel_rfl) (by kernel_rfl) (fun _ _ _ h => h) (by rfl) ?_ (by with_reducible assumption) ?_
              rotate_left
              · (intro w hSw; (try dsimp only at hSw); go_simp; (try with_reducible rfl))
              simp only [Act.put, List.setIfInBounds_toArray, List.set_cons_zero, List.set_cons_succ]
              refine tkH (i := 20) (d := some 46) (v := ?_) rfl rfl (by kernel_rfl) (by kernel_rfl) (by kernel_rfl) (fun _ _ _ h => h) (by rfl) ?_ (by with_reducible assumption) ?_
              rotate_left
              · (intro w hSw; (try dsimp only at hSw); go_simp; (try with_reducible rfl))
              simp only [Act.put, List.setIfInBounds_toArray, List.set_cons_zero, List.set_cons_succ]
              refine tkH (i := 21) (d := some 47) (v := ?_) rfl rfl (by kernel_rfl) (by kernel_rfl) (by kernel_rfl) (fun _ _ _ h => h) (by rfl) ?_ (by with_reducible assumption) ?_
              rotate_left
              · (intro w hSw; (try dsimp only at hSw); go_simp; (try with_reducible rfl))
              simp only [Act.put, List.setIfInBounds_toArray, List.set_cons_zero, List.set_cons_succ]
              refine tkH (i := 22) (d := some 48) (v := ?_) rfl rfl (by kernel_rfl) (by kernel_rfl) (by kernel_rfl) (fun _ _ _ h => h) (by rfl) ?_ (by with_reducible assumption) ?_
              rotate_left
              · (intro w hSw; (try dsimp only at hSw); go_simp; (try with_reducible rfl))
              simp only [Act.put, List.setIfInBounds_toArray, List.set_cons_zero, List.set_cons_succ]
              refine tkH (i := 23) (d := some 49) (v := ?_) rfl rfl (by kernel_rfl) (by kernel_rfl) (by kernel_rfl) (fun _ _ _ h => h) (by rfl) ?_ (by with_reducible assumption) ?_
              rotate_left
              · (intro w hSw; (try dsimp only at hSw); go_simp; (try with_reducible rfl))
              simp only [Act.put, List.setIfInBounds_toArray, List.set_cons_zero, List.set_cons_succ]
              refine tkH (i := 24) (d := some 50) (v := ?_) rfl rfl (by kernel_rfl) (by kernel_rfl) (by kernel_rfl) (fun _ _ _ h => h) (by rfl) ?_ (by with_reducible assumption) ?_
              rotate_left
              · (intro w hSw; (try dsimp only at hSw); go_simp; (try with_reducible rfl))
              simp only [Act.put, List.setIfInBounds_toArray, List.set_cons_zero, List.set_cons_succ]
              refine tkH (i := 25) (d := some 51) (v := ?_) rfl rfl (by kernel_rfl) (by kernel_rfl) (by kernel_rfl) (fun _ _ _ h => h) (by rfl) ?_ (by with_reducible assumption) ?_
              rotate_left
              · (intro w hSw; (try dsimp only at hSw); go_simp; (try with_reducible rfl))
              simp only [Act.put, List.setIfInBounds_toArray, List.set_cons_zero, List.set_cons_succ]
              refine tkH (i := 26) (d := some 52) (v := ?_) rfl rfl (by kernel_rfl) (by kernel_rfl) (by kernel_rfl) (fun _ _ _ h => h) (by rfl) ?_ (by with_reducible assumption) ?_
              rotate_left
              · (intro w hSw; (try dsimp only at hSw); go_simp; (try with_reducible rfl))
              simp only [Act.put, List.setIfInBounds_toArray, List.set_cons_zero, List.set_cons_succ]
              refine tkH (i := 27) (d := some 53) (v := ?_) rfl rfl (by kernel_rfl) (by kernel_rfl) (by kernel_rfl) (fun _ _ _ h => h) (by rfl) ?_ (by with_reducible assumption) ?_
              rotate_left
              · (intro w hSw; (try dsimp only at hSw); go_simp; (try with_reducible rfl))
              simp only [Act.put, List.setIfInBounds_toArray, List.set_cons_zero, List.set_cons_succ]
              refine tkH (i := 28) (d := some 54) (v := ?_) rfl rfl (by kernel_rfl) (by kernel_rfl) (by kernel_rfl) (fun _ _ _ h => h) (by rfl) ?_ (by with_reducible assumption) ?_
              rotate_left
              · (intro w hSw; (try dsimp only at hSw); go_simp; (try with_reducible rfl))
              simp only [Act.put, List.setIfInBounds_toArray, List.set_cons_zero, List.set_cons_succ]
              refine tkH (i := 29) (d := some 55) (v := ?_) rfl rfl (by kernel_rfl) (by kernel_rfl) (by kernel_rfl) (fun _ _ _ h => h) (by rfl) ?_ (by with_reducible assumption) ?_
              rotate_left
              · (intro w hSw; (try dsimp only at hSw); go_simp; (try with_reducible rfl))
              simp only [Act.put, List.setIfInBounds_toArray, List.set_cons_zero, List.set_cons_succ]
              refine tkH (i := 30) (d := some 56) (v := ?_) rfl rfl (by kernel_rfl) (by kernel_rfl) (by kernel_rfl) (fun _ _ _ h => h) (by rfl) ?_ (by with_reducible assumption) ?_
              rotate_left
              · (intro w hSw; (try dsimp only at hSw); go_simp; (try with_reducible rfl))
              simp only [Act.put, List.setIfInBounds_toArray, List.set_cons_zero, List.set_cons_succ]
              refine tkH (i := 31) (d := some 57) (v := ?_) rfl rfl (by kernel_rfl) (by kernel_rfl) (by kernel_rfl) (fun _ _ _ h => h) (by rfl) ?_ (by with_reducible assumption) ?_
              rotate_left
              · (intro w hSw; (try dsimp only at hSw); go_simp; (try with_reducible rfl))
              simp only [Act.put, List.setIfInBounds_toArray, List.set_cons_zero, List.set_cons_succ]
              refine tkH (i := 32) (d := some 58) (v := ?_) rfl rfl (by kernel_rfl) (by kernel_rfl) (by kernel_rfl) (fun _ _ _ h => h) (by rfl) ?_ (by with_reducible assumption) ?_
              rotate_left
              · (intro w hSw; (try dsimp only at hSw); go_simp; (try with_reducible rfl))
              simp only [Act.put, List.setIfInBounds_toArray, List.set_cons_zero, List.set_cons_succ]
              refine tkH (i := 33) (d := some 59) (v := ?_) rfl rfl (by kernel_rfl) (by kernel_rfl) (by kernel_rfl) (fun _ _ _ h => h) (by rfl) ?_ (by with_reducible assumption) ?_
              rotate_left
              · (intro w hSw; (try dsimp only at hSw); go_simp; (try with_reducible rfl))
              simp only [Act.put, List.setIfInBounds_toArray, List.set_cons_zero, List.set_cons_succ]
              refine wpAnyH_ready (rs := [34]) (by kernel_rfl) (by simp) ?_
              refine AllReadyH.cons rfl (fun K hK => ?_) AllReadyH.nil
              go_simp
              refine hK.out _ _ hSe (fun _ => ?_)
              clear hK K
              refine wpAnyH_done (by kernel_rfl) ?_ _
              go_wp2_with fail
              go_meet
              exact ⟨hre _, hBe _, hoe _⟩
        case rest =>
          obtain ⟨hrc2, hBc2, hownc2⟩ := hcut
          clear hrc hBc hownc
          have hrc := hrc2
          have hBc := hBc2
          have hownc := hownc2
          clear hrc2 hBc2 hownc2
          obtain ⟨X2, hX2⟩ : ∃ Y, Y = wc := ⟨_, rfl⟩
          subst hX2
          go_upto_region 7 with fail
          go_cut [60] (fun _ wx => wx.heap[cb]? = some (.cells #[.int .u32 0, .bool had, .bool has, .int .i64 0, .int .i64 0, .int .i64 0, .int .i64 0] 99) ∧ Below w.heap.size w wx ∧ wx.ownsRow w.heap.size 99 7 (.slice ea D.length ec) D.length (flat7 D))
          case first => as_aux_lemma =>
            have hBe := fun v => rf_bset hBc.drew (p := ⟨cb, 2, none⟩) hcb2.out v
            have hre := fun v => heap_setCell_same X2.drew cb 2 _ _ v hrc
            have hoe := fun v => hownc.kept ((grown_drew X2 (some cb)).trans (grown_set X2.drew cb 2 v)) hne.out
            have x1 : X2.cell? ⟨cb, 2, none⟩ = some (.bool false) := cell_of_row _ _ 2 _ _ _ hrc
            have f1 := frozen_of_row hrc 2
            rcases hHas.out with ⟨hq, hv⟩ | ⟨hq, ho, hv⟩ | ⟨hia, hkb, hv⟩
            · as_aux_lemma =>
                have hq' : ¬ (i : Int) < (A.length : Int) := fun h => hq (Int.ofNat_lt.1 h)
                have hq2 : (A.length : Int) ≤ (i : Int) := Int.not_lt.1 hq'
                subst hv
                have hSd := hfa.out _ hBc.drew
                have hSe := hfa.out _ (hBe (.bool true))
                refine wp_region_held_drew (S := fun Y => Y.cell? ⟨a, 0, none⟩ = some (.slice ai A.length ci) ∧ Y.cell? ⟨b, 0, none⟩ = some (.slice bi B.length di)) (by kernel_rfl) hSd (fun hSd2 => ?_)
                clear hSd2
                refine tkH (i := 0) (d := some 60) (v := ?_) rfl rfl (by kernel_rfl) (by kernel_rfl) (by kernel_rfl) (fun _ _ _ h => h) (by rfl) ?_ (by with_reducible assumption) ?_
                rotate_left
                · (intro w hSw; (try dsimp only at hSw); go_simp; (try with_reducible rfl))
                simp only [Act.put, List.setIfInBounds_toArray, List.set_cons_zero, List.set_cons_succ]
                refine tkH (i := 1) (d := some 61) (v := ?_) rfl rfl (by kernel_rfl) (by kernel_rfl) (by kernel_rfl) (fun _ _ _ h => h) (by rfl) ?_ (by with_reducible assumption) ?_
                rotate_left
                · (intro w hSw; (try dsimp only at hSw); go_simp; (try with_reducible rfl))
                simp only [Act.put, List.setIfInBounds_toArray, List.set_cons_zero, List.set_cons_succ]
                refine tkH (i := 2) (d := some 62) (v := ?_) rfl rfl (by kernel_rfl) (by kernel_rfl) (by kernel_rfl) (fun _ _ _ h => h) (by rfl) ?_ (by with_reducible assumption) ?_
                rotate_left
                · (intro w hSw; (try dsimp only at hSw); go_simp; (try with_reducible rfl))
                simp only [Act.put, List.setIfInBounds_toArray, List.set_cons_zero, List.set_cons_succ]
                refine tkH (i := 3) (d := some 63) (v := ?_) rfl rfl (by kernel_rfl) (by kernel_rfl) (by kernel_rfl) (fun _ _ _ h => h) (by rfl) ?_ (by with_reducible assumption) ?_
                rotate_left
                · (intro w hSw; (try dsimp only at hSw); go_simp; (try with_reducible rfl))
                simp only [Act.put, List.setIfInBounds_toArray, List.set_cons_zero, List.set_cons_succ]
                refine tkH (i := 4) (d := some 64) (v := ?_) rfl rfl (by kernel_rfl) (by kernel_rfl) (by kernel_rfl) (fun _ _ _ h => h) (by rfl) ?_ (by with_reducible assumption) ?_
                rotate_left
                · (intro w hSw; (try dsimp only at hSw); go_simp; (try with_reducible rfl))
                simp only [Act.put, List.setIfInBounds_toArray, List.set_cons_zero, List.set_cons_succ]
                refine tkH (i := 5) (d := some 65) (v := ?_) rfl rfl (by kernel_rfl) (by kernel_rfl) (by kernel_rfl) (fun _ _ _ h => h) (by rfl) ?_ (by with_reducible assumption) ?_
                rotate_left
                · (intro w hSw; (try dsimp only at hSw); go_simp; (try with_reducible rfl))
                simp only [Act.put, List.setIfInBounds_toArray, List.set_cons_zero, List.set_cons_succ]
                refine tkH (i := 6) (d := some 66) (v := ?_) rfl rfl (by kernel_rfl) (by kernel_rfl) (by kernel_rfl) (fun _ _ _ h => h) (by rfl) ?_ (by with_reducible assumption) ?_
                rotate_left
                · (intro w hSw; (try dsimp only at hSw); go_simp; (try with_reducible rfl))
                simp only [Act.put, List.setIfInBounds_toArray, List.set_cons_zero, List.set_cons_succ]
                refine tkH (i := 7) (d := some 67) (v := ?_) rfl rfl (by kernel_rfl) (by kernel_rfl) (by kernel_rfl) (fun _ _ _ h => h) (by rfl) ?_ (by with_reducible assumption) ?_
                rotate_left
                · (intro w hSw; (try dsimp only at hSw); go_simp; (try with_reducible rfl))
                simp only [Act.put, List.setIfInBounds_toArray, List.set_cons_zero, List.set_cons_succ]
                refine skH (i := 8) (d := some 68) rfl rfl (by kernel_rfl) (by kernel_rfl) (by kernel_rfl) (fun _ _ _ h => h) (by rfl) (by with_reducible assumption) ?_
                simp only [Act.put, List.setIfInBounds_toArray, List.set_cons_zero, List.set_cons_succ]
                refine skH (i := 9) (d := some 69) rfl rfl (by kernel_rfl) (by kernel_rfl) (by kernel_rfl) (fun _ _ _ h => h) (by rfl) (by with_reducible assumption) ?_
                simp only [Act.put, List.setIfInBounds_toArray, List.set_cons_zero, List.set_cons_succ]
                refine skH (i := 10) (d := some 70) rfl rfl (by kernel_rfl) (by kernel_rfl) (by kernel_rfl) (fun _ _ _ h => h) (by rfl) (by with_reducible assumption) ?_
                simp only [Act.put, List.setIfInBounds_toArray, List.set_cons_zero, List.set_cons_succ]
                refine skH (i := 11) (d := some 71) rfl rfl (by kernel_rfl) (by kernel_rfl) (by kernel_rfl) (fun _ _ _ h => h) (by rfl) (by with_reducible assumption) ?_
                simp only [Act.put, List.setIfInBounds_toArray, List.set_cons_zero, List.set_cons_succ]
                refine skH (i := 12) (d := some 72) rfl rfl (by kernel_rfl) (by kernel_rfl) (by kernel_rfl) (fun _ _ _ h => h) (by rfl) (by with_reducible assumption) ?_
                simp only [Act.put, List.setIfInBounds_toArray, List.set_cons_zero, List.set_cons_succ]
                refine skH (i := 13) (d := some 73) rfl rfl (by kernel_rfl) (by kernel_rfl) (by kernel_rfl) (fun _ _ _ h => h) (by rfl) (by with_reducible assumption) ?_
                simp only [Act.put, List.setIfInBounds_toArray, List.set_cons_zero, List.set_cons_succ]
                refine skH (i := 14) (d := some 74) rfl rfl (by kernel_rfl) (by kernel_rfl) (by kernel_rfl) (fun _ _ _ h => h) (by rfl) (by with_reducible assumption) ?_
                simp only [Act.put, List.setIfInBounds_toArray, List.set_cons_zero, List.set_cons_succ]
                refine skH (i := 15) (d := some 75) rfl rfl (by kernel_rfl) (by kernel_rfl) (by kernel_rfl) (fun _ _ _ h => h) (by rfl) (by with_reducible assumption) ?_
                simp only [Act.put, List.setIfInBounds_toArray, List.set_cons_zero, List.set_cons_succ]
                refine skH (i := 16) (d := some 76) rfl rfl (by kernel_rfl) (by kernel_rfl) (by kernel_rfl) (fun _ _ _ h => h) (by rfl) (by with_reducible assumption) ?_
                simp only [Act.put, List.setIfInBounds_toArray, List.set_cons_zero, List.set_cons_succ]
                refine skH (i := 17) (d := some 77) rfl rfl (by kernel_rfl) (by kernel_rfl) (by kernel_rfl) (fun _ _ _ h => h) (by rfl) (by with_reducible assumption) ?_
                simp only [Act.put, List.setIfInBounds_toArray, List.set_cons_zero, List.set_cons_succ]
                refine skH (i := 18) (d := some 78) rfl rfl (by kernel_rfl) (by kernel_rfl) (by kernel_rfl) (fun _ _ _ h => h) (by rfl) (by with_reducible assumption) ?_
                simp only [Act.put, List.setIfInBounds_toArray, List.set_cons_zero, List.set_cons_succ]
                refine skH (i := 19) (d := some 79) rfl rfl (by kernel_rfl) (by kernel_rfl) (by kernel_rfl) (fun _ _ _ h => h) (by rfl) (by with_reducible assumption) ?_
                simp only [Act.put, List.setIfInBounds_toArray, List.set_cons_zero, List.set_cons_succ]
                refine skH (i := 20) (d := some 80) rfl rfl (by kernel_rfl) (by kernel_rfl) (by kernel_rfl) (fun _ _ _ h => h) (by rfl) (by with_reducible assumption) ?_
                simp only [Act.put, List.setIfInBounds_toArray, List.set_cons_zero, List.set_cons_succ]
                refine skH (i := 21) (d := some 81) rfl rfl (by kernel_rfl) (by kernel_rfl) (by kernel_rfl) (fun _ _ _ h => h) (by rfl) (by with_reducible assumption) ?_
                simp only [Act.put, List.setIfInBounds_toArray, List.set_cons_zero, List.set_cons_succ]
                refine skH (i := 22) (d := some 82) rfl rfl (by kernel_rfl) (by kernel_rfl) (by kernel_rfl) (fun _ _ _ h => h) (by rfl) (by with_reducible assumption) ?_
                simp only [Act.put, List.setIfInBounds_toArray, List.set_cons_zero, List.set_cons_succ]
                refine skH (i := 23) (d := some 83) rfl rfl (by kernel_rfl) (by kernel_rfl) (by kernel_rfl) (fun _ _ _ h => h) (by rfl) (by with_reducible assumption) ?_
                simp only [Act.put, List.setIfInBounds_toArray, List.set_cons_zero, List.set_cons_succ]
                refine skH (i := 24) (d := some 84) rfl rfl (by kernel_rfl) (by kernel_rfl) (by kernel_rfl) (fun _ _ _ h => h) (by rfl) (by with_reducible assumption) ?_
                simp only [Act.put, List.setIfInBounds_toArray, List.set_cons_zero, List.set_cons_succ]
                refine skH (i := 25) (d := some 85) rfl rfl (by kernel_rfl) (by kernel_rfl) (by kernel_rfl) (fun _ _ _ h => h) (by rfl) (by with_reducible assumption) ?_
                simp only [Act.put, List.setIfInBounds_toArray, List.set_cons_zero, List.set_cons_succ]
                refine skH (i := 26) (d := some 86) rfl rfl (by kernel_rfl) (by kernel_rfl) (by kernel_rfl) (fun _ _ _ h => h) (by rfl) (by with_reducible assumption) ?_
                simp only [Act.put, List.setIfInBounds_toArray, List.set_cons_zero, List.set_cons_succ]
                refine skH (i := 27) (d := some 87) rfl rfl (by kernel_rfl) (by kernel_rfl) (by kernel_rfl) (fun _ _ _ h => h) (by rfl) (by with_reducible assumption) ?_
                simp only [Act.put, List.setIfInBounds_toArray, List.set_cons_zero, List.set_cons_succ]
                refine skH (i := 28) (d := some 88) rfl rfl (by kernel_rfl) (by kernel_rfl) (by kernel_rfl) (fun _ _ _ h => h) (by rfl) (by with_reducible assumption) ?_
                simp only [Act.put, List.setIfInBounds_toArray, List.set_cons_zero, List.set_cons_succ]
                refine skH (i := 29) (d := some 89) rfl rfl (by kernel_rfl) (by kernel_rfl) (by kernel_rfl) (fun _ _ _ h => h) (by rfl) (by with_reducible assumption) ?_
                simp only [Act.put, List.setIfInBounds_toArray, List.set_cons_zero, List.set_cons_succ]
                refine skH (i := 30) (d := some 90) rfl rfl (by kernel_rfl) (by kernel_rfl) (by kernel_rfl) (fun _ _ _ h => h) (by rfl) (by with_reducible assumption) ?_
                simp only [Act.put, List.setIfInBounds_toArray, List.set_cons_zero, List.set_cons_succ]
                refine skH (i := 31) (d := some 91) rfl rfl (by kernel_rfl) (by kernel_rfl) (by kernel_rfl) (fun _ _ _ h => h) (by rfl) (by with_reducible assumption) ?_
                simp only [Act.put, List.setIfInBounds_toArray, List.set_cons_zero, List.set_cons_succ]
                refine tkH (i := 32) (d := some 92) (v := ?_) rfl rfl (by kernel_rfl) (by kernel_rfl) (by kernel_rfl) (fun _ _ _ h => h) (by rfl) ?_ (by with_reducible assumption) ?_
                rotate_left
                · (intro w hSw; (try dsimp only at hSw); go_simp; (try with_reducible rfl))
                simp only [Act.put, List.setIfInBounds_toArray, List.set_cons_zero, List.set_cons_succ]
                refine tkH (i := 33) (d := some 93) (v := ?_) rfl rfl (by kernel_rfl) (by kernel_rfl) (by kernel_rfl) (fun _ _ _ h => h) (by rfl) ?_ (by with_reducible assumption) ?_
                rotate_left
                · (intro w hSw; (try dsimp only at hSw); go_simp; (try with_reducible rfl))
                simp only [Act.put, List.setIfInBounds_toArray, List.set_cons_zero, List.set_cons_succ]
                refine wpAnyH_ready (rs := [34]) (by kernel_rfl) (by simp) ?_
                refine AllReadyH.cons rfl (fun K hK => ?_) AllReadyH.nil
                go_simp
                refine hK.out _ _ hSe (fun _ => ?_)
                clear hK K
                refine wpAnyH_done (by kernel_rfl) ?_ _
                go_wp2_with fail
                go_meet
                exact ⟨hre _, hBe _, hoe _⟩
            · as_aux_lemma =>
                have hq' : (i : Int) < (A.length : Int) := Int.ofNat_lt.2 hq
                have hq2 : ¬ (A.length : Int) ≤ (i : Int) := Int.not_le.2 hq'
                have ho' : ¬ (k : Int) < (B.length : Int) := fun h => ho (Int.ofNat_lt.1 h)
                subst hv
                have hSd := hfa.out _ hBc.drew
                have hSe := hfa.out _ (hBe (.bool false))
                refine wp_region_held_drew (S := fun Y => Y.cell? ⟨a, 0, none⟩ = some (.slice ai A.length ci) ∧ Y.cell? ⟨b, 0, none⟩ = some (.slice bi B.length di)) (by kernel_rfl) hSd (fun hSd2 => ?_)
                clear hSd2
                refine tkH (i := 0) (d := some 60) (v := ?_) rfl rfl (by kernel_rfl) (by kernel_rfl) (by kernel_rfl) (fun _ _ _ h => h) (by rfl) ?_ (by with_reducible assumption) ?_
                rotate_left
                · (intro w hSw; (try dsimp only at hSw); go_simp; (try with_reducible rfl))
                simp only [Act.put, List.setIfInBounds_toArray, List.set_cons_zero, List.set_cons_succ]
                refine tkH (i := 1) (d := some 61) (v := ?_) rfl rfl (by kernel_rfl) (by kernel_rfl) (by kernel_rfl) (fun _ _ _ h => h) (by rfl) ?_ (by with_reducible assumption) ?_
                rotate_left
                · (intro w hSw; (try dsimp only at hSw); go_simp; (try with_reducible rfl))
                simp only [Act.put, List.setIfInBounds_toArray, List.set_cons_zero, List.set_cons_succ]
                refine tkH (i := 2) (d := some 62) (v := ?_) rfl rfl (by kernel_rfl) (by kernel_rfl) (by kernel_rfl) (fun _ _ _ h => h) (by rfl) ?_ (by with_reducible assumption) ?_
                rotate_left
                · (intro w hSw; (try dsimp only at hSw); go_simp; (try with_reducible rfl))
                simp only [Act.put, List.setIfInBounds_toArray, List.set_cons_zero, List.set_cons_succ]
                refine tkH (i := 3) (d := some 63) (v := ?_) rfl rfl (by kernel_rfl) (by kernel_rfl) (by kernel_rfl) (fun _ _ _ h => h) (by rfl) ?_ (by with_reducible assumption) ?_
                rotate_left
                · (intro w hSw; (try dsimp only at hSw); go_simp; (try with_reducible rfl))
                simp only [Act.put, List.setIfInBounds_toArray, List.set_cons_zero, List.set_cons_succ]
                refine tkH (i := 4) (d := some 64) (v := ?_) rfl rfl (by kernel_rfl) (by kernel_rfl) (by kernel_rfl) (fun _ _ _ h => h) (by rfl) ?_ (by with_reducible assumption) ?_
                rotate_left
                · (intro w hSw; (try dsimp only at hSw); go_simp; (try with_reducible rfl))
                simp only [Act.put, List.setIfInBounds_toArray, List.set_cons_zero, List.set_cons_succ]
                refine tkH (i := 5) (d := some 65) (v := ?_) rfl rfl (by kernel_rfl) (by kernel_rfl) (by kernel_rfl) (fun _ _ _ h => h) (by rfl) ?_ (by with_reducible assumption) ?_
                rotate_left
                · (intro w hSw; (try dsimp only at hSw); go_simp; (try with_reducible rfl))
                simp only [Act.put, List.setIfInBounds_toArray, List.set_cons_zero, List.set_cons_succ]
                refine tkH (i := 6) (d := some 66) (v := ?_) rfl rfl (by kernel_rfl) (by kernel_rfl) (by kernel_rfl) (fun _ _ _ h => h) (by rfl) ?_ (by with_reducible assumption) ?_
                rotate_left
                · (intro w hSw; (try dsimp only at hSw); go_simp; (try with_reducible rfl))
                simp only [Act.put, List.setIfInBounds_toArray, List.set_cons_zero, List.set_cons_succ]
                refine tkH (i := 7) (d := some 67) (v := ?_) rfl rfl (by kernel_rfl) (by kernel_rfl) (by kernel_rfl) (fun _ _ _ h => h) (by rfl) ?_ (by with_reducible assumption) ?_
                rotate_left
                · (intro w hSw; (try dsimp only at hSw); go_simp; (try with_reducible rfl))
                simp only [Act.put, List.setIfInBounds_toArray, List.set_cons_zero, List.set_cons_succ]
                refine tkH (i := 8) (d := some 68) (v := ?_) rfl rfl (by kernel_rfl) (by kernel_rfl) (by kernel_rfl) (fun _ _ _ h => h) (by rfl) ?_ (by with_reducible assumption) ?_
                rotate_left
                · (intro w hSw; (try dsimp only at hSw); go_simp; (try with_reducible rfl))
                simp only [Act.put, List.setIfInBounds_toArray, List.set_cons_zero, List.set_cons_succ]
                refine tkH (i := 9) (d := some 69) (v := ?_) rfl rfl (by kernel_rfl) (by kernel_rfl) (by kernel_rfl) (fun _ _ _ h => h) (by rfl) ?_ (by with_reducible assumption) ?_
                rotate_left
                · (intro w hSw; (try dsimp only at hSw); go_simp; (try with_reducible rfl))
                simp only [Act.put, List.setIfInBounds_toArray, List.set_cons_zero, List.set_cons_succ]
                refine tkH (i := 10) (d := some 70) (v := ?_) rfl rfl (by kernel_rfl) (by kernel_rfl) (by kernel_rfl) (fun _ _ _ h => h) (by rfl) ?_ (by with_reducible assumption) ?_
                rotate_left
                · (intro w hSw; (try dsimp only at hSw); go_simp; (try with_reducible rfl))
                simp only [Act.put, List.setIfInBounds_toArray, List.set_cons_zero, List.set_cons_succ]
                refine tkH (i := 11) (d := some 71) (v := ?_) rfl rfl (by kernel_rfl) (by kernel_rfl) (by kernel_rfl) (fun _ _ _ h => h) (by rfl) ?_ (by with_reducible assumption) ?_
                rotate_left
                · (intro w hSw; (try dsimp only at hSw); go_simp; (try with_reducible rfl))
                simp only [Act.put, List.setIfInBounds_toArray, List.set_cons_zero, List.set_cons_succ]
                refine tkH (i := 12) (d := some 72) (v := ?_) rfl rfl (by kernel_rfl) (by kernel_rfl) (by kernel_rfl) (fun _ _ _ h => h) (by rfl) ?_ (by with_reducible assumption) ?_
                rotate_left
                · (intro w hSw; (try dsimp only at hSw); go_simp; (try with_reducible rfl))
                simp only [Act.put, List.setIfInBounds_toArray, List.set_cons_zero, List.set_cons_succ]
                refine tkH (i := 13) (d := some 73) (v := ?_) rfl rfl (by kernel_rfl) (by kernel_rfl) (by kernel_rfl) (fun _ _ _ h => h) (by rfl) ?_ (by with_reducible assumption) ?_
                rotate_left
                · (intro w hSw; (try dsimp only at hSw); go_simp; (try with_reducible rfl))
                simp only [Act.put, List.setIfInBounds_toArray, List.set_cons_zero, List.set_cons_succ]
                refine tkH (i := 14) (d := some 74) (v := ?_) rfl rfl (by kernel_rfl) (by kernel_rfl) (by kernel_rfl) (fun _ _ _ h => h) (by rfl) ?_ (by with_reducible assumption) ?_
                rotate_left
                · (intro w hSw; (try dsimp only at hSw); go_simp; (try with_reducible rfl))
                simp only [Act.put, List.setIfInBounds_toArray, List.set_cons_zero, List.set_cons_succ]
                refine tkH (i := 15) (d := some 75) (v := ?_) rfl rfl (by kernel_rfl) (by kernel_rfl) (by kernel_rfl) (fun _ _ _ h => h) (by rfl) ?_ (by with_reducible assumption) ?_
                rotate_left
                · (intro w hSw; (try dsimp only at hSw); go_simp; (try with_reducible rfl))
                simp only [Act.put, List.setIfInBounds_toArray, List.set_cons_zero, List.set_cons_succ]
                refine skH (i := 16) (d := some 76) rfl rfl (by kernel_rfl) (by kernel_rfl) (by kernel_rfl) (fun _ _ _ h => h) (by rfl) (by with_reducible assumption) ?_
                simp only [Act.put, List.setIfInBounds_toArray, List.set_cons_zero, List.set_cons_succ]
                refine skH (i := 17) (d := some 77) rfl rfl (by kernel_rfl) (by kernel_rfl) (by kernel_rfl) (fun _ _ _ h => h) (by rfl) (by with_reducible assumption) ?_
                simp only [Act.put, List.setIfInBounds_toArray, List.set_cons_zero, List.set_cons_succ]
                refine skH (i := 18) (d := some 78) rfl rfl (by kernel_rfl) (by kernel_rfl) (by kernel_rfl) (fun _ _ _ h => h) (by rfl) (by with_reducible assumption) ?_
                simp only [Act.put, List.setIfInBounds_toArray, List.set_cons_zero, List.set_cons_succ]
                refine skH (i := 19) (d := some 79) rfl rfl (by kernel_rfl) (by kernel_rfl) (by kernel_rfl) (fun _ _ _ h => h) (by rfl) (by with_reducible assumption) ?_
                simp only [Act.put, List.setIfInBounds_toArray, List.set_cons_zero, List.set_cons_succ]
                refine skH (i := 20) (d := some 80) rfl rfl (by kernel_rfl) (by kernel_rfl) (by kernel_rfl) (fun _ _ _ h => h) (by rfl) (by with_reducible assumption) ?_
                simp only [Act.put, List.setIfInBounds_toArray, List.set_cons_zero, List.set_cons_succ]
                refine skH (i := 21) (d := some 81) rfl rfl (by kernel_rfl) (by kernel_rfl) (by kernel_rfl) (fun _ _ _ h => h) (by rfl) (by with_reducible assumption) ?_
                simp only [Act.put, List.setIfInBounds_toArray, List.set_cons_zero, List.set_cons_succ]
                refine skH (i := 22) (d := some 82) rfl rfl (by kernel_rfl) (by kernel_rfl) (by kernel_rfl) (fun _ _ _ h => h) (by rfl) (by with_reducible assumption) ?_
                simp only [Act.put, List.setIfInBounds_toArray, List.set_cons_zero, List.set_cons_succ]
                refine skH (i := 23) (d := some 83) rfl rfl (by kernel_rfl) (by kernel_rfl) (by kernel_rfl) (fun _ _ _ h => h) (by rfl) (by with_reducible assumption) ?_
                simp only [Act.put, List.setIfInBounds_toArray, List.set_cons_zero, List.set_cons_succ]
                refine skH (i := 24) (d := some 84) rfl rfl (by kernel_rfl) (by kernel_rfl) (by kernel_rfl) (fun _ _ _ h => h) (by rfl) (by with_reducible assumption) ?_
                simp only [Act.put, List.setIfInBounds_toArray, List.set_cons_zero, List.set_cons_succ]
                refine skH (i := 25) (d := some 85) rfl rfl (by kernel_rfl) (by kernel_rfl) (by kernel_rfl) (fun _ _ _ h => h) (by rfl) (by with_reducible assumption) ?_
                simp only [Act.put, List.setIfInBounds_toArray, List.set_cons_zero, List.set_cons_succ]
                refine skH (i := 26) (d := some 86) rfl rfl (by kernel_rfl) (by kernel_rfl) (by kernel_rfl) (fun _ _ _ h => h) (by rfl) (by with_reducible assumption) ?_
                simp only [Act.put, List.setIfInBounds_toArray, List.set_cons_zero, List.set_cons_succ]
                refine skH (i := 27) (d := some 87) rfl rfl (by kernel_rfl) (by kernel_rfl) (by kernel_rfl) (fun _ _ _ h => h) (by rfl) (by with_reducible assumption) ?_
                simp only [Act.put, List.setIfInBounds_toArray, List.set_cons_zero, List.set_cons_succ]
                refine skH (i := 28) (d := some 88) rfl rfl (by kernel_rfl) (by kernel_rfl) (by kernel_rfl) (fun _ _ _ h => h) (by rfl) (by with_reducible assumption) ?_
                simp only [Act.put, List.setIfInBounds_toArray, List.set_cons_zero, List.set_cons_succ]
                refine skH (i := 29) (d := some 89) rfl rfl (by kernel_rfl) (by kernel_rfl) (by kernel_rfl) (fun _ _ _ h => h) (by rfl) (by with_reducible assumption) ?_
                simp only [Act.put, List.setIfInBounds_toArray, List.set_cons_zero, List.set_cons_succ]
                refine skH (i := 30) (d := some 90) rfl rfl (by kernel_rfl) (by kernel_rfl) (by kernel_rfl) (fun _ _ _ h => h) (by rfl) (by with_reducible assumption) ?_
                simp only [Act.put, List.setIfInBounds_toArray, List.set_cons_zero, List.set_cons_succ]
                refine tkH (i := 31) (d := some 91) (v := ?_) rfl rfl (by kernel_rfl) (by kernel_rfl) (by kernel_rfl) (fun _ _ _ h => h) (by rfl) ?_ (by with_reducible assumption) ?_
                rotate_left
                · (intro w hSw; (try dsimp only at hSw); go_simp; (try with_reducible rfl))
                simp only [Act.put, List.setIfInBounds_toArray, List.set_cons_zero, List.set_cons_succ]
                refine tkH (i := 32) (d := some 92) (v := ?_) rfl rfl (by kernel_rfl) (by kernel_rfl) (by kernel_rfl) (fun _ _ _ h => h) (by rfl) ?_ (by with_reducible assumption) ?_
                rotate_left
                · (intro w hSw; (try dsimp only at hSw); go_simp; (try with_reducible rfl))
                simp only [Act.put, List.setIfInBounds_toArray, List.set_cons_zero, List.set_cons_succ]
                refine tkH (i := 33) (d := some 93) (v := ?_) rfl rfl (by kernel_rfl) (by kernel_rfl) (by kernel_rfl) (fun _ _ _ h => h) (by rfl) ?_ (by with_reducible assumption) ?_
                rotate_left
                · (intro w hSw; (try dsimp only at hSw); go_simp; (try with_reducible rfl))
                simp only [Act.put, List.setIfInBounds_toArray, List.set_cons_zero, List.set_cons_succ]
                refine wpAnyH_ready (rs := [34]) (by kernel_rfl) (by simp) ?_
                refine AllReadyH.cons rfl (fun K hK => ?_) AllReadyH.nil
                go_simp
                refine hK.out _ _ hSe (fun _ => ?_)
                clear hK K
                refine wpAnyH_done (by kernel_rfl) ?_ _
                go_wp2_with fail
                go_meet
                exact ⟨hre _, hBe _, hoe _⟩
            · as_aux_lemma =>
                have hqa : (i : Int) < (A.length : Int) := Int.ofNat_lt.2 hia
                have hqb : (k : Int) < (B.length : Int) := Int.ofNat_lt.2 hkb
                have hqa2 : ¬ (A.length : Int) ≤ (i : Int) := Int.not_le.2 hqa
                have hqb2 : ¬ (B.length : Int) ≤ (k : Int) := Int.not_le.2 hqb
                obtain ⟨gai, hgai, hgl, hgc⟩ := hca.out hia
                obtain ⟨gbi, hgbi, hgm, hgd⟩ := hcb.out hkb
                subst hgai hgbi
                have hfb : Hid (∀ Y, Below w.heap.size w Y → Y.cell? ⟨a, 0, none⟩ = some (.slice (some ⟨gai, 0, none⟩) A.length ci) ∧ Y.cell? ⟨b, 0, none⟩ = some (.slice (some ⟨gbi, 0, none⟩) B.length di) ∧ Y.cell? ⟨gai, i, none⟩ = some (.int .u32 (A[i].1 : Int)) ∧ Y.cell? ⟨gbi, k, none⟩ = some (.int .u32 (B[k].1 : Int))) := fun Y hY => ⟨(hfa.out Y hY).1, (hfa.out Y hY).2, (hY.cell (p := ⟨gai, i, none⟩) hgl).trans hgc, (hY.cell (p := ⟨gbi, k, none⟩) hgm).trans hgd⟩
                clear hgc hgd
                generalize A[i].1 = ka at *
                generalize B[k].1 = kb at *
                subst hv
                have hSd := hfb.out _ hBc.drew
                have hSe := hfb.out _ (hBe (.bool (decide (kb ≤ ka))))
                refine wp_region_held_drew (S := fun Y => Y.cell? ⟨a, 0, none⟩ = some (.slice (some ⟨gai, 0, none⟩) A.length ci) ∧ Y.cell? ⟨b, 0, none⟩ = some (.slice (some ⟨gbi, 0, none⟩) B.length di) ∧ Y.cell? ⟨gai, i, none⟩ = some (.int .u32 (ka : Int)) ∧ Y.cell? ⟨gbi, k, none⟩ = some (.int .u32 (kb : Int))) (by kernel_rfl) hSd (fun hSd2 => ?_)
                clear hSd2
                refine tkH (i := 0) (d := some 60) (v := ?_) rfl rfl (by kernel_rfl) (by kernel_rfl) (by kernel_rfl) (fun _ _ _ h => h) (by rfl) ?_ (by with_reducible assumption) ?_
                rotate_left
                · (intro w hSw; (try dsimp only at hSw); go_simp; (try with_reducible rfl))
                simp only [Act.put, List.setIfInBounds_toArray, List.set_cons_zero, List.set_cons_succ]
                refine tkH (i := 1) (d := some 61) (v := ?_) rfl rfl (by kernel_rfl) (by kernel_rfl) (by kernel_rfl) (fun _ _ _ h => h) (by rfl) ?_ (by with_reducible assumption) ?_
                rotate_left
                · (intro w hSw; (try dsimp only at hSw); go_simp; (try with_reducible rfl))
                simp only [Act.put, List.setIfInBounds_toArray, List.set_cons_zero, List.set_cons_succ]
                refine tkH (i := 2) (d := some 62) (v := ?_) rfl rfl (by kernel_rfl) (by kernel_rfl) (by kernel_rfl) (fun _ _ _ h => h) (by rfl) ?_ (by with_reducible assumption) ?_
                rotate_left
                · (intro w hSw; (try dsimp only at hSw); go_simp; (try with_reducible rfl))
                simp only [Act.put, List.setIfInBounds_toArray, List.set_cons_zero, List.set_cons_succ]
                refine tkH (i := 3) (d := some 63) (v := ?_) rfl rfl (by kernel_rfl) (by kernel_rfl) (by kernel_rfl) (fun _ _ _ h => h) (by rfl) ?_ (by with_reducible assumption) ?_
                rotate_left
                · (intro w hSw; (try dsimp only at hSw); go_simp; (try with_reducible rfl))
                simp only [Act.put, List.setIfInBounds_toArray, List.set_cons_zero, List.set_cons_succ]
                refine tkH (i := 4) (d := some 64) (v := ?_) rfl rfl (by kernel_rfl) (by kernel_rfl) (by kernel_rfl) (fun _ _ _ h => h) (by rfl) ?_ (by with_reducible assumption) ?_
                rotate_left
                · (intro w hSw; (try dsimp only at hSw); go_simp; (try with_reducible rfl))
                simp only [Act.put, List.setIfInBounds_toArray, List.set_cons_zero, List.set_cons_succ]
                refine tkH (i := 5) (d := some 65) (v := ?_) rfl rfl (by kernel_rfl) (by kernel_rfl) (by kernel_rfl) (fun _ _ _ h => h) (by rfl) ?_ (by with_reducible assumption) ?_
                rotate_left
                · (intro w hSw; (try dsimp only at hSw); go_simp; (try with_reducible rfl))
                simp only [Act.put, List.setIfInBounds_toArray, List.set_cons_zero, List.set_cons_succ]
                refine tkH (i := 6) (d := some 66) (v := ?_) rfl rfl (by kernel_rfl) (by kernel_rfl) (by kernel_rfl) (fun _ _ _ h => h) (by rfl) ?_ (by with_reducible assumption) ?_
                rotate_left
                · (intro w hSw; (try dsimp only at hSw); go_simp; (try with_reducible rfl))
                simp only [Act.put, List.setIfInBounds_toArray, List.set_cons_zero, List.set_cons_succ]
                refine tkH (i := 7) (d := some 67) (v := ?_) rfl rfl (by kernel_rfl) (by kernel_rfl) (by kernel_rfl) (fun _ _ _ h => h) (by rfl) ?_ (by with_reducible assumption) ?_
                rotate_left
                · (intro w hSw; (try dsimp only at hSw); go_simp; (try with_reducible rfl))
                simp only [Act.put, List.setIfInBounds_toArray, List.set_cons_zero, List.set_cons_succ]
                refine tkH (i := 8) (d := some 68) (v := ?_) rfl rfl (by kernel_rfl) (by kernel_rfl) (by kernel_rfl) (fun _ _ _ h => h) (by rfl) ?_ (by with_reducible assumption) ?_
                rotate_left
                · (intro w hSw; (try dsimp only at hSw); go_simp; (try with_reducible rfl))
                simp only [Act.put, List.setIfInBounds_toArray, List.set_cons_zero, List.set_cons_succ]
                refine tkH (i := 9) (d := some 69) (v := ?_) rfl rfl (by kernel_rfl) (by kernel_rfl) (by kernel_rfl) (fun _ _ _ h => h) (by rfl) ?_ (by with_reducible assumption) ?_
                rotate_left
                · (intro w hSw; (try dsimp only at hSw); go_simp; (try with_reducible rfl))
                simp only [Act.put, List.setIfInBounds_toArray, List.set_cons_zero, List.set_cons_succ]
                refine tkH (i := 10) (d := some 70) (v := ?_) rfl rfl (by kernel_rfl) (by kernel_rfl) (by kernel_rfl) (fun _ _ _ h => h) (by rfl) ?_ (by with_reducible assumption) ?_
                rotate_left
                · (intro w hSw; (try dsimp only at hSw); go_simp; (try with_reducible rfl))
                simp only [Act.put, List.setIfInBounds_toArray, List.set_cons_zero, List.set_cons_succ]
                refine tkH (i := 11) (d := some 71) (v := ?_) rfl rfl (by kernel_rfl) (by kernel_rfl) (by kernel_rfl) (fun _ _ _ h => h) (by rfl) ?_ (by with_reducible assumption) ?_
                rotate_left
                · (intro w hSw; (try dsimp only at hSw); go_simp; (try with_reducible rfl))
                simp only [Act.put, List.setIfInBounds_toArray, List.set_cons_zero, List.set_cons_succ]
                refine tkH (i := 12) (d := some 72) (v := ?_) rfl rfl (by kernel_rfl) (by kernel_rfl) (by kernel_rfl) (fun _ _ _ h => h) (by rfl) ?_ (by with_reducible assumption) ?_
                rotate_left
                · (intro w hSw; (try dsimp only at hSw); go_simp; (try with_reducible rfl))
                simp only [Act.put, List.setIfInBounds_toArray, List.set_cons_zero, List.set_cons_succ]
                refine tkH (i := 13) (d := some 73) (v := ?_) rfl rfl (by kernel_rfl) (by kernel_rfl) (by kernel_rfl) (fun _ _ _ h => h) (by rfl) ?_ (by with_reducible assumption) ?_
                rotate_left
                · (intro w hSw; (try dsimp only at hSw); go_simp; (try with_reducible rfl))
                simp only [Act.put, List.setIfInBounds_toArray, List.set_cons_zero, List.set_cons_succ]
                refine tkH (i := 14) (d := some 74) (v := ?_) rfl rfl (by kernel_rfl) (by kernel_rfl) (by kernel_rfl) (fun _ _ _ h => h) (by rfl) ?_ (by with_reducible assumption) ?_
                rotate_left
                · (intro w hSw; (try dsimp only at hSw); go_simp; (try with_reducible rfl))
                simp only [Act.put, List.setIfInBounds_toArray, List.set_cons_zero, List.set_cons_succ]
                refine tkH (i := 15) (d := some 75) (v := ?_) rfl rfl (by kernel_rfl) (by kernel_rfl) (by kernel_rfl) (fun _ _ _ h => h) (by rfl) ?_ (by with_reducible assumption) ?_
                rotate_left
                · (intro w hSw; (try dsimp only at hSw); go_simp; (try with_reducible rfl))
                simp only [Act.put, List.setIfInBounds_toArray, List.set_cons_zero, List.set_cons_succ]
                refine tkH (i := 16) (d := some 76) (v := ?_) rfl rfl (by kernel_rfl) (by kernel_rfl) (by kernel_rfl) (fun _ _ _ h => h) (by rfl) ?_ (by with_reducible assumption) ?_
                rotate_left
                · (intro w hSw; (try dsimp only at hSw); go_simp; (try with_reducible rfl))
                simp only [Act.put, List.setIfInBounds_toArray, List.set_cons_zero, List.set_cons_succ]
                refine tkH (i := 17) (d := some 77) (v := ?_) rfl rfl (by kernel_rfl) (by kernel_rfl) (by kernel_rfl) (fun _ _ _ h => h) (by rfl) ?_ (by with_reducible assumption) ?_
                rotate_left
                · (intro w hSw; (try dsimp only at hSw); go_simp; (try with_reducible rfl))
                simp only [Act.put, List.setIfInBounds_toArray, List.set_cons_zero, List.set_cons_succ]
                refine tkH (i := 18) (d := some 78) (v := ?_) rfl rfl (by kernel_rfl) (by kernel_rfl) (by kernel_rfl) (fun _ _ _ h => h) (by rfl) ?_ (by with_reducible assumption) ?_
                rotate_left
                · (intro w hSw; (try dsimp only at hSw); go_simp; (try with_reducible rfl))
                simp only [Act.put, List.setIfInBounds_toArray, List.set_cons_zero, List.set_cons_succ]
                refine tkH (i := 19) (d := some 79) (v := ?_) rfl rfl (by kernel_rfl) (by kernel_rfl) (by kernel_rfl) (fun _ _ _ h => h) (by rfl) ?_ (by with_reducible assumption) ?_
                rotate_left
                · (intro w hSw; (try dsimp only at hSw); go_simp; (try with_reducible rfl))
                simp only [Act.put, List.setIfInBounds_toArray, List.set_cons_zero, List.set_cons_succ]
                refine tkH (i := 20) (d := some 80) (v := ?_) rfl rfl (by kernel_rfl) (by kernel_rfl) (by kernel_rfl) (fun _ _ _ h => h) (by rfl) ?_ (by with_reducible assumption) ?_
                rotate_left
                · (intro w hSw; (try dsimp only at hSw); go_simp; (try with_reducible rfl))
                simp only [Act.put, List.setIfInBounds_toArray, List.set_cons_zero, List.set_cons_succ]
                refine tkH (i := 21) (d := some 81) (v := ?_) rfl rfl (by kernel_rfl) (by kernel_rfl) (by kernel_rfl) (fun _ _ _ h => h) (by rfl) ?_ (by with_reducible assumption) ?_
                rotate_left
                · (intro w hSw; (try dsimp only at hSw); go_simp; (try with_reducible rfl))
                simp only [Act.put, List.setIfInBounds_toArray, List.set_cons_zero, List.set_cons_succ]
                refine tkH (i := 22) (d := some 82) (v := ?_) rfl rfl (by kernel_rfl) (by kernel_rfl) (by kernel_rfl) (fun _ _ _ h => h) (by rfl) ?_ (by with_reducible assumption) ?_
                rotate_left
                · (intro w hSw; (try dsimp only at hSw); go_simp; (try with_reducible rfl))
                simp only [Act.put, List.setIfInBounds_toArray, List.set_cons_zero, List.set_cons_succ]
                refine tkH (i := 23) (d := some 83) (v := ?_) rfl rfl (by kernel_rfl) (by kernel_rfl) (by kernel_rfl) (fun _ _ _ h => h) (by rfl) ?_ (by with_reducible assumption) ?_
                rotate_left
                · (intro w hSw; (try dsimp only at hSw); go_simp; (try with_reducible rfl))
                simp only [Act.put, List.setIfInBounds_toArray, List.set_cons_zero, List.set_cons_succ]
                refine tkH (i := 24) (d := some 84) (v := ?_) rfl rfl (by kernel_rfl) (by kernel_rfl) (by kernel_rfl) (fun _ _ _ h => h) (by rfl) ?_ (by with_reducible assumption) ?_
                rotate_left
                · (intro w hSw; (try dsimp only at hSw); go_simp; (try with_reducible rfl))
                simp only [Act.put, List.setIfInBounds_toArray, List.set_cons_zero, List.set_cons_succ]
                refine tkH (i := 25) (d := some 85) (v := ?_) rfl rfl (by kernel_rfl) (by kernel_rfl) (by kernel_rfl) (fun _ _ _ h => h) (by rfl) ?_ (by with_reducible assumption) ?_
                rotate_left
                · (intro w hSw; (try dsimp only at hSw); go_simp; (try with_reducible rfl))
                simp only [Act.put, List.setIfInBounds_toArray, List.set_cons_zero, List.set_cons_succ]
                refine tkH (i := 26) (d := some 86) (v := ?_) rfl rfl (by kernel_rfl) (by kernel_rfl) (by kernel_rfl) (fun _ _ _ h => h) (by rfl) ?_ (by with_reducible assumption) ?_
                rotate_left
                · (intro w hSw; (try dsimp only at hSw); go_simp; (try with_reducible rfl))
                simp only [Act.put, List.setIfInBounds_toArray, List.set_cons_zero, List.set_cons_succ]
                refine tkH (i := 27) (d := some 87) (v := ?_) rfl rfl (by kernel_rfl) (by kernel_rfl) (by kernel_rfl) (fun _ _ _ h => h) (by rfl) ?_ (by with_reducible assumption) ?_
                rotate_left
                · (intro w hSw; (try dsimp only at hSw); go_simp; (try with_reducible rfl))
                simp only [Act.put, List.setIfInBounds_toArray, List.set_cons_zero, List.set_cons_succ]
                refine tkH (i := 28) (d := some 88) (v := ?_) rfl rfl (by kernel_rfl) (by kernel_rfl) (by kernel_rfl) (fun _ _ _ h => h) (by rfl) ?_ (by with_reducible assumption) ?_
                rotate_left
                · (intro w hSw; (try dsimp only at hSw); go_simp; (try with_reducible rfl))
                simp only [Act.put, List.setIfInBounds_toArray, List.set_cons_zero, List.set_cons_succ]
                refine tkH (i := 29) (d := some 89) (v := ?_) rfl rfl (by kernel_rfl) (by kernel_rfl) (by kernel_rfl) (fun _ _ _ h => h) (by rfl) ?_ (by with_reducible assumption) ?_
                rotate_left
                · (intro w hSw; (try dsimp only at hSw); go_simp; (try with_reducible rfl))
                simp only [Act.put, List.setIfInBounds_toArray, List.set_cons_zero, List.set_cons_succ]
                refine tkH (i := 30) (d := some 90) (v := ?_) rfl rfl (by kernel_rfl) (by kernel_rfl) (by kernel_rfl) (fun _ _ _ h => h) (by rfl) ?_ (by with_reducible assumption) ?_
                rotate_left
                · (intro w hSw; (try dsimp only at hSw); go_simp; (try with_reducible rfl))
                simp only [Act.put, List.setIfInBounds_toArray, List.set_cons_zero, List.set_cons_succ]
                refine tkH (i := 31) (d := some 91) (v := ?_) rfl rfl (by kernel_rfl) (by kernel_rfl) (by kernel_rfl) (fun _ _ _ h => h) (by rfl) ?_ (by with_reducible assumption) ?_
                rotate_left
                · (intro w hSw; (try dsimp only at hSw); go_simp; (try with_reducible rfl))
                simp only [Act.put, List.setIfInBounds_toArray, List.set_cons_zero, List.set_cons_succ]
                refine tkH (i := 32) (d := some 92) (v := ?_) rfl rfl (by kernel_rfl) (by kernel_rfl) (by kernel_rfl) (fun _ _ _ h => h) (by rfl) ?_ (by with_reducible assumption) ?_
                rotate_left
                · (intro w hSw; (try dsimp only at hSw); go_simp; (try with_reducible rfl))
                simp only [Act.put, List.setIfInBounds_toArray, List.set_cons_zero, List.set_cons_succ]
                refine tkH (i := 33) (d := some 93) (v := ?_) rfl rfl (by kernel_rfl) (by kernel_rfl) (by kernel_rfl) (fun _ _ _ h => h) (by rfl) ?_ (by with_reducible assumption) ?_
                rotate_left
                · (intro w hSw; (try dsimp only at hSw); go_simp; (try with_reducible rfl))
                simp only [Act.put, List.setIfInBounds_toArray, List.set_cons_zero, List.set_cons_succ]
                refine wpAnyH_ready (rs := [34]) (by kernel_rfl) (by simp) ?_
                refine AllReadyH.cons rfl (fun K hK => ?_) AllReadyH.nil
                go_simp
                refine hK.out _ _ hSe (fun _ => ?_)
                clear hK K
                refine wpAnyH_done (by kernel_rfl) ?_ _
                go_wp2_with fail
                go_meet
                exact ⟨hre _, hBe _, hoe _⟩
          case rest =>
            obtain ⟨hrc2, hBc2, hownc2⟩ := hcut
            clear hrc hBc hownc
            have hrc := hrc2
            have hBc := hBc2
            have hownc := hownc2
            clear hrc2 hBc2 hownc2
            obtain ⟨X3, hX3⟩ : ∃ Y, Y = wc := ⟨_, rfl⟩
            subst hX3
            obtain ⟨i1, k1, wx, wy, pAF, pAT⟩ : ∃ (i1 : Nat) (k1 : Nat) (wx wy : Int), Hid (had = false → i1 = i ∧ k1 = 0 ∧ wx = 0 ∧ wy = 0) ∧ Hid (had = true → ∃ h : i < A.length, i1 = i + 1 ∧ (k1 = A[i].1 ∧ wx = A[i].2.1) ∧ wy = A[i].2.2) := by
              cases hh : had with
              | false => exact ⟨i, 0, 0, 0, (fun _ => ⟨rfl, rfl, rfl, rfl⟩), (fun h => by cases h)⟩
              | true =>
                have hi : i < A.length := by
                  rcases hHad.out with ⟨h1, h2⟩ | ⟨h1, h2, h3⟩ | ⟨h1, h2, h3⟩
                  · exact hdn.out.resolve_right h1
                  · rw [hh] at h3; cases h3
                  · exact h1
                exact ⟨i + 1, _, _, _, (fun h => by cases h), fun _ => ⟨hi, rfl, ⟨rfl, rfl⟩, rfl⟩⟩
            obtain ⟨k1', k2, nx, ny, pBF, pBT⟩ : ∃ (k1' : Nat) (k2 : Nat) (nx ny : Int), Hid (has = false → k1' = k ∧ k2 = k1 ∧ nx = 0 ∧ ny = 0) ∧ Hid (has = true → ∃ h : k < B.length, k1' = k + 1 ∧ (k2 = B[k].1 ∧ nx = B[k].2.1) ∧ ny = B[k].2.2) := by
              cases hh : has with
              | false => exact ⟨k, k1, 0, 0, (fun _ => ⟨rfl, rfl, rfl, rfl⟩), (fun h => by cases h)⟩
              | true =>
                have hk : k < B.length := by
                  rcases hHas.out with ⟨h1, h2⟩ | ⟨h1, h2, h3⟩ | ⟨h1, h2, h3⟩
                  · exact hdn.out.resolve_left h1
                  · rw [hh] at h3; cases h3
                  · exact h2
                exact ⟨k + 1, _, _, _, (fun h => by cases h), fun _ => ⟨hk, rfl, ⟨rfl, rfl⟩, rfl⟩⟩
            have pAC := hcH
            have pBC := hdH
            have pAE : Hid (w.cell? ⟨a, 1, none⟩ = some (.slice av A.length cv)) := hcd.out.1
            have pBE : Hid (w.cell? ⟨b, 1, none⟩ = some (.slice bv B.length dv)) := hcd.out.2
            go_upto_region 8 with fail
            have yh : X3.cell? ⟨cb, 1, none⟩ = some (.bool had) := cell_of_row _ _ 1 _ _ _ hrc
            go_upto_if 95 with fail
            go_cut [6] (fun iv wx' => iv = .int .i64 (i1 : Int) ∧ wx'.heap[cb]? = some (.cells #[.int .u32 (k1 : Int), .bool had, .bool has, .int .i64 wx, .int .i64 wy, .int .i64 0, .int .i64 0] 99) ∧ Below w.heap.size w wx' ∧ wx'.ownsRow w.heap.size 99 7 (.slice ea D.length ec) D.length (flat7 D))
            case first =>
              skip
              cases had with
              | false =>
                obtain ⟨z1, z2, z3, z4⟩ := pAF.out rfl
                subst z1 z2 z3 z4
                clear yh
                go_wp2_with fail
                go_meet
                exact ⟨rfl, hrc, hBc, hownc⟩
              | true =>
                obtain ⟨hlt, z1, z2, z3⟩ := pAT.out rfl
                have hlt' : (i : Int) < (A.length : Int) := Int.ofNat_lt.2 hlt
                obtain ⟨gi, gv, gs, h1, h2, h3, hgi, hgv, hgs, hcc, -⟩ := pAC.out (Nat.lt_of_le_of_lt (Nat.zero_le _) hlt)
                subst h1 h2 h3
                obtain ⟨m0, m1, m2⟩ := hcc i hlt
                rw [← z2.1] at m0
                rw [← z2.2] at m1
                rw [← z3] at m2
                subst z1
                have hce := pAE.out
                have kc : ∀ (Y : World) (hY : Below w.heap.size w Y) (g o : Nat), g < w.heap.size → Y.cell? ⟨g, o, none⟩ = w.cell? ⟨g, o, none⟩ := fun Y hY g o hg => hY.cell (p := ⟨g, o, none⟩) hg
                have s0 : X3.cell? ⟨a, 0, none⟩ = _ := (hfa.out _ hBc).1
                have s1 := (kc _ hBc _ i hgi).trans m0
                have s2 : ∀ v, (X3.setCell ⟨cb, 0, none⟩ v).cell? ⟨a, 1, none⟩ = _ := fun v => (kc _ (rf_bset hBc (p := ⟨cb, 0, none⟩) hcb2.out v) _ 1 hal.out).trans hce
                have s3 : ∀ v, (X3.setCell ⟨cb, 0, none⟩ v).cell? ⟨gv, i * 2, none⟩ = _ := fun v => (kc _ (rf_bset hBc (p := ⟨cb, 0, none⟩) hcb2.out v) _ _ hgv).trans m1
                have s4 : ∀ v, (X3.setCell ⟨cb, 0, none⟩ v).cell? ⟨gv, i * 2 + 1, none⟩ = _ := fun v => (kc _ (rf_bset hBc (p := ⟨cb, 0, none⟩) hcb2.out v) _ _ hgv).trans m2
                have y0 : X3.cell? ⟨cb, 0, none⟩ = some (.int .u32 0) := cell_of_row _ _ 0 _ _ _ hrc
                have q0 := frozen_of_row hrc 0
                have y1 : X3.cell? ⟨cb, 1, none⟩ = some (.bool true) := cell_of_row _ _ 1 _ _ _ hrc
                have q1 := frozen_of_row hrc 1
                have y2 : X3.cell? ⟨cb, 2, none⟩ = some (.bool has) := cell_of_row _ _ 2 _ _ _ hrc
                have q2 := frozen_of_row hrc 2
                have y3 : X3.cell? ⟨cb, 3, none⟩ = some (.int .i64 0) := cell_of_row _ _ 3 _ _ _ hrc
                have q3 := frozen_of_row hrc 3
                have y4 : X3.cell? ⟨cb, 4, none⟩ = some (.int .i64 0) := cell_of_row _ _ 4 _ _ _ hrc
                have q4 := frozen_of_row hrc 4
                have y5 : X3.cell? ⟨cb, 5, none⟩ = some (.int .i64 0) := cell_of_row _ _ 5 _ _ _ hrc
                have q5 := frozen_of_row hrc 5
                have y6 : X3.cell? ⟨cb, 6, none⟩ = some (.int .i64 0) := cell_of_row _ _ 6 _ _ _ hrc
                have q6 := frozen_of_row hrc 6
                have t0 := heap_setCell_same X3 cb 0 _ _ (.int .u32 (k1 : Int)) hrc
                have t1 := heap_setCell_same _ cb 3 _ _ (.int .i64 wx) t0
                have t2 := heap_setCell_same _ cb 4 _ _ (.int .i64 wy) t1
                have u2 := rf_bset (rf_bset (rf_bset hBc (p := ⟨cb, 0, none⟩) hcb2.out (.int .u32 (k1 : Int))) (p := ⟨cb, 3, none⟩) hcb2.out (.int .i64 wx)) (p := ⟨cb, 4, none⟩) hcb2.out (.int .i64 wy)
                have v2 := hownc.kept (((grown_set X3 cb 0 (.int .u32 (k1 : Int))).trans (grown_set _ cb 3 (.int .i64 wx))).trans (grown_set _ cb 4 (.int .i64 wy))) hne.out
                clear m0 m1 m2 hcc hce kc z2 z3 yh
                obtain ⟨hnA, hnB⟩ := hlA.out
                go_wp2_with fail
                go_meet
                exact ⟨by go_num, t2, u2, v2⟩
            case rest =>
              obtain ⟨hiv, hrc2, hBc2, hownc2⟩ := hcut
              subst hiv
              clear hrc hBc hownc
              have hrc := hrc2
              have hBc := hBc2
              have hownc := hownc2
              clear hrc2 hBc2 hownc2
              obtain ⟨X4, hX4⟩ : ∃ Y, Y = wc := ⟨_, rfl⟩
              subst hX4
              go_upto_region 12 with fail
              have yh : X4.cell? ⟨cb, 2, none⟩ = some (.bool has) := cell_of_row _ _ 2 _ _ _ hrc
              go_upto_if 115 with fail
              go_cut [7] (fun iv wx' => iv = .int .i64 (k1' : Int) ∧ wx'.heap[cb]? = some (.cells #[.int .u32 (k2 : Int), .bool had, .bool has, .int .i64 wx, .int .i64 wy, .int .i64 nx, .int .i64 ny] 99) ∧ Below w.heap.size w wx' ∧ wx'.ownsRow w.heap.size 99 7 (.slice ea D.length ec) D.length (flat7 D))
              case first =>
                skip
                cases has with
                | false =>
                  obtain ⟨z1, z2, z3, z4⟩ := pBF.out rfl
                  subst z1 z2 z3 z4
                  clear yh
                  go_wp2_with fail
                  go_meet
                  exact ⟨rfl, hrc, hBc, hownc⟩
                | true =>
                  obtain ⟨hlt, z1, z2, z3⟩ := pBT.out rfl
                  have hlt' : (k : Int) < (B.length : Int) := Int.ofNat_lt.2 hlt
                  obtain ⟨gi, gv, gs, h1, h2, h3, hgi, hgv, hgs, hcc, -⟩ := pBC.out (Nat.lt_of_le_of_lt (Nat.zero_le _) hlt)
                  subst h1 h2 h3
                  obtain ⟨m0, m1, m2⟩ := hcc k hlt
                  rw [← z2.1] at m0
                  rw [← z2.2] at m1
                  rw [← z3] at m2
                  subst z1
                  have hce := pBE.out
                  have kc : ∀ (Y : World) (hY : Below w.heap.size w Y) (g o : Nat), g < w.heap.size → Y.cell? ⟨g, o, none⟩ = w.cell? ⟨g, o, none⟩ := fun Y hY g o hg => hY.cell (p := ⟨g, o, none⟩) hg
                  have s0 : X4.cell? ⟨b, 0, none⟩ = _ := (hfa.out _ hBc).2
                  have s1 := (kc _ hBc _ k hgi).trans m0
                  have s2 : ∀ v, (X4.setCell ⟨cb, 0, none⟩ v).cell? ⟨b, 1, none⟩ = _ := fun v => (kc _ (rf_bset hBc (p := ⟨cb, 0, none⟩) hcb2.out v) _ 1 hbl.out).trans hce
                  have s3 : ∀ v, (X4.setCell ⟨cb, 0, none⟩ v).cell? ⟨gv, k * 2, none⟩ = _ := fun v => (kc _ (rf_bset hBc (p := ⟨cb, 0, none⟩) hcb2.out v) _ _ hgv).trans m1
                  have s4 : ∀ v, (X4.setCell ⟨cb, 0, none⟩ v).cell? ⟨gv, k * 2 + 1, none⟩ = _ := fun v => (kc _ (rf_bset hBc (p := ⟨cb, 0, none⟩) hcb2.out v) _ _ hgv).trans m2
                  have y0 : X4.cell? ⟨cb, 0, none⟩ = some (.int .u32 (k1 : Int)) := cell_of_row _ _ 0 _ _ _ hrc
                  have q0 := frozen_of_row hrc 0
                  have y1 : X4.cell? ⟨cb, 1, none⟩ = some (.bool had) := cell_of_row _ _ 1 _ _ _ hrc
                  have q1 := frozen_of_row hrc 1
                  have y2 : X4.cell? ⟨cb, 2, none⟩ = some (.bool true) := cell_of_row _ _ 2 _ _ _ hrc
                  have q2 := frozen_of_row hrc 2
                  have y3 : X4.cell? ⟨cb, 3, none⟩ = some (.int .i64 wx) := cell_of_row _ _ 3 _ _ _ hrc
                  have q3 := frozen_of_row hrc 3
                  have y4 : X4.cell? ⟨cb, 4, none⟩ = some (.int .i64 wy) := cell_of_row _ _ 4 _ _ _ hrc
                  have q4 := frozen_of_row hrc 4
                  have y5 : X4.cell? ⟨cb, 5, none⟩ = some (.int .i64 0) := cell_of_row _ _ 5 _ _ _ hrc
                  have q5 := frozen_of_row hrc 5
                  have y6 : X4.cell? ⟨cb, 6, none⟩ = some (.int .i64 0) := cell_of_row _ _ 6 _ _ _ hrc
                  have q6 := frozen_of_row hrc 6
                  have t0 := heap_setCell_same X4 cb 0 _ _ (.int .u32 (k2 : Int)) hrc
                  have t1 := heap_setCell_same _ cb 5 _ _ (.int .i64 nx) t0
                  have t2 := heap_setCell_same _ cb 6 _ _ (.int .i64 ny) t1
                  have u2 := rf_bset (rf_bset (rf_bset hBc (p := ⟨cb, 0, none⟩) hcb2.out (.int .u32 (k2 : Int))) (p := ⟨cb, 5, none⟩) hcb2.out (.int .i64 nx)) (p := ⟨cb, 6, none⟩) hcb2.out (.int .i64 ny)
                  have v2 := hownc.kept (((grown_set X4 cb 0 (.int .u32 (k2 : Int))).trans (grown_set _ cb 5 (.int .i64 nx))).trans (grown_set _ cb 6 (.int .i64 ny))) hne.out
                  clear m0 m1 m2 hcc hce kc z2 z3 yh
                  obtain ⟨hnA, hnB⟩ := hlA.out
                  go_wp2_with fail
                  go_meet
                  exact ⟨by go_num, t2, u2, v2⟩
              case rest =>
                obtain ⟨hiv, hrc2, hBc2, hownc2⟩ := hcut
                subst hiv
                clear hrc hBc hownc
                have hrc := hrc2
                have hBc := hBc2
                have hownc := hownc2
                clear hrc2 hBc2 hownc2
                obtain ⟨X5, hX5⟩ : ∃ Y, Y = wc := ⟨_, rfl⟩
                subst hX5
                obtain ⟨ikc, hikc, hzc0, hzc1, hzc2⟩ := info_parts infoC
                obtain ⟨d, hdv', hpr', c, hch', hik', hR'⟩ := rd_round hHad.out hHas.out hdn.out hRn.out pAF.out pAT.out pBF.out pBT.out hik.out
                have hdv : Hid (_) := hdv'
                have hpr : Hid (_) := hpr'
                have hch : Hid (_) := hch'
                have hik2 : Hid (_) := hik'
                have hR2 : Hid (_) := hR'
                clear hdv' hpr' hch' hik' hR' hHad hHas hRn hca hcb hcH hdH hcd pAC pBC pAE pBE hne pAF pAT pBF pBT hik hal hbl hfa hdn hcb2 hi0 hk0
                have hi0 : (0 : Int) ≤ (i1 : Int) := Int.natCast_nonneg _
                have y0 : X5.cell? ⟨cb, 0, none⟩ = some (.int .u32 (k2 : Int)) := cell_of_row _ _ 0 _ _ _ hrc
                have y1 : X5.cell? ⟨cb, 1, none⟩ = some (.bool had) := cell_of_row _ _ 1 _ _ _ hrc
                have y2 : X5.cell? ⟨cb, 2, none⟩ = some (.bool has) := cell_of_row _ _ 2 _ _ _ hrc
                have y3 : X5.cell? ⟨cb, 3, none⟩ = some (.int .i64 wx) := cell_of_row _ _ 3 _ _ _ hrc
                have y4 : X5.cell? ⟨cb, 4, none⟩ = some (.int .i64 wy) := cell_of_row _ _ 4 _ _ _ hrc
                have y5 : X5.cell? ⟨cb, 5, none⟩ = some (.int .i64 nx) := cell_of_row _ _ 5 _ _ _ hrc
                have y6 : X5.cell? ⟨cb, 6, none⟩ = some (.int .i64 ny) := cell_of_row _ _ 6 _ _ _ hrc
                go_upto_region 16 with fail
                go_cut [159] (fun cv wx' => cv = .bool d ∧ wx' = X5)
                case first =>
                  clear hR2 hik2 hch hpr hownc hBc hA hB hlA
                  cases had with
                  | false =>
                    obtain rfl : d = true := hdv.out.2 (.inl rfl)
                    go_wp2_with fail
                    go_meet
                    exact ⟨rfl, rfl⟩
                  | true =>
                    cases has with
                    | false =>
                      obtain rfl : d = true := hdv.out.2 (.inr (.inl rfl))
                      go_wp2_with fail
                      go_meet
                      exact ⟨rfl, rfl⟩
                    | true =>
                      by_cases h1 : wx = nx
                      · subst h1
                        by_cases h2 : wy = ny
                        · subst h2
                          obtain rfl : d = false := by
                            cases d with
                            | false => rfl
                            | true => exact absurd (hdv.out.1 rfl) (by simp)
                          go_wp2_with fail
                          go_meet
                          exact ⟨rfl, rfl⟩
                        · obtain rfl : d = true := hdv.out.2 (.inr (.inr (.inr h2)))
                          go_wp2_with fail
                          go_meet
                          exact ⟨by first | rfl | simp [h2], rfl⟩
                      · obtain rfl : d = true := hdv.out.2 (.inr (.inr (.inl h1)))
                        go_wp2_with fail
                        go_meet
                        exact ⟨rfl, rfl⟩
                case rest =>
                  obtain ⟨hcv, hwc⟩ := hcut
                  have hwd := hwc.symm
                  clear hwc
                  subst hwd hcv
                  cases d with
                  | false =>
                    obtain ⟨q1, q2, q3⟩ := hik2.out
                    have q4 := hpr.out
                    have q5 := hR2.out
                    simp only [rdc_f, List.append_nil] at q3 q5
                    have hR3 : Hid (_) := q5
                    have hm : Hid (i1 ≤ A.length ∧ k1' ≤ B.length ∧ D.length ≤ i1 + k1') := ⟨q1, q2, q3⟩
                    clear hR2 hik2 hch hdv q5 y0 y1 y2 y3 y4 y5 y6
                    go_wp2
                    exact ⟨⟨i1, k1', D, hm, rfl, rfl, hR3, hownc, hBc⟩, by simp [intOf]; exact rf_ms ⟨q1, q2, q4⟩⟩
                  | true =>
                    obtain ⟨q1, q2, q3⟩ := hik2.out
                    have q4 := hpr.out
                    have q5 := hR2.out
                    simp only [rdc_t] at q3 q5
                    have hR3 : Hid (_) := q5
                    have hm : Hid (i1 ≤ A.length ∧ k1' ≤ B.length ∧ (D ++ [c]).length ≤ i1 + k1') := ⟨q1, q2, q3⟩
                    have hq4 : Hid (i1 ≤ A.length ∧ k1' ≤ B.length ∧ i + k < i1 + k1') := ⟨q1, q2, q4⟩
                    have hbA : Below X5.heap.size X5 (X5.alloc (.cells #[.int .u32 (k2 : Int), .bool had, .bool has, .int .i64 wx, .int .i64 wy, .int .i64 nx, .int .i64 ny] 99)) := (Below.refl X5.heap.size X5).alloc (Nat.le_refl _) _
                    have hAo := own_laterB hownc hbA
                    have hBA := below_step hBc hbA
                    have hlo : Hid (∀ j, (Value.slice ea D.length ec).ownBlock = some j → w.heap.size ≤ j) := fun j e => (hownc.lt j e).1
                    have hnl : Hid (D.length + 1 ≤ maxLen ∧ (D.length + 1) * 40 ≤ 140737488355328) := rf_nl (by rw [List.length_append, List.length_singleton] at q3; exact q3) q1 q2 hlA.out.1 hlA.out.2
                    have hfl : Hid (flat7 (D ++ [c]) = flat7 D ++ ([.int .u32 (k2 : Int), .bool had, .bool has, .int .i64 wx, .int .i64 wy, .int .i64 nx, .int .i64 ny] : List Value)) := by show _ = _; rw [flat7_snoc, hch.out]
                    have hcs : Hid (∀ j u, ([.int .u32 (k2 : Int), .bool had, .bool has, .int .i64 wx, .int .i64 wy, .int .i64 nx, .int .i64 ny] : List Value)[j]? = some u → (X5.alloc (.cells #[.int .u32 (k2 : Int), .bool had, .bool has, .int .i64 wx, .int .i64 wy, .int .i64 nx, .int .i64 ny] 99)).cell? ((⟨X5.heap.size, 0, none⟩ : Addr).add j) = some u) := rf_allocD X5 [.int .u32 (k2 : Int), .bool had, .bool has, .int .i64 wx, .int .i64 wy, .int .i64 nx, .int .i64 ny] 99 _ rfl
                    have hnw : Hid (∀ u ∈ ([.int .u32 (k2 : Int), .bool had, .bool has, .int .i64 wx, .int .i64 wy, .int .i64 nx, .int .i64 ny] : List Value), u.oneCell' = true) := by show ∀ u ∈ ([.int .u32 (k2 : Int), .bool had, .bool has, .int .i64 wx, .int .i64 wy, .int .i64 nx, .int .i64 ny] : List Value), u.oneCell' = true; intro u hu; simp only [List.mem_cons, List.not_mem_nil, or_false] at hu; rcases hu with rfl | rfl | rfl | rfl | rfl | rfl | rfl <;> rfl
                    clear hR2 hik2 hch hdv q1 q2 q3 q4 q5 hownc hbA hA hB hlA hBc hpr
                    go_wp2_with (at_builtin; refine wpList_append_own_at (P := Tryd.prog) _ rfl _ _ 63 rfl w.heap.size 99 ikc _ 7 40 Tryd.underlying63 hikc hzc0 hzc1 hzc2 rfl (by decide) _ D.length (flat7 D) rfl hAo ⟨X5.heap.size, 0, none⟩ 1 1 [.int .u32 (k2 : Int), .bool had, .bool has, .int .i64 wx, .int .i64 wy, .int .i64 nx, .int .i64 ny] rfl rfl hcs.out hnw.out hnl.out.1 hnl.out.2 hBA.size ?_; clear hcs hnw hnl hi0 y0 y1 y2 y3 y4 y5 y6; intro v2 w2 hown2 hgrow2 hx1 hx2; clear hx1 hx2; have hB2 := hBA.grown hgrow2 hBA.size hlo.out; rw [← hfl.out] at hown2; clear hAo hBA hgrow2 hlo hfl; skip)
                    exact ⟨⟨i1, k1', D ++ [c], hm, rfl, rfl, hR3, by rw [List.length_append]; exact hown2, hB2⟩, by simp [intOf]; exact rf_ms hq4.out⟩
    · have hi : ¬ i < A.length := fun h => hdone (.inl h)
      have hk : ¬ k < B.length := fun h => hdone (.inr h)
      have hi' : ¬ (i : Int) < (A.length : Int) := fun h => hi (Int.ofNat_lt.1 h)
      have hk' : ¬ (k : Int) < (B.length : Int) := fun h => hk (Int.ofNat_lt.1 h)
      have hRe := rd_end hi hk hRn.out
      subst hRe
      clear hRn hc hd
      go_wp2
      go_ret
      exact ⟨_, _, rfl, hown, hBw⟩

end Go.Proofs.YtmppgcijbeipfaaDoor

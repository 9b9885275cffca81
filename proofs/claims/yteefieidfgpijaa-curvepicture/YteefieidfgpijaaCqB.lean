import Derived.Test.YteefieidfgpijaaCqA
import Derived.Test.YteefieidfgpijaaCwA
import Derived.Laws.IdiomStrings
namespace Go.Proofs.Yteefieidfgpijaa.CF
open Go.RowKit
attribute [local go_sem] run_store_float

/-- The line of a row. -/
def lineL (D : Dots) (n wide r : Nat) : List UInt8 := (List.range wide).map fun c => UInt8.ofNat (markN D n wide r c)
def lineB (D : Dots) (n wide r : Nat) : ByteArray := ⟨(lineL D n wide r).toArray⟩
theorem markN_lt (D : Dots) (n wide r c : Nat) : markN D n wide r c < 256 := by
  unfold markN
  split
  · decide
  · split <;> decide
theorem lineL_len (D : Dots) (n wide r : Nat) : (lineL D n wide r).length = wide := by unfold lineL; simp
theorem lineL_get (D : Dots) (n wide r : Nat) {c : Nat} (hc : c < wide) : (lineL D n wide r)[c]? = some (UInt8.ofNat (markN D n wide r c)) := by
  unfold lineL
  rw [List.getElem?_map, List.getElem?_range hc]
  rfl
/-- The lines, the uppermost first. -/
def textsL (D : Dots) (n wide k : Nat) : List Value := (List.range k).map fun i => .string (lineB D n wide (n - i))
theorem textsL_succ (D : Dots) (n wide k : Nat) : textsL D n wide (k + 1) = textsL D n wide k ++ [.string (lineB D n wide (n - k))] := by
  unfold textsL
  rw [List.range_succ, List.map_append]
  rfl
theorem infoS : (Try.prog.info? 9).map (fun i => (i.zero, i.size, i.bytes)) = some (some (.string ⟨#[]⟩), 1, 16) := by kernel_rfl
theorem own_base {w : World} {base base' n size : Nat} {e : TypeId} {v : Value} {xs : List Value} (h : w.ownsRow base e size v n xs) (hb : base' ≤ base) : w.ownsRow base' e size v n xs := by
  obtain ⟨h1, h2 | ⟨g, cap, cur, e1, h3, h4⟩⟩ := h
  · exact ⟨h1, .inl h2⟩
  · exact ⟨h1, .inr ⟨g, cap, cur, e1, Nat.le_trans hb h3, h4⟩⟩
theorem conv_line {D : Dots} {n wide r b cap : Nat} (hw : wide ≤ 72) (hr : r < n + 1) (hn : n < 40) {X : World} (hP : Pic X b (starR D n wide D.length)) : (convert 80 9 (.slice (some ⟨b, r * 72, none⟩) wide cap)).run Try.prog X = .ok (.string (lineB D n wide r)) X := by
  have := run_convert_bytes_back (P := Try.prog) X 80 9 5 ⟨b, r * 72, none⟩ cap (lineL D n wide r) Try.underlying80 Try.underlying5 Try.underlying9 (fun j hj => by
    rw [lineL_len] at hj
    rw [Go.WideShapes.add_plain, hP.cell (j := r * 72 + j) (by omega), starR_mark D n wide hw hr hj]
    have e := lineL_get D n wide r hj
    rw [List.getElem?_eq_getElem (by rw [lineL_len]; exact hj)] at e
    rw [Option.some.inj e, UInt8.toNat_ofNat', Nat.mod_eq_of_lt (markN_lt D n wide r j)])
  rw [lineL_len] at this
  exact this
/-- What lines and Draw answer: a row of texts. -/
def TxtP (D : Dots) (n wide : Nat) (w : World) (e : Ending) (w' : World) : Prop := ∃ v, e = .returned v ∧ w'.ownsRow w.heap.size 9 1 v (n + 1) (textsL D n wide (n + 1)) ∧ Below w.heap.size w w'
set_option maxRecDepth 8000 in
set_option maxHeartbeats 2000000 in
theorem lines_any (D : Dots) (wide n : Nat) (hw : 2 ≤ wide ∧ wide ≤ 72) (hn : n < 40) (x0 x1 : Int) (l g : Nat) (A : Array Value) (hA : A.size = 2880) (hA2 : ∀ j, j < 2880 → A[j]? = some (.int .u8 (starR D n wide D.length j : Int))) (w : World) : Calls Try.prog 32 #[frV (wide : Int) ((n : Int) + 1) x0 x1 l g, .agg A] w (TxtP D n wide w) := by
  obtain ⟨i0, hi, hz0, hz1, hz2⟩ := info_parts infoS
  obtain ⟨V, hV⟩ : ∃ V, (w.alloc (.cells #[.int .i64 (wide : Int), .int .i64 ((n : Int) + 1), .int .i64 x0, .int .i64 x1, .float .f32 l, .float .f32 g] 65)).alloc (.cells A 70) = V := ⟨_, rfl⟩
  have hVs : V.heap.size = w.heap.size + 2 := by rw [← hV]; simp
  have hBV : Below w.heap.size w V := by rw [← hV]; exact ((Below.refl _ _).alloc (Nat.le_refl _) _).alloc (by simp) _
  have hFV : FrR V w.heap.size (wide : Int) ((n : Int) + 1) x0 x1 l g := by rw [← hV]; exact heap_alloc2_old _ _ _
  have hPV : Pic V (w.heap.size + 1) (starR D n wide D.length) := ⟨A, by rw [← hV]; exact heap_alloc2_new _ _ _, hA, hA2⟩
  obtain ⟨V1, hmk, ho0, hg0⟩ := run_make_own (P := Try.prog) V V.heap.size 45 9 i0 _ 1 Try.underlying45 hi hz0 hz1 .i64 .i64 (n + 1) (by rw [hz2]; omega) (by unfold maxLen; omega) (Nat.le_refl _)
  have hB1 : Below V.heap.size V V1 := (Below.refl _ _).grown hg0 (Nat.le_refl _) (fun j hj => by cases hj)
  have hmk2 : (Instr.makeSlice 45 (.int .i64 0) (.int .i64 ((n : Int) + 1))).run Try.prog V = .ok (.slice (some ⟨V.heap.size, 0, none⟩) 0 (n + 1)) V1 := by
    rw [← hmk, Int.natCast_add]
    rfl
  have c1 : V1.cell? ⟨w.heap.size, 1, none⟩ = some (.int .i64 ((n : Int) + 1)) := (hB1.cell (p := ⟨w.heap.size, 1, none⟩) (by show w.heap.size < _; omega)).trans hFV.cells.2.1
  have hVH := Hid.mk hVs
  clear hmk hg0 hVs hA hA2
  go_enter Try.func32, Try.ntmps32
  go_upto_region 1 with fail
  have c1v := hFV.cells.2.1
  clear hV
  go_wp2_with fail
  go_loopw [5, 6] (fun v x wr => ∃ (k : Nat) (z : Int), k ≤ n + 1 ∧ Hid (z = (n : Int) - (k : Int)) ∧ x = .int .i64 z ∧ wr.ownsRow V.heap.size 9 1 v k (textsL D n wide k) ∧ Below V.heap.size V wr) (fun _ x _ => (intOf x + 1).toNat)
  case atStart => exact ⟨0, (n : Int), by omega, ⟨by omega⟩, by simp, ho0, hB1⟩
  case round =>
    clear hmk2 ho0 hB1 c1
    obtain ⟨k, z, hk, hz, rfl, ho, hB⟩ := hrel
    have hz' := hz.out
    by_cases hlt : k < n + 1
    · obtain ⟨r, hr⟩ : ∃ r : Nat, z = (r : Int) := ⟨n - k, by omega⟩
      have hrk : n - k = r := by omega
      have hts := Hid.mk (textsL_succ D n wide k)
      rw [hrk] at hts
      subst hr
      have hr0 : (0 : Int) ≤ (r : Int) := by omega
      have hr40 : (r : Int) < 40 := by omega
      have hrn : r < n + 1 := by omega
      have hrn2 : r < 40 := by omega
      have hw72 : (wide : Int) ≤ 72 := by omega
      have hw0 : (0 : Int) ≤ (wide : Int) := by omega
      have hVs := hVH.out
      have hBd : Below V.heap.size V wr.drew := hB.drew
      have hcv := conv_line (cap := 72) hw.2 hrn hn (hPV.later hBd)
      generalize lineB D n wide r = s at *
      have hS0 : ∀ X, Below V.heap.size V X → X.cell? ⟨w.heap.size, 0, none⟩ = some (.int .i64 (wide : Int)) := fun X hX => (hX.cell (p := ⟨w.heap.size, 0, none⟩) (by show w.heap.size < _; omega)).trans hFV.cells.1
      have hS1 := hS0 _ hBd
      have hBA : Below V.heap.size V (wr.drew.alloc (.cells #[.string s] 9)) := hBd.alloc hBd.size _
      have hoA := ho.drew.alloc (.cells #[.string s] 9)
      have hlv := Hid.mk (fun (j : Nat) hj => (ho.lt j hj).1)
      have hk2 : k ≤ 100 := by omega
      replace hz := Hid.mk (And.intro hlt hz')
      clear hlt hrk hk hz' hVs
      go_wp2_with fail
      go_region_held_law (fun X => X.cell? ⟨w.heap.size, 0, none⟩ = some (.int .i64 (wide : Int))) (first | (with_reducible assumption) | (exact hS0 _ hBA))
        ((refine step_append_own (P := Try.prog) _ rfl _ _ 45 rfl V.heap.size 9 i0 _ 1 16 Try.underlying45 hi hz0 hz1 hz2 rfl (by decide) _ k (textsL D n wide k) rfl hoA ⟨wr.heap.size, 0, none⟩ 1 1 [.string s] rfl rfl (lit_at wr.drew _ _) (by simp [Value.oneCell']) (by unfold maxLen; omega) (by omega) hBA.size ?_; intro v' w4 hown' hgrow; have hB4 := hBA.grown hgrow hBA.size hlv.out; have hS4 := hS0 _ hB4))
      go_wp2
      go_roundw
      case rel => exact ⟨k + 1, (r : Int) - 1, by have := hz.out; omega, ⟨by have := hz.out; omega⟩, by go_num, by rw [hts.out]; exact hown', hB4⟩
      case measure => simp [intOf]
    · obtain rfl : k = n + 1 := by omega
      have hlt' : ¬ (0 : Int) ≤ z := by omega
      have hVs := hVH.out
      have hBe : Below w.heap.size w wr := hBV.trans (hB.mono (by omega))
      have hoe := own_base (base' := w.heap.size) ho (by omega)
      clear hz hz' hVs
      go_wp2
      go_ret
      exact ⟨_, rfl, hoe, hBe⟩
end Go.Proofs.Yteefieidfgpijaa.CF

import Derived.Test.YthmjkmdbggfiiaaGreatDoorTurnCqA
import Derived.Test.YthmjkmdbggfiiaaGreatDoorJoin24
import Derived.Laws.IdiomStrings
namespace Go.Proofs.YthmjkmdbggfiiaaGreatDoor.CF
open Go.RowKit
attribute [local go_sem] run_store_float

/-- The line of a row. -/
def lineL (D : Dots) (n wide r : Nat) : List UInt8 := (List.range wide).map fun c => UInt8.ofNat (markN D n wide r c)
def lineB (D : Dots) (n wide r : Nat) : ByteArray := ⟨(lineL D n wide r).toArray⟩
theorem markN_lt (D : Dots) (n wide r c : Nat) : markN D n wide r c < 256 := by
  unfold markN
  split
  · decide
  · split <;> decide
theorem lineL_len (D : Dots) (n wide r : Nat) : (lineL D n wide r).length = wide := by unfold lineL; simp
theorem lineL_get (D : Dots) (n wide r : Nat) {c : Nat} (hc : c < wide) : (lineL D n wide r)[c]? = some (UInt8.ofNat (markN D n wide r c)) := by
  unfold lineL
  rw [List.getElem?_map, List.getElem?_range hc]
  rfl
/-- The lines, the uppermost first. -/
def textsL (D : Dots) (n wide k : Nat) : List Value := (List.range k).map fun i => .string (lineB D n wide (n - i))
theorem textsL_succ (D : Dots) (n wide k : Nat) : textsL D n wide (k + 1) = textsL D n wide k ++ [.string (lineB D n wide (n - k))] := by
  unfold textsL
  rw [List.range_succ, List.map_append]
  rfl
theorem infoS : (Tryz.prog.info? 9).map (fun i => (i.zero, i.size, i.bytes)) = some (some (.string ⟨#[]⟩), 1, 16) := by kernel_rfl
theorem own_base {w : World} {base base' n size : Nat} {e : TypeId} {v : Value} {xs : List Value} (h : w.ownsRow base e size v n xs) (hb : base' ≤ base) : w.ownsRow base' e size v n xs := by
  obtain ⟨h1, h2 | ⟨g, cap, cur, e1, h3, h4⟩⟩ := h
  · exact ⟨h1, .inl h2⟩
  · exact ⟨h1, .inr ⟨g, cap, cur, e1, Nat.le_trans hb h3, h4⟩⟩
theorem conv_line {D : Dots} {n wide r b cap : Nat} (hw : wide ≤ 72) (hr : r < n + 1) (hn : n < 40) {X : World} (hP : Pic X b (starR D n wide D.length)) : (convert 104 9 (.slice (some ⟨b, r * 72, none⟩) wide cap)).run Tryz.prog X = .ok (.string (lineB D n wide r)) X := by
  have := run_convert_bytes_back (P := Tryz.prog) X 104 9 5 ⟨b, r * 72, none⟩ cap (lineL D n wide r) Tryz.underlying104 Tryz.underlying5 Tryz.underlying9 (fun j hj => by
    rw [lineL_len] at hj
    rw [Go.WideShapes.add_plain, hP.cell (j := r * 72 + j) (by omega), starR_mark D n wide hw hr hj]
    have e := lineL_get D n wide r hj
    rw [List.getElem?_eq_getElem (by rw [lineL_len]; exact hj)] at e
    rw [Option.some.inj e, UInt8.toNat_ofNat', Nat.mod_eq_of_lt (markN_lt D n wide r j)])
  rw [lineL_len] at this
  exact this
/-- What lines and Draw answer: a row of texts. -/
def TxtP (D : Dots) (n wide : Nat) (w : World) (e : Ending) (w' : World) : Prop := ∃ v, e = .returned v ∧ w'.ownsRow w.heap.size 9 1 v (n + 1) (textsL D n wide (n + 1)) ∧ Below w.heap.size w w'
set_option maxRecDepth 8000 in
set_option maxHeartbeats 2000000 in
theorem lines_any (D : Dots) (wide n : Nat) (hw : 2 ≤ wide ∧ wide ≤ 72) (hn : n < 40) (x0 x1 : Int) (l g : Nat) (A : Array Value) (hA : A.size = 2880) (hA2 : ∀ j, j < 2880 → A[j]? = some (.int .u8 (starR D n wide D.length j : Int))) (w : World) : Calls Tryz.prog 54 #[frV (wide : Int) ((n : Int) + 1) x0 x1 l g, .agg A] w (TxtP D n wide w) := by
  obtain ⟨i0, hi, hz0, hz1, hz2⟩ := info_parts infoS
  obtain ⟨V, hV⟩ : ∃ V, (w.alloc (.cells #[.int .i64 (wide : Int), .int .i64 ((n : Int) + 1), .int .i64 x0, .int .i64 x1, .float .f32 l, .float .f32 g] 92)).alloc (.cells A 98) = V := ⟨_, rfl⟩
  have hVs : V.heap.size = w.heap.size + 2 := by rw [← hV]; simp
  have hBV : Below w.heap.size w V := by rw [← hV]; exact ((Below.refl _ _).alloc (Nat.le_refl _) _).alloc (by simp) _
  have hFV : FrR V w.heap.size (wide : Int) ((n : Int) + 1) x0 x1 l g := by rw [← hV]; exact heap_alloc2_old _ _ _
  have hPV : Pic V (w.heap.size + 1) (starR D n wide D.length) := ⟨A, by rw [← hV]; exact heap_alloc2_new _ _ _, hA, hA2⟩
  obtain ⟨V1, hmk, ho0, hg0⟩ := run_make_own (P := Tryz.prog) V V.heap.size 55 9 i0 _ 1 Tryz.underlying55 hi hz0 hz1 .i64 .i64 (n + 1) (by rw [hz2]; omega) (by unfold maxLen; omega) (Nat.le_refl _)
  have hB1 : Below V.heap.size V V1 := (Below.refl _ _).grown hg0 (Nat.le_refl _) (fun j hj => by cases hj)
  have hmk2 : (Instr.makeSlice 55 (.int .i64 0) (.int .i64 ((n : Int) + 1))).run Tryz.prog V = .ok (.slice (some ⟨V.heap.size, 0, none⟩) 0 (n + 1)) V1 := by
    rw [← hmk, Int.natCast_add]
    rfl
  have c1 : V1.cell? ⟨w.heap.size, 1, none⟩ = some (.int .i64 ((n : Int) + 1)) := (hB1.cell (p := ⟨w.heap.size, 1, none⟩) (by show w.heap.size < _; omega)).trans hFV.cells.2.1
  have hVH := Hid.mk hVs
  clear hmk hg0 hVs hA hA2
  go_enter Tryz.func54, Tryz.ntmps54
  go_upto_region 1 with fail
  have c1v := hFV.cells.2.1
  clear hV
  go_wp2_with fail
  go_loopw [5, 6] (fun v x wr => ∃ (k : Nat) (z : Int), k ≤ n + 1 ∧ Hid (z = (n : Int) - (k : Int)) ∧ x = .int .i64 z ∧ wr.ownsRow V.heap.size 9 1 v k (textsL D n wide k) ∧ Below V.heap.size V wr) (fun _ x _ => (intOf x + 1).toNat)
  case atStart => exact ⟨0, (n : Int), by omega, ⟨by omega⟩, by simp, ho0, hB1⟩
  case round =>
    clear hmk2 ho0 hB1 c1
    obtain ⟨k, z, hk, hz, rfl, ho, hB⟩ := hrel
    have hz' := hz.out
    by_cases hlt : k < n + 1
    · obtain ⟨r, hr⟩ : ∃ r : Nat, z = (r : Int) := ⟨n - k, by omega⟩
      have hrk : n - k = r := by omega
      have hts := Hid.mk (textsL_succ D n wide k)
      rw [hrk] at hts
      subst hr
      have hr0 : (0 : Int) ≤ (r : Int) := by omega
      have hr40 : (r : Int) < 40 := by omega
      have hrn : r < n + 1 := by omega
      have hrn2 : r < 40 := by omega
      have hw72 : (wide : Int) ≤ 72 := by omega
      have hw0 : (0 : Int) ≤ (wide : Int) := by omega
      have hVs := hVH.out
      have hBd : Below V.heap.size V wr.drew := hB.drew
      have hcv := conv_line (cap := 72) hw.2 hrn hn (hPV.later hBd)
      generalize lineB D n wide r = s at *
      have hS0 : ∀ X, Below V.heap.size V X → X.cell? ⟨w.heap.size, 0, none⟩ = some (.int .i64 (wide : Int)) := fun X hX => (hX.cell (p := ⟨w.heap.size, 0, none⟩) (by show w.heap.size < _; omega)).trans hFV.cells.1
      have hS1 := hS0 _ hBd
      have hBA : Below V.heap.size V (wr.drew.alloc (.cells #[.string s] 9)) := hBd.alloc hBd.size _
      have hoA := ho.drew.alloc (.cells #[.string s] 9)
      have hlv := Hid.mk (fun (j : Nat) hj => (ho.lt j hj).1)
      have hk2 : k ≤ 100 := by omega
      replace hz := Hid.mk (And.intro hlt hz')
      clear hlt hrk hk hz' hVs
      go_wp2_with fail
      go_region_held_law (fun X => X.cell? ⟨w.heap.size, 0, none⟩ = some (.int .i64 (wide : Int))) (first | (with_reducible assumption) | (exact hS0 _ hBA))
        ((refine step_append_own (P := Tryz.prog) _ rfl _ _ 55 rfl V.heap.size 9 i0 _ 1 16 Tryz.underlying55 hi hz0 hz1 hz2 rfl (by decide) _ k (textsL D n wide k) rfl hoA ⟨wr.heap.size, 0, none⟩ 1 1 [.string s] rfl rfl (lit_at wr.drew _ _) (by simp [Value.oneCell']) (by unfold maxLen; omega) (by omega) hBA.size ?_; intro v' w4 hown' hgrow; have hB4 := hBA.grown hgrow hBA.size hlv.out; have hS4 := hS0 _ hB4))
      go_wp2
      go_roundw
      case rel => exact ⟨k + 1, (r : Int) - 1, by have := hz.out; omega, ⟨by have := hz.out; omega⟩, by go_num, by rw [hts.out]; exact hown', hB4⟩
      case measure => simp [intOf]
    · obtain rfl : k = n + 1 := by omega
      have hlt' : ¬ (0 : Int) ≤ z := by omega
      have hVs := hVH.out
      have hBe : Below w.heap.size w wr := hBV.trans (hB.mono (by omega))
      have hoe := own_base (base' := w.heap.size) ho (by omega)
      clear hz hz' hVs
      go_wp2
      go_ret
      exact ⟨_, rfl, hoe, hBe⟩
end Go.Proofs.YthmjkmdbggfiiaaGreatDoor.CF


namespace Go.Proofs.YthmjkmdbggfiiaaGreatDoor.CF
open Go.RowKit
attribute [local go_sem] run_store_float

/-- What Draw answers. -/
def DrR (D : Dots) (wide high en : Int) (T : List Value) : Prop :=
  (¬ ((2 ≤ wide ∧ wide ≤ 72) ∧ 2 ≤ high ∧ high ≤ 40) ∧ en = 174 ∧ T = []) ∨
  (((2 ≤ wide ∧ wide ≤ 72) ∧ 2 ≤ high ∧ high ≤ 40) ∧ inO D = false ∧ en = 172 ∧ T = []) ∨
  (((2 ≤ wide ∧ wide ≤ 72) ∧ 2 ≤ high ∧ high ≤ 40) ∧ inO D = true ∧ bf (subN (hiP D D.length) (loP D D.length)) = false ∧ en = 175 ∧ T = []) ∨
  (∃ w0 n : Nat, (wide = (w0 : Int) ∧ high = (n : Int) + 1 ∧ (2 ≤ w0 ∧ w0 ≤ 72) ∧ 1 ≤ n ∧ n < 40) ∧ inO D = true ∧ bf (subN (hiP D D.length) (loP D D.length)) = true ∧ en = 0 ∧ T = textsL D n w0 (n + 1))
theorem drR_some (D : Dots) (wide high : Int) : ∃ en T, DrR D wide high en T := by
  by_cases h1 : (2 ≤ wide ∧ wide ≤ 72) ∧ 2 ≤ high ∧ high ≤ 40
  · cases h2 : inO D with
    | false => exact ⟨172, [], .inr (.inl ⟨h1, h2, rfl, rfl⟩)⟩
    | true =>
      cases h3 : bf (subN (hiP D D.length) (loP D D.length)) with
      | false => exact ⟨175, [], .inr (.inr (.inl ⟨h1, h2, h3, rfl, rfl⟩))⟩
      | true => exact ⟨0, _, .inr (.inr (.inr ⟨wide.toNat, (high - 1).toNat, ⟨by omega, by omega, by omega, by omega, by omega⟩, h2, h3, rfl, rfl⟩))⟩
  · exact ⟨174, [], .inl ⟨h1, rfl, rfl⟩⟩
def DrO (w : World) (en : Int) (T : List Value) (e : Ending) (w' : World) : Prop := ∃ v, e = .returned (.tuple #[v, .int .i64 en]) ∧ w'.ownsRow w.heap.size 9 1 v T.length T ∧ Below w.heap.size w w'
theorem lo_fin0 {D : Dots} (hD : Ok D) (hio : inO D = true) : (loP D D.length < 4294967296 ∧ loP D D.length % 2147483648 < 2139095040) ∧ (hiP D D.length < 4294967296 ∧ hiP D D.length % 2147483648 < 2139095040) := by
  by_cases h0 : 0 < D.length
  · exact lo_fin hD hio h0 (Nat.le_refl _)
  · obtain rfl : D = [] := List.eq_nil_of_length_eq_zero (by omega)
    exact ⟨⟨by decide, by decide⟩, by decide, by decide⟩
theorem textsL_len (D : Dots) (n wide k : Nat) : (textsL D n wide k).length = k := by unfold textsL; simp
set_option maxRecDepth 8000 in
set_option maxHeartbeats 2000000 in
theorem draw_any (D : Dots) (hD : Ok D) (hl : D.length ≤ 9223372036854775806) (wide high en : Int) (T : List Value) (hR : DrR D wide high en T) (a : Option Addr) (c : Nat) (w : World) (hp : PtAt w a D) : Calls Tryz.prog 16 #[.slice a D.length c, .int .i64 wide, .int .i64 high] w (DrO w en T) := by
  have hio := inOrder_any D hD hl a c w hp
  rcases hR with ⟨h1, rfl, rfl⟩ | ⟨h1, h2, rfl, rfl⟩ | ⟨h1, h2, h3, rfl, rfl⟩ | ⟨w0, n, ⟨rfl, rfl, hw, hn1, hn⟩, h2, h3, rfl, rfl⟩
  · clear hp
    have hb : (decide (wide < 2) || decide (72 < wide) || decide (high < 2) || decide (40 < high)) = true := by
      by_cases e1 : wide < 2
      · simp [e1]
      · by_cases e2 : 72 < wide
        · simp [e2]
        · by_cases e3 : high < 2
          · simp [e3]
          · have e4 : 40 < high := by omega
            simp [e4]
    generalize hc1 : decide (wide < 2) = c1 at *
    generalize hc2 : decide (72 < wide) = c2 at *
    generalize hc3 : decide (high < 2) = c3 at *
    generalize hc4 : decide (40 < high) = c4 at *
    clear h1 hio
    cases c1 <;> cases c2 <;> cases c3 <;> cases c4 <;> first | (exact absurd hb (by decide)) | skip
    all_goals
      go_enter Tryz.func16, Tryz.ntmps16
      go_wp2
      exact bodyPost_ret (v := .tuple #[.slice none 0 0, .int .i64 174]) (by simp [results, Tryz.results16, go_sem]) rfl ⟨_, rfl, World.ownsRow_nil _ _ _ _, Below.refl _ _⟩
  · rw [h2] at hio
    have k1 : decide (wide < 2) = false := decide_eq_false (by omega)
    have k2 : decide (72 < wide) = false := decide_eq_false (by omega)
    have k3 : decide (high < 2) = false := decide_eq_false (by omega)
    have k4 : decide (40 < high) = false := decide_eq_false (by omega)
    clear h1
    go_enter Tryz.func16, Tryz.ntmps16
    go_wp2_with (go_at_call 49; refine hio.mono ?_; rintro _ w1 ⟨rfl, hB1⟩)
    exact bodyPost_ret (v := .tuple #[.slice none 0 0, .int .i64 172]) (by simp [results, Tryz.results16, go_sem]) rfl ⟨_, rfl, World.ownsRow_nil _ _ _ _, hB1⟩
  · rw [h2] at hio
    have k1 : decide (wide < 2) = false := decide_eq_false (by omega)
    have k2 : decide (72 < wide) = false := decide_eq_false (by omega)
    have k3 : decide (high < 2) = false := decide_eq_false (by omega)
    have k4 : decide (40 < high) = false := decide_eq_false (by omega)
    obtain ⟨⟨l1, l2⟩, g1, g2⟩ := lo_fin0 hD h2
    have hfr := fun X (hX : PtAt X a D) => frameOf_any D hD h2 hl wide high a c X hX
    have o1 := sub_f32 (sub_some g1 l1 g2 l2)
    have hfi := fun X => finP_any (subN (hiP D D.length) (loP D D.length)) (subN_le l1 g2 l2).2 X
    rw [h3] at hfi
    clear h1
    go_enter Tryz.func16, Tryz.ntmps16
    go_wp2_with (go_at_call 49; refine hio.mono ?_; rintro _ w1 ⟨rfl, hB1⟩)
    refine (hfr _ (hp.later hB1)).mono ?_
    rintro _ w2 ⟨rfl, hB2⟩
    clear hfr hio hp hD h2
    generalize loP D D.length = l at *
    generalize hiP D D.length = g at *
    generalize pX D 0 = x0 at *
    generalize pX D (D.length - 1) = x1 at *
    have hBe : Below w.heap.size w (w2.alloc (.cells #[.int .i64 wide, .int .i64 high, .int .i64 x0, .int .i64 x1, .float .f32 l, .float .f32 g] 92)) := (hB1.trans (hB2.mono hB1.size)).alloc (hB1.trans (hB2.mono hB1.size)).size _
    go_wp2_with (go_at_call 53; refine (hfi _).mono ?_; rintro _ w3 ⟨rfl, hw3⟩; subst w3)
    exact bodyPost_ret (v := .tuple #[.slice none 0 0, .int .i64 175]) (by simp [results, Tryz.results16, go_sem]) rfl ⟨_, rfl, World.ownsRow_nil _ _ _ _, hBe⟩
  · rw [h2] at hio
    have hd : Draws D := ⟨hD, h2, of_decide_eq_true h3⟩
    have k1 : decide ((w0 : Int) < 2) = false := decide_eq_false (by omega)
    have k2 : decide (72 < (w0 : Int)) = false := decide_eq_false (by omega)
    have k3 : decide ((n : Int) + 1 < 2) = false := decide_eq_false (by omega)
    have k4 : decide (40 < (n : Int) + 1) = false := decide_eq_false (by omega)
    obtain ⟨⟨l1, l2⟩, g1, g2⟩ := lo_fin0 hD h2
    have hfr := fun X (hX : PtAt X a D) => frameOf_any D hD h2 hl (w0 : Int) ((n : Int) + 1) a c X hX
    have o1 := sub_f32 (sub_some g1 l1 g2 l2)
    have hfi := fun X => finP_any (subN (hiP D D.length) (loP D D.length)) (subN_le l1 g2 l2).2 X
    rw [h3] at hfi
    have hdr := fun X (hX : PtAt X a D) => drawn_any D hd hl w0 n hw hn hn1 a c X hX
    have hli := fun (x0 x1 : Int) (l g : Nat) A hA hA2 X => lines_any D w0 n hw hn x0 x1 l g A hA hA2 X
    clear hd h3 h2 l1 l2 g1 g2
    obtain ⟨wd, hwd⟩ : ∃ z : Int, z = (w0 : Int) := ⟨_, rfl⟩
    obtain ⟨hg, hhg⟩ : ∃ z : Int, z = (n : Int) + 1 := ⟨_, rfl⟩
    rw [← hwd] at k1 k2 hfr hdr hli ⊢
    rw [← hhg] at k3 k4 hfr hdr hli ⊢
    clear hwd hhg
    go_enter Tryz.func16, Tryz.ntmps16
    go_wp2_with (go_at_call 49; refine hio.mono ?_; rintro _ w1 ⟨rfl, hB1⟩)
    refine (hfr _ (hp.later hB1)).mono ?_
    rintro _ w2 ⟨rfl, hB2⟩
    clear hfr hio
    generalize loP D D.length = l at *
    generalize hiP D D.length = g at *
    generalize pX D 0 = x0 at *
    generalize pX D (D.length - 1) = x1 at *
    obtain ⟨X, hX⟩ : ∃ X, w2.alloc (.cells #[.int .i64 wd, .int .i64 hg, .int .i64 x0, .int .i64 x1, .float .f32 l, .float .f32 g] 92) = X := ⟨_, rfl⟩
    have hFX : FrR X w2.heap.size wd hg x0 x1 l g := by rw [← hX]; exact heap_alloc_new _ _
    have hBX : Below w.heap.size w X := by rw [← hX]; exact (hB1.trans (hB2.mono hB1.size)).alloc (hB1.trans (hB2.mono hB1.size)).size _
    obtain ⟨c0, c1, c2, c3, c4, c5⟩ := hFX.cells
    have hBd : Below X.heap.size X X.drew := (Below.refl _ _).drew
    have hS0 : ∀ Y, Below X.heap.size X Y → Y.cell? ⟨w2.heap.size, 0, none⟩ = some (.int .i64 wd) ∧ Y.cell? ⟨w2.heap.size, 1, none⟩ = some (.int .i64 hg) ∧ Y.cell? ⟨w2.heap.size, 2, none⟩ = some (.int .i64 x0) ∧ Y.cell? ⟨w2.heap.size, 3, none⟩ = some (.int .i64 x1) ∧ Y.cell? ⟨w2.heap.size, 4, none⟩ = some (.float .f32 l) ∧ Y.cell? ⟨w2.heap.size, 5, none⟩ = some (.float .f32 g) := fun Y hY => FrR.cells (hFX.later hY)
    have hS1 := hS0 _ hBd
    have hdr2 := hdr X.drew (hp.later (hBX.trans (hBd.mono hBX.size)))
    go_wp2_with (go_at_call 53; refine (hfi _).mono ?_; rintro _ w3 ⟨rfl, hw3⟩; subst w3)
    go_region_held3 (fun Y => Y.cell? ⟨w2.heap.size, 0, none⟩ = some (.int .i64 wd) ∧ Y.cell? ⟨w2.heap.size, 1, none⟩ = some (.int .i64 hg) ∧ Y.cell? ⟨w2.heap.size, 2, none⟩ = some (.int .i64 x0) ∧ Y.cell? ⟨w2.heap.size, 3, none⟩ = some (.int .i64 x1) ∧ Y.cell? ⟨w2.heap.size, 4, none⟩ = some (.float .f32 l) ∧ Y.cell? ⟨w2.heap.size, 5, none⟩ = some (.float .f32 g)) (with_reducible assumption)
      (first | (go_at_call 55; refine hdr2.mono ?_; rintro _ w4 ⟨A, rfl, hA, hA2, hB4⟩; have hB4' := hBd.trans hB4; have hS4 := hS0 _ hB4') | (go_at_call 54; refine (hli _ _ _ _ A hA hA2 _).mono ?_; rintro _ w5 ⟨v, rfl, ho5, hB5⟩; have hB5' := hB4'.trans (hB5.mono hB4'.size); have hS5 := hS0 _ hB5'))
    have hBe : Below w.heap.size w w5 := hBX.trans (hB5'.mono hBX.size)
    have hoe := own_base (base' := w.heap.size) ho5 (Nat.le_trans hBX.size hB4'.size)
    go_wp2
    exact bodyPost_ret (v := .tuple #[v, .int .i64 0]) (by simp [results, Tryz.results16, go_sem]) rfl ⟨_, rfl, by rw [textsL_len]; exact hoe, hBe⟩
end Go.Proofs.YthmjkmdbggfiiaaGreatDoor.CF

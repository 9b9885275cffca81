import Derived.Test.YteefieidfgpijaaCqB
namespace Go.Proofs.Yteefieidfgpijaa.CF
open Go.RowKit
attribute [local go_sem] run_store_float

/-- What Draw answers. -/
def DrR (D : Dots) (wide high en : Int) (T : List Value) : Prop :=
  (¬ ((2 ≤ wide ∧ wide ≤ 72) ∧ 2 ≤ high ∧ high ≤ 40) ∧ en = 174 ∧ T = []) ∨
  (((2 ≤ wide ∧ wide ≤ 72) ∧ 2 ≤ high ∧ high ≤ 40) ∧ inO D = false ∧ en = 172 ∧ T = []) ∨
  (((2 ≤ wide ∧ wide ≤ 72) ∧ 2 ≤ high ∧ high ≤ 40) ∧ inO D = true ∧ bf (subN (hiP D D.length) (loP D D.length)) = false ∧ en = 175 ∧ T = []) ∨
  (∃ w0 n : Nat, (wide = (w0 : Int) ∧ high = (n : Int) + 1 ∧ (2 ≤ w0 ∧ w0 ≤ 72) ∧ 1 ≤ n ∧ n < 40) ∧ inO D = true ∧ bf (subN (hiP D D.length) (loP D D.length)) = true ∧ en = 0 ∧ T = textsL D n w0 (n + 1))
theorem drR_some (D : Dots) (wide high : Int) : ∃ en T, DrR D wide high en T := by
  by_cases h1 : (2 ≤ wide ∧ wide ≤ 72) ∧ 2 ≤ high ∧ high ≤ 40
  · cases h2 : inO D with
    | false => exact ⟨172, [], .inr (.inl ⟨h1, h2, rfl, rfl⟩)⟩
    | true =>
      cases h3 : bf (subN (hiP D D.length) (loP D D.length)) with
      | false => exact ⟨175, [], .inr (.inr (.inl ⟨h1, h2, h3, rfl, rfl⟩))⟩
      | true => exact ⟨0, _, .inr (.inr (.inr ⟨wide.toNat, (high - 1).toNat, ⟨by omega, by omega, by omega, by omega, by omega⟩, h2, h3, rfl, rfl⟩))⟩
  · exact ⟨174, [], .inl ⟨h1, rfl, rfl⟩⟩
def DrO (w : World) (en : Int) (T : List Value) (e : Ending) (w' : World) : Prop := ∃ v, e = .returned (.tuple #[v, .int .i64 en]) ∧ w'.ownsRow w.heap.size 9 1 v T.length T ∧ Below w.heap.size w w'
theorem lo_fin0 {D : Dots} (hD : Ok D) (hio : inO D = true) : (loP D D.length < 4294967296 ∧ loP D D.length % 2147483648 < 2139095040) ∧ (hiP D D.length < 4294967296 ∧ hiP D D.length % 2147483648 < 2139095040) := by
  by_cases h0 : 0 < D.length
  · exact lo_fin hD hio h0 (Nat.le_refl _)
  · obtain rfl : D = [] := List.eq_nil_of_length_eq_zero (by omega)
    exact ⟨⟨by decide, by decide⟩, by decide, by decide⟩
theorem textsL_len (D : Dots) (n wide k : Nat) : (textsL D n wide k).length = k := by unfold textsL; simp
set_option maxRecDepth 8000 in
set_option maxHeartbeats 2000000 in
theorem draw_any (D : Dots) (hD : Ok D) (hl : D.length ≤ 9223372036854775806) (wide high en : Int) (T : List Value) (hR : DrR D wide high en T) (a : Option Addr) (c : Nat) (w : World) (hp : PtAt w a D) : Calls Try.prog 17 #[.slice a D.length c, .int .i64 wide, .int .i64 high] w (DrO w en T) := by
  have hio := inOrder_any D hD hl a c w hp
  rcases hR with ⟨h1, rfl, rfl⟩ | ⟨h1, h2, rfl, rfl⟩ | ⟨h1, h2, h3, rfl, rfl⟩ | ⟨w0, n, ⟨rfl, rfl, hw, hn1, hn⟩, h2, h3, rfl, rfl⟩
  · clear hp
    have hb : (decide (wide < 2) || decide (72 < wide) || decide (high < 2) || decide (40 < high)) = true := by
      by_cases e1 : wide < 2
      · simp [e1]
      · by_cases e2 : 72 < wide
        · simp [e2]
        · by_cases e3 : high < 2
          · simp [e3]
          · have e4 : 40 < high := by omega
            simp [e4]
    generalize hc1 : decide (wide < 2) = c1 at *
    generalize hc2 : decide (72 < wide) = c2 at *
    generalize hc3 : decide (high < 2) = c3 at *
    generalize hc4 : decide (40 < high) = c4 at *
    clear h1 hio
    cases c1 <;> cases c2 <;> cases c3 <;> cases c4 <;> first | (exact absurd hb (by decide)) | skip
    all_goals
      go_enter Try.func17, Try.ntmps17
      go_wp2
      exact bodyPost_ret (v := .tuple #[.slice none 0 0, .int .i64 174]) (by simp [results, Try.results17, go_sem]) rfl ⟨_, rfl, World.ownsRow_nil _ _ _ _, Below.refl _ _⟩
  · rw [h2] at hio
    have k1 : decide (wide < 2) = false := decide_eq_false (by omega)
    have k2 : decide (72 < wide) = false := decide_eq_false (by omega)
    have k3 : decide (high < 2) = false := decide_eq_false (by omega)
    have k4 : decide (40 < high) = false := decide_eq_false (by omega)
    clear h1
    go_enter Try.func17, Try.ntmps17
    go_wp2_with (go_at_call 25; refine hio.mono ?_; rintro _ w1 ⟨rfl, hB1⟩)
    exact bodyPost_ret (v := .tuple #[.slice none 0 0, .int .i64 172]) (by simp [results, Try.results17, go_sem]) rfl ⟨_, rfl, World.ownsRow_nil _ _ _ _, hB1⟩
  · rw [h2] at hio
    have k1 : decide (wide < 2) = false := decide_eq_false (by omega)
    have k2 : decide (72 < wide) = false := decide_eq_false (by omega)
    have k3 : decide (high < 2) = false := decide_eq_false (by omega)
    have k4 : decide (40 < high) = false := decide_eq_false (by omega)
    obtain ⟨⟨l1, l2⟩, g1, g2⟩ := lo_fin0 hD h2
    have hfr := fun X (hX : PtAt X a D) => frameOf_any D hD h2 hl wide high a c X hX
    have o1 := sub_f32 (sub_some g1 l1 g2 l2)
    have hfi := fun X => finP_any (subN (hiP D D.length) (loP D D.length)) (subN_le l1 g2 l2).2 X
    rw [h3] at hfi
    clear h1
    go_enter Try.func17, Try.ntmps17
    go_wp2_with (go_at_call 25; refine hio.mono ?_; rintro _ w1 ⟨rfl, hB1⟩)
    refine (hfr _ (hp.later hB1)).mono ?_
    rintro _ w2 ⟨rfl, hB2⟩
    clear hfr hio hp hD h2
    generalize loP D D.length = l at *
    generalize hiP D D.length = g at *
    generalize pX D 0 = x0 at *
    generalize pX D (D.length - 1) = x1 at *
    have hBe : Below w.heap.size w (w2.alloc (.cells #[.int .i64 wide, .int .i64 high, .int .i64 x0, .int .i64 x1, .float .f32 l, .float .f32 g] 65)) := (hB1.trans (hB2.mono hB1.size)).alloc (hB1.trans (hB2.mono hB1.size)).size _
    go_wp2_with (go_at_call 27; refine (hfi _).mono ?_; rintro _ w3 ⟨rfl, hw3⟩; subst w3)
    exact bodyPost_ret (v := .tuple #[.slice none 0 0, .int .i64 175]) (by simp [results, Try.results17, go_sem]) rfl ⟨_, rfl, World.ownsRow_nil _ _ _ _, hBe⟩
  · rw [h2] at hio
    have hd : Draws D := ⟨hD, h2, of_decide_eq_true h3⟩
    have k1 : decide ((w0 : Int) < 2) = false := decide_eq_false (by omega)
    have k2 : decide (72 < (w0 : Int)) = false := decide_eq_false (by omega)
    have k3 : decide ((n : Int) + 1 < 2) = false := decide_eq_false (by omega)
    have k4 : decide (40 < (n : Int) + 1) = false := decide_eq_false (by omega)
    obtain ⟨⟨l1, l2⟩, g1, g2⟩ := lo_fin0 hD h2
    have hfr := fun X (hX : PtAt X a D) => frameOf_any D hD h2 hl (w0 : Int) ((n : Int) + 1) a c X hX
    have o1 := sub_f32 (sub_some g1 l1 g2 l2)
    have hfi := fun X => finP_any (subN (hiP D D.length) (loP D D.length)) (subN_le l1 g2 l2).2 X
    rw [h3] at hfi
    have hdr := fun X (hX : PtAt X a D) => drawn_any D hd hl w0 n hw hn hn1 a c X hX
    have hli := fun (x0 x1 : Int) (l g : Nat) A hA hA2 X => lines_any D w0 n hw hn x0 x1 l g A hA hA2 X
    clear hd h3 h2 l1 l2 g1 g2
    obtain ⟨wd, hwd⟩ : ∃ z : Int, z = (w0 : Int) := ⟨_, rfl⟩
    obtain ⟨hg, hhg⟩ : ∃ z : Int, z = (n : Int) + 1 := ⟨_, rfl⟩
    rw [← hwd] at k1 k2 hfr hdr hli ⊢
    rw [← hhg] at k3 k4 hfr hdr hli ⊢
    clear hwd hhg
    go_enter Try.func17, Try.ntmps17
    go_wp2_with (go_at_call 25; refine hio.mono ?_; rintro _ w1 ⟨rfl, hB1⟩)
    refine (hfr _ (hp.later hB1)).mono ?_
    rintro _ w2 ⟨rfl, hB2⟩
    clear hfr hio
    generalize loP D D.length = l at *
    generalize hiP D D.length = g at *
    generalize pX D 0 = x0 at *
    generalize pX D (D.length - 1) = x1 at *
    obtain ⟨X, hX⟩ : ∃ X, w2.alloc (.cells #[.int .i64 wd, .int .i64 hg, .int .i64 x0, .int .i64 x1, .float .f32 l, .float .f32 g] 65) = X := ⟨_, rfl⟩
    have hFX : FrR X w2.heap.size wd hg x0 x1 l g := by rw [← hX]; exact heap_alloc_new _ _
    have hBX : Below w.heap.size w X := by rw [← hX]; exact (hB1.trans (hB2.mono hB1.size)).alloc (hB1.trans (hB2.mono hB1.size)).size _
    obtain ⟨c0, c1, c2, c3, c4, c5⟩ := hFX.cells
    have hBd : Below X.heap.size X X.drew := (Below.refl _ _).drew
    have hS0 : ∀ Y, Below X.heap.size X Y → Y.cell? ⟨w2.heap.size, 0, none⟩ = some (.int .i64 wd) ∧ Y.cell? ⟨w2.heap.size, 1, none⟩ = some (.int .i64 hg) ∧ Y.cell? ⟨w2.heap.size, 2, none⟩ = some (.int .i64 x0) ∧ Y.cell? ⟨w2.heap.size, 3, none⟩ = some (.int .i64 x1) ∧ Y.cell? ⟨w2.heap.size, 4, none⟩ = some (.float .f32 l) ∧ Y.cell? ⟨w2.heap.size, 5, none⟩ = some (.float .f32 g) := fun Y hY => FrR.cells (hFX.later hY)
    have hS1 := hS0 _ hBd
    have hdr2 := hdr X.drew (hp.later (hBX.trans (hBd.mono hBX.size)))
    go_wp2_with (go_at_call 27; refine (hfi _).mono ?_; rintro _ w3 ⟨rfl, hw3⟩; subst w3)
    go_region_held3 (fun Y => Y.cell? ⟨w2.heap.size, 0, none⟩ = some (.int .i64 wd) ∧ Y.cell? ⟨w2.heap.size, 1, none⟩ = some (.int .i64 hg) ∧ Y.cell? ⟨w2.heap.size, 2, none⟩ = some (.int .i64 x0) ∧ Y.cell? ⟨w2.heap.size, 3, none⟩ = some (.int .i64 x1) ∧ Y.cell? ⟨w2.heap.size, 4, none⟩ = some (.float .f32 l) ∧ Y.cell? ⟨w2.heap.size, 5, none⟩ = some (.float .f32 g)) (with_reducible assumption)
      (first | (go_at_call 33; refine hdr2.mono ?_; rintro _ w4 ⟨A, rfl, hA, hA2, hB4⟩; have hB4' := hBd.trans hB4; have hS4 := hS0 _ hB4') | (go_at_call 32; refine (hli _ _ _ _ A hA hA2 _).mono ?_; rintro _ w5 ⟨v, rfl, ho5, hB5⟩; have hB5' := hB4'.trans (hB5.mono hB4'.size); have hS5 := hS0 _ hB5'))
    have hBe : Below w.heap.size w w5 := hBX.trans (hB5'.mono hBX.size)
    have hoe := own_base (base' := w.heap.size) ho5 (Nat.le_trans hBX.size hB4'.size)
    go_wp2
    exact bodyPost_ret (v := .tuple #[v, .int .i64 0]) (by simp [results, Try.results17, go_sem]) rfl ⟨_, rfl, by rw [textsL_len]; exact hoe, hBe⟩
end Go.Proofs.Yteefieidfgpijaa.CF

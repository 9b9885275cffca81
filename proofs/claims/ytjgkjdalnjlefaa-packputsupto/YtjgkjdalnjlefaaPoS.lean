import Derived.Test.YtjgkjdalnjlefaaPoE
namespace Go.Proofs.Ytjgkjdalnjlefaa
open Go.RowKit

/-- A number, whatever it is. -/
def NmP (W : World) (e : Ending) (W' : World) : Prop := Below W.heap.size W W' ∧ ∃ n : Int, e = .returned (.int .i64 n)
set_option maxRecDepth 8000 in
set_option maxHeartbeats 1000000 in
theorem nodes_any : ∀ (k : Nat) (x : Ex) (a : Option Addr) (c : Nat) (most : Int) (W : World), deepE x ≤ k → SzE x → FoAt W AnyB x.args a → Calls Try.prog 51 #[.agg #[.int .i64 x.op, .int .i64 x.num, .int .i64 x.den, .int .i64 x.mode, .slice a x.args.len c], .int .i64 most] W (NmP W)
  | 0, x, a, c, most, W, hd, hz, hF => by unfold deepE at hd; omega
  | k + 1, x, a, c, most, W, hd, hz, hF => by
    have ih := nodes_any k
    have hB : Below W.heap.size W (W.alloc (.cells #[.int .i64 x.op, .int .i64 x.num, .int .i64 x.den, .int .i64 x.mode, .slice a x.args.len c] 83)) := (Below.refl _ _).alloc (Nat.le_refl _) _
    have hsz : (W.alloc (.cells #[.int .i64 x.op, .int .i64 x.num, .int .i64 x.den, .int .i64 x.mode, .slice a x.args.len c] 83)).heap.size = W.heap.size + 1 := by simp
    have hx1 := (bx_new W #[.int .i64 x.op, .int .i64 x.num, .int .i64 x.den, .int .i64 x.mode, .slice a x.args.len c] 83).2.1 4 (by simp)
    have hF2 := row_bel (row_of_fo hF) hB (Nat.le_refl _)
    have hxl := hz.1
    have hdx : ∀ z ∈ toL x.args, deepE z ≤ k ∧ SzE z := fun z hz2 => by
      have := deepF_toL _ _ hz2
      refine ⟨?_, toL_sz _ hz.2 z hz2⟩
      unfold deepE at hd ⊢
      unfold deepE at this
      omega
    obtain ⟨Q, hQ⟩ : ∃ Q, NmP W = Q := ⟨_, rfl⟩
    rw [hQ]
    have hQ := Hid.mk hQ
    clear hF
    go_enter Try.func51, Try.ntmps51
    go_wp2
    go_loopw [5, 6] (fun nv iv wr => ∃ (i : Nat) (n : Int), nv = .int .i64 n ∧ iv = .int .i64 (i : Int) ∧ i ≤ x.args.len ∧ Below (W.alloc (.cells #[.int .i64 x.op, .int .i64 x.num, .int .i64 x.den, .int .i64 x.mode, .slice a x.args.len c] 83)).heap.size (W.alloc (.cells #[.int .i64 x.op, .int .i64 x.num, .int .i64 x.den, .int .i64 x.mode, .slice a x.args.len c] 83)) wr) (fun _ iv _ => x.args.len - (intOf iv).toNat)
    case atStart => exact ⟨0, 1, rfl, rfl, Nat.zero_le _, Below.refl _ _⟩
    case round =>
      obtain ⟨i, n, rfl, rfl, hi, hBr⟩ := hrel
      have q1 := (bel_cell hBr (show W.heap.size < (W.alloc (.cells #[.int .i64 x.op, .int .i64 x.num, .int .i64 x.den, .int .i64 x.mode, .slice a x.args.len c] 83)).heap.size by rw [hsz]; omega) 4).trans hx1
      have hfin : Q (.returned (.int .i64 n)) wr := by
        rw [← hQ.out]
        exact ⟨Below.tr hB hBr (by rw [hsz]; omega), n, rfl⟩
      by_cases hlt : i < x.args.len
      · have hlt' : (i : Int) < (x.args.len : Int) := by omega
        have hi0 : (0 : Int) ≤ (i : Int) := by omega
        by_cases hnm : n ≤ most
        · have hix : i < (toL x.args).length := by rw [toL_len]; exact hlt
          obtain ⟨g, o, hga⟩ := hF2.some hix
          have hFr := row_bel hF2 hBr (Nat.le_refl _)
          rw [hga] at hFr q1
          clear hga hfin
          obtain ⟨cx, -, -, ⟨a8, c8, rfl, -, hFx⟩, hcx⟩ := hFr.item hix
          have hdi := hdx _ (List.getElem_mem hix)
          generalize (toL x.args)[i] = xi at hcx hFx hdi
          have kx0 : wr.cell? ⟨g, o + i * 5, none⟩ = some (.int .i64 xi.op) := hcx 0 (by decide)
          have kx1 : wr.cell? ⟨g, o + i * 5 + 1, none⟩ = some (.int .i64 xi.num) := hcx 1 (by decide)
          have kx2 : wr.cell? ⟨g, o + i * 5 + 2, none⟩ = some (.int .i64 xi.den) := hcx 2 (by decide)
          have kx3 : wr.cell? ⟨g, o + i * 5 + 3, none⟩ = some (.int .i64 xi.mode) := hcx 3 (by decide)
          have kx4 : wr.cell? ⟨g, o + i * 5 + 4, none⟩ = some (.slice a8 xi.args.len c8) := hcx 4 (by decide)
          have hcall := fun m => ih xi a8 c8 m wr hdi.1 hdi.2 hFx
          clear hcx hFr hF2 hx1 hFx
          go_wp2_with (go_at_call 51; go_loud (refine (hcall _).mono ?_; clear hcall; rintro e w5 ⟨hB5, n5, rfl⟩; have hB6 := Below.tr hBr hB5 hBr.size))
          go_roundw
          case rel => exact ⟨i + 1, _, rfl, by go_num, by omega, hB6⟩
          case measure => simp [intOf]; omega
        · go_wp2
          exact hfin
      · have hlt' : ¬ (i : Int) < (x.args.len : Int) := by omega
        go_wp2
        exact hfin
end Go.Proofs.Ytjgkjdalnjlefaa

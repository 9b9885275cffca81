import Derived.Test.YtjgkjdalnjlefaaPzS
namespace Go.Proofs.Ytjgkjdalnjlefaa
open Go.RowKit

theorem conv_in {X : World} {a : Option Addr} {cap : Nat} {l : List UInt8} (h : InB X a cap l) : (convert 22 9 (.slice a l.length cap)).run Try.prog X = .ok (.string ⟨l.toArray⟩) X := by
  obtain ⟨h1, h2, h3⟩ := h
  cases a with
  | none =>
    have hc := h2 rfl
    subst hc
    have hl : l = [] := List.eq_nil_of_length_eq_zero (by omega)
    subst hl
    exact run_convert_bytes_nil X 22 5 Try.underlying22 Try.underlying5 0 0 9 Try.underlying9
  | some p =>
    refine conv_at X p cap l (fun j hj => ?_)
    rcases h1 with rfl | ⟨b, off, ha, _, hc⟩
    · simp at hj
    · cases ha
      rw [Go.WideShapes.add_plain]
      exact hc j hj
set_option maxHeartbeats 1000000 in
theorem same_any (a a2 : Option Addr) (cap cap2 : Nat) (l l2 : List UInt8) (W : World) (h : InB W a cap l) (h2 : InB W a2 cap2 l2) : Calls Try.prog 10 #[.slice a l.length cap, .slice a2 l2.length cap2] W fun e W' => e = .returned (.bool (l == l2)) ∧ W' = W := by
  have k1 := conv_in h
  have k2 := conv_in h2
  clear h h2
  go_enter Try.func10, Try.ntmps10
  go_wp2
  go_ret
  exact ⟨rfl, rfl⟩
set_option maxHeartbeats 1000000 in
theorem num_any (n : Int) (W : World) : Calls Try.prog 8 #[.int .i64 n] W fun e W' => e = .returned (.int .i64 n) ∧ W = W' := by
  go_enter Try.func8, Try.ntmps8
  go_wp2
  go_ret
  exact ⟨rfl, rfl⟩

end Go.Proofs.Ytjgkjdalnjlefaa

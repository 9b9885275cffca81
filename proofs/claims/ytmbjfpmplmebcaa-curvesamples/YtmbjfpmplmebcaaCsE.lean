import Derived.Test.YtmbjfpmplmebcaaCsD
namespace Go.Proofs.Ytmbjfpmplmebcaa.CF
open Go.RowKit
attribute [local go_sem] run_store_float

theorem ptsD_nil (f s : Int) : ∀ k, ptsD f s [] k = []
  | 0 => rfl
  | k + 1 => by
    unfold ptsD
    rw [ptsD_nil f s k, if_neg]
    · rfl
    · have e : pickV [] k = (0, 0) := rfl
      rw [e]
      decide
theorem ptsD_ok {f s : Int} {vs : List (Int × Int)} {n : Nat} (hx : ∀ k : Nat, k < n → -9223372036854775808 ≤ f + (k : Int) * s ∧ f + (k : Int) * s ≤ 9223372036854775807) : ∀ k, k ≤ n → Ok (ptsD f s vs k)
  | 0, _ => fun d hd => by cases hd
  | k + 1, hk => fun d hd => by
    unfold ptsD at hd
    rcases List.mem_append.1 hd with h | h
    · exact ptsD_ok hx k (by omega) d h
    · split at h
      · rw [List.mem_singleton.1 h]
        refine ⟨hx k (by omega), ?_⟩
        show wholeN _ < _
        rw [wholeN_eq]
        exact near_lt _ _ _
      · cases h
def XsQ (f s : Int) (N : Nat) (en : Int) (w : World) (e : Ending) (w' : World) : Prop := ∃ a c, e = .returned (.tuple #[.slice a N c, .int .i64 en]) ∧ XsAt w' a (xsL f s N) ∧ Below w.heap.size w w'
/-- Both sides go the same way. -/
theorem both_way (f s n : Int) (vs : List (Int × Int)) (hvl : vs.length ≤ 9223372036854775806) (hvr : ∀ k, -9223372036854775808 ≤ (pickV vs k).2 ∧ (pickV vs k).2 ≤ 9223372036854775807) : ∃ (N : Nat) (en : Int), N ≤ 64 ∧ (∀ k : Nat, k < N → -9223372036854775808 ≤ f + (k : Int) * s ∧ f + (k : Int) * s ≤ 9223372036854775807) ∧ (∀ w, Calls Try.prog 9 #[.int .i64 f, .int .i64 s, .int .i64 n] w (XsQ f s N en w)) ∧
    ∀ (W : World) (A V : Nat) (av : Option Addr) (cv : Nat) (w : World), W.heap.size ≤ A → VsAt W av vs → SS W A V av cv vs [] [] (.slice none 0 0) w → Calls Try.prog 11 #[.func (.func 10) #[] #[.pointer (some ⟨A, 0, none⟩), .pointer (some ⟨V, 0, none⟩)], .int .i64 f, .int .i64 s, .int .i64 n] w (SmpP W A V av cv vs (xsL f s N) (ptsD f s vs N) en) := by
  by_cases h1 : n < 1 ∨ 64 < n
  · refine ⟨0, 170, by decide, fun k hk => absurd hk (Nat.not_lt_zero k), fun w => (xs_n f s n h1 w).mono ?_, fun W A V av cv w _ _ hS => (sample_n _ f s n h1 w).mono ?_⟩
    · rintro e w' ⟨rfl, rfl⟩
      exact ⟨none, 0, rfl, .inl rfl, Below.refl _ _⟩
    · rintro e w' ⟨rfl, rfl⟩
      exact ⟨_, rfl, hS⟩
  · cases hok : okS f s (n - 1) with
    | false =>
      refine ⟨0, 171, by decide, fun k hk => absurd hk (Nat.not_lt_zero k), fun w => (xs_s f s n (by omega) (by omega) hok w).mono ?_, fun W A V av cv w _ _ hS => (sample_s _ f s n (by omega) (by omega) hok w).mono ?_⟩
      · rintro e w' ⟨rfl, rfl⟩
        exact ⟨none, 0, rfl, .inl rfl, Below.refl _ _⟩
      · rintro e w' ⟨rfl, rfl⟩
        exact ⟨_, rfl, hS⟩
    | true =>
      obtain ⟨m, rfl⟩ : ∃ m : Nat, n = (m : Int) := ⟨n.toNat, by omega⟩
      have hb := okS_bounds hok (by omega)
      refine ⟨m, 0, by omega, fun k hk => ?_, fun w => (xs_ok f s m (by omega) (by omega) hok w), fun W A V av cv w hA hvs hS => sample_ok f s m (by omega) (by omega) hok hvl hA hvs hvr w hS⟩
      have := hb.2 (k : Int) (by omega) (by omega)
      omega
end Go.Proofs.Ytmbjfpmplmebcaa.CF

import Derived.Test.YteiplejamciddaaYN7
import Derived.Test.YteiplejamciddaaYN4
namespace Go.Proofs.Yteiplejamciddaa
open Go.RowKit

def No60 {α : Type} (r : Except Ft α) : Prop := ∀ e, r = .error e → e.2 ≠ 60
theorem tFold_up {f f' : Ex → Nat → Nat × Except Ft Kd} (hf : ∀ x n n' m r, n' ≤ n → f x n = (m, r) → No60 r → ∃ m', m' ≤ m ∧ f' x n' = (m', r)) : ∀ (l : List Ex) (i n n' : Nat) (acc : List Kd) (m : Nat) (R : Except Ft (List Kd)), n' ≤ n → tFold f l i n acc = (m, R) → No60 R → ∃ m', m' ≤ m ∧ tFold f' l i n' acc = (m', R)
  | [], i, n, n', acc, m, R, hn, h, _ => by
    unfold tFold at h
    injection h with h1 h2
    subst h1 h2
    exact ⟨n', hn, rfl⟩
  | x :: l, i, n, n', acc, m, R, hn, h, h6 => by
    unfold tFold at h
    rcases hx : f x n with ⟨m1, er | k⟩
    · rw [hx] at h
      injection h with h1 h2
      subst h1 h2
      obtain ⟨m', hm, he⟩ := hf x n n' m1 (.error er) hn hx (fun e h => by injection h with h; subst h; exact h6 (i :: er.1, er.2) rfl)
      exact ⟨m', hm, by unfold tFold; rw [he]⟩
    · rw [hx] at h
      obtain ⟨m', hm, he⟩ := hf x n n' m1 (.ok k) hn hx (fun e h => by cases h)
      obtain ⟨m2, hm2, he2⟩ := tFold_up hf l (i + 1) m1 m' (acc ++ [k]) m R hm h h6
      exact ⟨m2, hm2, by unfold tFold; rw [he]; exact he2⟩
theorem tN_up (p : Pk) (g : Int) : ∀ (d d' : Nat), d ≤ d' → ∀ (x : Ex) (n n' m : Nat) (r : Except Ft Kd), n' ≤ n → tN p g d x n = (m, r) → No60 r → ∃ m', m' ≤ m ∧ tN p g d' x n' = (m', r)
  | 0, d', hd, x, n, n', m, r, hn, h, h6 => by
    unfold tN at h
    injection h with h1 h2
    exact absurd rfl (h6 _ h2.symm)
  | d + 1, 0, hd, x, n, n', m, r, hn, h, h6 => by omega
  | d + 1, d' + 1, hd, x, n, n', m, r, hn, h, h6 => by
    have ih := tN_up p g d d' (by omega)
    unfold tN at h
    unfold tN
    split at h
    · injection h with h1 h2
      exact absurd rfl (h6 _ h2.symm)
    rename_i h60
    rw [if_neg (by omega)]
    split at h
    · rename_i hop
      rw [if_pos hop]
      injection h with h1 h2
      subst h1 h2
      exact ⟨n' + 1, by omega, rfl⟩
    rename_i hop
    rw [if_neg hop]
    split at h
    · rename_i ht
      rw [if_pos ht]
      injection h with h1 h2
      subst h1 h2
      exact ⟨n' + 1, by omega, rfl⟩
    rename_i ht
    rw [if_neg ht]
    split at h
    · rename_i hfb
      rw [if_pos hfb]
      injection h with h1 h2
      subst h1 h2
      exact ⟨n' + 1, by omega, rfl⟩
    rename_i hfb
    rw [if_neg hfb]
    rcases hfo : tFold (tN p g d) (toL x.args) 0 (n + 1) [] with ⟨m1, er | ks⟩
    · rw [hfo] at h
      injection h with h1 h2
      subst h1 h2
      obtain ⟨m', hm, he⟩ := tFold_up (fun x n n' m r hn h h6 => ih x n n' m r hn h h6) _ _ _ (n' + 1) _ _ _ (by omega) hfo (fun e h => by injection h with h; subst h; exact h6 _ rfl)
      exact ⟨m', hm, by rw [he]⟩
    · rw [hfo] at h
      injection h with h1 h2
      subst h1 h2
      obtain ⟨m', hm, he⟩ := tFold_up (fun x n n' m r hn h h6 => ih x n n' m r hn h h6) _ _ _ (n' + 1) _ _ _ (by omega) hfo (fun e h => by cases h)
      exact ⟨m', hm, by rw [he]⟩
theorem tFold_oks {f : Ex → Nat → Nat × Except Ft Kd} : ∀ (l : List Ex) (i n : Nat) (acc : List Kd) (m : Nat) (ks : List Kd), tFold f l i n acc = (m, .ok ks) → ∀ j (h : j < l.length), ∃ nj mj k, f l[j] nj = (mj, .ok k)
  | [], i, n, acc, m, ks, h, j, hj => by cases hj
  | x :: l, i, n, acc, m, ks, h, j, hj => by
    unfold tFold at h
    rcases hx : f x n with ⟨m1, er | k⟩
    · rw [hx] at h
      injection h with _ h
      cases h
    · rw [hx] at h
      cases j with
      | zero => exact ⟨n, m1, k, hx⟩
      | succ j => exact tFold_oks l (i + 1) m1 (acc ++ [k]) m ks h j (Nat.lt_of_succ_lt_succ hj)
theorem tFold_er {f : Ex → Nat → Nat × Except Ft Kd} : ∀ (l : List Ex) (i n : Nat) (acc : List Kd) (m : Nat) (e : Ft), tFold f l i n acc = (m, .error e) → ∃ j, ∃ h : j < l.length, ∃ nj rest, f l[j] nj = (m, .error (rest, e.2)) ∧ e.1 = (i + j) :: rest ∧ ∀ q (hq : q < j), ∃ nq mq k, f (l[q]'(by omega)) nq = (mq, .ok k)
  | [], i, n, acc, m, e, h => by
    unfold tFold at h
    injection h with _ h
    cases h
  | x :: l, i, n, acc, m, e, h => by
    unfold tFold at h
    rcases hx : f x n with ⟨m1, er | k⟩
    · rw [hx] at h
      injection h with h1 h
      injection h with h
      subst h1 h
      exact ⟨0, Nat.zero_lt_succ _, n, er.1, hx, rfl, fun q hq => by omega⟩
    · rw [hx] at h
      obtain ⟨j, hj, nj, rest, h1, h2, h3⟩ := tFold_er l (i + 1) m1 (acc ++ [k]) m e h
      refine ⟨j + 1, Nat.succ_lt_succ hj, nj, rest, h1, by rw [h2]; congr 1; omega, fun q hq => ?_⟩
      cases q with
      | zero => exact ⟨n, m1, k, hx⟩
      | succ q => exact h3 q (by omega)
theorem blame_lt {a b : Int × Int} : ∀ (all l : List Kd) (i j : Nat), blameF a b all l i = some j → i ≤ j ∧ j < i + l.length
  | all, [], i, j, h => by cases h
  | all, k :: l, i, j, h => by
    unfold blameF at h
    split at h
    · have := blame_lt all l (i + 1) j h
      simp only [List.length_cons]
      omega
    · injection h with h
      subst h
      simp
theorem tFold_rng {f : Ex → Nat → Nat × Except Ft Kd} {P : Nat → Prop} (hf : ∀ x n m e, f x n = (m, .error e) → P e.2) : ∀ (l : List Ex) (i n : Nat) (acc : List Kd) (m : Nat) (e : Ft), tFold f l i n acc = (m, .error e) → P e.2
  | [], i, n, acc, m, e, h => by
    unfold tFold at h
    injection h with _ h
    cases h
  | x :: l, i, n, acc, m, e, h => by
    unfold tFold at h
    rcases hx : f x n with ⟨m1, er | k⟩
    · rw [hx] at h
      injection h with _ h
      injection h with h
      subst h
      exact hf x n m1 er hx
    · rw [hx] at h
      exact tFold_rng hf l (i + 1) m1 (acc ++ [k]) m e h
theorem worth_rng {p : Pk} {o : Opr} {x : Ex} {ks : List Kd} {e : Ft} (h : worthF p o x ks = .error e) : e.2 = 69 ∧ (e.1 = [] ∨ ∃ i, e.1 = [i] ∧ i < ks.length) := by
  unfold worthF at h
  cases hb : blameF o.n1 o.n2 ks ks 0 with
  | some i =>
    rw [hb] at h
    injection h with h
    subst h
    exact ⟨rfl, .inr ⟨i, rfl, by have := (blame_lt _ _ _ _ hb).2; omega⟩⟩
  | none =>
    rw [hb] at h
    simp only at h
    split at h
    · cases h
    · injection h with h
      subst h
      exact ⟨rfl, .inl rfl⟩
theorem tN_rng (p : Pk) (g : Int) : ∀ (d : Nat) (x : Ex) (n m : Nat) (e : Ft), tN p g d x n = (m, .error e) → 60 ≤ e.2 ∧ e.2 ≤ 69
  | 0, x, n, m, e, h => by
    unfold tN at h
    injection h with _ h
    injection h with h
    subst h
    decide
  | d + 1, x, n, m, e, h => by
    have ih := tN_rng p g d
    unfold tN at h
    split at h
    · injection h with _ h; injection h with h; subst h; decide
    split at h
    · injection h with _ h; injection h with h; subst h; decide
    split at h
    · injection h with _ h; injection h with h; subst h; decide
    split at h
    · injection h with _ h; injection h with h; subst h; decide
    rcases hf : tFold (tN p g d) (toL x.args) 0 (n + 1) [] with ⟨m1, er | ks⟩
    · rw [hf] at h
      injection h with _ h
      injection h with h
      subst h
      exact tFold_rng (P := fun c => 60 ≤ c ∧ c ≤ 69) ih _ _ _ _ _ _ hf
    · rw [hf] at h
      injection h with _ h
      rw [(worth_rng h).1]
      decide
theorem most_le' {o : Opr} (h : oprOk o = true) : o.most ≤ 6 := by
  unfold oprOk at h
  simp only [Bool.and_eq_true, decide_eq_true_eq] at h
  exact h.1.2
/-- What a type tells of its parts. -/
theorem type_parts (p : Pk) (g : Int) (x : Ex) : (∀ k, tType p g x = .ok k → x.args.len ≤ 6 ∧ ∀ j (h : j < (toL x.args).length), ∃ kj, tType p g (toL x.args)[j] = .ok kj ∧ isK kj.1 = true) ∧ (∀ e, tType p g x = .error e → 60 ≤ e.2 ∧ e.2 ≤ 69) ∧ (∀ e i rest, tType p g x = .error e → e.2 ≠ 60 → e.1 = i :: rest → ∃ h : i < (toL x.args).length, (∀ q (hq : q < i), ∃ kq, tType p g ((toL x.args)[q]'(by omega)) = .ok kq) ∧ ((∃ kj, tType p g (toL x.args)[i] = .ok kj ∧ e.2 = 69 ∧ rest = []) ∨ tType p g (toL x.args)[i] = .error (rest, e.2))) := by
  have up : ∀ a n m r, tN p g 7 a n = (m, r) → No60 r → tType p g a = r := fun a n m r h h6 => by
    obtain ⟨m', -, he⟩ := tN_up p g 7 8 (by decide) a n 0 m r (Nat.zero_le _) h h6
    unfold tType
    rw [he]
  have cs : (tType p g x = .error ([], 67) ∨ tType p g x = .error ([], 68)) ∨ ∃ m R, tFold (tN p g 7) (toL x.args) 0 1 [] = (m, R) ∧ takesB (opTab x.op.toNat) x = true ∧ 1 ≤ x.op ∧ x.op < 42 ∧ (match R with
      | .error e => tType p g x = .error e
      | .ok ks => tType p g x = worthF p (opTab x.op.toNat) x ks) := by
    unfold tType
    have e8 : tN p g 8 x 0 = (if 60 < 0 + 1 then (0 + 1, .error ([], 60)) else if x.op < 1 ∨ 42 ≤ x.op then (0 + 1, .error ([], 67)) else if takesB (opTab x.op.toNat) x = false then (0 + 1, .error ([], 67)) else if findB p g x (opTab x.op.toNat).fd = false then (0 + 1, .error ([], 68)) else match tFold (tN p g 7) (toL x.args) 0 (0 + 1) [] with
      | (m, .error e) => (m, .error e)
      | (m, .ok ks) => (m, worthF p (opTab x.op.toNat) x ks)) := rfl
    rw [e8, if_neg (by decide)]
    by_cases h1 : x.op < 1 ∨ 42 ≤ x.op
    · rw [if_pos h1]; exact .inl (.inl rfl)
    rw [if_neg h1]
    by_cases h2 : takesB (opTab x.op.toNat) x = false
    · rw [if_pos h2]; exact .inl (.inl rfl)
    rw [if_neg h2]
    by_cases h3 : findB p g x (opTab x.op.toNat).fd = false
    · rw [if_pos h3]; exact .inl (.inr rfl)
    rw [if_neg h3]
    right
    rcases hf : tFold (tN p g 7) (toL x.args) 0 (0 + 1) [] with ⟨m1, er | ks⟩
    · exact ⟨m1, .error er, rfl, by simpa using h2, by omega, by omega, rfl⟩
    · exact ⟨m1, .ok ks, rfl, by simpa using h2, by omega, by omega, rfl⟩
  have okK : ∀ a n m k, tN p g 7 a n = (m, .ok k) → tType p g a = .ok k ∧ isK k.1 = true := fun a n m k h => ⟨up a n m _ h (fun e h => by cases h), tN_isK p g 7 a n m k h⟩
  refine ⟨fun k hk => ?_, fun e he => ?_, fun e i rest he h6 hp => ?_⟩
  · rcases cs with (h | h) | ⟨m, R, hf, ht, ho1, ho2, hR⟩
    · rw [h] at hk; cases hk
    · rw [h] at hk; cases hk
    · cases R with
      | error e => simp only at hR; rw [hR] at hk; cases hk
      | ok ks =>
        refine ⟨?_, fun j hj => ?_⟩
        · have h1 := (takes_len ht).2
          have h2 := most_le' (oprOk_at (k := x.op.toNat) (by omega) (by omega))
          omega
        · obtain ⟨nj, mj, kj, h1⟩ := tFold_oks _ _ _ _ _ _ hf j hj
          exact ⟨kj, okK _ _ _ _ h1⟩
  · have : tN p g 8 x 0 = ((tN p g 8 x 0).1, .error e) := by
      have h2 : (tN p g 8 x 0).2 = .error e := he
      rw [← h2]
    exact tN_rng p g 8 x 0 _ e this
  · rcases cs with (h | h) | ⟨m, R, hf, ht, ho1, ho2, hR⟩
    · rw [h] at he; injection he with he; subst he; cases hp
    · rw [h] at he; injection he with he; subst he; cases hp
    · cases R with
      | error e2 =>
        simp only at hR
        rw [hR] at he
        injection he with he
        subst he
        obtain ⟨j, hj, nj, rest2, h1, h2, h3⟩ := tFold_er _ _ _ _ _ _ hf
        rw [hp] at h2
        injection h2 with h2a h2b
        have hij : i = j := by omega
        subst hij h2b
        refine ⟨hj, fun q hq => ?_, .inr (up _ _ _ _ h1 (fun e h => by injection h with h; subst h; exact h6))⟩
        obtain ⟨nq, mq, kq, hk⟩ := h3 q hq
        exact ⟨kq, (okK _ _ _ _ hk).1⟩
      | ok ks =>
        simp only at hR
        rw [hR] at he
        obtain ⟨h69, h1 | ⟨b, hb, hbl⟩⟩ := worth_rng he
        · rw [h1] at hp; cases hp
        · rw [hb] at hp
          injection hp with hp1 hp2
          subst hp1 hp2
          have hl := tFold_len _ _ _ _ _ _ hf
          simp only [List.length_nil, Nat.zero_add] at hl
          refine ⟨by omega, fun q hq => ?_, .inl ?_⟩
          · obtain ⟨nq, mq, kq, hk⟩ := tFold_oks _ _ _ _ _ _ hf q (by omega)
            exact ⟨kq, (okK _ _ _ _ hk).1⟩
          · obtain ⟨nq, mq, kq, hk⟩ := tFold_oks _ _ _ _ _ _ hf b (by omega)
            exact ⟨kq, (okK _ _ _ _ hk).1, h69, rfl⟩
end Go.Proofs.Yteiplejamciddaa

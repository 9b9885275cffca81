import Derived.Test.YtkojgbfocdefnaaHAll2
namespace Go.Proofs.Ytkojgbfocdefnaa
open Go.RowKit

structure HOp where
  kind : Int
  a : Int
  L : Es
def OpAt (W : World) (g off : Nat) (o : HOp) : Prop := W.cell? ⟨g, off, none⟩ = some (.int .i64 o.kind) ∧ W.cell? ⟨g, off + 1, none⟩ = some (.int .i64 o.a) ∧ ∃ lv, W.cell? ⟨g, off + 5, none⟩ = some lv ∧ EntA W lv o.L
def OpsA (W : World) (v : Value) (S : List HOp) : Prop := ∃ a cap, v = .slice a S.length cap ∧ S.length ≤ cap ∧ S.length ≤ 9223372036854775807 ∧ (S = [] ∨ ∃ g off, a = some ⟨g, off, none⟩ ∧ g < W.heap.size ∧ ∀ i (h : i < S.length), OpAt W g (off + i * 6) S[i])
theorem OpAt.later {W W' : World} {g off : Nat} {o : HOp} (h : OpAt W g off o) (hg : g < W.heap.size) (hb : Below W.heap.size W W') : OpAt W' g off o := by
  obtain ⟨h1, h2, lv, h3, h4⟩ := h
  have e : ∀ j, W'.cell? ⟨g, j, none⟩ = W.cell? ⟨g, j, none⟩ := fun j => hb.cell (p := ⟨g, j, none⟩) hg
  exact ⟨(e _).trans h1, (e _).trans h2, lv, (e _).trans h3, h4.later hb⟩
theorem OpsA.later {W W' : World} {v : Value} {S : List HOp} (h : OpsA W v S) (hb : Below W.heap.size W W') : OpsA W' v S := by
  obtain ⟨a, cap, rfl, h1, h2, h | ⟨g, off, rfl, hg, hc⟩⟩ := h
  · exact ⟨a, cap, rfl, h1, h2, .inl h⟩
  · exact ⟨_, cap, rfl, h1, h2, .inr ⟨g, off, rfl, Nat.lt_of_lt_of_le hg hb.size, fun i hi => (hc i hi).later hg hb⟩⟩

/-- What a call of a script does. -/
def hstep (s : List Es × Nat) (o : HOp) : List Es × Nat :=
  if o.kind = 1 then (if s.2 < 32 then (s.1.take (s.2 + 1) ++ [mkE o.L], s.2 + 1) else s)
  else if o.kind = 2 then (s.1, s.2 - 1)
  else if o.kind = 3 then (if s.2 + 1 < s.1.length then (s.1, s.2 + 1) else s)
  else if o.kind = 6 then (if 0 ≤ o.a ∧ o.a ≤ (s.2 : Int) then (s.1.drop o.a.toNat, s.2 - o.a.toNat) else s)
  else s

/-- What push does, whatever is there. -/
def pushS (s : List Es × Nat) (L : Es) : List Es × Nat := if s.2 < 32 then (s.1.take (s.2 + 1) ++ [L], s.2 + 1) else s
theorem push_any (hb mb : Nat) (s : List Es × Nat) (L : Es) (hL : L.length ≤ 200) (w : World) (h : HistAt w hb s.1 s.2) (hm : MapE w mb L) : Calls Try.prog 23 #[.pointer (some ⟨hb, 0, none⟩), .pointer (some ⟨mb, 0, none⟩)] w fun e w' => e = .returned (.int .i64 (if s.2 < 32 then 0 else 110)) ∧ HistAt w' hb (pushS s L).1 (pushS s L).2 ∧ w.grownBy w' (some hb) := by
  unfold pushS
  by_cases hp : s.2 < 32
  · simp only [if_pos hp]
    exact push_some hb mb s.1 s.2 hp L hL w h hm
  · simp only [if_neg hp]
    have h1 := h.1
    have h2 := h.2.1
    have e : s.2 = 32 := by omega
    rw [e] at h ⊢
    refine (push_full hb mb s.1 w h).mono ?_
    rintro e' w' ⟨rfl, hb'⟩
    exact ⟨rfl, h.later hb', grown_of_below hb'⟩
theorem undo_any (hb : Nat) (Ls : List Es) (p : Nat) (w : World) (h : HistAt w hb Ls p) : Calls Try.prog 27 #[.pointer (some ⟨hb, 0, none⟩)] w fun e w' => ∃ v, e = .returned v ∧ HistAt w' hb Ls (p - 1) ∧ w.grownBy w' (some hb) := by
  cases p with
  | zero =>
    refine (undo_none hb Ls w h).mono ?_
    rintro e w' ⟨rfl, hb'⟩
    exact ⟨_, rfl, h.later hb', grown_of_below hb'⟩
  | succ p =>
    refine (undo_some hb Ls p w h).mono ?_
    rintro e w' ⟨mb, rfl, -, -, h1, h2⟩
    exact ⟨_, rfl, h1, h2⟩
theorem redo_any (hb : Nat) (Ls : List Es) (p : Nat) (w : World) (h : HistAt w hb Ls p) : Calls Try.prog 30 #[.pointer (some ⟨hb, 0, none⟩)] w fun e w' => ∃ v, e = .returned v ∧ HistAt w' hb Ls (if p + 1 < Ls.length then p + 1 else p) ∧ w.grownBy w' (some hb) := by
  have h1 := h.1
  by_cases hp : p + 1 < Ls.length
  · rw [if_pos hp]
    refine (redo_some hb Ls p hp w h).mono ?_
    rintro e w' ⟨mb, rfl, -, -, h1, h2⟩
    exact ⟨_, rfl, h1, h2⟩
  · rw [if_neg hp]
    refine (redo_none hb Ls p (by omega) w h).mono ?_
    rintro e w' ⟨rfl, hb'⟩
    exact ⟨_, rfl, h.later hb', grown_of_below hb'⟩
def forgetS (s : List Es × Nat) (n : Int) : List Es × Nat := if 0 ≤ n ∧ n ≤ (s.2 : Int) then (s.1.drop n.toNat, s.2 - n.toNat) else s
theorem forget_any (hb : Nat) (s : List Es × Nat) (n : Int) (w : World) (h : HistAt w hb s.1 s.2) : Calls Try.prog 34 #[.pointer (some ⟨hb, 0, none⟩), .int .i64 n] w fun e w' => e = .returned (.int .i64 (if 0 ≤ n ∧ n ≤ (s.2 : Int) then 0 else 113)) ∧ HistAt w' hb (forgetS s n).1 (forgetS s n).2 ∧ w.grownBy w' (some hb) := by
  unfold forgetS
  by_cases hn : 0 ≤ n ∧ n ≤ (s.2 : Int)
  · simp only [if_pos hn]
    obtain ⟨m, rfl⟩ : ∃ m : Nat, n = (m : Int) := ⟨n.toNat, by omega⟩
    have := forget_some hb s.1 s.2 m (by omega) w h
    simpa using this
  · simp only [if_neg hn]
    refine (forget_bad hb s.1 s.2 n (by omega) w h).mono ?_
    rintro e w' ⟨rfl, hb'⟩
    exact ⟨rfl, h.later hb', grown_of_below hb'⟩

end Go.Proofs.Ytkojgbfocdefnaa

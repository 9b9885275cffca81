import Derived.Test.YthbojlbgjmecoaaGreatDjB
/- OPEN, PUT AND FOLD OF P19.7 TO P19.9. No program. -/
namespace Go.Proofs.YthbojlbgjmecoaaGreat.DJ

abbrev Rec := Nat × List Nat

def recsF (sum : Nat) : Nat → List Nat → Nat → List Rec × Nat
  | 0, _, _ => ([], 0)
  | n + 1, b, k =>
    match whole b k with
    | none => ([], 0)
    | some (s, kd, bd) => if s = sum then ((kd, bd) :: (recsF sum n (b.drop (18 + bd.length)) (k + 1)).1, 18 + bd.length + (recsF sum n (b.drop (18 + bd.length)) (k + 1)).2) else ([], 0)
def recs (sum : Nat) (b : List Nat) (k : Nat) : List Rec × Nat := recsF sum b.length b k
theorem recsF_rd (sum : Nat) : ∀ (n : Nat) (b : List Nat) (k : Nat), b.length ≤ n → Rd sum b k (recsF sum n b k).1 (recsF sum n b k).2 := by
  intro n
  induction n with
  | zero =>
    intro b k hl
    obtain rfl : b = [] := List.length_eq_zero_iff.mp (by omega)
    exact .stop (fun kd bd h => by rw [whole_nil] at h; cases h)
  | succ n ih =>
    intro b k hl
    cases hw : whole b k with
    | none =>
      simp only [recsF, hw]
      exact .stop (fun kd bd h => by rw [hw] at h; cases h)
    | some t =>
      obtain ⟨s, kd, bd⟩ := t
      by_cases hs : s = sum
      · subst hs
        simp only [recsF, hw, if_true]
        obtain ⟨rest, hr, -, -⟩ := whole_some hw
        exact .more hw (ih _ _ (by rw [List.length_drop]; omega))
      · simp only [recsF, hw, if_neg hs]
        exact .stop (fun kd bd h => by rw [hw] at h; cases h; exact hs rfl)
theorem recs_eq {sum : Nat} {b : List Nat} {k : Nat} {l : List Rec} {n : Nat} (h : Rd sum b k l n) : recs sum b k = (l, n) := by
  obtain ⟨h1, h2⟩ := (recsF_rd sum b.length b k (Nat.le_refl _)).one h
  exact Prod.ext h1 h2

/-- The file of the greatest generation that can be read. -/
def better (acc : Option Fl) (f : Fl) : Option Fl := if (acc.map fun a => genOf a.nm).getD 0 < genOf f.nm ∧ (whole f.dat 0).isSome then some f else acc
def best (fs : List Fl) : Option Fl := fs.foldl better none
def others (fs : List Fl) (g : Nat) : List (List Nat) := (fs.filter fun f => genOf f.nm ≠ 0 ∧ genOf f.nm ≠ g).map fun f => f.nm
def andThen (r : Nat × Dk) (k : Dk → Nat × Dk) : Nat × Dk := if r.1 ≠ 0 then r else k r.2
def removes : List (List Nat) → Dk → Nat × Dk
  | [], d => (0, d)
  | n :: l, d => andThen (remove d n) (removes l)
def lays (d : Dk) (nm p : List Nat) : Nat × Dk := andThen (append d nm p) fun c => sync c nm
def mend (d : Dk) (f : Fl) (at_ : Nat) : Nat × Dk :=
  andThen (if at_ < f.dat.length then trim d f.nm at_ else (0, d)) fun d1 =>
  andThen (if f.sure < at_ then sync d1 f.nm else (0, d1)) fun d2 => removes (others d2.fs (genOf f.nm)) d2
def openD (d : Dk) (sum : Nat) : Nat × Option (Nat × List Nat × List Rec) × Dk :=
  if d.down then (190, none, d) else
  match best d.fs with
  | none =>
    if (andThen (removes (others d.fs 0) d) fun d1 => lays d1 (Nm 1) (piece 0 sum 0 [])).1 ≠ 0
    then ((andThen (removes (others d.fs 0) d) fun d1 => lays d1 (Nm 1) (piece 0 sum 0 [])).1, none, (andThen (removes (others d.fs 0) d) fun d1 => lays d1 (Nm 1) (piece 0 sum 0 [])).2)
    else (0, some (1, [], []), (andThen (removes (others d.fs 0) d) fun d1 => lays d1 (Nm 1) (piece 0 sum 0 [])).2)
  | some f =>
    match whole f.dat 0 with
    | none => (0, none, d)
    | some (s, _, bd) =>
      if s ≠ sum then (198, none, d)
      else if (mend d f (18 + bd.length + (recs sum (f.dat.drop (18 + bd.length)) 1).2)).1 ≠ 0
      then ((mend d f (18 + bd.length + (recs sum (f.dat.drop (18 + bd.length)) 1).2)).1, none, (mend d f (18 + bd.length + (recs sum (f.dat.drop (18 + bd.length)) 1).2)).2)
      else (0, some (genOf f.nm, bd, (recs sum (f.dat.drop (18 + bd.length)) 1).1), (mend d f (18 + bd.length + (recs sum (f.dat.drop (18 + bd.length)) 1).2)).2)
def putD (d : Dk) (sum g n : Nat) (r : Rec) : Nat × Dk := lays d (Nm g) (piece (n + 1) sum r.1 r.2)
def foldD (d : Dk) (sum g : Nat) (s : List Nat) : Nat × Dk := andThen (lays d (Nm (g + 1)) (piece 0 sum 0 s)) fun c => remove c (Nm g)

/-- What a chain of calls can come to: done, with P; or an error, with Q. If c, it is done, and all stays calm. -/
structure Out (c : Prop) (r : Nat × Dk) (P Q : List Fl → Prop) : Prop where
  out : (r.1 = 0 ∧ P r.2.fs) ∨ ((r.1 = 190 ∨ r.1 = 191 ∨ r.1 = 194) ∧ Q r.2.fs)
  calm : c → r.1 = 0 ∧ Calm r.2
theorem Out.done {d : Dk} {P Q : List Fl → Prop} (h : P d.fs) : Out (Calm d) (0, d) P Q := ⟨.inl ⟨rfl, h⟩, fun c => ⟨rfl, c⟩⟩
theorem Out.then {c : Prop} {r : Nat × Dk} {k : Dk → Nat × Dk} {P P' Q : List Fl → Prop} (h : Out c r P Q) (hk : ∀ d, P d.fs → Out (Calm d) (k d) P' Q) : Out c (andThen r k) P' Q := by
  unfold andThen
  rcases h.out with ⟨h0, hp⟩ | ⟨he, hq⟩
  · rw [if_neg (by omega)]
    exact ⟨(hk _ hp).out, fun hc => (hk _ hp).calm (h.calm hc).2⟩
  · rw [if_pos (by omega)]
    exact ⟨.inr ⟨he, hq⟩, fun hc => absurd (h.calm hc).1 (by omega)⟩
theorem Out.mono {c : Prop} {r : Nat × Dk} {P P' Q Q' : List Fl → Prop} (h : Out c r P Q) (hp : ∀ fs, P fs → P' fs) (hq : ∀ fs, Q fs → Q' fs) : Out c r P' Q' :=
  ⟨h.out.imp (fun x => ⟨x.1, hp _ x.2⟩) (fun x => ⟨x.1, hq _ x.2⟩), h.calm⟩
theorem out_append {d : Dk} {nm data : List Nat} {P Q : List Fl → Prop} (h : named nm) (hp : P (lay d.fs nm data)) (hq : Q d.fs) (hn : ∀ n, Q (lay d.fs nm (data.take n))) :
    Out (Calm d ∧ size d.fs nm + data.length ≤ 2097152 ∧ d.fs.length < 40) (append d nm data) P Q := by
  refine ⟨?_, ?_⟩
  · rcases append_out' d nm data h with ⟨h0, h1⟩ | ⟨he, h1⟩
    · exact .inl ⟨h0, h1 ▸ hp⟩
    · refine .inr ⟨he, ?_⟩
      rcases h1 with h1 | ⟨n, h1⟩
      · exact h1 ▸ hq
      · exact h1 ▸ hn n
  · rintro ⟨hc, hs, hl⟩
    rw [append_calm h hs hl hc]
    exact ⟨rfl, hc⟩
theorem out_changes {d : Dk} {nm : List Nat} {g : List Fl → List Fl} {P Q : List Fl → Prop} (h : named nm) (hg : get d.fs nm ≠ none) (hp : P (g d.fs)) (hq : Q d.fs) : Out (Calm d) (changes d nm g) P Q := by
  refine ⟨?_, ?_⟩
  · rcases changes_out d nm g h hg with ⟨h0, h1⟩ | ⟨he, h1⟩
    · exact .inl ⟨h0, h1 ▸ hp⟩
    · exact .inr ⟨by omega, h1 ▸ hq⟩
  · intro hc
    rw [changes_calm h hg hc]
    exact ⟨rfl, hc⟩
theorem Out.weak {c c' : Prop} {r : Nat × Dk} {P Q : List Fl → Prop} (h : Out c r P Q) (hc : c' → c) : Out c' r P Q := ⟨h.out, fun x => h.calm (hc x)⟩
/-- Append, Sync. -/
theorem out_lays {d : Dk} {nm p : List Nat} {P Q : List Fl → Prop} (h : named nm) (hq : Q d.fs) (hn : ∀ n, Q (lay d.fs nm (p.take n))) (hg : get (lay d.fs nm p) nm ≠ none) (hp : P (upd (lay d.fs nm p) nm syncF)) :
    Out (Calm d ∧ size d.fs nm + p.length ≤ 2097152 ∧ d.fs.length < 40) (lays d nm p) P Q := by
  refine Out.then (P := fun fs => fs = lay d.fs nm p) (out_append h rfl hq hn) ?_
  intro c hc
  refine out_changes h (by rw [hc]; exact hg) (by rw [hc]; exact hp) ?_
  rw [hc]
  have := hn p.length
  rwa [List.take_length] at this
end Go.Proofs.YthbojlbgjmecoaaGreat.DJ

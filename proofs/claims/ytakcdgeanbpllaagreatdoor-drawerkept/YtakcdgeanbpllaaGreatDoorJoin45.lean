import Derived.Test.YtakcdgeanbpllaaGreatDoorJoin44
import Derived.Test.YtakcdgeanbpllaaGreatDoorDjA
import Derived.Test.YtakcdgeanbpllaaGreatDoorDjC
import Derived.Test.YtakcdgeanbpllaaGreatDoorDlC
import Derived.Deep.SlicePairs
/- What known() meets, reckoned. -/
namespace Go.Proofs.YtakcdgeanbpllaaGreatDoor.DJ

def kd1 : Dk := (openD dk0 7).2.2
def kd2 : Dk := (putR kd1 7 1 0 false (5, [97])).2.1
def kd3 : Dk := arm kd2 3
def kd4 : Dk := (putR kd3 7 1 1 false (6, [98])).2.1
def kd5 : Dk := restart kd4 [100]
theorem kf1 : (putR kd1 7 1 0 false (5, [97])).1 = 0 ∧ (putR kd1 7 1 0 false (5, [97])).2.2 = (1, false) := by decide +kernel
theorem kf2 : (putR kd3 7 1 1 false (6, [98])).1 = 190 ∧ (putR kd3 7 1 1 false (6, [98])).2.2 = (1, true) := by decide +kernel
theorem kf3 : (openD kd5 7).1 = 0 ∧ (openD kd5 7).2.1 = some (1, [], [(5, [97])]) := by decide +kernel
theorem kf4 : kd5.fs.map (·.nm) = [Nm 1] := by decide +kernel
theorem kall5 : ∀ f ∈ kd5.fs, ∃ k, k ≤ 99999999 ∧ f.nm = Nm k := fun f hf => by
  have : f.nm ∈ kd5.fs.map (·.nm) := List.mem_map_of_mem hf
  rw [kf4] at this
  exact ⟨1, by decide, List.mem_singleton.1 this⟩
end Go.Proofs.YtakcdgeanbpllaaGreatDoor.DJ


/- THE SUM FINDS EVERY BYTE THAT IS CHANGED. No program. -/
namespace Go.Proofs.YtakcdgeanbpllaaGreatDoor.DJ

theorem mul_inj {a b : Nat} (ha : a < 4294967296) (hb : b < 4294967296) (h : a * 16777619 % 4294967296 = b * 16777619 % 4294967296) : a = b := by
  have key : ∀ c : Nat, c < 4294967296 → c * 16777619 % 4294967296 * 899433627 % 4294967296 = c := by
    intro c hc
    rw [Nat.mod_mul_mod, Nat.mul_assoc, Nat.mul_mod, show 16777619 * 899433627 % 4294967296 = 1 by decide, Nat.mul_one, Nat.mod_mod, Nat.mod_eq_of_lt hc]
  rw [← key a ha, ← key b hb, h]
theorem xor_left {h x y : Nat} (e : h ^^^ x = h ^^^ y) : x = y := by
  have : h ^^^ (h ^^^ x) = h ^^^ (h ^^^ y) := by rw [e]
  rwa [← Nat.xor_assoc, ← Nat.xor_assoc, Nat.xor_self, Nat.zero_xor, Nat.zero_xor] at this
theorem xor_right {h g x : Nat} (e : h ^^^ x = g ^^^ x) : h = g := by
  have : h ^^^ x ^^^ x = g ^^^ x ^^^ x := by rw [e]
  rwa [Nat.xor_assoc, Nat.xor_assoc, Nat.xor_self, Nat.xor_zero, Nat.xor_zero] at this
theorem fn1_state {h g x : Nat} (hh : h < 4294967296) (hg : g < 4294967296) (hx : x < 256) (e : fn1 h x = fn1 g x) : h = g := by
  have l1 : h ^^^ x < 4294967296 := Nat.xor_lt_two_pow (n := 32) hh (by omega)
  have l2 : g ^^^ x < 4294967296 := Nat.xor_lt_two_pow (n := 32) hg (by omega)
  exact xor_right (mul_inj l1 l2 e)
theorem fn1_byte {h x y : Nat} (hh : h < 4294967296) (hx : x < 256) (hy : y < 256) (e : fn1 h x = fn1 h y) : x = y := by
  have l1 : h ^^^ x < 4294967296 := Nat.xor_lt_two_pow (n := 32) hh (by omega)
  have l2 : h ^^^ y < 4294967296 := Nat.xor_lt_two_pow (n := 32) hh (by omega)
  exact xor_left (mul_inj l1 l2 e)
theorem fold_state (bs : List Nat) : ∀ {h g : Nat}, h < 4294967296 → g < 4294967296 → (∀ x ∈ bs, x < 256) → bs.foldl fn1 h = bs.foldl fn1 g → h = g := by
  induction bs with
  | nil => intro h g _ _ _ e; exact e
  | cons x bs ih =>
    intro h g hh hg hb e
    exact fn1_state hh hg (hb x List.mem_cons_self) (ih (fn1_lt h x) (fn1_lt g x) (fun y hy => hb y (List.mem_cons_of_mem _ hy)) e)
/-- One byte changed: another sum. -/
theorem fnv_turn {u v : List Nat} {x y : Nat} (hv : ∀ z ∈ v, z < 256) (hx : x < 256) (hy : y < 256) (e : fnv (u ++ x :: v) = fnv (u ++ y :: v)) : x = y := by
  unfold fnv at e
  rw [List.foldl_append, List.foldl_append, List.foldl_cons, List.foldl_cons] at e
  have hu : List.foldl fn1 fnv0 u < 4294967296 := fnv_lt u
  exact fn1_byte hu hx hy (fold_state v (fn1_lt _ x) (fn1_lt _ y) hv e)

/-- A piece with one byte changed, but for the four of its length, is whole nowhere with its own number. -/
theorem whole_turn {num sum kind k : Nat} {body u v rest : List Nat} {x y : Nat} (hk : kind < 256) (hb : ∀ z ∈ body, z < 256) (hl : body.length ≤ 1048576)
    (hp : piece num sum kind body = u ++ x :: v) (hy : y < 256) (hxy : x ≠ y) (hu : u.length < 9 ∨ 13 ≤ u.length) : whole (u ++ y :: v ++ rest) k = none := by
  have hall := piece_bytes (num := num) (sum := sum) hk hb
  rw [hp] at hall
  have hx : x < 256 := hall x (List.mem_append_right _ List.mem_cons_self)
  have hv : ∀ z ∈ v, z < 256 := fun z hz => hall z (List.mem_append_right _ (List.mem_cons_of_mem _ hz))
  have hlen : u.length + 1 + v.length = body.length + 18 := by
    have := congrArg List.length hp
    rw [piece_len, List.length_append, List.length_cons] at this
    omega
  cases hw : whole (u ++ y :: v ++ rest) k with
  | none => rfl
  | some t =>
    obtain ⟨s, kd, bd⟩ := t
    exfalso
    obtain ⟨rest2, hr, hl2, -⟩ := whole_some hw
    -- the lengths are the same
    have t1 : told ((u ++ y :: v ++ rest).drop 9) = bd.length := by rw [hr, drop_piece9]; exact told_four _ (by omega) _
    have t2 : told ((u ++ x :: v).drop 9) = body.length := by rw [← hp, ← List.append_nil (piece num sum kind body), drop_piece9]; exact told_four _ (by omega) _
    have t3 : ∀ i, i < 4 → ((u ++ y :: v ++ rest).drop 9).getD i 0 = ((u ++ x :: v).drop 9).getD i 0 := by
      intro i hi
      rw [List.getD_eq_getElem?_getD, List.getD_eq_getElem?_getD, List.getElem?_drop, List.getElem?_drop]
      congr 1
      rcases hu with h | h
      · obtain ⟨m, hm⟩ : ∃ m, 9 + i - u.length = m + 1 := ⟨9 + i - u.length - 1, by omega⟩
        have q1 : (u ++ (y :: v ++ rest))[9 + i]? = (y :: v ++ rest)[m + 1]? := by rw [List.getElem?_append_right (by omega), hm]
        have q2 : (u ++ x :: v)[9 + i]? = (x :: v)[m + 1]? := by rw [List.getElem?_append_right (by omega), hm]
        rw [List.append_assoc, q1, q2, List.cons_append, List.getElem?_cons_succ, List.getElem?_cons_succ, List.getElem?_append_left (by omega)]
      · rw [List.append_assoc, List.getElem?_append_left (by omega), List.getElem?_append_left (by omega)]
    have t4 : bd.length = body.length := by
      rw [← t1, ← t2]
      unfold told
      rw [t3 0 (by decide), t3 1 (by decide), t3 2 (by decide), t3 3 (by decide)]
    -- so both are pieces of the same length
    have e1 : u ++ y :: v = piece k s kd bd := by
      have h1 : (u ++ y :: v ++ rest).take (body.length + 18) = u ++ y :: v := List.take_left' (by rw [List.length_append, List.length_cons]; omega)
      have h2 : (piece k s kd bd ++ rest2).take (body.length + 18) = piece k s kd bd := List.take_left' (by rw [piece_len, t4])
      rw [← h1, hr, h2]
    by_cases hc : u.length < body.length + 14
    · -- the byte stands ahead of the sum
      obtain ⟨v1, v2, rfl, hv2⟩ : ∃ v1 v2, v = v1 ++ v2 ∧ v2.length = 4 := ⟨v.take (v.length - 4), v.drop (v.length - 4), (List.take_append_drop _ _).symm, by rw [List.length_drop]; omega⟩
      have a1 := hp
      unfold piece at a1
      rw [← List.cons_append, ← List.append_assoc] at a1
      obtain ⟨b1, b2⟩ := List.append_inj' a1 (by rw [four_len, hv2])
      have c1 := e1
      unfold piece at c1
      rw [← List.cons_append, ← List.append_assoc] at c1
      obtain ⟨d1, d2⟩ := List.append_inj' c1 (by rw [four_len, hv2])
      have hf := four_inj (fnv_lt _) (fnv_lt _) (b2.trans d2)
      rw [b1, ← d1] at hf
      exact hxy (fnv_turn (fun z hz => hv z (List.mem_append_left _ hz)) hx hy hf)
    · -- it is one of the sum's own
      obtain ⟨u1, u2, rfl, hu1⟩ : ∃ u1 u2, u = u1 ++ u2 ∧ u1.length = body.length + 14 := ⟨u.take (body.length + 14), u.drop (body.length + 14), (List.take_append_drop _ _).symm, by rw [List.length_take]; omega⟩
      have a1 := hp
      unfold piece at a1
      rw [List.append_assoc] at a1
      obtain ⟨b1, b2⟩ := List.append_inj a1 (by rw [body0_len, hu1])
      have c1 := e1
      unfold piece at c1
      rw [List.append_assoc] at c1
      obtain ⟨d1, d2⟩ := List.append_inj c1 (by rw [body0_len, hu1, t4])
      rw [b1, d1] at b2
      rw [← d2] at b2
      have := List.append_cancel_left b2
      injection this with h _
      exact hxy h.symm
end Go.Proofs.YtakcdgeanbpllaaGreatDoor.DJ


/- WHAT STANDS ON A DISK THAT NOBODY ELSE WRITES ON (P19.11). No program. -/
namespace Go.Proofs.YtakcdgeanbpllaaGreatDoor.DJ

structure Good (sum : Nat) (s : List Nat) (R : List Rec) : Prop where
  sum : sum < 4294967296
  s : s.length ≤ 1048576
  R : ∀ r ∈ R, r.2.length ≤ 1048576

def main (sum : Nat) (s : List Nat) (R : List Rec) (g : Nat) : Fl := ⟨Nm g, enc sum s R, (enc sum s R).length⟩
def torn (sum : Nat) (s : List Nat) (g n k : Nat) : Fl := ⟨Nm g, (piece 0 sum 0 s).take n, k⟩
def tail (sum : Nat) (s : List Nat) (R : List Rec) (r : Rec) (g n k : Nat) : Fl := ⟨Nm g, enc sum s R ++ (piece (R.length + 1) sum r.1 r.2).take n, k⟩

/-- The journal's one file, all sure. -/
def Base (sum : Nat) (s : List Nat) (R : List Rec) (g : Nat) (fs : List Fl) : Prop := fs = [main sum s R g] ∧ Good sum s R ∧ 1 ≤ g ∧ g ≤ 99999999

/-- What may stand there: L: a record in flight, F: a summary in flight. -/
inductive Shp (sum : Nat) (s : List Nat) (R : List Rec) (L : Option Rec) (F : Option (List Nat)) (g : Nat) : List Fl → Prop
  | base : Shp sum s R L F g [main sum s R g]
  | late {r : Rec} {n k : Nat} : L = some r → n ≤ r.2.length + 18 → (enc sum s R).length ≤ k → k ≤ (enc sum s R).length + n → Shp sum s R L F g [tail sum s R r g n k]
  | foldA {t : List Nat} {n k : Nat} : F = some t → n ≤ t.length + 18 → k ≤ n → Shp sum s R L F g [main sum s R g, torn sum t (g + 1) n k]
  | foldB {t : List Nat} {n k : Nat} : F = some t → n ≤ t.length + 18 → k ≤ n → Shp sum s R L F g [torn sum t (g + 1) n k, main sum s R g]
  | none : s = [] → R = [] → g = 1 → Shp sum s R L F g []
  | fresh {n k : Nat} : s = [] → R = [] → g = 1 → n ≤ 18 → k ≤ n → Shp sum s R L F g [torn sum [] 1 n k]

/-- The bounds of what stands there and of what is in flight. -/
structure Fine (sum : Nat) (s : List Nat) (R : List Rec) (L : Option Rec) (F : Option (List Nat)) (g : Nat) : Prop where
  good : Good sum s R
  L : ∀ r, L = some r → r.2.length ≤ 1048576
  F : ∀ t, F = some t → t.length ≤ 1048576 ∧ g + 1 ≤ 99999999
  one : 1 ≤ g
  top : g ≤ 99999999

/-- What Open may tell. -/
def May (s : List Nat) (R : List Rec) (L : Option Rec) (F : Option (List Nat)) (s' : List Nat) (R' : List Rec) : Prop :=
  (s' = s ∧ (R' = R ∨ ∃ r, L = some r ∧ R' = R ++ [r])) ∨ (F = some s' ∧ R' = [])

theorem enc_nil (sum : Nat) (s : List Nat) : enc sum s [] = piece 0 sum 0 s := by simp [enc, encR]
theorem enc_drop (sum : Nat) (s t : List Nat) (R : List Rec) : (enc sum s R ++ t).drop (18 + s.length) = encR sum 1 R ++ t := by
  unfold enc
  rw [List.append_assoc, List.drop_left']
  rw [piece_len]; omega
theorem enc_len (sum : Nat) (s : List Nat) (R : List Rec) : (enc sum s R).length = 18 + s.length + (encR sum 1 R).length := by
  unfold enc; rw [List.length_append, piece_len]; omega
theorem enc_whole {sum : Nat} {s : List Nat} {R : List Rec} (h : Good sum s R) (t : List Nat) : whole (enc sum s R ++ t) 0 = some (sum, 0, s) := by
  unfold enc; rw [List.append_assoc]; exact whole_piece 0 sum 0 s _ h.sum h.s (fun _ => rfl)
theorem enc_recs {sum : Nat} {s : List Nat} {R : List Rec} (h : Good sum s R) {t : List Nat} (ht : ∀ kd bd, whole t (R.length + 1) ≠ some (sum, kd, bd)) :
    recs sum ((enc sum s R ++ t).drop (18 + s.length)) 1 = (R, (encR sum 1 R).length) := by
  rw [enc_drop]
  apply recs_eq
  have := Rd.encR h.sum (l := R) (k := 1) (rest := t) (l' := []) (n := 0) (by decide) h.R (.stop (by rw [Nat.add_comm]; exact ht))
  simpa using this

theorem get_one (f : Fl) : get [f] f.nm ≠ none := by simp [get]
theorem upd_one (f : Fl) (u : Fl → Fl) : upd [f] f.nm u = [u f] := by simp [upd]

/-- Open's answer where the file that it takes is known. -/
theorem open_some {d : Dk} {sum : Nat} {f : Fl} {s t : List Nat} {R : List Rec} {P Q : List Fl → Prop} (hu : d.down = false) (hb : best d.fs = some f) (hf : f.dat = enc sum s R ++ t) (hg : Good sum s R)
    (ht : ∀ kd bd, whole t (R.length + 1) ≠ some (sum, kd, bd)) (hm : Out (Calm d) (mend d f (enc sum s R).length) P Q) :
    (((openD d sum).1 = 0 ∧ (openD d sum).2.1 = some (genOf f.nm, s, R) ∧ P (openD d sum).2.2.fs) ∨
      (((openD d sum).1 = 190 ∨ (openD d sum).1 = 191 ∨ (openD d sum).1 = 194) ∧ (openD d sum).2.1 = none ∧ Q (openD d sum).2.2.fs)) ∧ (Calm d → (openD d sum).1 = 0 ∧ Calm (openD d sum).2.2) := by
  have hw := enc_whole hg t
  have hr := enc_recs hg ht
  rw [← hf] at hw hr
  have ha : 18 + s.length + (encR sum 1 R).length = (enc sum s R).length := (enc_len sum s R).symm
  have ho : openD d sum = if (mend d f (enc sum s R).length).1 ≠ 0 then ((mend d f (enc sum s R).length).1, none, (mend d f (enc sum s R).length).2) else (0, some (genOf f.nm, s, R), (mend d f (enc sum s R).length).2) := by
    unfold openD
    rw [hu, hb]
    simp only [hw, hr, ha]
    simp
  rw [ho]
  rcases hm.out with ⟨h0, hp⟩ | ⟨he, hq⟩
  · rw [if_neg (by omega)]
    exact ⟨.inl ⟨rfl, rfl, hp⟩, fun hc => ⟨rfl, (hm.calm hc).2⟩⟩
  · rw [if_pos (by omega)]
    exact ⟨.inr ⟨he, rfl, hq⟩, fun hc => ⟨(hm.calm hc).1, (hm.calm hc).2⟩⟩
theorem open_none {d : Dk} {sum : Nat} {P Q : List Fl → Prop} (hu : d.down = false) (hb : best d.fs = none) (hm : Out (Calm d) (andThen (removes (others d.fs 0) d) fun d1 => lays d1 (Nm 1) (piece 0 sum 0 [])) P Q) :
    (((openD d sum).1 = 0 ∧ (openD d sum).2.1 = some (1, [], []) ∧ P (openD d sum).2.2.fs) ∨
      (((openD d sum).1 = 190 ∨ (openD d sum).1 = 191 ∨ (openD d sum).1 = 194) ∧ (openD d sum).2.1 = none ∧ Q (openD d sum).2.2.fs)) ∧ (Calm d → (openD d sum).1 = 0 ∧ Calm (openD d sum).2.2) := by
  have ho : openD d sum = if (andThen (removes (others d.fs 0) d) fun d1 => lays d1 (Nm 1) (piece 0 sum 0 [])).1 ≠ 0 then ((andThen (removes (others d.fs 0) d) fun d1 => lays d1 (Nm 1) (piece 0 sum 0 [])).1, none, (andThen (removes (others d.fs 0) d) fun d1 => lays d1 (Nm 1) (piece 0 sum 0 [])).2) else (0, some (1, [], []), (andThen (removes (others d.fs 0) d) fun d1 => lays d1 (Nm 1) (piece 0 sum 0 [])).2) := by
    unfold openD
    rw [hu, hb]
    simp
  rw [ho]
  rcases hm.out with ⟨h0, hp⟩ | ⟨he, hq⟩
  · rw [if_neg (by omega)]
    exact ⟨.inl ⟨rfl, rfl, hp⟩, fun hc => ⟨rfl, (hm.calm hc).2⟩⟩
  · rw [if_pos (by omega)]
    exact ⟨.inr ⟨he, rfl, hq⟩, fun hc => ⟨(hm.calm hc).1, (hm.calm hc).2⟩⟩

/-- One file: the rest is cut off, all is made sure. -/
theorem mend_one {d : Dk} {f : Fl} {n : Nat} {Q : List Fl → Prop} (hd : d.fs = [f]) (hn : named f.nm) (hl : n ≤ f.dat.length) (hk : f.sure ≤ f.dat.length) (hq : Q [f]) (ht : n < f.dat.length → Q [trimF n f]) :
    Out (Calm d) (mend d f n) (fun fs => fs = [⟨f.nm, f.dat.take n, n⟩]) Q := by
  unfold mend
  refine Out.then (P := fun fs => fs = [⟨f.nm, f.dat.take n, if n < f.dat.length then min f.sure n else f.sure⟩]) ?_ ?_
  · split
    · rename_i hlt
      refine out_changes hn (by rw [hd]; exact get_one f) ?_ (by rw [hd]; exact hq)
      rw [hd, upd_one]
      simp only [trimF, Int.toNat_natCast, List.length_take, Nat.min_eq_left hl]
    · refine Out.done ?_
      rw [hd, List.take_of_length_le (by omega)]
  · intro c hc
    have hq' : Q c.fs := by
      rw [hc]
      split
      · rename_i hlt
        have := ht hlt
        simpa only [trimF, List.length_take, Nat.min_eq_left hl] using this
      · rw [List.take_of_length_le (by omega)]; exact hq
    refine Out.then (P := fun fs => fs = [⟨f.nm, f.dat.take n, n⟩]) ?_ ?_
    · split
      · rename_i hlt
        refine out_changes hn (by rw [hc]; exact get_one ⟨f.nm, _, _⟩) ?_ hq'
        rw [hc]
        show upd [(⟨f.nm, _, _⟩ : Fl)] (⟨f.nm, f.dat.take n, 0⟩ : Fl).nm syncF = _
        simp [upd, syncF, Nat.min_eq_left hl]
      · refine Out.done ?_
        rw [hc]
        congr 2
        split <;> omega
    · intro e he
      rw [he]
      have : others [(⟨f.nm, f.dat.take n, n⟩ : Fl)] (genOf f.nm) = [] := by simp [others]
      rw [this]
      exact Out.done he
end Go.Proofs.YtakcdgeanbpllaaGreatDoor.DJ


/- OPEN KEEPS WHAT WAS TOLD (P19.11). No program. -/
namespace Go.Proofs.YtakcdgeanbpllaaGreatDoor.DJ

theorem main_eq (sum : Nat) (s : List Nat) (R : List Rec) (g : Nat) : main sum s R g = ⟨Nm g, enc sum s R, (enc sum s R).length⟩ := rfl
theorem torn_eq (sum : Nat) (s : List Nat) (g n k : Nat) : torn sum s g n k = ⟨Nm g, (piece 0 sum 0 s).take n, k⟩ := rfl
theorem tail_eq (sum : Nat) (s : List Nat) (R : List Rec) (r : Rec) (g n k : Nat) : tail sum s R r g n k = ⟨Nm g, enc sum s R ++ (piece (R.length + 1) sum r.1 r.2).take n, k⟩ := rfl
theorem take_piece (num sum kind n : Nat) (body : List Nat) (h : body.length + 18 ≤ n) : (piece num sum kind body).take n = piece num sum kind body := List.take_of_length_le (by rw [piece_len]; exact h)

theorem take_min {l : List Nat} {n m : Nat} (h : l.length = m) : l.take (min n m) = l.take n := by
  by_cases hn : n ≤ m
  · rw [Nat.min_eq_left hn]
  · rw [Nat.min_eq_right (by omega), List.take_of_length_le (by omega), List.take_of_length_le (by omega)]

theorem nothing {k sum : Nat} : ∀ kd bd, whole [] k ≠ some (sum, kd, bd) := fun kd bd h => by rw [whole_nil] at h; cases h

/-- Open's promise at a disk. -/
def Opens (sum : Nat) (s : List Nat) (R : List Rec) (L : Option Rec) (F : Option (List Nat)) (g : Nat) (d : Dk) : Prop :=
  (((openD d sum).1 = 0 ∧ (∃ g' s' R', (openD d sum).2.1 = some (g', s', R') ∧ May s R L F s' R' ∧ (g' = g ∨ (g' = g + 1 ∧ F.isSome)) ∧ Base sum s' R' g' (openD d sum).2.2.fs)) ∨
    (((openD d sum).1 = 190 ∨ (openD d sum).1 = 191 ∨ (openD d sum).1 = 194) ∧ (openD d sum).2.1 = none ∧ Shp sum s R L F g (openD d sum).2.2.fs)) ∧ (Calm d → (openD d sum).1 = 0 ∧ Calm (openD d sum).2.2)

theorem best_one {f : Fl} (hg : 0 < genOf f.nm) (hw : (whole f.dat 0).isSome) : best [f] = some f := by simp [best, better, hg, hw]
theorem best_torn {f : Fl} (hw : whole f.dat 0 = none) : best [f] = none := by simp [best, better, hw]

/-- One file that can be read. -/
theorem open_one {sum : Nat} {s s' t : List Nat} {R R' : List Rec} {L : Option Rec} {F : Option (List Nat)} {g g' : Nat} {d : Dk} {f : Fl} (hu : d.down = false) (hd : d.fs = [f]) (hn : f.nm = Nm g') (h1 : 1 ≤ g') (h9 : g' ≤ 99999999)
    (hf : f.dat = enc sum s' R' ++ t) (hg : Good sum s' R') (ht : ∀ kd bd, whole t (R'.length + 1) ≠ some (sum, kd, bd)) (hk : f.sure ≤ f.dat.length)
    (hq : Shp sum s R L F g [f]) (hq' : t ≠ [] → Shp sum s R L F g [trimF (enc sum s' R').length f]) (hm : May s R L F s' R') (hgg : g' = g ∨ (g' = g + 1 ∧ F.isSome)) : Opens sum s R L F g d := by
  have hgen : genOf f.nm = g' := by rw [hn]; exact gen_Nm g' h9
  have hb : best d.fs = some f := by
    rw [hd]
    refine best_one (by omega) ?_
    rw [hf, enc_whole hg t]; rfl
  have hl : (enc sum s' R').length ≤ f.dat.length := by rw [hf, List.length_append]; omega
  have hmend := mend_one (d := d) (f := f) (n := (enc sum s' R').length) (Q := Shp sum s R L F g) hd (by rw [hn]; exact named_Nm g') hl hk hq (fun h => hq' (by
    rintro rfl
    rw [hf, List.append_nil] at h
    omega))
  obtain ⟨h, hc⟩ := open_some hu hb hf hg ht hmend
  refine ⟨?_, hc⟩
  rcases h with ⟨a, b, e⟩ | h
  · refine .inl ⟨a, g', s', R', by rw [b, hgen], hm, hgg, ?_, hg, h1, h9⟩
    rw [e, hf, List.take_left' rfl, hn, main_eq]
  · exact .inr h

/-- The beginning: an empty summary is laid down. -/
theorem lays_begin {sum : Nat} (hs : sum < 4294967296) {s : List Nat} {R : List Rec} {L : Option Rec} {F : Option (List Nat)} {g : Nat} (h1 : s = []) (h2 : R = []) (h3 : g = 1) (d : Dk) (hd : d.fs = []) :
    Out (Calm d) (lays d (Nm 1) (piece 0 sum 0 [])) (Base sum [] [] 1) (Shp sum s R L F g) := by
  have hlay : ∀ p, lay d.fs (Nm 1) p = [⟨Nm 1, p, 0⟩] := by intro p; rw [hd]; rfl
  have h18 : (piece 0 sum 0 []).length = 18 := by rw [piece_len]; rfl
  refine Out.weak (out_lays (named_Nm 1) (by rw [hd]; exact .none h1 h2 h3) ?_ ?_ ?_) (fun hc => ⟨hc, ?_, ?_⟩)
  · intro n
    rw [hlay]
    have := Shp.fresh (sum := sum) (s := s) (R := R) (L := L) (F := F) (g := g) (n := min n 18) (k := 0) h1 h2 h3 (by omega) (by omega)
    rw [torn_eq] at this
    rwa [show (piece 0 sum 0 []).take (min n 18) = (piece 0 sum 0 []).take n from take_min h18] at this
  · rw [hlay]; exact get_one ⟨Nm 1, _, _⟩
  · rw [hlay]
    refine ⟨?_, ⟨hs, by simp, by simp⟩, by decide, by decide⟩
    rw [main_eq, enc_nil]
    exact upd_one ⟨Nm 1, piece 0 sum 0 [], 0⟩ syncF
  · rw [hd, h18]; decide
  · rw [hd]; decide

/-- Two files, in the one order or the other. -/
def Two (A B : Fl) (fs : List Fl) : Prop := fs = [A, B] ∨ fs = [B, A]
theorem Two.getA {A B : Fl} {fs : List Fl} (h : Two A B fs) : get fs A.nm ≠ none := by
  rcases h with rfl | rfl <;> simp [get]
theorem Two.getB {A B : Fl} {fs : List Fl} (h : Two A B fs) : get fs B.nm ≠ none := by
  rcases h with rfl | rfl <;> simp [get]
theorem Two.delA {A B : Fl} {fs : List Fl} (h : Two A B fs) (hn : A.nm ≠ B.nm) : del fs A.nm = [B] := by
  rcases h with rfl | rfl <;> simp [del, Ne.symm hn]
theorem Two.delB {A B : Fl} {fs : List Fl} (h : Two A B fs) (hn : A.nm ≠ B.nm) : del fs B.nm = [A] := by
  rcases h with rfl | rfl <;> simp [del, hn]
theorem Two.updB {A B : Fl} {fs : List Fl} (h : Two A B fs) (hn : A.nm ≠ B.nm) (u : Fl → Fl) : Two A (u B) (upd fs B.nm u) := by
  rcases h with rfl | rfl
  · left; simp [upd, hn]
  · right; simp [upd, hn]
theorem Two.othersA {A B : Fl} {fs : List Fl} {g : Nat} (h : Two A B fs) (ha : genOf A.nm = g) (hb : genOf B.nm = g + 1) : others fs g = [B.nm] := by
  rcases h with rfl | rfl <;> simp [others, ha, hb]
theorem Two.othersB {A B : Fl} {fs : List Fl} {g : Nat} (h : Two A B fs) (h1 : 1 ≤ g) (ha : genOf A.nm = g) (hb : genOf B.nm = g + 1) : others fs (g + 1) = [A.nm] := by
  have e1 : ¬ genOf A.nm = 0 := by omega
  have e2 : ¬ genOf A.nm = g + 1 := by omega
  rcases h with rfl | rfl <;> simp [others, hb, e1, e2]
theorem Two.bestB {A B : Fl} {fs : List Fl} {g : Nat} (h : Two A B fs) (h1 : 1 ≤ g) (ha : genOf A.nm = g) (hb : genOf B.nm = g + 1) (wa : (whole A.dat 0).isSome) (wb : (whole B.dat 0).isSome) : best fs = some B := by
  rcases h with rfl | rfl
  · simp [best, better, ha, hb, wa, wb, show 0 < g by omega]
  · simp [best, better, ha, hb, wa, wb, show ¬ g + 1 < g by omega]
theorem Two.bestA {A B : Fl} {fs : List Fl} {g : Nat} (h : Two A B fs) (h1 : 1 ≤ g) (ha : genOf A.nm = g) (wa : (whole A.dat 0).isSome) (wb : whole B.dat 0 = none) : best fs = some A := by
  rcases h with rfl | rfl
  · simp [best, better, ha, wa, wb, show 0 < g by omega]
  · simp [best, better, ha, wa, wb, show 0 < g by omega]

theorem open_two {sum : Nat} {s t : List Nat} {R : List Rec} {L : Option Rec} {F : Option (List Nat)} {g n k : Nat} {d : Dk} (hu : d.down = false) (hf : Fine sum s R L F g) (hF : F = some t) (hn : n ≤ t.length + 18) (hk : k ≤ n)
    (hd : Two (main sum s R g) (torn sum t (g + 1) n k) d.fs) : Opens sum s R L F g d := by
  obtain ⟨ht, hg9⟩ := hf.F t hF
  have ga : genOf (main sum s R g).nm = g := gen_Nm g hf.top
  have gb : genOf (torn sum t (g + 1) n k).nm = g + 1 := gen_Nm (g + 1) hg9
  have hne : (main sum s R g).nm ≠ (torn sum t (g + 1) n k).nm := fun e => absurd (Nm_inj hf.top hg9 e) (by omega)
  have wa : (whole (main sum s R g).dat 0).isSome := by
    have := enc_whole hf.good []
    rw [List.append_nil] at this
    rw [main_eq, this]; rfl
  have hQ : ∀ fs k, k ≤ n → Two (main sum s R g) (torn sum t (g + 1) n k) fs → Shp sum s R L F g fs := by
    intro fs k hk h
    rcases h with rfl | rfl
    · exact .foldA hF hn hk
    · exact .foldB hF hn hk
  by_cases hw : n = t.length + 18
  · -- the new summary is whole
    have hB : (torn sum t (g + 1) n k).dat = enc sum t [] ++ [] := by rw [torn_eq, enc_nil, List.append_nil]; exact take_piece _ _ _ _ _ (by omega)
    have hgood : Good sum t [] := ⟨hf.good.sum, ht, by simp⟩
    have hlen : (enc sum t []).length = n := by rw [enc_nil, piece_len, hw]
    have wb : (whole (torn sum t (g + 1) n k).dat 0).isSome := by rw [hB, enc_whole hgood []]; rfl
    have hb := hd.bestB hf.one ga gb wa wb
    have hmend : Out (Calm d) (mend d (torn sum t (g + 1) n k) (enc sum t []).length) (fun fs => fs = [main sum t [] (g + 1)]) (Shp sum s R L F g) := by
      unfold mend
      rw [if_neg (by rw [hB, List.append_nil]; omega), gb]
      refine Out.then (P := fun fs => Two (main sum s R g) (torn sum t (g + 1) n k) fs) (Out.done hd) ?_
      intro c hc
      refine Out.then (P := fun fs => Two (main sum s R g) (torn sum t (g + 1) n n) fs) ?_ ?_
      · split
        · refine out_changes (named_Nm (g + 1)) hc.getB ?_ (hQ _ k hk hc)
          have := hc.updB hne syncF
          rwa [show syncF (torn sum t (g + 1) n k) = torn sum t (g + 1) n n by
            rw [torn_eq, torn_eq]
            simp only [syncF, List.length_take, piece_len]
            congr 1
            omega] at this
        · rename_i hno
          refine Out.done ?_
          rw [show k = n by rw [torn_eq, hlen] at hno; simp only at hno; omega] at hc
          exact hc
      · intro e he
        rw [he.othersB hf.one ga (gen_Nm (g + 1) hg9)]
        refine Out.then (P := fun fs => fs = [main sum t [] (g + 1)]) ?_ (fun c2 h2 => Out.done h2)
        refine out_changes (named_Nm g) he.getA ?_ (hQ _ n (Nat.le_refl _) he)
        rw [he.delA hne, main_eq, torn_eq, enc_nil, take_piece _ _ _ _ _ (by omega), piece_len, hw]
    obtain ⟨h, hc⟩ := open_some hu hb hB hgood nothing hmend
    refine ⟨?_, hc⟩
    rcases h with ⟨a, b, e⟩ | h
    · exact .inl ⟨a, g + 1, t, [], by rw [b, gb], .inr ⟨hF, rfl⟩, .inr ⟨rfl, by rw [hF]; rfl⟩, e, hgood, by omega, hg9⟩
    · exact .inr h
  · -- it is torn
    have wb : whole (torn sum t (g + 1) n k).dat 0 = none := whole_short 0 sum 0 n 0 t ht (by omega)
    have hb := hd.bestA hf.one ga wa wb
    have hA : (main sum s R g).dat = enc sum s R ++ [] := by rw [main_eq, List.append_nil]
    have hmend : Out (Calm d) (mend d (main sum s R g) (enc sum s R).length) (fun fs => fs = [main sum s R g]) (Shp sum s R L F g) := by
      unfold mend
      rw [if_neg (by rw [main_eq]; exact Nat.lt_irrefl _), ga]
      refine Out.then (P := fun fs => Two (main sum s R g) (torn sum t (g + 1) n k) fs) (Out.done hd) ?_
      intro c hc
      rw [if_neg (by rw [main_eq]; exact Nat.lt_irrefl _)]
      refine Out.then (P := fun fs => Two (main sum s R g) (torn sum t (g + 1) n k) fs) (Out.done hc) ?_
      intro e he
      rw [he.othersA ga gb]
      refine Out.then (P := fun fs => fs = [main sum s R g]) ?_ (fun c2 h2 => Out.done h2)
      exact out_changes (named_Nm (g + 1)) he.getB (he.delB hne) (hQ _ k hk he)
    obtain ⟨h, hc⟩ := open_some hu hb hA hf.good nothing hmend
    refine ⟨?_, hc⟩
    rcases h with ⟨a, b, e⟩ | h
    · exact .inl ⟨a, g, s, R, by rw [b, ga], .inl ⟨rfl, .inl rfl⟩, .inl rfl, e, hf.good, hf.one, hf.top⟩
    · exact .inr h

/-- OPEN: what it tells is what may stand there; with an error all stays as it may be. -/
theorem open_kept {sum : Nat} {s : List Nat} {R : List Rec} {L : Option Rec} {F : Option (List Nat)} {g : Nat} {d : Dk} (hf : Fine sum s R L F g) (h : Shp sum s R L F g d.fs) : Opens sum s R L F g d := by
  by_cases hu : d.down = true
  · have ho : openD d sum = (190, none, d) := by unfold openD; rw [hu]; rfl
    refine ⟨.inr ?_, fun hc => absurd hc.1 (by rw [hu]; decide)⟩
    rw [ho]
    exact ⟨.inl rfl, rfl, h⟩
  have hu : d.down = false := by simpa using hu
  generalize hfs : d.fs = fs at h
  cases h with
  | base => exact open_one (f := main sum s R g) (t := []) hu hfs rfl hf.one hf.top (List.append_nil _).symm hf.good nothing (Nat.le_refl _) .base (fun h => absurd rfl h) (.inl ⟨rfl, .inl rfl⟩) (.inl rfl)
  | @late r n k hL hn hk1 hk2 =>
    have hr := hf.L r hL
    have hpl := piece_len (R.length + 1) sum r.1 r.2
    have hsure : (tail sum s R r g n k).sure ≤ (tail sum s R r g n k).dat.length := by
      rw [tail_eq]; simp only [List.length_append, List.length_take, hpl]; omega
    by_cases hw : n = r.2.length + 18
    · refine open_one (f := tail sum s R r g n k) (s' := s) (R' := R ++ [r]) (t := []) hu hfs rfl hf.one hf.top ?_ ⟨hf.good.sum, hf.good.s, ?_⟩ nothing hsure (.late hL hn hk1 hk2) (fun h => absurd rfl h) (.inl ⟨rfl, .inr ⟨r, hL, rfl⟩⟩) (.inl rfl)
      · rw [enc_snoc, List.append_nil, tail_eq, take_piece _ _ _ _ _ (by omega)]
      · intro x hx
        rcases List.mem_append.mp hx with h | h
        · exact hf.good.R x h
        · rw [List.mem_singleton.mp h]; exact hr
    · refine open_one (f := tail sum s R r g n k) (t := (piece (R.length + 1) sum r.1 r.2).take n) hu hfs rfl hf.one hf.top rfl hf.good ?_ hsure (.late hL hn hk1 hk2) ?_ (.inl ⟨rfl, .inl rfl⟩) (.inl rfl)
      · intro kd bd h
        rw [whole_short _ _ _ _ _ _ hr (by omega)] at h
        cases h
      · intro _
        have := Shp.late (sum := sum) (s := s) (R := R) (F := F) (g := g) (n := 0) (k := (enc sum s R).length) hL (by omega) (Nat.le_refl _) (Nat.le_refl _)
        rw [tail_eq, List.take_zero, List.append_nil] at this
        have e : trimF (enc sum s R).length (tail sum s R r g n k) = ⟨Nm g, enc sum s R, (enc sum s R).length⟩ := by
          rw [tail_eq]
          simp only [trimF, List.take_left' rfl]
          rw [Nat.min_eq_right hk1]
        rw [e]
        exact this
  | foldA hF hn hk => exact open_two hu hf hF hn hk (.inl hfs)
  | foldB hF hn hk => exact open_two hu hf hF hn hk (.inr hfs)
  | none h1 h2 h3 =>
    have hm : Out (Calm d) (andThen (removes (others d.fs 0) d) fun d1 => lays d1 (Nm 1) (piece 0 sum 0 [])) (Base sum [] [] 1) (Shp sum s R L F g) := by
      rw [hfs]
      exact Out.then (P := fun fs => fs = []) (Out.done hfs) (fun c hc => lays_begin hf.good.sum h1 h2 h3 c hc)
    obtain ⟨h, hc⟩ := open_none hu (by rw [hfs]; rfl) hm
    refine ⟨?_, hc⟩
    rcases h with ⟨a, b, e⟩ | h
    · exact .inl ⟨a, 1, [], [], b, .inl ⟨h1.symm, .inl h2.symm⟩, .inl h3.symm, e⟩
    · exact .inr h
  | @fresh n k h1 h2 h3 hn hk =>
    by_cases hw : n = 18
    · refine open_one (f := torn sum [] 1 n k) (s' := []) (R' := []) (t := []) (g' := 1) hu hfs rfl (by decide) (by decide) ?_ ⟨hf.good.sum, by simp, by simp⟩ nothing ?_ (.fresh h1 h2 h3 hn hk) (fun h => absurd rfl h) (.inl ⟨h1.symm, .inl h2.symm⟩) (.inl h3.symm)
      · rw [enc_nil, List.append_nil, torn_eq, take_piece _ _ _ _ _ (by rw [hw]; decide)]
      · rw [torn_eq]; simp only [List.length_take, piece_len, List.length_nil]; omega
    · have hwn : whole (torn sum [] 1 n k).dat 0 = Option.none := whole_short 0 sum 0 n 0 [] (by decide) (by simp only [List.length_nil]; omega)
      have g1 : genOf (torn sum [] 1 n k).nm = 1 := gen_Nm 1 (by decide)
      have hm : Out (Calm d) (andThen (removes (others d.fs 0) d) fun d1 => lays d1 (Nm 1) (piece 0 sum 0 [])) (Base sum [] [] 1) (Shp sum s R L F g) := by
        have ho : others d.fs 0 = [Nm 1] := by rw [hfs]; simp [others, g1]; rfl
        rw [ho]
        refine Out.then (P := fun fs => fs = []) ?_ (fun c hc => lays_begin hf.good.sum h1 h2 h3 c hc)
        refine Out.then (P := fun fs => fs = []) ?_ (fun c2 h2 => Out.done h2)
        refine out_changes (named_Nm 1) (by rw [hfs]; exact get_one (torn sum [] 1 n k)) ?_ (by rw [hfs]; exact .fresh h1 h2 h3 hn hk)
        rw [hfs, torn_eq]
        simp [del]
      obtain ⟨h, hc⟩ := open_none hu (by rw [hfs]; exact best_torn hwn) hm
      refine ⟨?_, hc⟩
      rcases h with ⟨a, b, e⟩ | h
      · exact .inl ⟨a, 1, [], [], b, .inl ⟨h1.symm, .inl h2.symm⟩, .inl h3.symm, e⟩
      · exact .inr h
end Go.Proofs.YtakcdgeanbpllaaGreatDoor.DJ


/- PUT, FOLD AND RESTART KEEP WHAT WAS TOLD (P19.11, P19.12). No program. -/
namespace Go.Proofs.YtakcdgeanbpllaaGreatDoor.DJ

theorem Base.shp {sum : Nat} {s : List Nat} {R : List Rec} {g : Nat} {fs : List Fl} (h : Base sum s R g fs) (L : Option Rec) (F : Option (List Nat)) : Shp sum s R L F g fs := by
  rw [h.1]; exact .base
theorem Base.fine {sum : Nat} {s : List Nat} {R : List Rec} {g : Nat} {fs : List Fl} (h : Base sum s R g fs) : Fine sum s R none none g :=
  ⟨h.2.1, fun _ e => (nomatch e), fun _ e => (nomatch e), h.2.2.1, h.2.2.2⟩

/-- PUT: done, with the record behind the others; or with the record in flight. -/
theorem put_kept {sum : Nat} {s : List Nat} {R : List Rec} {g : Nat} {d : Dk} {r : Rec} (h : Base sum s R g d.fs) (hr : r.2.length ≤ 1048576) :
    Out (Calm d ∧ (enc sum s R).length + (r.2.length + 18) ≤ 2097152) (putD d sum g R.length r) (Base sum s (R ++ [r]) g) (Shp sum s R (some r) none g) := by
  obtain ⟨hd, hgood, h1, h9⟩ := h
  have hpl := piece_len (R.length + 1) sum r.1 r.2
  have hget : get d.fs (Nm g) = some (main sum s R g) := by rw [hd]; simp [get, main]
  have hlay : ∀ p, lay d.fs (Nm g) p = [⟨Nm g, enc sum s R ++ p, (enc sum s R).length⟩] := by
    intro p
    unfold lay
    rw [hget]
    simp only [hd]
    exact upd_one (main sum s R g) _
  unfold putD
  refine Out.weak (out_lays (named_Nm g) (by rw [hd]; exact .base) ?_ ?_ ?_) (fun hc => ⟨hc.1, ?_, ?_⟩)
  · intro n
    rw [hlay]
    have := Shp.late (sum := sum) (s := s) (R := R) (L := some r) (F := none) (g := g) (n := min n (r.2.length + 18)) (k := (enc sum s R).length) rfl (by omega) (Nat.le_refl _) (by omega)
    rw [tail_eq, take_min hpl] at this
    exact this
  · rw [hlay]; exact get_one ⟨Nm g, _, _⟩
  · rw [hlay]
    refine ⟨?_, ⟨hgood.sum, hgood.s, ?_⟩, h1, h9⟩
    · rw [main_eq, enc_snoc]
      exact upd_one ⟨Nm g, enc sum s R ++ piece (R.length + 1) sum r.1 r.2, (enc sum s R).length⟩ syncF
    · intro x hx
      rcases List.mem_append.mp hx with h | h
      · exact hgood.R x h
      · rw [List.mem_singleton.mp h]; exact hr
  · unfold size; rw [hget, hpl]; exact hc.2
  · rw [hd]; exact (by decide : 1 < 40)

/-- FOLD: done, with the new summary alone; or with the summary in flight. -/
theorem fold_kept {sum : Nat} {s t : List Nat} {R : List Rec} {g : Nat} {d : Dk} (h : Base sum s R g d.fs) (ht : t.length ≤ 1048576) (hg : g + 1 ≤ 99999999) :
    Out (Calm d) (foldD d sum g t) (Base sum t [] (g + 1)) (Shp sum s R none (some t) g) := by
  obtain ⟨hd, hgood, h1, h9⟩ := h
  have hpl := piece_len 0 sum 0 t
  have hne : Nm g ≠ Nm (g + 1) := fun e => absurd (Nm_inj h9 hg e) (by omega)
  have hget : get d.fs (Nm (g + 1)) = none := by rw [hd]; simp [get, main, hne]
  have hlay : ∀ p, Two (main sum s R g) ⟨Nm (g + 1), p, 0⟩ (lay d.fs (Nm (g + 1)) p) := by
    intro p
    unfold lay
    rw [hget]
    simp only [hd, ins]
    cases hlt : ltB (main sum s R g).nm (Nm (g + 1))
    · right; simp [List.takeWhile, List.dropWhile, hlt]
    · left; simp [List.takeWhile, List.dropWhile, hlt]
  have hQ : ∀ n k fs, k ≤ n → n ≤ t.length + 18 → Two (main sum s R g) (torn sum t (g + 1) n k) fs → Shp sum s R none (some t) g fs := by
    intro n k fs hk hn h
    rcases h with rfl | rfl
    · exact .foldA rfl hn hk
    · exact .foldB rfl hn hk
  have hall := hlay (piece 0 sum 0 t)
  unfold foldD
  refine Out.then (P := Two (main sum s R g) (main sum t [] (g + 1))) (Out.weak (out_lays (named_Nm (g + 1)) (by rw [hd]; exact .base) ?_ hall.getB ?_) (fun hc => ⟨hc, ?_, ?_⟩)) ?_
  · intro n
    have := hlay ((piece 0 sum 0 t).take n)
    rw [← take_min (n := n) hpl] at this ⊢
    exact hQ (min n (t.length + 18)) 0 _ (by omega) (by omega) this
  · have := hall.updB hne syncF
    rw [main_eq sum t, enc_nil]
    exact this
  · unfold size; rw [hget, hpl]; simp only [Option.map_none, Option.getD_none]; omega
  · rw [hd]; exact (by decide : 1 < 40)
  · intro c hc
    refine out_changes (named_Nm g) hc.getA ⟨hc.delA hne, ⟨hgood.sum, ht, by simp⟩, by omega, hg⟩ ?_
    refine hQ (t.length + 18) (t.length + 18) _ (Nat.le_refl _) (Nat.le_refl _) ?_
    rw [torn_eq, take_piece _ _ _ _ _ (Nat.le_refl _)]
    rw [main_eq sum t, enc_nil, hpl] at hc
    exact hc

theorem cut_main (k : Int) (sum : Nat) (s : List Nat) (R : List Rec) (g : Nat) : cutF k (main sum s R g) = main sum s R g := by
  rw [main_eq]; simp [cutF]
theorem cut_torn (k : Int) (sum : Nat) (s : List Nat) (g n m : Nat) (hn : n ≤ s.length + 18) (hm : m ≤ n) : ∃ n', n' ≤ n ∧ cutF k (torn sum s g n m) = torn sum s g n' n' := by
  have hl : ((piece 0 sum 0 s).take n).length = n := by rw [List.length_take, piece_len]; omega
  refine ⟨m + min k.toNat (n - m), by omega, ?_⟩
  rw [torn_eq, torn_eq]
  simp only [cutF, hl, List.take_take]
  rw [Nat.min_eq_left (by omega)]
theorem cut_tail (k : Int) (sum : Nat) (s : List Nat) (R : List Rec) (r : Rec) (g n m : Nat) (hn : n ≤ r.2.length + 18) (h1 : (enc sum s R).length ≤ m) (h2 : m ≤ (enc sum s R).length + n) :
    ∃ n', n' ≤ n ∧ cutF k (tail sum s R r g n m) = tail sum s R r g n' ((enc sum s R).length + n') := by
  have hl : (enc sum s R ++ (piece (R.length + 1) sum r.1 r.2).take n).length = (enc sum s R).length + n := by rw [List.length_append, List.length_take, piece_len]; omega
  refine ⟨m + min k.toNat ((enc sum s R).length + n - m) - (enc sum s R).length, by omega, ?_⟩
  rw [tail_eq, tail_eq]
  simp only [cutF, hl]
  rw [List.take_append, List.take_of_length_le (l := enc sum s R) (by omega), List.take_take, Nat.min_eq_left (a := m + min k.toNat ((enc sum s R).length + n - m) - (enc sum s R).length) (by omega)]
  congr 1
  omega
/-- RESTART, with any bytes that survive. -/
theorem cuts_kept {sum : Nat} {s : List Nat} {R : List Rec} {L : Option Rec} {F : Option (List Nat)} {g : Nat} {fs : List Fl} (h : Shp sum s R L F g fs) (keep : List Int) (i : Nat) : Shp sum s R L F g (cuts keep i fs) := by
  cases h with
  | base => simp only [cuts, cut_main]; exact .base
  | @late r n k hL hn hk1 hk2 =>
    obtain ⟨n', hn', e⟩ := cut_tail (keep.getD (i % keep.length) 0) sum s R r g n k hn hk1 hk2
    simp only [cuts, e]
    exact .late hL (by omega) (by omega) (by omega)
  | @foldA t n k hF hn hk =>
    obtain ⟨n', hn', e⟩ := cut_torn (keep.getD ((i + 1) % keep.length) 0) sum t (g + 1) n k hn hk
    simp only [cuts, cut_main, e]
    exact .foldA hF (by omega) (by omega)
  | @foldB t n k hF hn hk =>
    obtain ⟨n', hn', e⟩ := cut_torn (keep.getD (i % keep.length) 0) sum t (g + 1) n k hn hk
    simp only [cuts, cut_main, e]
    exact .foldB hF (by omega) (by omega)
  | none h1 h2 h3 => exact .none h1 h2 h3
  | @fresh n k h1 h2 h3 hn hk =>
    obtain ⟨n', hn', e⟩ := cut_torn (keep.getD (i % keep.length) 0) sum [] 1 n k (by simpa using hn) hk
    simp only [cuts, e]
    exact .fresh h1 h2 h3 (by omega) (by omega)
theorem restart_kept {sum : Nat} {s : List Nat} {R : List Rec} {L : Option Rec} {F : Option (List Nat)} {g : Nat} {d : Dk} (h : Shp sum s R L F g d.fs) (keep : List Int) : Shp sum s R L F g (restart d keep).fs := cuts_kept h keep 0
end Go.Proofs.YtakcdgeanbpllaaGreatDoor.DJ


/- CUT ANYWHERE, OR WITH A BYTE CHANGED: THE RECORDS AHEAD (P19.5 TO P19.7). No program. -/
namespace Go.Proofs.YtakcdgeanbpllaaGreatDoor.DJ

theorem encR_append (sum k : Nat) (A B : List Rec) : encR sum k (A ++ B) = encR sum k A ++ encR sum (k + A.length) B := by
  induction A generalizing k with
  | nil => simp [encR]
  | cons a A ih =>
    simp only [List.cons_append, encR, ih, List.length_cons, List.append_assoc]
    rw [show k + 1 + A.length = k + (A.length + 1) by omega]
theorem enc_at (sum : Nat) (s : List Nat) {R : List Rec} {n : Nat} (h : n < R.length) : enc sum s R = enc sum s (R.take n) ++ (piece (n + 1) sum R[n].1 R[n].2 ++ encR sum (n + 2) (R.drop (n + 1))) := by
  conv => lhs; rw [← List.take_append_drop n R, List.drop_eq_getElem_cons h]
  unfold enc
  rw [encR_append, List.length_take, Nat.min_eq_left (Nat.le_of_lt h), List.append_assoc, show 1 + n = n + 1 by omega]
  rfl
theorem take_mid {A P B : List Nat} {m : Nat} (h1 : A.length ≤ m) (h2 : m ≤ A.length + P.length) : (A ++ (P ++ B)).take m = A ++ P.take (m - A.length) := by
  rw [List.take_append, List.take_of_length_le h1, List.take_append_of_le_length (by omega)]
theorem set_mid {A P B : List Nat} {m y : Nat} (h1 : A.length ≤ m) (h2 : m < A.length + P.length) : (A ++ (P ++ B)).set m y = A ++ (P.set (m - A.length) y ++ B) := by
  rw [List.set_append_right _ _ h1, List.set_append_left _ _ (by omega)]
theorem set_parts {P : List Nat} {i y : Nat} (h : i < P.length) : P = P.take i ++ P[i] :: P.drop (i + 1) ∧ P.set i y = P.take i ++ y :: P.drop (i + 1) := by
  refine ⟨?_, List.set_eq_take_append_cons_drop.trans (if_pos h)⟩
  rw [← List.drop_eq_getElem_cons h, List.take_append_drop]

/-- Open's answer. -/
def Gives (d : Dk) (sum : Nat) (s : List Nat) (R : List Rec) : Prop := (openD d sum).1 = 0 ∧ (openD d sum).2.1 = some (1, s, R) ∧ Calm (openD d sum).2.2 ∧ Base sum s R 1 (openD d sum).2.2.fs
theorem gives_one {d : Dk} {sum k : Nat} {dat s t : List Nat} {R : List Rec} (hc : Calm d) (hd : d.fs = [⟨Nm 1, dat, k⟩]) (hk : k ≤ dat.length) (hf : dat = enc sum s R ++ t) (hg : Good sum s R)
    (ht : ∀ kd bd, whole t (R.length + 1) ≠ some (sum, kd, bd)) : Gives d sum s R := by
  have g1 : genOf (⟨Nm 1, dat, k⟩ : Fl).nm = 1 := gen_Nm 1 (by decide)
  have hb : best d.fs = some ⟨Nm 1, dat, k⟩ := by
    rw [hd]
    refine best_one (by rw [g1]; decide) ?_
    show (whole dat 0).isSome
    rw [hf, enc_whole hg t]; rfl
  have hl : (enc sum s R).length ≤ dat.length := by rw [hf, List.length_append]; omega
  have hm := mend_one (d := d) (f := ⟨Nm 1, dat, k⟩) (n := (enc sum s R).length) (Q := fun _ => True) hd (named_Nm 1) hl hk trivial (fun _ => trivial)
  obtain ⟨h, h'⟩ := open_some hc.1 hb hf hg ht hm
  obtain ⟨h0, h1⟩ := h' hc
  rcases h with ⟨a, b, e⟩ | ⟨a, -⟩
  · refine ⟨h0, by rw [b, g1], h1, ?_, hg, by decide, by decide⟩
    rw [e, main_eq, hf, List.take_left' rfl]
  · omega
theorem gives_torn {d : Dk} {sum k : Nat} {dat : List Nat} (hs : sum < 4294967296) (hc : Calm d) (hd : d.fs = [⟨Nm 1, dat, k⟩]) (hw : whole dat 0 = none) : Gives d sum [] [] := by
  have g1 : genOf (⟨Nm 1, dat, k⟩ : Fl).nm = 1 := gen_Nm 1 (by decide)
  have hm : Out (Calm d) (andThen (removes (others d.fs 0) d) fun d1 => lays d1 (Nm 1) (piece 0 sum 0 [])) (Base sum [] [] 1) (fun _ => True) := by
    have ho : others d.fs 0 = [Nm 1] := by rw [hd]; simp [others, g1]
    rw [ho]
    refine Out.then (P := fun fs => fs = []) ?_ (fun c hc => (lays_begin (s := []) (R := []) (L := none) (F := none) (g := 1) hs rfl rfl rfl c hc).mono (fun _ h => h) (fun _ _ => trivial))
    refine Out.then (P := fun fs => fs = []) ?_ (fun c2 h2 => Out.done h2)
    refine out_changes (named_Nm 1) (by rw [hd]; exact get_one ⟨Nm 1, dat, k⟩) ?_ trivial
    rw [hd]
    simp [del]
  obtain ⟨h, h'⟩ := open_none hc.1 (by rw [hd]; exact best_torn hw) hm
  obtain ⟨h0, h1⟩ := h' hc
  rcases h with ⟨a, b, e⟩ | ⟨a, -⟩
  · exact ⟨h0, b, h1, e⟩
  · omega

/-- The empty disk. -/
theorem gives_new {d : Dk} {sum : Nat} (hs : sum < 4294967296) (hc : Calm d) (hd : d.fs = []) : Gives d sum [] [] := by
  obtain ⟨h, h'⟩ := open_kept (sum := sum) (s := []) (R := []) (L := none) (F := none) (g := 1) (d := d) ⟨⟨hs, by simp, by simp⟩, fun _ e => (nomatch e), fun _ e => (nomatch e), by decide, by decide⟩ (by rw [hd]; exact .none rfl rfl rfl)
  obtain ⟨h0, h1⟩ := h' hc
  rcases h with ⟨a, g', s', R', b, m, hg, hB⟩ | ⟨a, -⟩
  · rcases m with ⟨rfl, rfl | ⟨r, e, -⟩⟩ | ⟨e, -⟩
    · rcases hg with rfl | ⟨-, e⟩
      · exact ⟨h0, b, h1, hB⟩
      · cases e
    · cases e
    · cases e
  · omega

/-- Cut within the summary. -/
theorem cut_first {d : Dk} {sum at_ k : Nat} {R : List Rec} (hs : sum < 4294967296) (hc : Calm d) (h : at_ < 18) (hd : d.fs = [⟨Nm 1, (enc sum [] R).take at_, k⟩]) : Gives d sum [] [] := by
  refine gives_torn hs hc hd ?_
  have : (enc sum [] R).take at_ = (piece 0 sum 0 []).take at_ := by
    unfold enc; rw [List.take_append_of_le_length (by rw [piece_len]; simp only [List.length_nil]; omega)]
  rw [this]
  exact whole_short 0 sum 0 at_ 0 [] (by decide) (by simp only [List.length_nil]; omega)
/-- Cut within a record. -/
theorem cut_later {d : Dk} {sum at_ n : Nat} {R : List Rec} (hg : Good sum [] R) (hc : Calm d) (hn : n < R.length) (h1 : (enc sum [] (R.take n)).length ≤ at_) (h2 : at_ < (enc sum [] (R.take n)).length + (R[n].2.length + 18))
    (hd : d.fs = [⟨Nm 1, (enc sum [] R).take at_, at_⟩]) : Gives d sum [] (R.take n) := by
  have hr := hg.R _ (List.getElem_mem hn)
  have hpl := piece_len (n + 1) sum R[n].1 R[n].2
  have e : (enc sum [] R).take at_ = enc sum [] (R.take n) ++ (piece (n + 1) sum R[n].1 R[n].2).take (at_ - (enc sum [] (R.take n)).length) := by
    rw [enc_at sum [] hn]; exact take_mid h1 (by rw [hpl]; omega)
  refine gives_one hc hd ?_ e ⟨hg.sum, hg.s, fun r h => hg.R r (List.mem_of_mem_take h)⟩ ?_
  · rw [e, List.length_append, List.length_take, hpl]; omega
  · intro kd bd h
    rw [whole_short _ _ _ _ _ _ hr (by omega)] at h
    cases h
/-- A byte of the summary is changed. -/
theorem turn_first {d : Dk} {sum at_ k x y : Nat} {R : List Rec} (hs : sum < 4294967296) (hc : Calm d) (h : at_ < 18) (h9 : at_ < 9 ∨ 13 ≤ at_) (hx : (enc sum [] R)[at_]? = some x) (hy : y < 256) (hxy : x ≠ y)
    (hd : d.fs = [⟨Nm 1, (enc sum [] R).set at_ y, k⟩]) : Gives d sum [] [] := by
  refine gives_torn hs hc hd ?_
  have hpl : (piece 0 sum 0 []).length = 18 := by rw [piece_len]; rfl
  obtain ⟨p1, p2⟩ := set_parts (P := piece 0 sum 0 []) (i := at_) (y := y) (by omega)
  have hxe : (piece 0 sum 0 [])[at_]'(by omega) = x := by
    have := hx
    unfold enc at this
    rw [List.getElem?_append_left (by omega), List.getElem?_eq_getElem (by omega)] at this
    exact Option.some.inj this
  have e : (enc sum [] R).set at_ y = (piece 0 sum 0 []).take at_ ++ y :: (piece 0 sum 0 []).drop (at_ + 1) ++ encR sum 1 R := by
    unfold enc; rw [List.set_append_left _ _ (by omega), p2]
  rw [e]
  refine whole_turn (by decide) (by simp) (by decide) p1 hy (by rw [hxe]; exact hxy) ?_
  rw [List.length_take, hpl]; omega
/-- A byte of a record is changed. -/
theorem turn_later {d : Dk} {sum at_ n x y : Nat} {R : List Rec} (hg : Good sum [] R) (hby : ∀ r ∈ R, r.1 < 256 ∧ ∀ b ∈ r.2, b < 256) (hc : Calm d) (hn : n < R.length) (h1 : (enc sum [] (R.take n)).length ≤ at_) (h2 : at_ < (enc sum [] (R.take n)).length + (R[n].2.length + 18))
    (h9 : at_ < (enc sum [] (R.take n)).length + 9 ∨ (enc sum [] (R.take n)).length + 13 ≤ at_) (hx : (enc sum [] R)[at_]? = some x) (hy : y < 256) (hxy : x ≠ y) (hd : d.fs = [⟨Nm 1, (enc sum [] R).set at_ y, (enc sum [] R).length⟩]) : Gives d sum [] (R.take n) := by
  have hr := hg.R _ (List.getElem_mem hn)
  obtain ⟨hk, hb⟩ := hby _ (List.getElem_mem hn)
  have hpl := piece_len (n + 1) sum R[n].1 R[n].2
  have hsp := enc_at sum [] hn
  have hxe : (piece (n + 1) sum R[n].1 R[n].2)[at_ - (enc sum [] (R.take n)).length]'(by omega) = x := by
    rw [hsp, List.getElem?_append_right h1, List.getElem?_append_left (by omega), List.getElem?_eq_getElem (by omega)] at hx
    exact Option.some.inj hx
  have e0 : (enc sum [] R).set at_ y = enc sum [] (R.take n) ++ ((piece (n + 1) sum R[n].1 R[n].2).set (at_ - (enc sum [] (R.take n)).length) y ++ encR sum (n + 2) (R.drop (n + 1))) := by
    rw [hsp]; exact set_mid h1 (by omega)
  have hlt : at_ - (enc sum [] (R.take n)).length < (piece (n + 1) sum R[n].1 R[n].2).length := by omega
  obtain ⟨p1, p2⟩ := set_parts (P := piece (n + 1) sum R[n].1 R[n].2) (i := at_ - (enc sum [] (R.take n)).length) (y := y) hlt
  refine gives_one hc hd (by rw [List.length_set]; exact Nat.le_refl _) e0 ⟨hg.sum, hg.s, fun r h => hg.R r (List.mem_of_mem_take h)⟩ ?_
  intro kd bd h
  rw [p2, whole_turn hk hb hr p1 hy (by rw [hxe]; exact hxy) (by rw [List.length_take, hpl]; omega)] at h
  cases h
end Go.Proofs.YtakcdgeanbpllaaGreatDoor.DJ


/- may: WHAT MAY STAND IN THE JOURNAL, ASKED OF THE LAW'S WORLD. -/
namespace Go.Proofs.YtakcdgeanbpllaaGreatDoor.DJ
open Go.RowKit

theorem Byts.drewN {w : World} {a : Option Addr} {bs : List Nat} (h : Byts w a bs) (n : Nat) : Byts (w.drewN n) a bs := h.later (below_drewN (Below.refl _ _) n)
theorem RcAt.drewN {w : World} {a : Option Addr} {R : List Rec} (h : RcAt w a R) (n : Nat) : RcAt (w.drewN n) a R := h.later (below_drewN (Below.refl _ _) n)

/-- The law's world, as far as 'may' reads it. -/
structure WdM (w : World) (b : Nat) (s : List Nat) (R L : List Rec) (F : List (List Nat)) (sa ra la fa : Option Addr) (sc rc lc fc : Nat) : Prop where
  c3 : w.cell? ⟨b, 3, none⟩ = some (.slice sa s.length sc)
  c4 : w.cell? ⟨b, 4, none⟩ = some (.slice ra R.length rc)
  c5 : w.cell? ⟨b, 5, none⟩ = some (.slice la L.length lc)
  c6 : w.cell? ⟨b, 6, none⟩ = some (.slice fa F.length fc)
  bS : Byts w sa s
  bR : RcAt w ra R
  bL : RcAt w la L
  bF : F = [] ∨ ∃ t f o p c, F = [t] ∧ fa = some ⟨f, o, none⟩ ∧ w.cell? ⟨f, o, none⟩ = some (.slice p t.length c) ∧ Byts w p t
  lR : R.length ≤ 1000000000

set_option maxRecDepth 4000 in
set_option maxHeartbeats 1000000 in
theorem may_same {w : World} {b : Nat} {s : List Nat} {R L : List Rec} {F : List (List Nat)} {sa ra la fa : Option Addr} {sc rc lc fc : Nat} (h : WdM w b s R L F sa ra la fa sc rc lc fc) (s2 r2 : Option Addr) (k1 k2 : Nat) (hs : Byts w s2 s) (hr : RcAt w r2 R) :
    Calls Tryz.prog 27 #[.pointer (some ⟨b, 0, none⟩), .slice s2 s.length k1, .slice r2 R.length k2] w fun e w' => e = .returned (.bool true) ∧ ∃ m, w' = w.drewN m := by
  obtain ⟨c3, c4, c5, c6, bs, rR, rL, fF, lR⟩ := h
  have h1 := sameBytes_any hs bs k1 sc
  have h2 := sameRecords_any R R (by omega) r2 ra k2 rc w hr rR
  rw [decide_eq_true rfl] at h1 h2
  clear hs bs hr rR rL fF
  go_enter Tryz.func27, Tryz.ntmps27
  go_wp2_with (first | (go_at_call 25; refine h1.mono ?_; rintro e w9 ⟨rfl, hw9⟩; subst w9; clear h1) | (go_at_call 36; refine h2.mono ?_; rintro e w9 ⟨rfl, m1, hm1⟩; subst hm1; clear h2))
  go_ret
  exact ⟨rfl, m1, rfl⟩

set_option maxRecDepth 4000 in
set_option maxHeartbeats 1000000 in
theorem may_fold {w : World} {b : Nat} {s t : List Nat} {R : List Rec} {sa ra la fa : Option Addr} {sc rc lc fc : Nat} (h : WdM w b s R [] [t] sa ra la fa sc rc lc fc) (s2 r2 : Option Addr) (k1 k2 : Nat) (hs : Byts w s2 t) (hr : RcAt w r2 []) :
    Calls Tryz.prog 27 #[.pointer (some ⟨b, 0, none⟩), .slice s2 t.length k1, .slice r2 0 k2] w fun e w' => e = .returned (.bool true) ∧ ∃ m, w' = w.drewN m := by
  obtain ⟨c3, c4, c5, c6, bs, rR, rL, fF, lR⟩ := h
  obtain ⟨t', f, o, p, c, e, rfl, cf, bt⟩ := fF.resolve_left (by simp)
  obtain rfl : t = t' := by injection e
  clear e fF
  have h1 := sameBytes_any hs bs k1 sc
  have h2 := sameRecords_any [] R (by simp) r2 ra k2 rc w hr rR
  have h3 := fun n => sameBytes_any (Byts.drewN hs n) (Byts.drewN bt n) k1 c
  rw [decide_eq_true rfl] at h3
  simp only [List.length_nil, List.length_cons, Nat.zero_add] at c5 c6 h2
  generalize hd1 : decide (t = s) = d1 at *
  generalize hd2 : decide ([] = R) = d2 at *
  clear hs bs hr rR rL bt hd1 hd2
  cases d1 with
  | false =>
    clear h2
    have tok : True := trivial
    go_enter Tryz.func27, Tryz.ntmps27
    go_wp2_with (first | (go_at_call 25; have _u := tok; clear tok; refine h1.mono ?_; rintro e w9 ⟨rfl, hw9⟩; subst w9; clear h1) | (go_at_call 25; refine (h3 0).mono ?_; rintro e w9 ⟨rfl, hw9⟩; subst w9))
    go_ret
    exact ⟨rfl, 0, rfl⟩
  | true =>
    cases d2 with
    | true =>
      go_enter Tryz.func27, Tryz.ntmps27
      go_wp2_with (first | (go_at_call 25; refine h1.mono ?_; rintro e w9 ⟨rfl, hw9⟩; subst w9; clear h1) | (go_at_call 36; refine h2.mono ?_; rintro e w9 ⟨rfl, m1, hm1⟩; subst hm1; clear h2))
      go_ret
      exact ⟨rfl, m1, rfl⟩
    | false =>
      go_enter Tryz.func27, Tryz.ntmps27
      go_wp2_with (first | (go_at_call 25; refine h1.mono ?_; rintro e w9 ⟨rfl, hw9⟩; subst w9; clear h1) | (go_at_call 36; refine h2.mono ?_; rintro e w9 ⟨rfl, m1, hm1⟩; subst hm1; clear h2))
      go_quiet (fail)
      go_wp2_with (go_at_call 25; refine (h3 _).mono ?_; rintro e w9 ⟨rfl, hw9⟩; subst w9)
      go_ret
      exact ⟨rfl, _, rfl⟩
theorem RcAt.fore {w : World} {a : Option Addr} {R S : List Rec} (h : RcAt w a (R ++ S)) : RcAt w a R := by
  refine ⟨fun r hr => h.1 r (List.mem_append_left _ hr), ?_⟩
  rcases h.2 with e | ⟨b, off, ha, hlt, hc⟩
  · exact .inl (List.append_eq_nil_iff.mp e).1
  · refine .inr ⟨b, off, ha, hlt, fun i hi => ?_⟩
    have := hc i (by rw [List.length_append]; omega)
    rwa [List.getElem_append_left hi] at this
theorem RcAt.last {w : World} {b off : Nat} {R : List Rec} {r : Rec} (h : RcAt w (some ⟨b, off, none⟩) (R ++ [r])) : RcAt w (some ⟨b, off + R.length * 2, none⟩) [r] := by
  refine ⟨fun x hx => h.1 x (List.mem_append_right _ hx), ?_⟩
  rcases h.2 with e | ⟨b', off', ha, hlt, hc⟩
  · simp at e
  · injection ha with ha
    injection ha with h1 h2 _
    subst h1 h2
    refine .inr ⟨b, off + R.length * 2, rfl, hlt, fun i hi => ?_⟩
    obtain rfl : i = 0 := by simp at hi; omega
    have := hc R.length (by rw [List.length_append]; simp)
    simpa using this
end Go.Proofs.YtakcdgeanbpllaaGreatDoor.DJ


/- may, with a record in flight. -/
namespace Go.Proofs.YtakcdgeanbpllaaGreatDoor.DJ
open Go.RowKit

set_option maxRecDepth 4000 in
set_option maxHeartbeats 400000 in
theorem may_late {w : World} {b : Nat} {s : List Nat} {R : List Rec} {r : Rec} {F : List (List Nat)} {sa ra la fa : Option Addr} {sc rc lc fc : Nat} (h : WdM w b s R [r] F sa ra la fa sc rc lc fc) (s2 r2 : Option Addr) (k1 k2 : Nat) (hs : Byts w s2 s) (hr : RcAt w r2 (R ++ [r])) (hk : R.length + 1 ≤ k2) :
    Calls Tryz.prog 27 #[.pointer (some ⟨b, 0, none⟩), .slice s2 s.length k1, .slice r2 (R.length + 1) k2] w fun e w' => e = .returned (.bool true) ∧ ∃ m, w' = w.drewN m := by
  obtain ⟨c3, c4, c5, c6, bs, rR, rL, fF, lR⟩ := h
  obtain ⟨b2, o2, rfl, -, -⟩ := hr.2.resolve_left (by simp)
  have h1 := sameBytes_any hs bs k1 sc
  have h2 := sameRecords_any (R ++ [r]) R (by simp; omega) _ ra k2 rc w hr rR
  have h4 := fun n => sameRecords_any R R (by omega) _ ra k2 rc _ (RcAt.drewN hr.fore n) (RcAt.drewN rR n)
  have h5 := fun n => sameRecords_any [r] [r] (by simp) _ la (k2 - R.length) lc _ (RcAt.drewN hr.last n) (RcAt.drewN rL n)
  rw [decide_eq_true rfl] at h1 h4 h5
  rw [decide_eq_false (by intro e; have := congrArg List.length e; simp at this)] at h2
  simp only [List.length_append, List.length_cons, List.length_nil, Nat.zero_add] at c5 h2 h5
  have hk' : ((R.length : Int) + 1) ≤ (k2 : Int) := by omega
  clear hs bs hr rR rL fF
  generalize R.length = n at *
  go_enter Tryz.func27, Tryz.ntmps27
  go_wp2_with (first | (go_at_call 25; refine h1.mono ?_; rintro e w9 ⟨rfl, hw9⟩; subst w9; clear h1) | (go_at_call 36; refine h2.mono ?_; rintro e w9 ⟨rfl, m1, hm1⟩; subst hm1; clear h2))
  have q4 : ∀ k, Calls Tryz.prog 36 #[.slice (some ⟨b2, o2, none⟩) n k2, .slice ra n rc] ((w.drewN m1).drewN k) fun e w' => e = .returned (.bool true) ∧ ∃ m, w' = (w.drewN m1).drewN m := by
    intro k
    rw [World.drewN_drewN]
    refine (h4 (m1 + k)).mono ?_
    rintro e w9 ⟨rfl, m, rfl⟩
    exact ⟨rfl, k + m, by rw [World.drewN_drewN, World.drewN_drewN, Nat.add_assoc]⟩
  have q5 : ∀ k, Calls Tryz.prog 36 #[.slice (some ⟨b2, o2 + n * 2, none⟩) 1 (k2 - n), .slice la 1 lc] ((w.drewN m1).drewN k) fun e w' => e = .returned (.bool true) ∧ ∃ m, w' = (w.drewN m1).drewN m := by
    intro k
    rw [World.drewN_drewN]
    refine (h5 (m1 + k)).mono ?_
    rintro e w9 ⟨rfl, m, rfl⟩
    exact ⟨rfl, k + m, by rw [World.drewN_drewN, World.drewN_drewN, Nat.add_assoc]⟩
  clear h4 h5
  have d3 : (w.drewN m1).cell? ⟨b, 3, none⟩ = _ := c3
  have d4 : (w.drewN m1).cell? ⟨b, 4, none⟩ = _ := c4
  have d5 : (w.drewN m1).cell? ⟨b, 5, none⟩ = _ := c5
  generalize hY : w.drewN m1 = Y at *
  clear c3 c4 c5 c6
  go_quiet (first | (go_at_call 36; with_reducible exact q4 _) | (go_at_call 36; with_reducible exact q5 _))
  go_wp2
  go_ret
  refine ⟨rfl, ?_⟩
  rw [← hY, World.drewN_drewN]
  exact ⟨_, rfl⟩
end Go.Proofs.YtakcdgeanbpllaaGreatDoor.DJ


/- Fold, Len. -/
namespace Go.Proofs.YtakcdgeanbpllaaGreatDoor.DJ
open Go.RowKit

/-- What Fold answers: the error, the disk, the generation, the records behind, whether it is stuck. -/
def foldR (d : Dk) (sum g n : Nat) (stuck : Bool) (s : List Nat) : Nat × Dk × Nat × Nat × Bool :=
  if stuck then (196, d, g, n, true) else if 1048576 < s.length then (197, d, g, n, false)
  else if g = 99999999 then (194, d, g, n, false)
  else if (foldD d sum g s).1 = 0 then (0, (foldD d sum g s).2, g + 1, 0, false) else ((foldD d sum g s).1, (foldD d sum g s).2, g, n, true)

set_option maxRecDepth 4000 in
set_option maxHeartbeats 1000000 in
theorem len_any {db wb sum g n : Nat} {stuck : Bool} (w : World) (hw : DwAt w wb db sum g n stuck) : Calls Tryz.prog 28 #[.pointer (some ⟨wb, 0, none⟩)] w fun e w' => e = .returned (.int .i64 (n : Int)) ∧ w' = w := by
  obtain ⟨-, -, -, c3, -⟩ := hw.cells
  clear hw
  go_enter Tryz.func28, Tryz.ntmps28
  go_wp2
  go_ret
  exact ⟨rfl, rfl⟩

set_option maxRecDepth 4000 in
set_option maxHeartbeats 1000000 in
theorem fold_any {lo db wb sum g n : Nat} {stuck : Bool} {S : Nat → Prop} {d : Dk} (hg : g ≤ 99999999) (hsum : sum < 4294967296) (bs : List Nat) (hlen : bs.length ≤ 140737488355328) (a : Option Addr) (c : Nat) (hc : a = none → c = 0) (w : World) (hlo : lo ≤ w.heap.size) (ht : TabL lo w) (hN : Byts w a bs) (hw : DwAt w wb db sum g n stuck) (hwS : ¬ S wb) (h : DiskAt w lo S db d) :
    Calls Tryz.prog 38 #[.pointer (some ⟨wb, 0, none⟩), .slice a bs.length c] w fun e w' => e = .returned (.int .i64 ((foldR d sum g n stuck bs).1 : Nat)) ∧ ∃ S', DiskAt w' lo S' db (foldR d sum g n stuck bs).2.1 ∧ DwAt w' wb db sum (foldR d sum g n stuck bs).2.2.1 (foldR d sum g n stuck bs).2.2.2.1 (foldR d sum g n stuck bs).2.2.2.2 ∧ Dw S wb w S' w' := by
  have hSl := h.low
  have hT := takes_any a bs.length c w hw
  obtain ⟨c0, c1, c2, c3, c4⟩ := hw.cells
  cases stuck with
  | true =>
    have e : foldR d sum g n true bs = (196, d, g, n, true) := rfl
    rw [e]
    rw [if_pos rfl] at hT
    have hF : Hid (∃ S', DiskAt w lo S' db d ∧ DwAt w wb db sum g n true ∧ Dw S wb w S' w) := ⟨S, h, hw, (Dv.refl S w).dw wb⟩
    clear h hw hN e
    go_enter Tryz.func38, Tryz.ntmps38
    go_wp2_with (go_at_call 31; refine hT.mono ?_; rintro e w9 ⟨rfl, hw9⟩; subst w9)
    go_ret
    exact ⟨rfl, hF.out⟩
  | false =>
    rw [if_neg (by decide)] at hT
    by_cases hl : 1048576 < bs.length
    · have e : foldR d sum g n false bs = (197, d, g, n, false) := by unfold foldR; rw [if_neg (by decide), if_pos hl]
      rw [e]
      rw [if_pos hl] at hT
      have hF : Hid (∃ S', DiskAt w lo S' db d ∧ DwAt w wb db sum g n false ∧ Dw S wb w S' w) := ⟨S, h, hw, (Dv.refl S w).dw wb⟩
      clear h hw hN e
      go_enter Tryz.func38, Tryz.ntmps38
      go_wp2_with (go_at_call 31; refine hT.mono ?_; rintro e w9 ⟨rfl, hw9⟩; subst w9)
      go_ret
      exact ⟨rfl, hF.out⟩
    rw [if_neg hl] at hT
    by_cases hg9 : g = 99999999
    · have e : foldR d sum g n false bs = (194, d, g, n, false) := by unfold foldR; rw [if_neg (by decide), if_neg hl, if_pos hg9]
      rw [e]
      have hF : Hid (∃ S', DiskAt w lo S' db d ∧ DwAt w wb db sum g n false ∧ Dw S wb w S' w) := ⟨S, h, hw, (Dv.refl S w).dw wb⟩
      have hg' : ((g : Int) == 99999999) = true := by rw [hg9]; rfl
      clear h hw hN e hg9 hg
      go_enter Tryz.func38, Tryz.ntmps38
      go_wp2_with (go_at_call 31; refine hT.mono ?_; rintro e w9 ⟨rfl, hw9⟩; subst w9)
      go_ret
      exact ⟨rfl, hF.out⟩
    have hg' : ((g : Int) == 99999999) = false := by rw [beq_eq_false_iff_ne]; omega
    obtain ⟨P, hP⟩ : ∃ P, foldR d sum g n false bs = P := ⟨_, rfl⟩
    have hPe : P = if (foldD d sum g bs).1 = 0 then (0, (foldD d sum g bs).2, g + 1, 0, false) else ((foldD d sum g bs).1, (foldD d sum g bs).2, g, n, true) := by
      rw [← hP]; unfold foldR; rw [if_neg (by decide), if_neg hl, if_neg hg9]
    rw [hP]
    clear hP
    obtain ⟨r, hr⟩ : ∃ r, lays d (Nm (g + 1)) (piece 0 sum 0 bs) = r := ⟨_, rfl⟩
    have hfd : foldD d sum g bs = if r.1 ≠ 0 then r else remove r.2 (Nm g) := by unfold foldD andThen; rw [hr]
    replace hPe := Hid.mk hPe
    replace hfd := Hid.mk hfd
    have hB := pbytes_any 0 sum 0 (by decide) hsum (by decide) a c hc bs (by omega) w.drew (hN.later ((Below.refl _ _).drew))
    rw [show ((0 : Nat) : Int) = 0 from rfl] at hB
    have hq : ∀ X, Below w.heap.size w X → X.cell? ⟨wb, 1, none⟩ = some (.int .u32 (sum : Int)) ∧ X.cell? ⟨wb, 2, none⟩ = some (.int .i64 (g : Int)) := fun X hX =>
      ⟨(hX.cell (p := ⟨wb, 1, none⟩) hw.lt).trans c1, (hX.cell (p := ⟨wb, 2, none⟩) hw.lt).trans c2⟩
    have B1 : Below w.heap.size w w.drew := (Below.refl _ _).drew
    have hq0 := hq _ B1
    have hL := fun (X : World) (hX : Below w.heap.size w X) (ad : Option Addr) (cap : Nat) (hcap : ad = none → cap = 0) (hcl : bs.length + 18 ≤ cap) (hby : Byts X ad (piece 0 sum 0 bs)) (hap : ∀ p, ad = some p → ¬ S p.block) => dlay_any (g + 1) (by omega) (data := piece 0 sum 0 bs) (by rw [piece_len]; omega) ad cap hcap (by rw [piece_len]; exact hcl) X (Nat.le_trans hlo hX.size) (ht.next (hX.mono hlo)) hby hap (hw.later hX) hwS (h.later hX)
    rw [piece_len, show ((g + 1 : Nat) : Int) = (g : Int) + 1 by omega] at hL
    simp only [hr] at hL
    have hpb : ∀ x ∈ piece 0 sum 0 bs, x < 256 := piece_bytes (by decide) hN.1
    have hkeep : ∀ S' X Y, Below w.heap.size w X → Dv S X S' Y → Y.cell? ⟨wb, 1, none⟩ = some (.int .u32 (sum : Int)) ∧ Y.cell? ⟨wb, 2, none⟩ = some (.int .i64 (g : Int)) := fun S' X Y hX hv => by
      obtain ⟨q2, q3⟩ := hq X hX
      have hl2 := World.block_lt_of_cell? _ _ q2
      exact ⟨(hv.gr.cell hl2 hwS).trans q2, (hv.gr.cell hl2 hwS).trans q3⟩
    have hgI : (g : Int) + 1 < 4294967296 := by omega
    have hg0 : (0 : Int) ≤ (g : Int) := by omega
    have hwr : IntKind.i64.wrap ((g : Int) + 1) = (g : Int) + 1 := by rw [IntKind.wrap_i64]; omega
    replace hL := Hid.mk hL
    replace hpb := Hid.mk hpb
    replace hkeep := Hid.mk hkeep
    replace hq := Hid.mk hq
    clear hg9
    go_enter Tryz.func38, Tryz.ntmps38
    go_wp2_with (go_at_call 31; refine hT.mono ?_; rintro e w9 ⟨rfl, hw9⟩; subst w9; clear hT)
    go_region_held3 (fun X => X.cell? ⟨wb, 1, none⟩ = some (.int .u32 (sum : Int)) ∧ X.cell? ⟨wb, 2, none⟩ = some (.int .i64 (g : Int))) (with_reducible assumption) (first | (go_at_call 33; refine hB.mono ?_; rintro e w2 ⟨v2, rfl, ho2, hb2⟩; have Bb : Below w.heap.size w w2 := B1.trans (hb2.mono B1.size); have hs2 := hq.out _ Bb; obtain ⟨p2, cc2, rfl⟩ := own_lenB ho2; have ho3 := own_pos ho2; have hby2 : Hid (Byts w2 p2 (piece 0 sum 0 bs)) := ⟨byts_of_own (n := bs.length + 18) hpb.out (by rw [piece_len]; exact ho2)⟩; have hap2 : Hid (∀ p, p2 = some p → ¬ S p.block) := ⟨fun p hp hS => (by have h1 := own_block ho2 hp; have h2 := (hSl _ hS).2; have h3 := B1.size; omega)⟩; clear hB ho2) | (go_at_call 32; refine (hL.out w2 Bb p2 cc2 ho3.1 ho3.2.1 hby2.out hap2.out).mono ?_; rintro e w3 ⟨rfl, S3, h3, hv3⟩; have hs3 := hkeep.out _ _ _ Bb hv3))
    have hDW : DwAt w3 wb db sum g n false := ((hw.later Bb)).grS hv3.gr hwS
    have hDv : Dv S w S3 w3 := Dv.trans (.below Bb) hv3
    obtain ⟨d0, d1, d2, d3, d4⟩ := hDW.cells
    have f4 := frozen_of_row w3 wb 4 _ _ hDW
    have hwl3 : ∀ k, S3 k → k ≠ wb := fun k hk e => by
      subst e
      rcases hDv.sub _ hk with h' | h'
      · exact hwS h'
      · have := hw.lt; omega
    by_cases hz : r.1 = 0
    case neg =>
      have hz' : ((r.1 : Int) == 0) = false := by rw [beq_eq_false_iff_ne]; omega
      have hz2 : ((r.1 : Int) != 0) = true := by rw [bne_iff_ne]; omega
      go_wp2
      go_ret
      have hPo := hPe.out
      rw [hfd.out, if_pos hz, if_neg hz] at hPo
      subst hPo
      refine ⟨rfl, S3, h3.grS (grS_set w3 wb 4 _) (fun k hk e => hwl3 k hk e), ?_, (hDv.dw wb).set 4 _⟩
      show (w3.setCell ⟨wb, 4, none⟩ (.bool true)).heap[wb]? = _
      rw [heap_setCell_same _ _ _ _ _ _ hDW]
      rfl
    have hz' : ((r.1 : Int) == 0) = true := by rw [hz]; rfl
    have hlo3 : Below lo w w3 := hDv.below' hlo hSl
    have ht3 : TabL lo w3 := ht.next hlo3
    have hLN := fun X (hX : Below w3.heap.size w3 X) => logName_any g hg lo X (ht3.next (hX.mono (Nat.le_trans hlo hlo3.size)))
    obtain ⟨sg, hsg⟩ : ∃ sg, strB (Nm g) = sg := ⟨_, rfl⟩
    have hRm := fun X (hX : Below w3.heap.size w3 X) => remove_any (Nm_len g) (Nm_lt g) X (h3.later hX)
    simp only [hsg] at hLN hRm
    obtain ⟨r2, hr2⟩ : ∃ r2, remove r.2 (Nm g) = r2 := ⟨_, rfl⟩
    simp only [hr2] at hRm
    replace hr2 := Hid.mk hr2
    have B3 : Below w3.heap.size w3 w3.drew := (Below.refl _ _).drew
    have hLN1 := hLN _ B3
    have hq3 : ∀ X, Below w3.heap.size w3 X → X.cell? ⟨wb, 0, none⟩ = some (.pointer (some ⟨db, 0, none⟩)) ∧ X.cell? ⟨wb, 2, none⟩ = some (.int .i64 (g : Int)) := fun X hX => ⟨(hX.cell (p := ⟨wb, 0, none⟩) hDW.lt).trans d0, (hX.cell (p := ⟨wb, 2, none⟩) hDW.lt).trans d2⟩
    have hs5 := hq3 _ B3
    have hkeep3 : ∀ S' X Y, Below w3.heap.size w3 X → Dv S3 X S' Y → Y.cell? ⟨wb, 0, none⟩ = some (.pointer (some ⟨db, 0, none⟩)) ∧ Y.cell? ⟨wb, 2, none⟩ = some (.int .i64 (g : Int)) := fun S' X Y hX hv => by
      obtain ⟨q2, q3⟩ := hq3 X hX
      have hl2 := World.block_lt_of_cell? _ _ q2
      exact ⟨(hv.gr.cell hl2 (fun e => hwl3 _ e rfl)).trans q2, (hv.gr.cell hl2 (fun e => hwl3 _ e rfl)).trans q3⟩
    replace hRm := Hid.mk hRm
    replace hkeep3 := Hid.mk hkeep3
    replace hq3 := Hid.mk hq3
    clear hLN hs3 hs2 hq0 d1 d3 d4
    go_upto_region 8 with fail
    go_region_held3 (fun X => X.cell? ⟨wb, 0, none⟩ = some (.pointer (some ⟨db, 0, none⟩)) ∧ X.cell? ⟨wb, 2, none⟩ = some (.int .i64 (g : Int))) (with_reducible assumption) (first | (go_at_call 54; refine hLN1.mono ?_; rintro e w4 ⟨rfl, hb4⟩; have Bc : Below w3.heap.size w3 w4 := B3.trans (hb4.mono B3.size); have hs4 := hq3.out _ Bc; clear hLN1) | (go_at_call 62; refine (hRm.out w4 Bc).mono ?_; rintro e w5 ⟨rfl, S5, h5, hv5⟩; have hs6 := hkeep3.out _ _ _ Bc hv5))
    have hDv5 : Dv S w S5 w5 := Dv.trans hDv (Dv.trans (.below Bc) hv5)
    have hDW5 : DwAt w5 wb db sum g n false := (hDW.later Bc).grS hv5.gr (fun e => hwl3 _ e rfl)
    have hwl5 : ∀ k, S5 k → k ≠ wb := fun k hk e => by
      subst e
      rcases hDv5.sub _ hk with h' | h'
      · exact hwS h'
      · have := hw.lt; omega
    obtain ⟨y0, y1, y2, y3, y4⟩ := hDW5.cells
    have g2 := frozen_of_row w5 wb 2 _ _ hDW5
    have g3 := frozen_of_row w5 wb 3 _ _ hDW5
    have g4 := frozen_of_row w5 wb 4 _ _ hDW5
    by_cases hy : r2.1 = 0
    · have hy' : ((r2.1 : Int) != 0) = false := by rw [hy]; rfl
      go_wp2
      go_ret
      have hPo := hPe.out
      have hfd2 : foldD d sum g bs = r2 := by rw [hfd.out, if_neg (fun h9 => h9 hz), hr2.out]
      rw [hfd2, if_pos hy] at hPo
      subst hPo
      refine ⟨rfl, S5, (h5.grS (grS_set w5 wb 2 _) (fun k hk e => hwl5 k hk e)).grS (grS_set _ wb 3 _) (fun k hk e => hwl5 k hk e), ?_, ((hDv5.dw wb).set 2 _).set 3 _⟩
      show ((w5.setCell ⟨wb, 2, none⟩ (.int .i64 ((g : Int) + 1))).setCell ⟨wb, 3, none⟩ (.int .i64 0)).heap[wb]? = _
      rw [heap_setCell_same _ _ _ _ _ _ (heap_setCell_same _ _ _ _ _ _ hDW5)]
      rfl
    · have hy' : ((r2.1 : Int) != 0) = true := by rw [bne_iff_ne]; omega
      go_wp2
      go_ret
      have hPo := hPe.out
      have hfd2 : foldD d sum g bs = r2 := by rw [hfd.out, if_neg (fun h9 => h9 hz), hr2.out]
      rw [hfd2, if_neg hy] at hPo
      subst hPo
      refine ⟨rfl, S5, h5.grS (grS_set w5 wb 4 _) (fun k hk e => hwl5 k hk e), ?_, (hDv5.dw wb).set 4 _⟩
      show (w5.setCell ⟨wb, 4, none⟩ (.bool true)).heap[wb]? = _
      rw [heap_setCell_same _ _ _ _ _ _ hDW5]
      rfl
end Go.Proofs.YtakcdgeanbpllaaGreatDoor.DJ

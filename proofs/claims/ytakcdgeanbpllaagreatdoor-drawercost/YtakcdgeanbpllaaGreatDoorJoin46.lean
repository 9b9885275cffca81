import Derived.Test.YtakcdgeanbpllaaGreatDoorJoin45
import Derived.Test.YtakcdgeanbpllaaGreatDoorDjA
import Derived.Test.YtakcdgeanbpllaaGreatDoorDjC
/- What known() meets, reckoned. -/
namespace Go.Proofs.YtakcdgeanbpllaaGreatDoor.DJ

def kd1 : Dk := (openD dk0 7).2.2
def kd2 : Dk := (putR kd1 7 1 0 false (5, [97])).2.1
def kd3 : Dk := arm kd2 3
def kd4 : Dk := (putR kd3 7 1 1 false (6, [98])).2.1
def kd5 : Dk := restart kd4 [100]
theorem kf1 : (putR kd1 7 1 0 false (5, [97])).1 = 0 ∧ (putR kd1 7 1 0 false (5, [97])).2.2 = (1, false) := by decide +kernel
theorem kf2 : (putR kd3 7 1 1 false (6, [98])).1 = 190 ∧ (putR kd3 7 1 1 false (6, [98])).2.2 = (1, true) := by decide +kernel
theorem kf3 : (openD kd5 7).1 = 0 ∧ (openD kd5 7).2.1 = some (1, [], [(5, [97])]) := by decide +kernel
theorem kf4 : kd5.fs.map (·.nm) = [Nm 1] := by decide +kernel
theorem kall5 : ∀ f ∈ kd5.fs, ∃ k, k ≤ 99999999 ∧ f.nm = Nm k := fun f hf => by
  have : f.nm ∈ kd5.fs.map (·.nm) := List.mem_map_of_mem hf
  rw [kf4] at this
  exact ⟨1, by decide, List.mem_singleton.1 this⟩
end Go.Proofs.YtakcdgeanbpllaaGreatDoor.DJ


/- THE SUM FINDS EVERY BYTE THAT IS CHANGED. No program. -/
namespace Go.Proofs.YtakcdgeanbpllaaGreatDoor.DJ

theorem mul_inj {a b : Nat} (ha : a < 4294967296) (hb : b < 4294967296) (h : a * 16777619 % 4294967296 = b * 16777619 % 4294967296) : a = b := by
  have key : ∀ c : Nat, c < 4294967296 → c * 16777619 % 4294967296 * 899433627 % 4294967296 = c := by
    intro c hc
    rw [Nat.mod_mul_mod, Nat.mul_assoc, Nat.mul_mod, show 16777619 * 899433627 % 4294967296 = 1 by decide, Nat.mul_one, Nat.mod_mod, Nat.mod_eq_of_lt hc]
  rw [← key a ha, ← key b hb, h]
theorem xor_left {h x y : Nat} (e : h ^^^ x = h ^^^ y) : x = y := by
  have : h ^^^ (h ^^^ x) = h ^^^ (h ^^^ y) := by rw [e]
  rwa [← Nat.xor_assoc, ← Nat.xor_assoc, Nat.xor_self, Nat.zero_xor, Nat.zero_xor] at this
theorem xor_right {h g x : Nat} (e : h ^^^ x = g ^^^ x) : h = g := by
  have : h ^^^ x ^^^ x = g ^^^ x ^^^ x := by rw [e]
  rwa [Nat.xor_assoc, Nat.xor_assoc, Nat.xor_self, Nat.xor_zero, Nat.xor_zero] at this
theorem fn1_state {h g x : Nat} (hh : h < 4294967296) (hg : g < 4294967296) (hx : x < 256) (e : fn1 h x = fn1 g x) : h = g := by
  have l1 : h ^^^ x < 4294967296 := Nat.xor_lt_two_pow (n := 32) hh (by omega)
  have l2 : g ^^^ x < 4294967296 := Nat.xor_lt_two_pow (n := 32) hg (by omega)
  exact xor_right (mul_inj l1 l2 e)
theorem fn1_byte {h x y : Nat} (hh : h < 4294967296) (hx : x < 256) (hy : y < 256) (e : fn1 h x = fn1 h y) : x = y := by
  have l1 : h ^^^ x < 4294967296 := Nat.xor_lt_two_pow (n := 32) hh (by omega)
  have l2 : h ^^^ y < 4294967296 := Nat.xor_lt_two_pow (n := 32) hh (by omega)
  exact xor_left (mul_inj l1 l2 e)
theorem fold_state (bs : List Nat) : ∀ {h g : Nat}, h < 4294967296 → g < 4294967296 → (∀ x ∈ bs, x < 256) → bs.foldl fn1 h = bs.foldl fn1 g → h = g := by
  induction bs with
  | nil => intro h g _ _ _ e; exact e
  | cons x bs ih =>
    intro h g hh hg hb e
    exact fn1_state hh hg (hb x List.mem_cons_self) (ih (fn1_lt h x) (fn1_lt g x) (fun y hy => hb y (List.mem_cons_of_mem _ hy)) e)
/-- One byte changed: another sum. -/
theorem fnv_turn {u v : List Nat} {x y : Nat} (hv : ∀ z ∈ v, z < 256) (hx : x < 256) (hy : y < 256) (e : fnv (u ++ x :: v) = fnv (u ++ y :: v)) : x = y := by
  unfold fnv at e
  rw [List.foldl_append, List.foldl_append, List.foldl_cons, List.foldl_cons] at e
  have hu : List.foldl fn1 fnv0 u < 4294967296 := fnv_lt u
  exact fn1_byte hu hx hy (fold_state v (fn1_lt _ x) (fn1_lt _ y) hv e)

/-- A piece with one byte changed, but for the four of its length, is whole nowhere with its own number. -/
theorem whole_turn {num sum kind k : Nat} {body u v rest : List Nat} {x y : Nat} (hk : kind < 256) (hb : ∀ z ∈ body, z < 256) (hl : body.length ≤ 1048576)
    (hp : piece num sum kind body = u ++ x :: v) (hy : y < 256) (hxy : x ≠ y) (hu : u.length < 9 ∨ 13 ≤ u.length) : whole (u ++ y :: v ++ rest) k = none := by
  have hall := piece_bytes (num := num) (sum := sum) hk hb
  rw [hp] at hall
  have hx : x < 256 := hall x (List.mem_append_right _ List.mem_cons_self)
  have hv : ∀ z ∈ v, z < 256 := fun z hz => hall z (List.mem_append_right _ (List.mem_cons_of_mem _ hz))
  have hlen : u.length + 1 + v.length = body.length + 18 := by
    have := congrArg List.length hp
    rw [piece_len, List.length_append, List.length_cons] at this
    omega
  cases hw : whole (u ++ y :: v ++ rest) k with
  | none => rfl
  | some t =>
    obtain ⟨s, kd, bd⟩ := t
    exfalso
    obtain ⟨rest2, hr, hl2, -⟩ := whole_some hw
    -- the lengths are the same
    have t1 : told ((u ++ y :: v ++ rest).drop 9) = bd.length := by rw [hr, drop_piece9]; exact told_four _ (by omega) _
    have t2 : told ((u ++ x :: v).drop 9) = body.length := by rw [← hp, ← List.append_nil (piece num sum kind body), drop_piece9]; exact told_four _ (by omega) _
    have t3 : ∀ i, i < 4 → ((u ++ y :: v ++ rest).drop 9).getD i 0 = ((u ++ x :: v).drop 9).getD i 0 := by
      intro i hi
      rw [List.getD_eq_getElem?_getD, List.getD_eq_getElem?_getD, List.getElem?_drop, List.getElem?_drop]
      congr 1
      rcases hu with h | h
      · obtain ⟨m, hm⟩ : ∃ m, 9 + i - u.length = m + 1 := ⟨9 + i - u.length - 1, by omega⟩
        have q1 : (u ++ (y :: v ++ rest))[9 + i]? = (y :: v ++ rest)[m + 1]? := by rw [List.getElem?_append_right (by omega), hm]
        have q2 : (u ++ x :: v)[9 + i]? = (x :: v)[m + 1]? := by rw [List.getElem?_append_right (by omega), hm]
        rw [List.append_assoc, q1, q2, List.cons_append, List.getElem?_cons_succ, List.getElem?_cons_succ, List.getElem?_append_left (by omega)]
      · rw [List.append_assoc, List.getElem?_append_left (by omega), List.getElem?_append_left (by omega)]
    have t4 : bd.length = body.length := by
      rw [← t1, ← t2]
      unfold told
      rw [t3 0 (by decide), t3 1 (by decide), t3 2 (by decide), t3 3 (by decide)]
    -- so both are pieces of the same length
    have e1 : u ++ y :: v = piece k s kd bd := by
      have h1 : (u ++ y :: v ++ rest).take (body.length + 18) = u ++ y :: v := List.take_left' (by rw [List.length_append, List.length_cons]; omega)
      have h2 : (piece k s kd bd ++ rest2).take (body.length + 18) = piece k s kd bd := List.take_left' (by rw [piece_len, t4])
      rw [← h1, hr, h2]
    by_cases hc : u.length < body.length + 14
    · -- the byte stands ahead of the sum
      obtain ⟨v1, v2, rfl, hv2⟩ : ∃ v1 v2, v = v1 ++ v2 ∧ v2.length = 4 := ⟨v.take (v.length - 4), v.drop (v.length - 4), (List.take_append_drop _ _).symm, by rw [List.length_drop]; omega⟩
      have a1 := hp
      unfold piece at a1
      rw [← List.cons_append, ← List.append_assoc] at a1
      obtain ⟨b1, b2⟩ := List.append_inj' a1 (by rw [four_len, hv2])
      have c1 := e1
      unfold piece at c1
      rw [← List.cons_append, ← List.append_assoc] at c1
      obtain ⟨d1, d2⟩ := List.append_inj' c1 (by rw [four_len, hv2])
      have hf := four_inj (fnv_lt _) (fnv_lt _) (b2.trans d2)
      rw [b1, ← d1] at hf
      exact hxy (fnv_turn (fun z hz => hv z (List.mem_append_left _ hz)) hx hy hf)
    · -- it is one of the sum's own
      obtain ⟨u1, u2, rfl, hu1⟩ : ∃ u1 u2, u = u1 ++ u2 ∧ u1.length = body.length + 14 := ⟨u.take (body.length + 14), u.drop (body.length + 14), (List.take_append_drop _ _).symm, by rw [List.length_take]; omega⟩
      have a1 := hp
      unfold piece at a1
      rw [List.append_assoc] at a1
      obtain ⟨b1, b2⟩ := List.append_inj a1 (by rw [body0_len, hu1])
      have c1 := e1
      unfold piece at c1
      rw [List.append_assoc] at c1
      obtain ⟨d1, d2⟩ := List.append_inj c1 (by rw [body0_len, hu1, t4])
      rw [b1, d1] at b2
      rw [← d2] at b2
      have := List.append_cancel_left b2
      injection this with h _
      exact hxy h.symm
end Go.Proofs.YtakcdgeanbpllaaGreatDoor.DJ


/- WHAT STANDS ON A DISK THAT NOBODY ELSE WRITES ON (P19.11). No program. -/
namespace Go.Proofs.YtakcdgeanbpllaaGreatDoor.DJ

structure Good (sum : Nat) (s : List Nat) (R : List Rec) : Prop where
  sum : sum < 4294967296
  s : s.length ≤ 1048576
  R : ∀ r ∈ R, r.2.length ≤ 1048576

def main (sum : Nat) (s : List Nat) (R : List Rec) (g : Nat) : Fl := ⟨Nm g, enc sum s R, (enc sum s R).length⟩
def torn (sum : Nat) (s : List Nat) (g n k : Nat) : Fl := ⟨Nm g, (piece 0 sum 0 s).take n, k⟩
def tail (sum : Nat) (s : List Nat) (R : List Rec) (r : Rec) (g n k : Nat) : Fl := ⟨Nm g, enc sum s R ++ (piece (R.length + 1) sum r.1 r.2).take n, k⟩

/-- The journal's one file, all sure. -/
def Base (sum : Nat) (s : List Nat) (R : List Rec) (g : Nat) (fs : List Fl) : Prop := fs = [main sum s R g] ∧ Good sum s R ∧ 1 ≤ g ∧ g ≤ 99999999

/-- What may stand there: L: a record in flight, F: a summary in flight. -/
inductive Shp (sum : Nat) (s : List Nat) (R : List Rec) (L : Option Rec) (F : Option (List Nat)) (g : Nat) : List Fl → Prop
  | base : Shp sum s R L F g [main sum s R g]
  | late {r : Rec} {n k : Nat} : L = some r → n ≤ r.2.length + 18 → (enc sum s R).length ≤ k → k ≤ (enc sum s R).length + n → Shp sum s R L F g [tail sum s R r g n k]
  | foldA {t : List Nat} {n k : Nat} : F = some t → n ≤ t.length + 18 → k ≤ n → Shp sum s R L F g [main sum s R g, torn sum t (g + 1) n k]
  | foldB {t : List Nat} {n k : Nat} : F = some t → n ≤ t.length + 18 → k ≤ n → Shp sum s R L F g [torn sum t (g + 1) n k, main sum s R g]
  | none : s = [] → R = [] → g = 1 → Shp sum s R L F g []
  | fresh {n k : Nat} : s = [] → R = [] → g = 1 → n ≤ 18 → k ≤ n → Shp sum s R L F g [torn sum [] 1 n k]

/-- The bounds of what stands there and of what is in flight. -/
structure Fine (sum : Nat) (s : List Nat) (R : List Rec) (L : Option Rec) (F : Option (List Nat)) (g : Nat) : Prop where
  good : Good sum s R
  L : ∀ r, L = some r → r.2.length ≤ 1048576
  F : ∀ t, F = some t → t.length ≤ 1048576 ∧ g + 1 ≤ 99999999
  one : 1 ≤ g
  top : g ≤ 99999999

/-- What Open may tell. -/
def May (s : List Nat) (R : List Rec) (L : Option Rec) (F : Option (List Nat)) (s' : List Nat) (R' : List Rec) : Prop :=
  (s' = s ∧ (R' = R ∨ ∃ r, L = some r ∧ R' = R ++ [r])) ∨ (F = some s' ∧ R' = [])

theorem enc_nil (sum : Nat) (s : List Nat) : enc sum s [] = piece 0 sum 0 s := by simp [enc, encR]
theorem enc_drop (sum : Nat) (s t : List Nat) (R : List Rec) : (enc sum s R ++ t).drop (18 + s.length) = encR sum 1 R ++ t := by
  unfold enc
  rw [List.append_assoc, List.drop_left']
  rw [piece_len]; omega
theorem enc_len (sum : Nat) (s : List Nat) (R : List Rec) : (enc sum s R).length = 18 + s.length + (encR sum 1 R).length := by
  unfold enc; rw [List.length_append, piece_len]; omega
theorem enc_whole {sum : Nat} {s : List Nat} {R : List Rec} (h : Good sum s R) (t : List Nat) : whole (enc sum s R ++ t) 0 = some (sum, 0, s) := by
  unfold enc; rw [List.append_assoc]; exact whole_piece 0 sum 0 s _ h.sum h.s (fun _ => rfl)
theorem enc_recs {sum : Nat} {s : List Nat} {R : List Rec} (h : Good sum s R) {t : List Nat} (ht : ∀ kd bd, whole t (R.length + 1) ≠ some (sum, kd, bd)) :
    recs sum ((enc sum s R ++ t).drop (18 + s.length)) 1 = (R, (encR sum 1 R).length) := by
  rw [enc_drop]
  apply recs_eq
  have := Rd.encR h.sum (l := R) (k := 1) (rest := t) (l' := []) (n := 0) (by decide) h.R (.stop (by rw [Nat.add_comm]; exact ht))
  simpa using this

theorem get_one (f : Fl) : get [f] f.nm ≠ none := by simp [get]
theorem upd_one (f : Fl) (u : Fl → Fl) : upd [f] f.nm u = [u f] := by simp [upd]

/-- Open's answer where the file that it takes is known. -/
theorem open_some {d : Dk} {sum : Nat} {f : Fl} {s t : List Nat} {R : List Rec} {P Q : List Fl → Prop} (hu : d.down = false) (hb : best d.fs = some f) (hf : f.dat = enc sum s R ++ t) (hg : Good sum s R)
    (ht : ∀ kd bd, whole t (R.length + 1) ≠ some (sum, kd, bd)) (hm : Out (Calm d) (mend d f (enc sum s R).length) P Q) :
    (((openD d sum).1 = 0 ∧ (openD d sum).2.1 = some (genOf f.nm, s, R) ∧ P (openD d sum).2.2.fs) ∨
      (((openD d sum).1 = 190 ∨ (openD d sum).1 = 191 ∨ (openD d sum).1 = 194) ∧ (openD d sum).2.1 = none ∧ Q (openD d sum).2.2.fs)) ∧ (Calm d → (openD d sum).1 = 0 ∧ Calm (openD d sum).2.2) := by
  have hw := enc_whole hg t
  have hr := enc_recs hg ht
  rw [← hf] at hw hr
  have ha : 18 + s.length + (encR sum 1 R).length = (enc sum s R).length := (enc_len sum s R).symm
  have ho : openD d sum = if (mend d f (enc sum s R).length).1 ≠ 0 then ((mend d f (enc sum s R).length).1, none, (mend d f (enc sum s R).length).2) else (0, some (genOf f.nm, s, R), (mend d f (enc sum s R).length).2) := by
    unfold openD
    rw [hu, hb]
    simp only [hw, hr, ha]
    simp
  rw [ho]
  rcases hm.out with ⟨h0, hp⟩ | ⟨he, hq⟩
  · rw [if_neg (by omega)]
    exact ⟨.inl ⟨rfl, rfl, hp⟩, fun hc => ⟨rfl, (hm.calm hc).2⟩⟩
  · rw [if_pos (by omega)]
    exact ⟨.inr ⟨he, rfl, hq⟩, fun hc => ⟨(hm.calm hc).1, (hm.calm hc).2⟩⟩
theorem open_none {d : Dk} {sum : Nat} {P Q : List Fl → Prop} (hu : d.down = false) (hb : best d.fs = none) (hm : Out (Calm d) (andThen (removes (others d.fs 0) d) fun d1 => lays d1 (Nm 1) (piece 0 sum 0 [])) P Q) :
    (((openD d sum).1 = 0 ∧ (openD d sum).2.1 = some (1, [], []) ∧ P (openD d sum).2.2.fs) ∨
      (((openD d sum).1 = 190 ∨ (openD d sum).1 = 191 ∨ (openD d sum).1 = 194) ∧ (openD d sum).2.1 = none ∧ Q (openD d sum).2.2.fs)) ∧ (Calm d → (openD d sum).1 = 0 ∧ Calm (openD d sum).2.2) := by
  have ho : openD d sum = if (andThen (removes (others d.fs 0) d) fun d1 => lays d1 (Nm 1) (piece 0 sum 0 [])).1 ≠ 0 then ((andThen (removes (others d.fs 0) d) fun d1 => lays d1 (Nm 1) (piece 0 sum 0 [])).1, none, (andThen (removes (others d.fs 0) d) fun d1 => lays d1 (Nm 1) (piece 0 sum 0 [])).2) else (0, some (1, [], []), (andThen (removes (others d.fs 0) d) fun d1 => lays d1 (Nm 1) (piece 0 sum 0 [])).2) := by
    unfold openD
    rw [hu, hb]
    simp
  rw [ho]
  rcases hm.out with ⟨h0, hp⟩ | ⟨he, hq⟩
  · rw [if_neg (by omega)]
    exact ⟨.inl ⟨rfl, rfl, hp⟩, fun hc => ⟨rfl, (hm.calm hc).2⟩⟩
  · rw [if_pos (by omega)]
    exact ⟨.inr ⟨he, rfl, hq⟩, fun hc => ⟨(hm.calm hc).1, (hm.calm hc).2⟩⟩

/-- One file: the rest is cut off, all is made sure. -/
theorem mend_one {d : Dk} {f : Fl} {n : Nat} {Q : List Fl → Prop} (hd : d.fs = [f]) (hn : named f.nm) (hl : n ≤ f.dat.length) (hk : f.sure ≤ f.dat.length) (hq : Q [f]) (ht : n < f.dat.length → Q [trimF n f]) :
    Out (Calm d) (mend d f n) (fun fs => fs = [⟨f.nm, f.dat.take n, n⟩]) Q := by
  unfold mend
  refine Out.then (P := fun fs => fs = [⟨f.nm, f.dat.take n, if n < f.dat.length then min f.sure n else f.sure⟩]) ?_ ?_
  · split
    · rename_i hlt
      refine out_changes hn (by rw [hd]; exact get_one f) ?_ (by rw [hd]; exact hq)
      rw [hd, upd_one]
      simp only [trimF, Int.toNat_natCast, List.length_take, Nat.min_eq_left hl]
    · refine Out.done ?_
      rw [hd, List.take_of_length_le (by omega)]
  · intro c hc
    have hq' : Q c.fs := by
      rw [hc]
      split
      · rename_i hlt
        have := ht hlt
        simpa only [trimF, List.length_take, Nat.min_eq_left hl] using this
      · rw [List.take_of_length_le (by omega)]; exact hq
    refine Out.then (P := fun fs => fs = [⟨f.nm, f.dat.take n, n⟩]) ?_ ?_
    · split
      · rename_i hlt
        refine out_changes hn (by rw [hc]; exact get_one ⟨f.nm, _, _⟩) ?_ hq'
        rw [hc]
        show upd [(⟨f.nm, _, _⟩ : Fl)] (⟨f.nm, f.dat.take n, 0⟩ : Fl).nm syncF = _
        simp [upd, syncF, Nat.min_eq_left hl]
      · refine Out.done ?_
        rw [hc]
        congr 2
        split <;> omega
    · intro e he
      rw [he]
      have : others [(⟨f.nm, f.dat.take n, n⟩ : Fl)] (genOf f.nm) = [] := by simp [others]
      rw [this]
      exact Out.done he
end Go.Proofs.YtakcdgeanbpllaaGreatDoor.DJ


/- OPEN KEEPS WHAT WAS TOLD (P19.11). No program. -/
namespace Go.Proofs.YtakcdgeanbpllaaGreatDoor.DJ

theorem main_eq (sum : Nat) (s : List Nat) (R : List Rec) (g : Nat) : main sum s R g = ⟨Nm g, enc sum s R, (enc sum s R).length⟩ := rfl
theorem torn_eq (sum : Nat) (s : List Nat) (g n k : Nat) : torn sum s g n k = ⟨Nm g, (piece 0 sum 0 s).take n, k⟩ := rfl
theorem tail_eq (sum : Nat) (s : List Nat) (R : List Rec) (r : Rec) (g n k : Nat) : tail sum s R r g n k = ⟨Nm g, enc sum s R ++ (piece (R.length + 1) sum r.1 r.2).take n, k⟩ := rfl
theorem take_piece (num sum kind n : Nat) (body : List Nat) (h : body.length + 18 ≤ n) : (piece num sum kind body).take n = piece num sum kind body := List.take_of_length_le (by rw [piece_len]; exact h)

theorem take_min {l : List Nat} {n m : Nat} (h : l.length = m) : l.take (min n m) = l.take n := by
  by_cases hn : n ≤ m
  · rw [Nat.min_eq_left hn]
  · rw [Nat.min_eq_right (by omega), List.take_of_length_le (by omega), List.take_of_length_le (by omega)]

theorem nothing {k sum : Nat} : ∀ kd bd, whole [] k ≠ some (sum, kd, bd) := fun kd bd h => by rw [whole_nil] at h; cases h

/-- Open's promise at a disk. -/
def Opens (sum : Nat) (s : List Nat) (R : List Rec) (L : Option Rec) (F : Option (List Nat)) (g : Nat) (d : Dk) : Prop :=
  (((openD d sum).1 = 0 ∧ (∃ g' s' R', (openD d sum).2.1 = some (g', s', R') ∧ May s R L F s' R' ∧ (g' = g ∨ (g' = g + 1 ∧ F.isSome)) ∧ Base sum s' R' g' (openD d sum).2.2.fs)) ∨
    (((openD d sum).1 = 190 ∨ (openD d sum).1 = 191 ∨ (openD d sum).1 = 194) ∧ (openD d sum).2.1 = none ∧ Shp sum s R L F g (openD d sum).2.2.fs)) ∧ (Calm d → (openD d sum).1 = 0 ∧ Calm (openD d sum).2.2)

theorem best_one {f : Fl} (hg : 0 < genOf f.nm) (hw : (whole f.dat 0).isSome) : best [f] = some f := by simp [best, better, hg, hw]
theorem best_torn {f : Fl} (hw : whole f.dat 0 = none) : best [f] = none := by simp [best, better, hw]

/-- One file that can be read. -/
theorem open_one {sum : Nat} {s s' t : List Nat} {R R' : List Rec} {L : Option Rec} {F : Option (List Nat)} {g g' : Nat} {d : Dk} {f : Fl} (hu : d.down = false) (hd : d.fs = [f]) (hn : f.nm = Nm g') (h1 : 1 ≤ g') (h9 : g' ≤ 99999999)
    (hf : f.dat = enc sum s' R' ++ t) (hg : Good sum s' R') (ht : ∀ kd bd, whole t (R'.length + 1) ≠ some (sum, kd, bd)) (hk : f.sure ≤ f.dat.length)
    (hq : Shp sum s R L F g [f]) (hq' : t ≠ [] → Shp sum s R L F g [trimF (enc sum s' R').length f]) (hm : May s R L F s' R') (hgg : g' = g ∨ (g' = g + 1 ∧ F.isSome)) : Opens sum s R L F g d := by
  have hgen : genOf f.nm = g' := by rw [hn]; exact gen_Nm g' h9
  have hb : best d.fs = some f := by
    rw [hd]
    refine best_one (by omega) ?_
    rw [hf, enc_whole hg t]; rfl
  have hl : (enc sum s' R').length ≤ f.dat.length := by rw [hf, List.length_append]; omega
  have hmend := mend_one (d := d) (f := f) (n := (enc sum s' R').length) (Q := Shp sum s R L F g) hd (by rw [hn]; exact named_Nm g') hl hk hq (fun h => hq' (by
    rintro rfl
    rw [hf, List.append_nil] at h
    omega))
  obtain ⟨h, hc⟩ := open_some hu hb hf hg ht hmend
  refine ⟨?_, hc⟩
  rcases h with ⟨a, b, e⟩ | h
  · refine .inl ⟨a, g', s', R', by rw [b, hgen], hm, hgg, ?_, hg, h1, h9⟩
    rw [e, hf, List.take_left' rfl, hn, main_eq]
  · exact .inr h

/-- The beginning: an empty summary is laid down. -/
theorem lays_begin {sum : Nat} (hs : sum < 4294967296) {s : List Nat} {R : List Rec} {L : Option Rec} {F : Option (List Nat)} {g : Nat} (h1 : s = []) (h2 : R = []) (h3 : g = 1) (d : Dk) (hd : d.fs = []) :
    Out (Calm d) (lays d (Nm 1) (piece 0 sum 0 [])) (Base sum [] [] 1) (Shp sum s R L F g) := by
  have hlay : ∀ p, lay d.fs (Nm 1) p = [⟨Nm 1, p, 0⟩] := by intro p; rw [hd]; rfl
  have h18 : (piece 0 sum 0 []).length = 18 := by rw [piece_len]; rfl
  refine Out.weak (out_lays (named_Nm 1) (by rw [hd]; exact .none h1 h2 h3) ?_ ?_ ?_) (fun hc => ⟨hc, ?_, ?_⟩)
  · intro n
    rw [hlay]
    have := Shp.fresh (sum := sum) (s := s) (R := R) (L := L) (F := F) (g := g) (n := min n 18) (k := 0) h1 h2 h3 (by omega) (by omega)
    rw [torn_eq] at this
    rwa [show (piece 0 sum 0 []).take (min n 18) = (piece 0 sum 0 []).take n from take_min h18] at this
  · rw [hlay]; exact get_one ⟨Nm 1, _, _⟩
  · rw [hlay]
    refine ⟨?_, ⟨hs, by simp, by simp⟩, by decide, by decide⟩
    rw [main_eq, enc_nil]
    exact upd_one ⟨Nm 1, piece 0 sum 0 [], 0⟩ syncF
  · rw [hd, h18]; decide
  · rw [hd]; decide

/-- Two files, in the one order or the other. -/
def Two (A B : Fl) (fs : List Fl) : Prop := fs = [A, B] ∨ fs = [B, A]
theorem Two.getA {A B : Fl} {fs : List Fl} (h : Two A B fs) : get fs A.nm ≠ none := by
  rcases h with rfl | rfl <;> simp [get]
theorem Two.getB {A B : Fl} {fs : List Fl} (h : Two A B fs) : get fs B.nm ≠ none := by
  rcases h with rfl | rfl <;> simp [get]
theorem Two.delA {A B : Fl} {fs : List Fl} (h : Two A B fs) (hn : A.nm ≠ B.nm) : del fs A.nm = [B] := by
  rcases h with rfl | rfl <;> simp [del, Ne.symm hn]
theorem Two.delB {A B : Fl} {fs : List Fl} (h : Two A B fs) (hn : A.nm ≠ B.nm) : del fs B.nm = [A] := by
  rcases h with rfl | rfl <;> simp [del, hn]
theorem Two.updB {A B : Fl} {fs : List Fl} (h : Two A B fs) (hn : A.nm ≠ B.nm) (u : Fl → Fl) : Two A (u B) (upd fs B.nm u) := by
  rcases h with rfl | rfl
  · left; simp [upd, hn]
  · right; simp [upd, hn]
theorem Two.othersA {A B : Fl} {fs : List Fl} {g : Nat} (h : Two A B fs) (ha : genOf A.nm = g) (hb : genOf B.nm = g + 1) : others fs g = [B.nm] := by
  rcases h with rfl | rfl <;> simp [others, ha, hb]
theorem Two.othersB {A B : Fl} {fs : List Fl} {g : Nat} (h : Two A B fs) (h1 : 1 ≤ g) (ha : genOf A.nm = g) (hb : genOf B.nm = g + 1) : others fs (g + 1) = [A.nm] := by
  have e1 : ¬ genOf A.nm = 0 := by omega
  have e2 : ¬ genOf A.nm = g + 1 := by omega
  rcases h with rfl | rfl <;> simp [others, hb, e1, e2]
theorem Two.bestB {A B : Fl} {fs : List Fl} {g : Nat} (h : Two A B fs) (h1 : 1 ≤ g) (ha : genOf A.nm = g) (hb : genOf B.nm = g + 1) (wa : (whole A.dat 0).isSome) (wb : (whole B.dat 0).isSome) : best fs = some B := by
  rcases h with rfl | rfl
  · simp [best, better, ha, hb, wa, wb, show 0 < g by omega]
  · simp [best, better, ha, hb, wa, wb, show ¬ g + 1 < g by omega]
theorem Two.bestA {A B : Fl} {fs : List Fl} {g : Nat} (h : Two A B fs) (h1 : 1 ≤ g) (ha : genOf A.nm = g) (wa : (whole A.dat 0).isSome) (wb : whole B.dat 0 = none) : best fs = some A := by
  rcases h with rfl | rfl
  · simp [best, better, ha, wa, wb, show 0 < g by omega]
  · simp [best, better, ha, wa, wb, show 0 < g by omega]

theorem open_two {sum : Nat} {s t : List Nat} {R : List Rec} {L : Option Rec} {F : Option (List Nat)} {g n k : Nat} {d : Dk} (hu : d.down = false) (hf : Fine sum s R L F g) (hF : F = some t) (hn : n ≤ t.length + 18) (hk : k ≤ n)
    (hd : Two (main sum s R g) (torn sum t (g + 1) n k) d.fs) : Opens sum s R L F g d := by
  obtain ⟨ht, hg9⟩ := hf.F t hF
  have ga : genOf (main sum s R g).nm = g := gen_Nm g hf.top
  have gb : genOf (torn sum t (g + 1) n k).nm = g + 1 := gen_Nm (g + 1) hg9
  have hne : (main sum s R g).nm ≠ (torn sum t (g + 1) n k).nm := fun e => absurd (Nm_inj hf.top hg9 e) (by omega)
  have wa : (whole (main sum s R g).dat 0).isSome := by
    have := enc_whole hf.good []
    rw [List.append_nil] at this
    rw [main_eq, this]; rfl
  have hQ : ∀ fs k, k ≤ n → Two (main sum s R g) (torn sum t (g + 1) n k) fs → Shp sum s R L F g fs := by
    intro fs k hk h
    rcases h with rfl | rfl
    · exact .foldA hF hn hk
    · exact .foldB hF hn hk
  by_cases hw : n = t.length + 18
  · -- the new summary is whole
    have hB : (torn sum t (g + 1) n k).dat = enc sum t [] ++ [] := by rw [torn_eq, enc_nil, List.append_nil]; exact take_piece _ _ _ _ _ (by omega)
    have hgood : Good sum t [] := ⟨hf.good.sum, ht, by simp⟩
    have hlen : (enc sum t []).length = n := by rw [enc_nil, piece_len, hw]
    have wb : (whole (torn sum t (g + 1) n k).dat 0).isSome := by rw [hB, enc_whole hgood []]; rfl
    have hb := hd.bestB hf.one ga gb wa wb
    have hmend : Out (Calm d) (mend d (torn sum t (g + 1) n k) (enc sum t []).length) (fun fs => fs = [main sum t [] (g + 1)]) (Shp sum s R L F g) := by
      unfold mend
      rw [if_neg (by rw [hB, List.append_nil]; omega), gb]
      refine Out.then (P := fun fs => Two (main sum s R g) (torn sum t (g + 1) n k) fs) (Out.done hd) ?_
      intro c hc
      refine Out.then (P := fun fs => Two (main sum s R g) (torn sum t (g + 1) n n) fs) ?_ ?_
      · split
        · refine out_changes (named_Nm (g + 1)) hc.getB ?_ (hQ _ k hk hc)
          have := hc.updB hne syncF
          rwa [show syncF (torn sum t (g + 1) n k) = torn sum t (g + 1) n n by
            rw [torn_eq, torn_eq]
            simp only [syncF, List.length_take, piece_len]
            congr 1
            omega] at this
        · rename_i hno
          refine Out.done ?_
          rw [show k = n by rw [torn_eq, hlen] at hno; simp only at hno; omega] at hc
          exact hc
      · intro e he
        rw [he.othersB hf.one ga (gen_Nm (g + 1) hg9)]
        refine Out.then (P := fun fs => fs = [main sum t [] (g + 1)]) ?_ (fun c2 h2 => Out.done h2)
        refine out_changes (named_Nm g) he.getA ?_ (hQ _ n (Nat.le_refl _) he)
        rw [he.delA hne, main_eq, torn_eq, enc_nil, take_piece _ _ _ _ _ (by omega), piece_len, hw]
    obtain ⟨h, hc⟩ := open_some hu hb hB hgood nothing hmend
    refine ⟨?_, hc⟩
    rcases h with ⟨a, b, e⟩ | h
    · exact .inl ⟨a, g + 1, t, [], by rw [b, gb], .inr ⟨hF, rfl⟩, .inr ⟨rfl, by rw [hF]; rfl⟩, e, hgood, by omega, hg9⟩
    · exact .inr h
  · -- it is torn
    have wb : whole (torn sum t (g + 1) n k).dat 0 = none := whole_short 0 sum 0 n 0 t ht (by omega)
    have hb := hd.bestA hf.one ga wa wb
    have hA : (main sum s R g).dat = enc sum s R ++ [] := by rw [main_eq, List.append_nil]
    have hmend : Out (Calm d) (mend d (main sum s R g) (enc sum s R).length) (fun fs => fs = [main sum s R g]) (Shp sum s R L F g) := by
      unfold mend
      rw [if_neg (by rw [main_eq]; exact Nat.lt_irrefl _), ga]
      refine Out.then (P := fun fs => Two (main sum s R g) (torn sum t (g + 1) n k) fs) (Out.done hd) ?_
      intro c hc
      rw [if_neg (by rw [main_eq]; exact Nat.lt_irrefl _)]
      refine Out.then (P := fun fs => Two (main sum s R g) (torn sum t (g + 1) n k) fs) (Out.done hc) ?_
      intro e he
      rw [he.othersA ga gb]
      refine Out.then (P := fun fs => fs = [main sum s R g]) ?_ (fun c2 h2 => Out.done h2)
      exact out_changes (named_Nm (g + 1)) he.getB (he.delB hne) (hQ _ k hk he)
    obtain ⟨h, hc⟩ := open_some hu hb hA hf.good nothing hmend
    refine ⟨?_, hc⟩
    rcases h with ⟨a, b, e⟩ | h
    · exact .inl ⟨a, g, s, R, by rw [b, ga], .inl ⟨rfl, .inl rfl⟩, .inl rfl, e, hf.good, hf.one, hf.top⟩
    · exact .inr h

/-- OPEN: what it tells is what may stand there; with an error all stays as it may be. -/
theorem open_kept {sum : Nat} {s : List Nat} {R : List Rec} {L : Option Rec} {F : Option (List Nat)} {g : Nat} {d : Dk} (hf : Fine sum s R L F g) (h : Shp sum s R L F g d.fs) : Opens sum s R L F g d := by
  by_cases hu : d.down = true
  · have ho : openD d sum = (190, none, d) := by unfold openD; rw [hu]; rfl
    refine ⟨.inr ?_, fun hc => absurd hc.1 (by rw [hu]; decide)⟩
    rw [ho]
    exact ⟨.inl rfl, rfl, h⟩
  have hu : d.down = false := by simpa using hu
  generalize hfs : d.fs = fs at h
  cases h with
  | base => exact open_one (f := main sum s R g) (t := []) hu hfs rfl hf.one hf.top (List.append_nil _).symm hf.good nothing (Nat.le_refl _) .base (fun h => absurd rfl h) (.inl ⟨rfl, .inl rfl⟩) (.inl rfl)
  | @late r n k hL hn hk1 hk2 =>
    have hr := hf.L r hL
    have hpl := piece_len (R.length + 1) sum r.1 r.2
    have hsure : (tail sum s R r g n k).sure ≤ (tail sum s R r g n k).dat.length := by
      rw [tail_eq]; simp only [List.length_append, List.length_take, hpl]; omega
    by_cases hw : n = r.2.length + 18
    · refine open_one (f := tail sum s R r g n k) (s' := s) (R' := R ++ [r]) (t := []) hu hfs rfl hf.one hf.top ?_ ⟨hf.good.sum, hf.good.s, ?_⟩ nothing hsure (.late hL hn hk1 hk2) (fun h => absurd rfl h) (.inl ⟨rfl, .inr ⟨r, hL, rfl⟩⟩) (.inl rfl)
      · rw [enc_snoc, List.append_nil, tail_eq, take_piece _ _ _ _ _ (by omega)]
      · intro x hx
        rcases List.mem_append.mp hx with h | h
        · exact hf.good.R x h
        · rw [List.mem_singleton.mp h]; exact hr
    · refine open_one (f := tail sum s R r g n k) (t := (piece (R.length + 1) sum r.1 r.2).take n) hu hfs rfl hf.one hf.top rfl hf.good ?_ hsure (.late hL hn hk1 hk2) ?_ (.inl ⟨rfl, .inl rfl⟩) (.inl rfl)
      · intro kd bd h
        rw [whole_short _ _ _ _ _ _ hr (by omega)] at h
        cases h
      · intro _
        have := Shp.late (sum := sum) (s := s) (R := R) (F := F) (g := g) (n := 0) (k := (enc sum s R).length) hL (by omega) (Nat.le_refl _) (Nat.le_refl _)
        rw [tail_eq, List.take_zero, List.append_nil] at this
        have e : trimF (enc sum s R).length (tail sum s R r g n k) = ⟨Nm g, enc sum s R, (enc sum s R).length⟩ := by
          rw [tail_eq]
          simp only [trimF, List.take_left' rfl]
          rw [Nat.min_eq_right hk1]
        rw [e]
        exact this
  | foldA hF hn hk => exact open_two hu hf hF hn hk (.inl hfs)
  | foldB hF hn hk => exact open_two hu hf hF hn hk (.inr hfs)
  | none h1 h2 h3 =>
    have hm : Out (Calm d) (andThen (removes (others d.fs 0) d) fun d1 => lays d1 (Nm 1) (piece 0 sum 0 [])) (Base sum [] [] 1) (Shp sum s R L F g) := by
      rw [hfs]
      exact Out.then (P := fun fs => fs = []) (Out.done hfs) (fun c hc => lays_begin hf.good.sum h1 h2 h3 c hc)
    obtain ⟨h, hc⟩ := open_none hu (by rw [hfs]; rfl) hm
    refine ⟨?_, hc⟩
    rcases h with ⟨a, b, e⟩ | h
    · exact .inl ⟨a, 1, [], [], b, .inl ⟨h1.symm, .inl h2.symm⟩, .inl h3.symm, e⟩
    · exact .inr h
  | @fresh n k h1 h2 h3 hn hk =>
    by_cases hw : n = 18
    · refine open_one (f := torn sum [] 1 n k) (s' := []) (R' := []) (t := []) (g' := 1) hu hfs rfl (by decide) (by decide) ?_ ⟨hf.good.sum, by simp, by simp⟩ nothing ?_ (.fresh h1 h2 h3 hn hk) (fun h => absurd rfl h) (.inl ⟨h1.symm, .inl h2.symm⟩) (.inl h3.symm)
      · rw [enc_nil, List.append_nil, torn_eq, take_piece _ _ _ _ _ (by rw [hw]; decide)]
      · rw [torn_eq]; simp only [List.length_take, piece_len, List.length_nil]; omega
    · have hwn : whole (torn sum [] 1 n k).dat 0 = Option.none := whole_short 0 sum 0 n 0 [] (by decide) (by simp only [List.length_nil]; omega)
      have g1 : genOf (torn sum [] 1 n k).nm = 1 := gen_Nm 1 (by decide)
      have hm : Out (Calm d) (andThen (removes (others d.fs 0) d) fun d1 => lays d1 (Nm 1) (piece 0 sum 0 [])) (Base sum [] [] 1) (Shp sum s R L F g) := by
        have ho : others d.fs 0 = [Nm 1] := by rw [hfs]; simp [others, g1]; rfl
        rw [ho]
        refine Out.then (P := fun fs => fs = []) ?_ (fun c hc => lays_begin hf.good.sum h1 h2 h3 c hc)
        refine Out.then (P := fun fs => fs = []) ?_ (fun c2 h2 => Out.done h2)
        refine out_changes (named_Nm 1) (by rw [hfs]; exact get_one (torn sum [] 1 n k)) ?_ (by rw [hfs]; exact .fresh h1 h2 h3 hn hk)
        rw [hfs, torn_eq]
        simp [del]
      obtain ⟨h, hc⟩ := open_none hu (by rw [hfs]; exact best_torn hwn) hm
      refine ⟨?_, hc⟩
      rcases h with ⟨a, b, e⟩ | h
      · exact .inl ⟨a, 1, [], [], b, .inl ⟨h1.symm, .inl h2.symm⟩, .inl h3.symm, e⟩
      · exact .inr h
end Go.Proofs.YtakcdgeanbpllaaGreatDoor.DJ

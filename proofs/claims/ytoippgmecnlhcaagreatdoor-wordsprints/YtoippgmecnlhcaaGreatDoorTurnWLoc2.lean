import Derived.Test.YtoippgmecnlhcaaGreatDoorJoin27
namespace Go.Proofs.YtoippgmecnlhcaaGreatDoor.Q

theorem cls_digit32 (k : Nat) : cls k = 32 ↔ 48 ≤ k ∧ k ≤ 57 := by
  unfold cls
  constructor
  · intro h
    repeat' split at h
    all_goals omega
  · intro h
    repeat rw [if_neg (by omega)]
    rw [if_pos (by omega)]
/-- What may follow a word in the place of v. -/
structure Fol (v v' : List UInt8) : Prop where
  m56 : clsAt v 0 &&& 56 = 0 → clsAt v' 0 &&& 56 = 0
  m24 : clsAt v 0 &&& 24 = 0 → clsAt v' 0 &&& 24 = 0
  m32 : clsAt v 0 &&& 32 = 0 → clsAt v' 0 &&& 32 = 0
  pc : v[0]? ≠ some 37 → v'[0]? ≠ some 37
  pt : ¬ (v[0]? = some 46 ∧ clsAt v 1 = 32) → ¬ (v'[0]? = some 46 ∧ clsAt v' 1 = 32)
  eq : v[0]? ≠ some 61 → v'[0]? ≠ some 61
  fm : ∀ u : List UInt8, u.length < 10 → dForm (dX (u ++ v') 0) → v'[0]? = some 45 → dForm (dX (u ++ v) 0)

theorem rn_app_lt (of : Nat) : ∀ (u v v' : List UInt8), rn of (u ++ v) < u.length → rn of (u ++ v') = rn of (u ++ v)
  | [], v, v', h => by simp at h
  | c :: u, v, v', h => by
    simp only [List.cons_append, rn_cons, List.length_cons] at h ⊢
    split
    · rename_i hc
      rw [if_pos hc] at h
      rw [rn_app_lt of u v v' (by omega)]
    · rfl
theorem rn_app_eq (of : Nat) (h128 : 128 &&& of = 0) : ∀ (u v : List UInt8), rn of (u ++ v) = u.length → clsAt v 0 &&& of = 0 ∧ ∀ v', clsAt v' 0 &&& of = 0 → rn of (u ++ v') = u.length
  | [], v, h => by
    have key : ∀ x : List UInt8, rn of x = 0 ↔ clsAt x 0 &&& of = 0 := fun x => by
      cases x with
      | nil => simp only [rn, clsAt, List.getElem?_nil, h128]
      | cons c x =>
        rw [rn_cons]
        show _ ↔ cls c.toNat &&& of = 0
        split
        · rename_i hc
          constructor
          · intro h; omega
          · intro h; exact absurd h hc
        · rename_i hc
          constructor
          · intro _; exact Classical.byContradiction hc
          · intro _; rfl
    simp only [List.nil_append, List.length_nil] at h ⊢
    exact ⟨(key v).1 h, fun v' h' => (key v').2 h'⟩
  | c :: u, v, h => by
    simp only [List.cons_append, rn_cons, List.length_cons] at h ⊢
    split at h
    · rename_i hc
      obtain ⟨h1, h2⟩ := rn_app_eq of h128 u v (by omega)
      refine ⟨h1, fun v' h' => ?_⟩
      rw [if_pos hc, h2 v' h']
      omega
    · omega
theorem get_u {u : List UInt8} (v v' : List UInt8) {i : Nat} (h : i < u.length) : (u ++ v)[i]? = (u ++ v')[i]? := by rw [List.getElem?_append_left h, List.getElem?_append_left h]
theorem get_v (u v : List UInt8) (k : Nat) : (u ++ v)[u.length + k]? = v[k]? := by rw [List.getElem?_append_right (by omega)]; congr 1; omega
theorem cls_u {u : List UInt8} (v v' : List UInt8) {i : Nat} (h : i < u.length) : clsAt (u ++ v) i = clsAt (u ++ v') i := by unfold clsAt; rw [get_u v v' h]
theorem cls_v (u v : List UInt8) (k : Nat) : clsAt (u ++ v) (u.length + k) = clsAt v k := by unfold clsAt; rw [get_v]
theorem slc_u {u : List UInt8} (v v' : List UInt8) (a : Nat) {b : Nat} (h : b ≤ u.length) : slc (u ++ v) a b = slc (u ++ v') a b := by unfold slc; rw [List.take_append_of_le_length h, List.take_append_of_le_length h]

theorem num_parts {l : List UInt8} {t : Wd} {e : Nat} (h : numberS l 0 = .ok (t, e)) : numTok (slc l 0 (nE1 l 0)) (nPart l 0) (nPc l 0) = some t ∧ nE3 l 0 = e ∧ clsAt l e &&& 24 = 0 := by
  rw [numberS_eq] at h
  cases hn : numTok (slc l 0 (nE1 l 0)) (nPart l 0) (nPc l 0) with
  | none => rw [hn] at h; cases h
  | some t' =>
    rw [hn] at h
    change (if clsAt l (nE3 l 0) &&& 24 ≠ 0 then Except.error (0, 42) else Except.ok (t', nE3 l 0)) = _ at h
    split at h
    · cases h
    · rename_i hc
      injection h with h
      injection h with h1 h2
      subst h1 h2
      exact ⟨rfl, rfl, Classical.byContradiction hc⟩

theorem num_cut {u v v' : List UInt8} (hF : Fol v v') {t : Wd} (h : numberS (u ++ v) 0 = .ok (t, u.length)) : numberS (u ++ v') 0 = .ok (t, u.length) ∧ (nPc (u ++ v) 0 = false → clsAt v 0 &&& 32 = 0) ∧ (nPc (u ++ v) 0 = true → ∃ i, i < u.length ∧ (u ++ v')[i]? = some 37) := by
  obtain ⟨ht, he3, hc⟩ := num_parts h
  have hd : ∀ (x : List UInt8) (k : Nat), k ≤ u.length → (u ++ x).drop k = u.drop k ++ x := fun x k hk => List.drop_append_of_le_length hk
  have hv0 : clsAt (u ++ v) u.length = clsAt v 0 := cls_v u v 0
  have hv0' : clsAt (u ++ v') u.length = clsAt v' 0 := cls_v u v' 0
  have hg0 : (u ++ v)[u.length]? = v[0]? := get_v u v 0
  have hg0' : (u ++ v')[u.length]? = v'[0]? := get_v u v' 0
  have h12 : nE1 (u ++ v) 0 ≤ nE2 (u ++ v) 0 := by unfold nE2; split <;> omega
  have h23 : nE2 (u ++ v) 0 ≤ nE3 (u ++ v) 0 := by unfold nE3; split <;> omega
  rw [he3] at h23
  have hpc3 : nPc (u ++ v) 0 = true → nE2 (u ++ v) 0 + 1 = u.length := fun hp => by unfold nE3 at he3; rw [if_pos hp] at he3; exact he3
  have hpc4 : nPc (u ++ v) 0 = false → nE2 (u ++ v) 0 = u.length := fun hp => by unfold nE3 at he3; rw [if_neg (by rw [hp]; simp)] at he3; exact he3
  -- the digits ahead
  have hr : rn 32 (u ++ v) ≤ u.length := by unfold nE1 at h12; simp at h12; omega
  have hE1 : nE1 (u ++ v') 0 = nE1 (u ++ v) 0 := by
    unfold nE1
    simp only [List.drop_zero, Nat.zero_add]
    by_cases hlt : rn 32 (u ++ v) < u.length
    · exact rn_app_lt 32 u v v' hlt
    · have he : rn 32 (u ++ v) = u.length := by omega
      obtain ⟨k1, k2⟩ := rn_app_eq 32 (by decide) u v he
      rw [k2 v' (hF.m32 k1), he]
  -- the point
  have hpt2 : nPt (u ++ v) 0 = true → nE2 (u ++ v) 0 = nE1 (u ++ v) 0 + 1 + rn 32 ((u ++ v).drop (nE1 (u ++ v) 0 + 1)) ∧ 1 ≤ rn 32 ((u ++ v).drop (nE1 (u ++ v) 0 + 1)) := fun hp => by
    refine ⟨by unfold nE2; rw [if_pos hp], ?_⟩
    unfold nPt at hp
    rw [Bool.and_eq_true] at hp
    have hcl : clsAt (u ++ v) (nE1 (u ++ v) 0 + 1) = 32 := by simpa using hp.2
    have hin : nE1 (u ++ v) 0 + 1 < (u ++ v).length := by
      apply Classical.byContradiction
      intro hn
      rw [clsAt_out (by omega)] at hcl
      exact absurd hcl (by decide)
    rw [clsAt_in hin] at hcl
    exact rn_pos (of := 32) hin (by rw [hcl]; decide)
  have hPt : nPt (u ++ v') 0 = nPt (u ++ v) 0 := by
    cases hp : nPt (u ++ v) 0 with
    | true =>
      obtain ⟨k1, k2⟩ := hpt2 hp
      have hlt : nE1 (u ++ v) 0 + 1 < u.length := by omega
      unfold nPt at hp ⊢
      rw [hE1, ← get_u v v' (by omega), ← cls_u v v' hlt]
      exact hp
    | false =>
      apply Bool.eq_false_iff.2
      intro hp'
      unfold nPt at hp'
      rw [hE1, Bool.and_eq_true] at hp'
      obtain ⟨p1, p2⟩ := hp'
      have q1 : (u ++ v')[nE1 (u ++ v) 0]? = some 46 := by simpa using p1
      have q2 : clsAt (u ++ v') (nE1 (u ++ v) 0 + 1) = 32 := by simpa using p2
      have he2 : nE2 (u ++ v) 0 = nE1 (u ++ v) 0 := by unfold nE2; rw [if_neg (by rw [hp]; simp)]
      by_cases hlt : nE1 (u ++ v) 0 < u.length
      · rw [← get_u v v' hlt] at q1
        by_cases hlt2 : nE1 (u ++ v) 0 + 1 < u.length
        · rw [← cls_u v v' hlt2] at q2
          unfold nPt at hp
          rw [q1, q2] at hp
          simp at hp
        · cases hpc : nPc (u ++ v) 0 with
          | true =>
            unfold nPc at hpc
            rw [he2, q1] at hpc
            exact absurd hpc (by decide)
          | false =>
            have := hpc4 hpc
            omega
      · have he : nE1 (u ++ v) 0 = u.length := by omega
        rw [he, hg0'] at q1
        rw [he, cls_v] at q2
        refine hF.pt (fun ⟨a, b⟩ => ?_) ⟨q1, q2⟩
        unfold nPt at hp
        rw [he, hg0, cls_v, a, b] at hp
        simp at hp
  -- the digits behind
  have hlast : nPt (u ++ v) 0 = true → nE1 (u ++ v) 0 + 1 ≤ u.length := fun hp => by have := (hpt2 hp).1; omega
  have hE2 : nE2 (u ++ v') 0 = nE2 (u ++ v) 0 := by
    cases hp : nPt (u ++ v) 0 with
    | false =>
      unfold nE2
      rw [hPt, hp, hE1]
      rfl
    | true =>
      have hk := hlast hp
      obtain ⟨k1, -⟩ := hpt2 hp
      unfold nE2
      rw [hPt, hp, hE1, if_pos rfl, if_pos rfl, hd v _ hk, hd v' _ hk]
      rw [hd v _ hk] at k1
      have hul : (u.drop (nE1 (u ++ v) 0 + 1)).length = u.length - (nE1 (u ++ v) 0 + 1) := List.length_drop
      by_cases hlt : rn 32 (u.drop (nE1 (u ++ v) 0 + 1) ++ v) < (u.drop (nE1 (u ++ v) 0 + 1)).length
      · rw [rn_app_lt 32 _ v v' hlt]
      · have he : rn 32 (u.drop (nE1 (u ++ v) 0 + 1) ++ v) = (u.drop (nE1 (u ++ v) 0 + 1)).length := by omega
        obtain ⟨j1, j2⟩ := rn_app_eq 32 (by decide) _ v he
        rw [j2 v' (hF.m32 j1), he]
  have hPc : nPc (u ++ v') 0 = nPc (u ++ v) 0 := by
    unfold nPc
    rw [hE2]
    by_cases hlt : nE2 (u ++ v) 0 < u.length
    · rw [get_u v v' hlt]
    · have he : nE2 (u ++ v) 0 = u.length := by omega
      have hno : nPc (u ++ v) 0 = false := by
        apply Bool.eq_false_iff.2
        intro hp
        have := hpc3 hp
        omega
      unfold nPc at hno
      rw [he, hg0] at hno ⊢
      rw [hg0', hno]
      have h37 : v[0]? ≠ some 37 := by
        intro e
        rw [e] at hno
        simp at hno
      have := hF.pc h37
      apply Bool.eq_false_iff.2
      intro e
      exact this (by simpa using e)
  have hE3 : nE3 (u ++ v') 0 = u.length := by
    rw [← he3]
    unfold nE3
    rw [hPc, hE2]
  have hPart : nPart (u ++ v') 0 = nPart (u ++ v) 0 := by
    unfold nPart
    rw [hPt, hE1, hE2, slc_u v' v _ h23]
  have hW : slc (u ++ v') 0 (nE1 (u ++ v) 0) = slc (u ++ v) 0 (nE1 (u ++ v) 0) := slc_u v' v _ (by omega)
  refine ⟨?_, fun hp => ?_, fun hp => ⟨nE2 (u ++ v) 0, by have := hpc3 hp; omega, ?_⟩⟩
  · rw [numberS_eq, hE1, hW, hPart, hPc, ht, hE3]
    show (if clsAt (u ++ v') u.length &&& 24 ≠ 0 then Except.error (0, 42) else .ok (t, u.length)) = _
    rw [hv0']
    rw [hv0] at hc
    rw [if_neg (by rw [hF.m24 hc]; simp)]
  · have he2 := hpc4 hp
    cases hpt : nPt (u ++ v) 0 with
    | false =>
      have he1 : nE1 (u ++ v) 0 = u.length := by rw [← he2]; unfold nE2; rw [if_neg (by rw [hpt]; simp)]
      unfold nE1 at he1
      simp only [List.drop_zero, Nat.zero_add] at he1
      exact (rn_app_eq 32 (by decide) u v he1).1
    | true =>
      have hk := hlast hpt
      obtain ⟨k1, -⟩ := hpt2 hpt
      rw [hd v _ hk] at k1
      have hul : (u.drop (nE1 (u ++ v) 0 + 1)).length = u.length - (nE1 (u ++ v) 0 + 1) := List.length_drop
      exact (rn_app_eq 32 (by decide) (u.drop (nE1 (u ++ v) 0 + 1)) v (by omega)).1
  · have hp' := hp
    unfold nPc at hp'
    rw [← get_u v v' (by have := hpc3 hp; omega)]
    simpa using hp'

theorem qgo_cut (a : Nat) : ∀ (x v v' : List UInt8) (p : Nat) (eo : Option Nat) (acc : List UInt8) (w : Wd), qgo a (x ++ v) p eo acc = .ok (w, p + x.length) → qgo a (x ++ v') p eo acc = .ok (w, p + x.length)
  | [], v, v', p, eo, acc, w, h => by
    have := (qgo_ok a _ p eo acc w _ h).1
    simp at this
  | c :: x, v, v', p, some e0, acc, w, h => by
    simp only [List.cons_append, qgo, List.length_cons] at h ⊢
    split at h
    · rename_i hc
      rw [if_pos hc]
      have := qgo_cut a x v v' (p + 1) none (acc ++ [c]) w (by rw [h]; congr 2; omega)
      rw [this]
      congr 2
      omega
    · cases h
  | c :: x, v, v', p, none, acc, w, h => by
    simp only [List.cons_append, qgo, List.length_cons] at h ⊢
    by_cases h1 : c = 92
    · rw [if_pos h1] at h ⊢
      have := qgo_cut a x v v' (p + 1) (some p) acc w (by rw [h]; congr 2; omega)
      rw [this]
      congr 2
      omega
    · rw [if_neg h1] at h ⊢
      by_cases h2 : c = 34
      · rw [if_pos h2] at h ⊢
        exact h
      · rw [if_neg h2] at h ⊢
        by_cases h3 : c = 10
        · rw [if_pos h3] at h; cases h
        · rw [if_neg h3] at h ⊢
          by_cases h4 : fineB c = false
          · rw [if_pos h4] at h; cases h
          · rw [if_neg h4] at h ⊢
            have := qgo_cut a x v v' (p + 1) none (acc ++ [c]) w (by rw [h]; congr 2; omega)
            rw [this]
            congr 2
            omega
theorem sg_back : ∀ n : Fin 256, sgF signsL (UInt8.ofNat n.val) true = some [UInt8.ofNat n.val] → sgF signsL (UInt8.ofNat n.val) false = some [UInt8.ofNat n.val] := by decide +kernel
theorem sgn_ok : ∀ s ∈ signsL, (∃ k, s = [k]) ∨ ∃ k, s = [k, 61] := by
  intro s hs
  simp only [signsL, List.mem_cons, List.not_mem_nil, or_false] at hs
  rcases hs with h | h | h | h | h | h | h | h | h | h | h | h | h | h | h <;> subst h <;> first | exact .inr ⟨_, rfl⟩ | exact .inl ⟨_, rfl⟩
theorem sign_cut {u v v' : List UInt8} (hF : Fol v v') {w : Wd} (h : signS (u ++ v) 0 = .ok (w, u.length)) : signS (u ++ v') 0 = .ok (w, u.length) := by
  unfold signS at h ⊢
  rw [List.drop_zero] at h ⊢
  cases hf : signsL.find? (fun s => s.isPrefixOf (u ++ v)) with
  | none => rw [hf] at h; cases h
  | some s =>
    rw [hf] at h
    injection h with h
    injection h with h1 h2
    subst h1
    rw [Nat.zero_add] at h2
    have hp : s.isPrefixOf (u ++ v) = true := List.find?_some (p := fun s : List UInt8 => s.isPrefixOf (u ++ v)) hf
    have hsu : s = u := by
      have := List.prefix_append u v
      have hp2 := List.isPrefixOf_iff_prefix.1 hp
      exact List.IsPrefix.eq_of_length (List.prefix_of_prefix_length_le hp2 this (by omega)) h2
    subst hsu
    have hm := sgn_ok s (List.mem_of_find?_eq_some hf)
    have key : signsL.find? (fun t => t.isPrefixOf (s ++ v')) = some s := by
      rcases hm with ⟨k, rfl⟩ | ⟨k, rfl⟩
      · have e1 : ∀ x : List UInt8, [k] ++ x = k :: x := fun x => rfl
        rw [e1] at hf ⊢
        rw [sg_find signsL sgn_ok] at hf ⊢
        have hb := sg_back ⟨k.toNat, k.toNat_lt⟩
        simp only [UInt8.ofNat_toNat] at hb
        have hh : ∀ x : List UInt8, (x.head? == some 61) = true ↔ x[0]? = some 61 := fun x => by cases x <;> simp
        cases hv : (v.head? == some (61 : UInt8)) with
        | true =>
          rw [hv] at hf
          cases hv' : (v'.head? == some (61 : UInt8)) with
          | true => exact hf
          | false => exact hb hf
        | false =>
          rw [hv] at hf
          have : (v'.head? == some (61 : UInt8)) = false := by
            apply Bool.eq_false_iff.2
            intro e
            refine hF.eq (fun e2 => ?_) ((hh v').1 e)
            rw [(hh v).2 e2] at hv
            cases hv
          rw [this]
          exact hf
      · have e1 : ∀ x : List UInt8, [k, 61] ++ x = k :: (61 :: x) := fun x => rfl
        rw [e1] at hf ⊢
        rw [sg_find signsL sgn_ok] at hf ⊢
        exact hf
    rw [key]
    simp
theorem dX_u {u : List UInt8} (v v' : List UInt8) (h : 10 ≤ u.length) : dX (u ++ v) 0 = dX (u ++ v') 0 := by
  unfold dX
  rw [show min (0 + 10) (u ++ v).length = 10 from by rw [List.length_append]; omega, show min (0 + 10) (u ++ v').length = 10 from by rw [List.length_append]; omega, slc_u v v' 0 h]
theorem dForm_at {l : List UInt8} (h : dForm (dX l 0)) {i : Nat} (hi : i < 10) : ∃ c, l[i]? = some c ∧ ck i c.toNat = true := by
  have hsz := h.1
  have h2 := h.2 i (by omega)
  have hs : (dX l 0).size = (slc l 0 (min (0 + 10) l.length)).length := by
    unfold dX
    show (List.toArray _).size = _
    simp
  have hsl : (slc l 0 (min (0 + 10) l.length)).length = min (0 + 10) l.length := by
    unfold slc
    rw [List.length_drop, List.length_take]
    omega
  have e : (dX l 0)[i]'(by omega) = (slc l 0 (min (0 + 10) l.length))[i]'(by omega) := rfl
  refine ⟨_, ?_, h2⟩
  rw [e]
  unfold slc
  simp only [List.drop_zero, List.getElem_take]
  exact List.getElem?_eq_getElem (by omega)

/-- A word is the same where something else follows that may. -/
theorem word_cut {u v v' : List UInt8} (hF : Fol v v') {w : Wd} (h0 : 0 < u.length) (h : wordS (u ++ v) 0 = .ok (w, u.length)) : wordS (u ++ v') 0 = .ok (w, u.length) := by
  have hc := cls_u v v' h0
  unfold wordS at h ⊢
  rw [← hc]
  by_cases h8 : clsAt (u ++ v) 0 = 8
  · rw [if_pos h8] at h ⊢
    unfold nameS at h ⊢
    rw [List.drop_zero, Nat.zero_add] at h ⊢
    split at h
    · cases h
    · rename_i hl
      injection h with h
      injection h with h1 h2
      have hr : rn 56 (u ++ v') = u.length := (rn_app_eq 56 (by decide) u v h2).2 v' (hF.m56 (rn_app_eq 56 (by decide) u v h2).1)
      rw [hr, if_neg (by omega), ← h1, h2, slc_u v' v 0 (Nat.le_refl _)]
  · rw [if_neg h8] at h ⊢
    by_cases h32 : clsAt (u ++ v) 0 = 32
    · rw [if_pos h32] at h ⊢
      unfold dateS at h ⊢
      by_cases hf : dForm (dX (u ++ v) 0)
      · rw [if_pos hf] at h
        split at h
        · rename_i hd
          injection h with h
          injection h with h1 h2
          have hl : u.length = 10 := by omega
          rw [dX_u v' v (by omega), if_pos hf]
          have hk : clsAt (u ++ v') (0 + 10) &&& 56 = 0 := by
            rw [show 0 + 10 = u.length + 0 from by omega, cls_v]
            have h3 := hd.2
            rw [show 0 + 10 = u.length + 0 from by omega, cls_v] at h3
            exact hF.m56 h3
          rw [if_pos ⟨hd.1, hk⟩, h1, ← h2]
        · cases h
      · rw [if_neg hf] at h
        obtain ⟨n1, n2, n3⟩ := num_cut hF h
        rw [if_neg, n1]
        intro hf'
        by_cases hl : 10 ≤ u.length
        · exact hf (by rw [dX_u v v' hl]; exact hf')
        · cases hp : nPc (u ++ v) 0 with
          | true =>
            obtain ⟨i, hi, hx⟩ := n3 hp
            obtain ⟨c, hc1, hc2⟩ := dForm_at hf' (i := i) (by omega)
            rw [hx] at hc1
            injection hc1 with hc1
            subst hc1
            unfold ck at hc2
            split at hc2 <;> simp at hc2
          | false =>
            obtain ⟨c, hc1, hc2⟩ := dForm_at hf' (i := u.length) (by omega)
            have hg : (u ++ v')[u.length]? = v'[0]? := get_v u v' 0
            rw [hg] at hc1
            have hm := hF.m32 (n2 hp)
            have hcl : clsAt v' 0 = cls c.toNat := by unfold clsAt; rw [hc1]
            rw [hcl] at hm
            have h45 : c.toNat = 45 := by
              unfold ck at hc2
              split at hc2
              · have := of_decide_eq_true hc2; omega
              · have h2 := of_decide_eq_true hc2
                have : cls c.toNat = 32 := (cls_digit32 c.toNat).2 (by omega)
                rw [this] at hm
                exact absurd hm (by decide)
            refine hf (hF.fm u (by omega) hf' ?_)
            rw [hc1]
            congr 1
            exact UInt8.toNat_inj.1 h45
    · rw [if_neg h32] at h ⊢
      by_cases h64 : clsAt (u ++ v) 0 = 64
      · rw [if_pos h64] at h ⊢
        unfold quotedS at h ⊢
        cases u with
        | nil => simp at h0
        | cons c u =>
          have e : ∀ x : List UInt8, ((c :: u) ++ x).drop (0 + 1) = u ++ x := fun x => rfl
          rw [e] at h ⊢
          have hl : (c :: u).length = 0 + 1 + u.length := by rw [List.length_cons]; omega
          rw [hl] at h ⊢
          exact qgo_cut 0 u v v' (0 + 1) none [] w h
      · rw [if_neg h64] at h ⊢
        exact sign_cut hF h

end Go.Proofs.YtoippgmecnlhcaaGreatDoor.Q

import Derived.Test.YtoippgmecnlhcaaGreatDoorTurnWLoc3
import Derived.Test.YtoippgmecnlhcaaGreatDoorTurnWKnown
import Derived.Lib.ItoaNum
/- THE TEXTS OF NUMBERS, SCANNED. No program. -/
namespace Go.Proofs.YtoippgmecnlhcaaGreatDoor.Q
open Go.Lib (decDigits)

def dgs (x : List UInt8) : Prop := ∀ c ∈ x, 48 ≤ c.toNat ∧ c.toNat ≤ 57
theorem vl_fold : ∀ (x : List UInt8) (a : Nat), x.foldl (fun n c => 10 * n + (c.toNat - 48)) a = a * 10 ^ x.length + val x
  | [], a => by simp [val]
  | c :: x, a => by
    have h1 := vl_fold x (10 * a + (c.toNat - 48))
    have h2 := vl_fold x (10 * 0 + (c.toNat - 48))
    rw [List.foldl_cons, h1, List.length_cons, Nat.pow_succ]
    have h3 : val (c :: x) = (10 * 0 + (c.toNat - 48)) * 10 ^ x.length + val x := by
      rw [← h2]
      rfl
    rw [h3]
    generalize 10 ^ x.length = P
    generalize c.toNat - 48 = d
    rw [Nat.mul_zero, Nat.zero_add, Nat.add_mul, Nat.mul_comm 10 a, Nat.mul_assoc, Nat.mul_comm 10 P, Nat.add_assoc]
theorem vl_app (x y : List UInt8) : val (x ++ y) = val x * 10 ^ y.length + val y := by
  have : val (x ++ y) = y.foldl (fun n c => 10 * n + (c.toNat - 48)) (val x) := by
    unfold val
    rw [List.foldl_append]
  rw [this, vl_fold]
theorem ch_nat {d : Nat} (h : d < 10) : (UInt8.ofNat (48 + d)).toNat = 48 + d := by
  rw [UInt8.toNat_ofNat']
  omega
theorem vl_one {d : Nat} (h : d < 10) : val [UInt8.ofNat (48 + d)] = d := by
  show 10 * 0 + ((UInt8.ofNat (48 + d)).toNat - 48) = d
  rw [ch_nat h]
  omega
theorem dd_all (u : Nat) : val (decDigits u) = u ∧ dgs (decDigits u) ∧ 1 ≤ (decDigits u).length ∧ (1 < (decDigits u).length → (decDigits u).head? ≠ some 48) ∧ (0 < u → (decDigits u).head? ≠ some 48) := by
  induction u using Nat.strongRecOn with
  | _ u ih =>
    rw [decDigits]
    by_cases h : u < 10
    · rw [dif_pos h]
      refine ⟨vl_one h, fun c hc => ?_, by simp, fun h => by simp at h, fun h0 => ?_⟩
      · obtain rfl := List.mem_singleton.1 hc
        rw [ch_nat h]
        omega
      · intro e
        simp only [List.head?_cons, Option.some.injEq] at e
        have := congrArg UInt8.toNat e
        rw [ch_nat h] at this
        have h48 : (48 : UInt8).toNat = 48 := rfl
        omega
    · rw [dif_neg h]
      obtain ⟨i1, i2, i3, i4, i5⟩ := ih (u / 10) (by omega)
      have hd : u % 10 < 10 := Nat.mod_lt _ (by decide)
      have hhd : (decDigits (u / 10) ++ [UInt8.ofNat (48 + u % 10)]).head? ≠ some 48 := by
        have := i5 (by omega)
        cases hx : decDigits (u / 10) with
        | nil => rw [hx] at i3; simp at i3
        | cons c x => rw [hx] at this; exact this
      refine ⟨?_, fun c hc => ?_, by simp, fun _ => hhd, fun _ => hhd⟩
      · rw [vl_app, i1, vl_one hd]
        simp
        omega
      · rcases List.mem_append.1 hc with hc | hc
        · exact i2 c hc
        · obtain rfl := List.mem_singleton.1 hc
          rw [ch_nat hd]
          omega
theorem rn_dgs {x : List UInt8} (hx : dgs x) : ∀ y : List UInt8, clsAt y 0 &&& 32 = 0 → rn 32 (x ++ y) = x.length := by
  induction x with
  | nil =>
    intro y hy
    have := rn_app_eq 32 (by decide) ([] : List UInt8) [] rfl
    exact this.2 y hy
  | cons c x ih =>
    intro y hy
    have hc := hx c (by simp)
    rw [List.cons_append, rn_cons, if_pos (by rw [(cls_digit32 c.toNat).2 hc]; decide), ih (fun d hd => hx d (List.mem_cons_of_mem _ hd)) y hy, List.length_cons]
    omega
/-- The text of a number. -/
def ntx (w p : List UInt8) (pc : Bool) : List UInt8 := w ++ ((if p = [] then [] else 46 :: p) ++ (if pc = true then [37] else []))
theorem ntx_parts {w p : List UInt8} {pc : Bool} (hw : dgs w) (hp : dgs p) : nE1 (ntx w p pc) 0 = w.length ∧ nPart (ntx w p pc) 0 = p ∧ nPc (ntx w p pc) 0 = pc ∧ nE3 (ntx w p pc) 0 = (ntx w p pc).length := by
  have hpcl : ∀ pc : Bool, clsAt (if pc = true then [37] else ([] : List UInt8)) 0 &&& 32 = 0 := fun pc => by cases pc <;> decide
  have hg : ∀ k, (ntx w p pc)[w.length + k]? = ((if p = [] then [] else 46 :: p) ++ (if pc = true then [37] else []))[k]? := fun k => get_v w _ k
  have hc : ∀ k, clsAt (ntx w p pc) (w.length + k) = clsAt ((if p = [] then [] else 46 :: p) ++ (if pc = true then [37] else [])) k := fun k => cls_v w _ k
  have h1 : nE1 (ntx w p pc) 0 = w.length := by
    unfold nE1
    rw [List.drop_zero, Nat.zero_add]
    unfold ntx
    refine rn_dgs hw _ ?_
    by_cases he : p = []
    · rw [if_pos he, List.nil_append]; exact hpcl pc
    · rw [if_neg he]; show cls (46 : UInt8).toNat &&& 32 = 0; decide
  by_cases he : p = []
  · subst he
    have hl : (ntx w [] pc).length = w.length + (if pc = true then 1 else 0) := by unfold ntx; cases pc <;> simp
    have hpt : nPt (ntx w [] pc) 0 = false := by
      unfold nPt
      rw [h1]
      have := hg 0
      rw [Nat.add_zero] at this
      rw [this]
      cases pc <;> rfl
    have h2 : nE2 (ntx w [] pc) 0 = w.length := by unfold nE2; rw [if_neg (by rw [hpt]; simp), h1]
    have hpc : nPc (ntx w [] pc) 0 = pc := by
      unfold nPc
      rw [h2]
      have := hg 0
      rw [Nat.add_zero] at this
      rw [this]
      cases pc <;> rfl
    refine ⟨h1, by unfold nPart; rw [if_neg (by rw [hpt]; simp)], hpc, ?_⟩
    unfold nE3
    rw [hpc, h2, hl]
    cases pc <;> rfl
  · have hl : (ntx w p pc).length = w.length + 1 + p.length + (if pc = true then 1 else 0) := by
      unfold ntx
      rw [if_neg he]
      cases pc <;> simp <;> omega
    obtain ⟨c, q, rfl⟩ : ∃ c q, p = c :: q := by cases p with | nil => exact absurd rfl he | cons c q => exact ⟨c, q, rfl⟩
    have hpt : nPt (ntx w (c :: q) pc) 0 = true := by
      unfold nPt
      rw [h1, hc 1]
      have := hg 0
      rw [Nat.add_zero] at this
      rw [this, if_neg he]
      have hcc : clsAt ((46 :: c :: q) ++ (if pc = true then [37] else [])) 1 = 32 := (cls_digit32 c.toNat).2 (hp c (by simp))
      rw [hcc]
      rfl
    have hdrop : (ntx w (c :: q) pc).drop (w.length + 1) = (c :: q) ++ (if pc = true then [37] else []) := by
      unfold ntx
      rw [if_neg he, ← List.drop_drop, List.drop_left]
      rfl
    have h2 : nE2 (ntx w (c :: q) pc) 0 = w.length + 1 + (c :: q).length := by
      unfold nE2
      rw [if_pos hpt, h1, hdrop, rn_dgs hp _ (hpcl pc)]
    have hpc : nPc (ntx w (c :: q) pc) 0 = pc := by
      unfold nPc
      rw [h2]
      have := hg (1 + (c :: q).length)
      rw [← Nat.add_assoc] at this
      rw [this, if_neg he, List.getElem?_append_right (by simp; omega)]
      have e : 1 + (c :: q).length - (46 :: c :: q).length = 0 := by simp; omega
      rw [e]
      cases pc <;> rfl
    refine ⟨h1, ?_, hpc, ?_⟩
    · unfold nPart
      rw [if_pos hpt, h1, h2]
      unfold slc
      rw [List.drop_take, hdrop, show w.length + 1 + (c :: q).length - (w.length + 1) = (c :: q).length from by omega, List.take_left]
    · unfold nE3
      rw [hpc, h2, hl]
      cases pc <;> rfl
theorem ntx_word {w p : List UInt8} {pc : Bool} {t : Wd} (hw : dgs w) (hw1 : 1 ≤ w.length) (hp : dgs p) (hne : p ≠ [] ∨ pc = true) (h : numTok w p pc = some t) : wordS (ntx w p pc) 0 = .ok (t, (ntx w p pc).length) ∧ clsAt (ntx w p pc) 0 = 32 := by
  obtain ⟨e1, e2, e3, e4⟩ := ntx_parts (pc := pc) hw hp
  have hslc : slc (ntx w p pc) 0 w.length = w := by
    unfold slc ntx
    rw [List.drop_zero, List.take_left]
  have hnum : numberS (ntx w p pc) 0 = .ok (t, (ntx w p pc).length) := by
    rw [numberS_eq, e1, e2, e3, e4, hslc, h]
    show (if clsAt (ntx w p pc) (ntx w p pc).length &&& 24 ≠ 0 then Except.error (0, 42) else .ok (t, (ntx w p pc).length)) = _
    rw [clsAt_out (Nat.le_refl _), if_neg (by decide)]
  obtain ⟨c, w', rfl⟩ : ∃ c w', w = c :: w' := by cases w with | nil => simp at hw1 | cons c w' => exact ⟨c, w', rfl⟩
  have hc0 : clsAt (ntx (c :: w') p pc) 0 = 32 := (cls_digit32 c.toNat).2 (hw c (by simp))
  refine ⟨?_, hc0⟩
  unfold wordS
  rw [if_neg (by rw [hc0]; decide), if_pos hc0]
  unfold dateS
  rw [if_neg, hnum]
  intro hf
  by_cases h5 : 5 ≤ (c :: w').length
  · obtain ⟨d, hd, hk⟩ := dForm_at hf (i := 4) (by omega)
    have hd' : (c :: w')[4]? = some d := by
      unfold ntx at hd
      rwa [List.getElem?_append_left (by omega)] at hd
    have hm := hw d (List.mem_of_getElem? hd')
    unfold ck at hk
    rw [if_pos (.inl rfl)] at hk
    have := of_decide_eq_true hk
    omega
  · obtain ⟨d, hd, hk⟩ := dForm_at hf (i := (c :: w').length) (by omega)
    have := get_v (c :: w') ((if p = [] then [] else 46 :: p) ++ (if pc = true then [37] else [])) 0
    rw [Nat.add_zero] at this
    unfold ntx at hd
    rw [this] at hd
    have hd2 : d = 46 ∨ d = 37 := by
      by_cases he : p = []
      · subst he
        rcases hne with h | h
        · exact absurd rfl h
        · subst h
          simp at hd
          exact .inr hd.symm
      · rw [if_neg he] at hd
        simp at hd
        exact .inl hd.symm
    unfold ck at hk
    split at hk
    · have := of_decide_eq_true hk
      rcases hd2 with rfl | rfl <;> simp at this
    · have := of_decide_eq_true hk
      rcases hd2 with rfl | rfl <;> simp at this
theorem ntx_found {w p : List UInt8} {pc : Bool} {t : Wd} (hw : dgs w) (hw1 : 1 ≤ w.length) (hp : dgs p) (hne : p ≠ [] ∨ pc = true) (hl : (ntx w p pc).length ≤ 8000) (h : numTok w p pc = some t) : foundL (ntx w p pc) = [(t, 0, 0), ((8, [], 0, 0), (ntx w p pc).length, 0)] := by
  obtain ⟨h1, h2⟩ := ntx_word hw hw1 hp hne h
  have hpos : 0 < (ntx w p pc).length := by unfold ntx; rw [List.length_append]; omega
  have hnx0 : nx (ntx w p pc) 0 = 0 := by
    obtain ⟨c, w', rfl⟩ : ∃ c w', w = c :: w' := by cases w with | nil => simp at hw1 | cons c w' => exact ⟨c, w', rfl⟩
    have hcc : cls c.toNat = 32 := (cls_digit32 c.toNat).2 (hw c (by simp))
    unfold nx ntx
    rw [List.drop_zero, List.cons_append, skp_cons, if_neg (by rw [hcc]; decide), if_neg (by rw [hcc]; decide), if_pos ⟨by rw [hcc]; decide, rfl⟩]
  have hnxe : nx (ntx w p pc) (ntx w p pc).length = (ntx w p pc).length := by
    unfold nx
    rw [List.drop_length]
    rfl
  unfold foundL
  rw [if_neg (by omega), hnx0, fnd_word (by rw [h2]; decide) h1 hnxe]
  obtain ⟨n, hn⟩ : ∃ n, (ntx w p pc).length = n + 1 := ⟨(ntx w p pc).length - 1, by omega⟩
  rw [hn, fnd_eq, clsAt_out (by omega), if_neg (by decide), if_pos rfl, if_pos hn.symm, List.append_nil]

end Go.Proofs.YtoippgmecnlhcaaGreatDoor.Q

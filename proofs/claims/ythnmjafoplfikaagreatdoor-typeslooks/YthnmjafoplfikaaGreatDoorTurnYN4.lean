import Derived.Test.YthnmjafoplfikaaGreatDoorTurnYN3
namespace Go.Proofs.YthnmjafoplfikaaGreatDoor
open Go.RowKit

theorem oprOk_at {k : Nat} (h1 : 1 ≤ k) (h2 : k < 42) : oprOk (opTab k) = true := by
  have := List.all_eq_true.1 opr_ok (k - 1) (List.mem_range.2 (by omega))
  rwa [show k - 1 + 1 = k by omega] at this
theorem lineK_isK {l : Ln} (h : isK l.type = true) : isK (lineK l).1 = true := by
  unfold lineK
  split
  · rfl
  · exact h
/-- A line that is found is of a kind. -/
theorem found_line {p : Pk} {g : Int} {x : Ex} {fd : Fd} (h : fd = .line ∨ fd = .col) (hf : findB p g x fd = true) : ∃ (i : Nat) (hi : i < p.lns.length), x.num = i ∧ isK (p.lns[i]).type = true := by
  have hin : 0 ≤ x.num ∧ x.num < p.lns.length := by
    by_cases hin : 0 ≤ x.num ∧ x.num < p.lns.length
    · exact hin
    · exfalso
      rcases h with rfl | rfl <;> (unfold findB at hf; rw [at?_none hin] at hf; cases hf)
  obtain ⟨i, hi⟩ := Int.eq_ofNat_of_zero_le hin.1
  refine ⟨i, by omega, hi, ?_⟩
  rcases h with rfl | rfl
  all_goals
    unfold findB at hf
    rw [at?_some hin.1 hin.2] at hf
    simp only [hi, Int.toNat_natCast, Bool.and_eq_true] at hf
    exact hf.1
theorem worth_isK {p : Pk} {g : Int} {o : Opr} {x : Ex} {ks : List Kd} {k : Kd} (ho : oprOk o = true) (hf : findB p g x o.fd = true) (hks : ∀ k ∈ ks, isK k.1 = true) (hl : o.least ≤ ks.length) (h : worthF p o x ks = .ok k) : isK k.1 = true := by
  unfold worthF at h
  cases hb : blameF o.n1 o.n2 ks ks 0 with
  | some i => rw [hb] at h; cases h
  | none =>
    rw [hb] at h
    simp only at h
    split at h
    · injection h with h
      subst h
      unfold oprOk at ho
      simp only [Bool.and_eq_true] at ho
      have ho := ho.2
      cases ht : o.tl with
      | always i =>
        rw [ht] at ho
        have hi : i < 4 := of_decide_eq_true ho
        show isK (clVals.getD i 0) = true
        match i, hi with
        | 0, _ => rfl
        | 1, _ => rfl
        | 2, _ => rfl
        | 3, _ => rfl
      | ofArg i =>
        rw [ht] at ho
        simp only [Bool.and_eq_true, decide_eq_true_eq] at ho
        show isK (ks.getD (clVals.getD i 0).toNat (0, 0)).1 = true
        rw [getD_at _ _ (by omega)]
        exact hks _ (List.getElem_mem _)
      | ofLine i =>
        rw [ht] at ho
        simp only [Bool.and_eq_true] at ho
        have hfd : o.fd = .line ∨ o.fd = .col := by
          cases hfd : o.fd <;> rw [hfd] at ho <;> first | exact .inl rfl | exact .inr rfl | cases ho.2
        obtain ⟨j, hj, hx, hk⟩ := found_line hfd hf
        unfold tell
        rw [hx, at?_some (by omega) (by omega)]
        exact lineK_isK hk
      | ofTable => rfl
    · cases h
theorem tFold_len {f : Ex → Nat → Nat × Except Ft Kd} : ∀ (l : List Ex) (i n : Nat) (acc : List Kd) (m : Nat) (ks : List Kd), tFold f l i n acc = (m, .ok ks) → ks.length = acc.length + l.length
  | [], i, n, acc, m, ks, h => by
    unfold tFold at h
    injection h with _ h
    injection h with h
    subst h
    rfl
  | x :: l, i, n, acc, m, ks, h => by
    unfold tFold at h
    rcases hf : f x n with ⟨m1, e | k⟩
    · rw [hf] at h
      injection h with _ h
      cases h
    · rw [hf] at h
      have := tFold_len l (i + 1) m1 (acc ++ [k]) m ks h
      rw [this, List.length_append, List.length_cons]
      simp
      omega
theorem tFold_all {f : Ex → Nat → Nat × Except Ft Kd} {P : Kd → Prop} (hf : ∀ x n m k, f x n = (m, .ok k) → P k) : ∀ (l : List Ex) (i n : Nat) (acc : List Kd) (m : Nat) (ks : List Kd), (∀ k ∈ acc, P k) → tFold f l i n acc = (m, .ok ks) → ∀ k ∈ ks, P k
  | [], i, n, acc, m, ks, ha, h => by
    unfold tFold at h
    injection h with _ h
    injection h with h
    subst h
    exact ha
  | x :: l, i, n, acc, m, ks, ha, h => by
    unfold tFold at h
    rcases hx : f x n with ⟨m1, e | k⟩
    · rw [hx] at h
      injection h with _ h
      cases h
    · rw [hx] at h
      exact tFold_all hf l (i + 1) m1 (acc ++ [k]) m ks (fun y hy => by
        rcases List.mem_append.1 hy with hy | hy
        · exact ha y hy
        · rw [List.mem_singleton.1 hy]; exact hf x n m1 k hx) h
theorem takes_len {o : Opr} {x : Ex} (h : takesB o x = true) : o.least ≤ x.args.len ∧ (x.args.len : Int) ≤ o.most := by
  unfold takesB at h
  simp only [Bool.and_eq_true, decide_eq_true_eq] at h
  exact ⟨h.1.1.2, h.1.2⟩
theorem tN_isK (p : Pk) (g : Int) : ∀ (d : Nat) (x : Ex) (n m : Nat) (k : Kd), tN p g d x n = (m, .ok k) → isK k.1 = true
  | 0, x, n, m, k, h => by
    unfold tN at h
    injection h with _ h
    cases h
  | d + 1, x, n, m, k, h => by
    unfold tN at h
    split at h
    · injection h with _ h; cases h
    split at h
    · injection h with _ h; cases h
    rename_i h1
    split at h
    · injection h with _ h; cases h
    rename_i h2
    split at h
    · injection h with _ h; cases h
    rename_i h3
    have hop := oprOk_at (k := x.op.toNat) (by omega) (by omega)
    rcases hf : tFold (tN p g d) (toL x.args) 0 (n + 1) [] with ⟨m1, e | ks⟩
    · rw [hf] at h; injection h with _ h; cases h
    · rw [hf] at h
      injection h with _ h
      have hlen := tFold_len _ _ _ _ _ _ hf
      have ht := takes_len (by simpa using h2)
      rw [toL_len] at hlen
      exact worth_isK hop (by simpa using h3) (tFold_all (fun x n m k h => tN_isK p g d x n m k h) _ _ _ _ _ _ (fun _ h => by cases h) hf) (by rw [hlen]; simpa using ht.1) h
set_option maxRecDepth 20000 in
set_option maxHeartbeats 1000000 in
theorem worth_any (p : Pk) (g : Int) (x : Ex) (ks : List Kd) (a3 a4 a5 a6 a7 : Option Addr) (c3 c4 c5 c6 c7 : Nat) (ax : Option Addr) (cx : Nat) (ak : Option Addr) (ck : Nat) (o : Opr) (lb s : Nat) (W : World) (n : Nat) (path : List Nat) (pv : Value) (h : LkS p (scG p a3 a4 a5 a6 a7 c3 c4 c5 c6 c7 g) lb s W n path pv) (hpl : path.length ≤ 8) (ho : oprOk o = true) (hf : findB p g x o.fd = true) (hl : ks.length = x.args.len) (ht : takesB o x = true) (hR : RowR eKd W AnyB ks ak) (hk : ∀ k ∈ ks, isK k.1 = true) : Calls Tryz.prog 118 #[.pointer (some ⟨lb, 0, none⟩), .agg #[.int .i64 o.num.1, .int .i64 o.num.2, .int .i64 o.den.1, .int .i64 o.den.2, .int .i64 o.mode.1, .int .i64 o.mode.2, .int .i64 o.least, .int .i64 o.most, .int .i64 o.only, .int .i64 o.n1.1, .int .i64 o.n1.2, .int .i64 o.n2.1, .int .i64 o.n2.2, fdV o.fd, tlV s o.tl], .agg #[.int .i64 x.op, .int .i64 x.num, .int .i64 x.den, .int .i64 x.mode, .slice ax x.args.len cx], .slice ak ks.length ck] W (NdP p (scG p a3 a4 a5 a6 a7 c3 c4 c5 c6 c7 g) lb s path pv n (worthF p o x ks) W) := by
  have ho' := ho
  unfold oprOk at ho'
  simp only [Bool.and_eq_true, Bool.or_eq_true, decide_eq_true_eq] at ho'
  obtain ⟨⟨⟨⟨-, hn1⟩, hn2⟩, hm⟩, htl⟩ := ho'
  have htk := takes_len ht
  have hl6 : ks.length ≤ 6 := by omega
  obtain ⟨num, den, mode, least, most, only, ⟨k1, z1⟩, ⟨k2, z2⟩, fd, tl⟩ := o
  simp only at hn1 hn2 hm htl htk hf ⊢
  subst hn1
  obtain ⟨l2, rfl, hl2⟩ : ∃ l2 : Nat, z2 = (l2 : Int) ∧ l2 ≤ 1 := by
    rcases hn2 with h | h
    · exact ⟨0, h, by omega⟩
    · exact ⟨1, h, by omega⟩
  unfold worthF
  simp only
  cases hb : blameF (k1, 0) (k2, (l2 : Int)) ks ks 0 with
  | some i => exact worth_bad p g x ks a3 a4 a5 a6 a7 c3 c4 c5 c6 c7 ax cx ak ck num den mode least most only k1 k2 l2 (fdV fd) (tlV s tl) lb s W n path pv h hpl hl6 hR hk hl2 i hb
  | none =>
    simp only
    obtain ⟨a3', c3', a4', c4', a5', c5', a6', c6', a7', c7', hcs, -, -, -, -, hR6, -⟩ := h.pk
    simp only [List.take_succ_cons, List.take_zero, List.cons.injEq, Value.slice.injEq] at hcs
    obtain ⟨-, -, -, -, -, ⟨e6, -, -⟩, -⟩ := hcs
    subst e6
    have hRl : RowR eL W AnyB p.lns a6 := hR6.mo (fun _ _ _ => trivial)
    cases tl with
    | always i =>
      have hi : i < 4 := of_decide_eq_true htl
      have hc := h.ops.2.2 i (by omega)
      exact worth_cl_true p g x ks a3 a4 a5 a6 a7 c3 c4 c5 c6 c7 ax cx ak ck num den mode least most only k1 k2 l2 (fdV fd) (s + 17 + i) lb s W n path pv h hl6 hR hk hl2 hb (clVals.getD i 0, -1) _ (fun _ _ => by kernel_rfl) (fun X hX => always1_any p g x ks a3 a4 a5 a6 a7 c3 c4 c5 c6 c7 ax cx ak ck (s + 17 + i) (clVals.getD i 0) X ((bel_cell hX (World.block_lt_of_cell? _ _ hc) 0).trans hc))
    | ofArg i =>
      simp only [Bool.and_eq_true, decide_eq_true_eq] at htl
      have hc := h.ops.2.2 i htl.1.1
      obtain ⟨j, hj⟩ := Int.eq_ofNat_of_zero_le htl.1.2
      have hjl : j < ks.length := by omega
      have hkj : ks.getD (clVals.getD i 0).toNat (0, 0) = ks[j] := by rw [hj, Int.toNat_natCast, getD_at _ _ hjl]
      rw [hj] at hc
      have := worth_cl_true p g x ks a3 a4 a5 a6 a7 c3 c4 c5 c6 c7 ax cx ak ck num den mode least most only k1 k2 l2 (fdV fd) (s + 17 + i) lb s W n path pv h hl6 hR hk hl2 hb (ks[j]) _ (fun _ _ => by kernel_rfl) (fun X hX => ofArg1_any p g x ks a3 a4 a5 a6 a7 c3 c4 c5 c6 c7 ax cx ak ck (s + 17 + i) j X ((bel_cell hX (World.block_lt_of_cell? _ _ hc) 0).trans hc) hjl (row_bel hR hX (Nat.le_refl _)))
      unfold tell
      simp only [if_true]
      rw [hkj]
      exact this
    | ofLine i =>
      simp only [Bool.and_eq_true, decide_eq_true_eq] at htl
      have hc := h.ops.2.2 i htl.1
      have hfd : fd = .line ∨ fd = .col := by
        cases fd <;> first | exact .inl rfl | exact .inr rfl | cases htl.2
      obtain ⟨j, hj, hx, hkj⟩ := found_line hfd hf
      have hte : tell p x ks (.ofLine i) = (lineK (p.lns[j]), inK (lineK (p.lns[j])).1 (clVals.getD i 0)) := by
        unfold tell
        rw [hx, at?_some (by omega) (by omega)]
        rfl
      rw [hte]
      have hT := fun X hX => ofLine1_any p g x ks a3 a4 a5 a6 a7 c3 c4 c5 c6 c7 ax cx ak ck (s + 17 + i) (clVals.getD i 0) X ((bel_cell hX (World.block_lt_of_cell? _ _ hc) 0).trans hc) j hx hj hkj (row_bel hRl hX (Nat.le_refl _))
      cases hin : inK (lineK (p.lns[j])).1 (clVals.getD i 0) with
      | true =>
        rw [hin] at hT
        simp only [if_true]
        exact worth_cl_true p g x ks a3 a4 a5 a6 a7 c3 c4 c5 c6 c7 ax cx ak ck num den mode least most only k1 k2 l2 (fdV fd) (s + 17 + i) lb s W n path pv h hl6 hR hk hl2 hb (lineK (p.lns[j])) _ (fun _ _ => by kernel_rfl) hT
      | false =>
        rw [hin] at hT
        simp only [Bool.false_eq_true, if_false]
        exact worth_ofLine_false p g x ks a3 a4 a5 a6 a7 c3 c4 c5 c6 c7 ax cx ak ck num den mode least most only k1 k2 l2 (fdV fd) (s + 17 + i) lb s W n path pv h hl6 hR hk hl2 hb (lineK (p.lns[j])) hT
    | ofTable => exact worth_ofTable_true p g x ks a3 a4 a5 a6 a7 c3 c4 c5 c6 c7 ax cx ak ck num den mode least most only k1 k2 l2 (fdV fd) lb s W n path pv h hl6 hR hk hl2 hb (5, x.den) (fun X _ => ofTable_any p g x ks a3 a4 a5 a6 a7 c3 c4 c5 c6 c7 ax cx ak ck X)
end Go.Proofs.YthnmjafoplfikaaGreatDoor

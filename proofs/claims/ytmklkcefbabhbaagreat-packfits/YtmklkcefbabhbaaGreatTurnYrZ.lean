import Derived.Test.YtmklkcefbabhbaaGreatJoin52
import Derived.Test.YtmklkcefbabhbaaGreatJoin45
/- What is well formed has bytes. No program. -/
namespace Go.Proofs.YtmklkcefbabhbaaGreat.R6
open Go.RowKit

theorem eI10 {z : Int} (h : Rg z) : (encI z).length ≤ 10 := by
  refine encN_len 10 _ ?_ (by decide)
  have h1 := h.1
  have h2 := h.2
  unfold zig
  have h3 : (128 : Nat) ^ 10 = 1180591620717411303424 := by decide
  rw [h3]
  split <;> omega
theorem eI1 {z : Int} (h0 : -64 ≤ z) (h1 : z ≤ 63) : (encI z).length ≤ 1 := by
  refine encN_len 1 _ ?_ (by decide)
  unfold zig
  split <;> omega
theorem eZ10 {z : Int} (h : Rg z) : (encZ z).length ≤ 10 := by
  unfold encZ
  split
  · exact Nat.zero_le _
  · exact eI10 h
theorem eZ1 {z : Int} (h0 : -64 ≤ z) (h1 : z ≤ 63) : (encZ z).length ≤ 1 := by
  unfold encZ
  split
  · exact Nat.zero_le _
  · exact eI1 h0 h1
theorem eN1 {n : Nat} (h : n < 128) : (encN n).length ≤ 1 := encN_len 1 n (by simpa using h) (by decide)
theorem tx_len {s : List UInt8} {k : Nat} (h : s.length ≤ k) (hk : k < 128) : (encS s).length ≤ k + 1 := by
  unfold encS
  have := eN1 (n := s.length) (by omega)
  rw [List.length_append]
  omega
theorem nm_len {s : List UInt8} (h : nmB s = true) : (encS s).length ≤ 13 := by
  refine tx_len ?_ (by decide)
  cases s with
  | nil => cases h
  | cons c r =>
    rw [nmB_cons, Bool.and_eq_true, Bool.and_eq_true, decide_eq_true_eq] at h
    exact h.1.1
theorem lk_len {s : Sn} {v : List UInt8} (h : lkN s v = 0) : (encS v).length ≤ 13 := by
  unfold lkN at h
  by_cases hn : nmB v = true
  · exact nm_len hn
  · rw [if_neg hn] at h
    cases h
theorem flat_le {α : Type} (f : α → List UInt8) (k : Nat) : ∀ l : List α, (∀ x ∈ l, (f x).length ≤ k) → (l.flatMap f).length ≤ k * l.length
  | [], _ => by simp
  | x :: l, h => by
    have h1 := h x (List.mem_cons_self ..)
    have h2 := flat_le f k l (fun y hy => h y (List.mem_cons_of_mem _ hy))
    rw [List.flatMap_cons, List.length_append, List.length_cons, Nat.mul_add, Nat.mul_one]
    omega
theorem encL_le {α : Type} (f : α → List UInt8) (k n : Nat) (l : List α) (h : ∀ x ∈ l, (f x).length ≤ k) (hl : l.length ≤ n) (hn : n < 128) : (encL f l).length ≤ 1 + k * n := by
  have h1 := flat_le f k l h
  have h2 := eN1 (n := l.length) (by omega)
  have h3 : k * l.length ≤ k * n := Nat.mul_le_mul_left _ hl
  unfold encL
  rw [List.length_append]
  omega
theorem fo_op {x : Ex} (h : foB x = true) : 1 ≤ x.op ∧ x.op ≤ 41 ∧ 0 ≤ x.mode ∧ x.mode ≤ 5 := by
  have h1 := (fo_ar h).1
  have h2 : 1 ≤ x.op ∧ x.op ≤ 41 := by
    by_cases hc : 1 ≤ x.op ∧ x.op ≤ 41
    · exact hc
    · have : arF x.op = (-1, -1) := by
        unfold arF
        rw [if_neg (by omega), if_neg (by omega), if_neg (by omega), if_neg (by omega), if_neg (by omega)]
      rw [this] at h1
      have h1 : (0 : Int) ≤ -1 := h1
      omega
  have hn : nuB x = true := by
    unfold foB at h
    simp only [Bool.and_eq_true] at h
    exact h.1.2
  have hm : 0 ≤ x.mode ∧ x.mode ≤ 5 := by
    unfold nuB at hn
    simp only [Bool.and_eq_true] at hn
    have h3 := hn.2
    split at h3
    · unfold wi at h3
      simp only [Bool.and_eq_true, decide_eq_true_eq] at h3
      omega
    · simp only [decide_eq_true_eq] at h3
      omega
  exact ⟨h2.1, h2.2, hm.1, hm.2⟩
theorem enc_node {x : Ex} (h : foB x = true) (hr : Rg4 x) : (encE x).length ≤ 24 + (encF x.args).length := by
  obtain ⟨h1, h2, h3, h4⟩ := fo_op h
  have h6 := fo_six h
  have a1 := eI1 (z := x.op) (by omega) (by omega)
  have a2 := eZ10 hr.2.1
  have a3 := eZ10 hr.2.2.1
  have a4 := eZ1 (z := x.mode) (by omega) (by omega)
  have a5 : (if x.args.len = 0 then [] else encN x.args.len ++ encF x.args).length ≤ 1 + (encF x.args).length := by
    by_cases h0 : x.args.len = 0
    · rw [if_pos h0]
      exact Nat.zero_le _
    · rw [if_neg h0]
      have := eN1 (n := x.args.len) (by omega)
      rw [List.length_append]
      omega
  unfold encE
  generalize (if x.args.len = 0 then [] else encN x.args.len ++ encF x.args) = q at a5 ⊢
  simp only [List.length_append, List.length_singleton]
  omega
theorem fo_all {P : Ex → Prop} (f : Ex → Nat → Nat × Except Ft Kd) (hf : ∀ x n m k, f x n = (m, .ok k) → RgE x → P x) : ∀ (l : List Ex) (i n : Nat) (acc : List Kd) (m : Nat) (ks : List Kd), kFo f l i n acc = (m, .ok ks) → (∀ x ∈ l, RgE x) → ∀ x ∈ l, P x
  | [], i, n, acc, m, ks, h, _, x, hx => by cases hx
  | y :: l, i, n, acc, m, ks, h, hr, x, hx => by
    unfold kFo at h
    cases hy : f y n with
    | mk m1 r1 =>
      rw [hy] at h
      cases r1 with
      | error e => injection h with h1 h2; cases h2
      | ok k =>
        rcases List.mem_cons.1 hx with rfl | hx
        · exact hf x n m1 k hy (hr x (List.mem_cons_self ..))
        · exact fo_all f hf l (i + 1) m1 (acc ++ [k]) m ks h (fun z hz => hr z (List.mem_cons_of_mem _ hz)) x hx
theorem fl_no : ∀ l : List Ex, (∀ y ∈ l, (encE y).length ≤ 24 * noE y) → (l.flatMap encE).length ≤ 24 * noL l
  | [], _ => by simp
  | x :: l, h => by
    have h1 := h x (List.mem_cons_self ..)
    have h2 := fl_no l (fun y hy => h y (List.mem_cons_of_mem _ hy))
    rw [List.flatMap_cons, List.length_append]
    show _ ≤ 24 * (noE x + noL l)
    omega
theorem deep_L {d : Nat} : ∀ f : Fo, (∀ y ∈ toL f, deepE y ≤ d) → deepF f ≤ d
  | .nil, _ => Nat.zero_le _
  | .cons a b c e x r, h => by
    have h1 := h ⟨a, b, c, e, x⟩ (List.mem_cons_self ..)
    have h2 := deep_L r (fun y hy => h y (List.mem_cons_of_mem _ hy))
    have h1 : 1 + deepF x ≤ d := h1
    show max (1 + deepF x) (deepF r) ≤ d
    omega
theorem ki_enc (p : Pk) (g : Int) : ∀ (d : Nat) (x : Ex) (n m : Nat) (k : Kd), kiF p g d x n = (m, .ok k) → RgE x → (encE x).length ≤ 24 * noE x ∧ deepE x ≤ d
  | 0, x, n, m, k, h, _ => by
    unfold kiF at h
    injection h with _ h
    cases h
  | d + 1, x, n, m, k, h, hr => by
    unfold kiF at h
    by_cases h1 : 60 < n + 1
    · rw [if_pos h1] at h
      injection h with _ h; cases h
    rw [if_neg h1] at h
    by_cases h2 : foB x = false
    · rw [if_pos h2] at h
      injection h with _ h; cases h
    rw [if_neg h2] at h
    by_cases h3 : thB p g x = false
    · rw [if_pos h3] at h
      injection h with _ h; cases h
    rw [if_neg h3] at h
    cases hx : kFo (kiF p g d) (toL x.args) 0 (n + 1) [] with
    | mk m1 r1 =>
      rw [hx] at h
      cases r1 with
      | error e => injection h with _ h; cases h
      | ok ks =>
        have hall := fo_all (P := fun y => (encE y).length ≤ 24 * noE y ∧ deepE y ≤ d) _ (fun y n m k h hr => ki_enc p g d y n m k h hr) _ _ _ _ _ _ hx (fun y hy => (toL_ok x.args hr.2 (Nat.le_refl _) y hy).2)
        have q1 := fl_no (toL x.args) (fun y hy => (hall y hy).1)
        have q2 := deep_L x.args (fun y hy => (hall y hy).2)
        have q3 := enc_node (x := x) (by simpa using h2) hr.1
        have q4 : noE x = 1 + noL (toL x.args) := by rw [← noF_L]; rfl
        rw [encF_toL] at q3
        exact ⟨by omega, by show 1 + deepF x.args ≤ d + 1; omega⟩
theorem td_ok {p : Pk} {g : Int} {must : Kd} {e : Ex} {n n' : Nat} (h : tdF p g must e n = .ok n') (hr : RgE e) : n' = n + noE e ∧ n' ≤ 60 ∧ (encE e).length ≤ 24 * noE e ∧ deepE e ≤ 8 := by
  unfold tdF at h
  cases ht : tyF p g e with
  | error er => rw [ht] at h; cases h
  | ok k =>
    rw [ht] at h
    simp only at h
    by_cases hk : k = must
    · rw [if_pos hk] at h
      by_cases hn : 60 < n + noE e
      · rw [if_pos hn] at h; cases h
      · rw [if_neg hn] at h
        cases h
        unfold tyF at ht
        cases hx : kiF p g 8 e 0 with
        | mk m r =>
          rw [hx] at ht
          have ht : r = .ok k := ht
          subst ht
          have := ki_enc p g 8 e 0 m k hx hr
          exact ⟨rfl, by omega, this.1, this.2⟩
    · rw [if_neg hk] at h; cases h
theorem zr_len {e : Ex} (h : zrB e = true) : (encE e).length ≤ 2 ∧ deepE e ≤ 8 := by
  unfold zrB at h
  simp only [Bool.and_eq_true, decide_eq_true_eq] at h
  obtain ⟨⟨⟨⟨h0, h1⟩, h2⟩, h3⟩, h4⟩ := h
  have a1 := eI1 (z := e.op) (by omega) (by omega)
  have hf : e.args = .nil := by
    cases hx : e.args with
    | nil => rfl
    | cons a b c d x r =>
      rw [hx] at h4
      have h4 : r.len + 1 = 0 := h4
      omega
  refine ⟨?_, by unfold deepE; rw [hf]; decide⟩
  unfold encE encZ
  rw [if_pos h1, if_pos h2, if_pos h3, if_pos h4]
  simp only [List.length_append, List.length_singleton, List.length_nil]
  omega
theorem lc_ok (p : Pk) (y : Ln) (i : Nat) : ∀ (l : List Cl) (j n : Nat), lcF p y i l j n = none → n ≤ 60 → (∀ c ∈ l, RgC c) → (j = 0 → ∀ c, l.head? = some c → zrB c.guard = true) → (l.flatMap encC).length + 24 * n ≤ 1440 + 13 * l.length ∧ ∀ c ∈ l, okC c
  | [], j, n, _, hn, _, _ => ⟨by simp; omega, fun c hc => by cases hc⟩
  | c :: r, j, n, h, hn, hr, hz => by
    have hc := hr c (List.mem_cons_self ..)
    unfold lcF at h
    obtain ⟨n1, e1, b1, g1, d1⟩ : ∃ n1, (if 0 < j then tdF p y.group (3, -1) c.guard n else .ok n) = .ok n1 ∧ n1 ≤ 60 ∧ (encE c.guard).length + 24 * n ≤ 2 + 24 * n1 ∧ deepE c.guard ≤ 8 := by
      by_cases hj : 0 < j
      · cases hx : tdF p y.group (3, -1) c.guard n with
        | error er =>
          rw [if_pos hj, hx] at h
          cases h
        | ok n1 =>
          obtain ⟨a, b, u, d⟩ := td_ok hx hc.2.1
          exact ⟨n1, by rw [if_pos hj], b, by omega, d⟩
      · have hz0 := zr_len (hz (by omega) c rfl)
        exact ⟨n, by rw [if_neg hj], hn, by have := hz0.1; omega, hz0.2⟩
    rw [e1] at h
    simp only at h
    cases hy : tdF p y.group (lineK y) c.body n1 with
    | error er => rw [hy] at h; cases h
    | ok n2 =>
      rw [hy] at h
      obtain ⟨a, b, u, d⟩ := td_ok hy hc.2.2
      have ih := lc_ok p y i r (j + 1) n2 h b (fun z hz => hr z (List.mem_cons_of_mem _ hz)) (fun hj => by omega)
      refine ⟨?_, fun z hz => ?_⟩
      · have h1 := eI10 hc.1
        have h2 : (encC c).length = (encI c.pri).length + 1 + (encE c.guard).length + (encE c.body).length := by
          unfold encC
          simp only [List.length_append]
          rfl
        rw [List.flatMap_cons, List.length_append, List.length_cons, h2]
        have := ih.1
        omega
      · rcases List.mem_cons.1 hz with rfl | hz
        · exact ⟨by omega, by omega⟩
        · exact ih.2 z hz
theorem fr_all {α : Type} (f : Sn → α → Nat) (nm : α → List UInt8) (part : Nat) : ∀ (l : List α) (i : Nat) (s s' : Sn), frF f nm part l i s = (s', none) → ∀ x ∈ l, ∃ s, f s x = 0
  | [], i, s, s', _, x, hx => by cases hx
  | y :: l, i, s, s', h, x, hx => by
    unfold frF at h
    by_cases h0 : f s y = 0
    · rw [if_pos h0] at h
      rcases List.mem_cons.1 hx with rfl | hx
      · exact ⟨s, h0⟩
      · exact fr_all f nm part l (i + 1) _ s' h x hx
    · rw [if_neg h0] at h
      injection h with _ h
      cases h
theorem ls_all (p : Pk) : ∀ (l : List Ln) (i : Nat) (s s' : Sn), lsF p l i s = (s', none) → ∀ x ∈ l, ∃ s, (lnE p s x).1 = 0
  | [], i, s, s', _, x, hx => by cases hx
  | y :: l, i, s, s', h, x, hx => by
    unfold lsF at h
    by_cases h0 : (lnE p s y).1 = 0
    · rw [if_pos h0] at h
      rcases List.mem_cons.1 hx with rfl | hx
      · exact ⟨s, h0⟩
      · exact ls_all p l (i + 1) _ s' h x hx
    · rw [if_neg h0] at h
      injection h with _ h
      cases h
theorem ns_all (l : Sn) : ∀ (r : Sn) (i : Nat), nsF l r i = 0 → ∀ x ∈ r, (encS x).length ≤ 13
  | [], i, _, x, hx => by cases hx
  | y :: r, i, h, x, hx => by
    unfold nsF at h
    by_cases h0 : lkN (l.take i) y = 0
    · rw [if_pos h0] at h
      rcases List.mem_cons.1 hx with rfl | hx
      · exact lk_len h0
      · exact ns_all l r (i + 1) h x hx
    · rw [if_neg h0] at h
      exact absurd h h0
theorem op_len {s : Sn} {o : List UInt8 × Sn} (h : opE s o = 0) : (encO o).length ≤ 118 := by
  unfold opE at h
  by_cases h0 : lkN s o.1 ≠ 0
  · rw [if_pos h0] at h
    exact absurd h h0
  rw [if_neg h0] at h
  by_cases h1 : o.2.length < 1 ∨ 8 < o.2.length
  · rw [if_pos h1] at h
    cases h
  rw [if_neg h1] at h
  have q1 := lk_len (s := s) (v := o.1) (by omega)
  have q2 := encL_le encS 13 8 o.2 (ns_all o.2 o.2 0 h) (by omega) (by decide)
  unfold encO
  rw [List.length_append]
  omega
theorem tb_len {s : Sn} {t : List UInt8 × List (Int × Int)} (h : tbE s t = 0) (hr : ∀ b ∈ t.2, Rg b.1 ∧ Rg b.2) : (encT t).length ≤ 174 := by
  unfold tbE at h
  by_cases h0 : lkN s t.1 ≠ 0
  · rw [if_pos h0] at h
    exact absurd h h0
  rw [if_neg h0] at h
  by_cases h1 : t.2.length < 1 ∨ 8 < t.2.length
  · rw [if_pos h1] at h
    cases h
  have q1 := lk_len (s := s) (v := t.1) (by omega)
  have q2 := encL_le encBd 20 8 t.2 (fun b hb => by
    have h1 := eI10 (hr b hb).1
    have h2 := eI10 (hr b hb).2
    unfold encBd
    rw [List.length_append]
    omega) (by omega) (by decide)
  unfold encT
  rw [List.length_append]
  omega
theorem gp_len {s : Sn} {g : List UInt8 × Int} (h : gpE s g = 0) (hr : Rg g.2) : (encG g).length ≤ 23 := by
  unfold gpE at h
  by_cases h0 : lkN s g.1 ≠ 0
  · rw [if_pos h0] at h
    exact absurd h h0
  have q1 := lk_len (s := s) (v := g.1) (by omega)
  have q2 := eI10 hr
  unfold encG
  rw [List.length_append]
  omega
theorem ln_len {p : Pk} {s : Sn} {y : Ln} {i : Nat} (h : (lnE p s y).1 = 0) (hr : RgL y) (hc : lcF p y i y.cls 0 0 = none) : (encLn y).length ≤ 1564 ∧ okL y := by
  unfold lnE at h
  by_cases h0 : lkN s y.name ≠ 0
  · rw [if_pos h0] at h
    exact absurd h h0
  rw [if_neg h0] at h
  by_cases h1 : tyB p y = false
  · rw [if_pos h1] at h
    cases h
  rw [if_neg h1] at h
  by_cases h2 : inG p y.group = false
  · rw [if_pos h2] at h
    cases h
  rw [if_neg h2] at h
  by_cases h3 : lnB y = false
  · rw [if_pos h3] at h
    cases h
  rw [if_neg h3] at h
  have hcl : clF y.cls y.cls 0 = none := by
    cases hx : clF y.cls y.cls 0 with
    | none => rfl
    | some k =>
      rw [hx] at h
      cases h
  have h6 : y.cls.length ≤ 6 := by
    have h3 : lnB y = true := by simpa using h3
    unfold lnB at h3
    split at h3
    · simp only [decide_eq_true_eq] at h3
      omega
    · simp only [Bool.and_eq_true, decide_eq_true_eq] at h3
      omega
  have hz : ∀ c, y.cls.head? = some c → zrB c.guard = true := fun c hc => by
    cases hx : y.cls with
    | nil => rw [hx] at hc; cases hc
    | cons d r =>
      rw [hx] at hc hcl
      injection hc with hc
      subst hc
      unfold clF at hcl
      by_cases hb : clB (d :: r) 0 d = true
      · unfold clB at hb
        simp only [if_pos, Bool.and_eq_true] at hb
        exact hb.2
      · rw [if_neg hb] at hcl
        cases hcl
  have hl := lc_ok p y i y.cls 0 0 hc (by decide) hr.2 (fun _ => hz)
  have q1 := lk_len (s := s) (v := y.name) (by omega)
  have q2 := eI10 hr.1.1
  have q3 := eI10 hr.1.2.1
  have q4 := eI10 hr.1.2.2
  have q5 := eN1 (n := y.cls.length) (by omega)
  refine ⟨?_, hl.2⟩
  have q6 : (encLn y).length = (encS y.name).length + 1 + 1 + (encI y.type).length + (encI y.opts).length + (encI y.group).length + ((encN y.cls.length).length + (y.cls.flatMap encC).length) := by
    unfold encLn encL
    simp only [List.length_append]
    rfl
  have := hl.1
  omega
theorem ck_len {p : Pk} {s : Sn} {k : Ck} (h : ckE p s k = 0) (hr : RgK k) {n' : Nat} (ht : tdF p k.group (3, -1) k.when_ 0 = .ok n') : (encK k).length ≤ 1505 ∧ okK k := by
  unfold ckE at h
  by_cases h0 : lkN s k.name ≠ 0
  · rw [if_pos h0] at h
    exact absurd h h0
  rw [if_neg h0] at h
  by_cases h2 : inG p k.group = false
  · rw [if_pos h2] at h
    cases h
  rw [if_neg h2] at h
  have ht40 : k.text.length ≤ 40 := by
    by_cases hx : txB k.text = true
    · unfold txB at hx
      simp only [Bool.and_eq_true, decide_eq_true_eq] at hx
      exact hx.1.2
    · rw [if_neg hx] at h
      cases h
  obtain ⟨a, b, u, d⟩ := td_ok ht hr.2
  have q1 := lk_len (s := s) (v := k.name) (by omega)
  have q2 := eI10 hr.1
  have q3 := tx_len ht40 (by decide)
  refine ⟨?_, by show deepE k.when_ + 1 ≤ 65; omega⟩
  have q6 : (encK k).length = (encS k.name).length + 1 + (encI k.group).length + (encE k.when_).length + (encS k.text).length := by
    unfold encK
    simp only [List.length_append]
    rfl
  omega
theorem le_all (p : Pk) : ∀ (l : List Ln) (i : Nat), leF p l i = none → ∀ y ∈ l, ∃ i, lcF p y i y.cls 0 0 = none
  | [], i, _, y, hy => by cases hy
  | x :: l, i, h, y, hy => by
    unfold leF at h
    cases hx : lcF p x i x.cls 0 0 with
    | some f => rw [hx] at h; cases h
    | none =>
      rw [hx] at h
      rcases List.mem_cons.1 hy with rfl | hy
      · exact ⟨i, hx⟩
      · exact le_all p l (i + 1) h y hy
theorem ke_all (p : Pk) : ∀ (l : List Ck) (i : Nat), keF p l i = none → ∀ k ∈ l, ∃ n, tdF p k.group (3, -1) k.when_ 0 = .ok n
  | [], i, _, y, hy => by cases hy
  | x :: l, i, h, y, hy => by
    unfold keF at h
    cases hx : tdF p x.group (3, -1) x.when_ 0 with
    | error f => rw [hx] at h; cases h
    | ok n =>
      rw [hx] at h
      rcases List.mem_cons.1 hy with rfl | hy
      · exact ⟨n, hx⟩
      · exact ke_all p l (i + 1) h y hy
/-- What is well formed has bytes, and more than fifteen. -/
theorem ch_has {p : Pk} (h : chF p = none) (hr : RgP p) : Has p ∧ 15 < (encP p ++ sum4 (fnvB (encP p))).length := by
  unfold chF at h
  cases hs : szF p with
  | some f => rw [hs] at h; cases h
  | none =>
  rw [hs] at h
  simp only at h
  cases hp : paF p with
  | some f => rw [hp] at h; cases h
  | none =>
  rw [hp] at h
  simp only at h
  cases hl : leF p p.lns 0 with
  | some f => rw [hl] at h; cases h
  | none =>
  rw [hl] at h
  simp only at h
  have hsz : p.opts.length ≤ 4 ∧ p.tabs.length ≤ 4 ∧ p.grps.length ≤ 4 ∧ 1 ≤ p.lns.length ∧ p.lns.length ≤ 48 ∧ p.cks.length ≤ 16 := by
    unfold szF at hs
    by_cases c1 : 4 < p.opts.length
    · rw [if_pos c1] at hs; cases hs
    rw [if_neg c1] at hs
    by_cases c2 : 4 < p.tabs.length
    · rw [if_pos c2] at hs; cases hs
    rw [if_neg c2] at hs
    by_cases c3 : 4 < p.grps.length
    · rw [if_pos c3] at hs; cases hs
    rw [if_neg c3] at hs
    by_cases c4 : p.lns.length < 1 ∨ 48 < p.lns.length
    · rw [if_pos c4] at hs; cases hs
    rw [if_neg c4] at hs
    by_cases c5 : 16 < p.cks.length
    · rw [if_pos c5] at hs; cases hs
    omega
  unfold paF at hp
  cases hd : hdF p with
  | some f => rw [hd] at hp; cases hp
  | none =>
  rw [hd] at hp
  simp only at hp
  rcases h1 : frF opE (·.1) 2 p.opts 0 [] with ⟨s1, _ | f1⟩
  rotate_left
  · rw [h1] at hp; cases hp
  rw [h1] at hp
  simp only at hp
  rcases h2 : frF tbE (·.1) 3 p.tabs 0 s1 with ⟨s2, _ | f2⟩
  rotate_left
  · rw [h2] at hp; cases hp
  rw [h2] at hp
  simp only at hp
  rcases h3 : frF gpE (·.1) 4 p.grps 0 s2 with ⟨s3, _ | f3⟩
  rotate_left
  · rw [h3] at hp; cases hp
  rw [h3] at hp
  simp only at hp
  rcases h4 : lsF p p.lns 0 s3 with ⟨s4, _ | f4⟩
  rotate_left
  · rw [h4] at hp; cases hp
  rw [h4] at hp
  simp only at hp
  rcases h5 : frF (ckE p) (·.name) 6 p.cks 0 s4 with ⟨s5, _ | f5⟩
  rotate_left
  · rw [h5] at hp; cases hp
  have hn : nmB p.name = true := by
    unfold hdF at hd
    by_cases hx : nmB p.name = true
    · exact hx
    · rw [if_neg hx] at hd; cases hd
  have q0 := nm_len hn
  have qy := eI10 hr.year
  have q1 := encL_le encO 118 4 p.opts (fun o ho => by obtain ⟨s, hs⟩ := fr_all _ _ _ _ _ _ _ h1 o ho; exact op_len hs) hsz.1 (by decide)
  have q2 := encL_le encT 174 4 p.tabs (fun o ho => by obtain ⟨s, hs⟩ := fr_all _ _ _ _ _ _ _ h2 o ho; exact tb_len hs (hr.tabs o ho)) hsz.2.1 (by decide)
  have q3 := encL_le encG 23 4 p.grps (fun o ho => by obtain ⟨s, hs⟩ := fr_all _ _ _ _ _ _ _ h3 o ho; exact gp_len hs (hr.grps o ho)) hsz.2.2.1 (by decide)
  have k4 : ∀ y ∈ p.lns, (encLn y).length ≤ 1564 ∧ okL y := fun y hy => by
    obtain ⟨s, hs⟩ := ls_all p _ _ _ _ h4 y hy
    obtain ⟨i, hi⟩ := le_all p _ _ hl y hy
    exact ln_len hs (hr.lns y hy) hi
  have k5 : ∀ y ∈ p.cks, (encK y).length ≤ 1505 ∧ okK y := fun y hy => by
    obtain ⟨s, hs⟩ := fr_all _ _ _ _ _ _ _ h5 y hy
    obtain ⟨n, hi⟩ := ke_all p _ _ h y hy
    exact ck_len hs (hr.cks y hy) hi
  have q4 := encL_le encLn 1564 48 p.lns (fun y hy => (k4 y hy).1) hsz.2.2.2.2.1 (by decide)
  have q5 := encL_le encK 1505 16 p.cks (fun y hy => (k5 y hy).1) hsz.2.2.2.2.2 (by decide)
  have hm4 : (sum4 (fnvB (encP p))).length = 4 := rfl
  have he : (encP p).length = 4 + (encS p.name).length + (encI p.year).length + (encL encO p.opts).length + (encL encT p.tabs).length + (encL encG p.grps).length + (encL encLn p.lns).length + (encL encK p.cks).length := by
    unfold encP
    simp only [List.length_append]
    rfl
  have m1 : 2 ≤ (encS p.name).length := by
    cases hx : p.name with
    | nil => rw [hx] at hn; cases hn
    | cons c r =>
      have := encN_pos (c :: r).length
      unfold encS
      rw [List.length_append, List.length_cons]
      rw [List.length_cons] at this
      omega
  have m2 : 1 ≤ (encI p.year).length := encN_pos _
  have m3 : ∀ {α : Type} (f : α → List UInt8) (l : List α), 1 ≤ (encL f l).length := fun f l => by
    have := encN_pos l.length
    unfold encL
    rw [List.length_append]
    omega
  have n1 := m3 encO p.opts
  have n2 := m3 encT p.tabs
  have n3 := m3 encG p.grps
  have n4 := m3 encLn p.lns
  have n5 := m3 encK p.cks
  refine ⟨⟨?_, fun y hy => (k4 y hy).2, fun y hy => (k5 y hy).2⟩, ?_⟩
  · rw [List.length_append, hm4, he]
    omega
  · rw [List.length_append, hm4, he]
    omega
end Go.Proofs.YtmklkcefbabhbaaGreat.R6

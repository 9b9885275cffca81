import Derived.Test.YtpmfgffhkklfeaaDoorTrieM
namespace Go.Proofs.YtpmfgffhkklfeaaDoor

/-- The sum over the sixteen places. -/
def sum16 (f : Nat → Nat) : Nat := ((List.range 16).map f).sum
theorem sumR_zero {f : Nat → Nat} : ∀ n, (∀ i, i < n → f i = 0) → ((List.range n).map f).sum = 0
  | 0, _ => rfl
  | n + 1, h => by
    rw [List.range_succ, List.map_append, List.sum_append, sumR_zero n (fun i hi => h i (by omega))]
    simp [h n (by omega)]
theorem sumR_one {f : Nat → Nat} {d : Nat} : ∀ n, d < n → (∀ i, i < n → i ≠ d → f i = 0) → ((List.range n).map f).sum = f d
  | 0, h, _ => by omega
  | n + 1, h, hz => by
    rw [List.range_succ, List.map_append, List.sum_append]
    simp only [List.map_cons, List.map_nil, List.sum_cons, List.sum_nil, Nat.add_zero]
    by_cases hd : d = n
    · subst hd
      rw [sumR_zero d (fun i hi => hz i (by omega) (by omega))]
      omega
    · rw [sumR_one n (by omega) (fun i hi hne => hz i (by omega) hne), hz n (by omega) (by omega)]
      omega
theorem sumR_le {f g : Nat → Nat} : ∀ n, (∀ i, i < n → f i ≤ g i) → ((List.range n).map f).sum ≤ ((List.range n).map g).sum
  | 0, _ => Nat.le_refl _
  | n + 1, h => by
    have ih := sumR_le n (fun i hi => h i (by omega))
    have h1 := h n (by omega)
    rw [List.range_succ, List.map_append, List.sum_append, List.map_append, List.sum_append]
    simp
    omega
theorem sumR_add {f g : Nat → Nat} : ∀ n, ((List.range n).map fun i => f i + g i).sum = ((List.range n).map f).sum + ((List.range n).map g).sum
  | 0 => rfl
  | n + 1 => by
    have ih := sumR_add (f := f) (g := g) n
    rw [List.range_succ, List.map_append, List.sum_append, List.map_append, List.sum_append, List.map_append, List.sum_append, ih]
    simp
    omega
theorem sum16_zero {f : Nat → Nat} (h : ∀ i, i < 16 → f i = 0) : sum16 f = 0 := sumR_zero 16 h
theorem sum16_one {f : Nat → Nat} {d : Nat} (hd : d < 16) (h : ∀ i, i < 16 → i ≠ d → f i = 0) : sum16 f = f d := sumR_one 16 hd h
theorem sum16_le {f g : Nat → Nat} (h : ∀ i, i < 16 → f i ≤ g i) : sum16 f ≤ sum16 g := sumR_le 16 h
theorem sum16_add (f g : Nat → Nat) : sum16 (fun i => f i + g i) = sum16 f + sum16 g := sumR_add 16
theorem sum16_congr {f g : Nat → Nat} (h : ∀ i, i < 16 → f i = g i) : sum16 f = sum16 g := Nat.le_antisymm (sum16_le fun i hi => Nat.le_of_eq (h i hi)) (sum16_le fun i hi => Nat.le_of_eq (h i hi).symm)

/-- How many nodes a tree has. -/
def Tr.cnt : Tr → Nat
  | .nil => 0
  | .node _ kids => 1 + sum16 fun i => (kids i).cnt
  | .leaf _ _ _ _ _ => 1
def Tr.blk : Tr → Option Nat
  | .nil => none
  | .node b _ => some b
  | .leaf b _ _ _ _ => some b
/-- How many of the first's nodes the second has not at the same place. -/
def Tr.frs : Tr → Tr → Nat
  | .nil, _ => 0
  | .node b kids, a => if a.blk = some b then 0 else 1 + sum16 fun i => (kids i).frs (a.kid i)
  | .leaf b _ _ _ _, a => if a.blk = some b then 0 else 1
/-- How many of them it has. -/
def Tr.sme : Tr → Tr → Nat
  | .nil, _ => 0
  | .node b kids, a => if a.blk = some b then 1 + sum16 fun i => (kids i).cnt else sum16 fun i => (kids i).sme (a.kid i)
  | .leaf b _ _ _ _, a => if a.blk = some b then 1 else 0

theorem cnt_node (b : Nat) (kids : Nat → Tr) : (Tr.node b kids).cnt = 1 + sum16 fun i => (kids i).cnt := rfl
theorem frs_node (b : Nat) (kids : Nat → Tr) (a : Tr) : (Tr.node b kids).frs a = if a.blk = some b then 0 else 1 + sum16 fun i => (kids i).frs (a.kid i) := rfl
theorem sme_node (b : Nat) (kids : Nat → Tr) (a : Tr) : (Tr.node b kids).sme a = if a.blk = some b then 1 + sum16 fun i => (kids i).cnt else sum16 fun i => (kids i).sme (a.kid i) := rfl
theorem sme_frs : ∀ (t a : Tr), t.sme a + t.frs a = t.cnt
  | .nil, _ => rfl
  | .node b kids, a => by
    rw [cnt_node, frs_node, sme_node]
    by_cases h : a.blk = some b
    · rw [if_pos h, if_pos h, Nat.add_zero]
    · rw [if_neg h, if_neg h]
      have : sum16 (fun i => (kids i).cnt) = sum16 (fun i => (kids i).sme (a.kid i)) + sum16 (fun i => (kids i).frs (a.kid i)) := by
        rw [← sum16_add]
        exact sum16_congr fun i _ => (sme_frs (kids i) (a.kid i)).symm
      omega
  | .leaf b _ _ _ _, a => by
    unfold Tr.sme Tr.frs Tr.cnt
    by_cases h : a.blk = some b
    · rw [if_pos h, if_pos h]
    · rw [if_neg h, if_neg h]
theorem frs_self (t : Tr) : t.frs t = 0 := by
  cases t with
  | nil => rfl
  | node b kids => exact if_pos rfl
  | leaf => exact if_pos rfl
theorem sme_self (t : Tr) : t.sme t = t.cnt := by
  have := sme_frs t t
  rw [frs_self] at this
  omega
theorem frs_none : ∀ (t a : Tr), a = .nil → t.frs a = t.cnt
  | .nil, _, _ => rfl
  | .node b kids, a, h => by
    subst h
    unfold Tr.frs Tr.cnt
    rw [if_neg (by simp [Tr.blk])]
    rw [sum16_congr fun i _ => frs_none (kids i) (Tr.nil.kid i) rfl]
  | .leaf b _ _ _ _, a, h => by
    subst h
    unfold Tr.frs Tr.cnt
    rw [if_neg (by simp [Tr.blk])]
theorem cnt_zero {t : Tr} : t.cnt = 0 ↔ t = .nil := by
  cases t with
  | nil => simp [Tr.cnt]
  | node b kids => simp [Tr.cnt]
  | leaf => simp [Tr.cnt]

/-- A tree all of whose nodes were there before the B'th block. -/
def Tr.old (B : Nat) : Tr → Prop
  | .nil => True
  | .node b kids => b < B ∧ ∀ i, i < 16 → (kids i).old B
  | .leaf b _ _ _ _ => b < B
theorem old_blk {B b : Nat} {t : Tr} (h : t.old B) (hb : B ≤ b) : t.blk ≠ some b := by
  cases t with
  | nil => simp [Tr.blk]
  | node c kids => have := h.1; simp [Tr.blk]; omega
  | leaf c => have : c < B := h; simp [Tr.blk]; omega
theorem old_kid {B : Nat} {t : Tr} (h : t.old B) {i : Nat} (hi : i < 16) : (t.kid i).old B := by
  cases t with
  | nil => trivial
  | node c kids => exact h.2 i hi
  | leaf c => trivial

/-- What a put makes: one node at each height. -/
theorem frs_put {B id : Nat} {v : Int × Int} : ∀ (n : Nat) {t' t : Tr}, PutR B id v n t' t → t.old B → t'.frs t = n + 1
  | 0, t', t, h, ho => by
    obtain ⟨b, s, th, vk, vn, rfl, hb, -, -⟩ := h
    unfold Tr.frs
    rw [if_neg (old_blk ho hb)]
  | n + 1, t', t, h, ho => by
    obtain ⟨b, kids, rfl, hb, hk, hp⟩ := h
    have ih := frs_put n hp (old_kid ho (dg_lt id (n + 1)))
    unfold Tr.frs
    rw [if_neg (old_blk ho hb), sum16_one (dg_lt id (n + 1)) (fun i hi hne => by rw [hk i hi hne]; exact frs_self _), ih]
    omega
/-- What a drop makes: no more than one at each height; none where nothing is left. -/
theorem frs_drop {B id : Nat} : ∀ (n : Nat) {t' t : Tr}, DropR B id n t' t → t.old B → t'.frs t ≤ n + 1 ∧ (0 < t'.frs t ↔ 0 < t'.cnt)
  | 0, t', t, h, ho => by
    rcases h with ⟨rfl, -⟩ | ⟨b, s, th, vk, vn, rfl, -, hb, -, -⟩
    · simp [Tr.frs, Tr.cnt]
    · unfold Tr.frs Tr.cnt
      rw [if_neg (old_blk ho hb)]
      simp
  | n + 1, t', t, h, ho => by
    obtain ⟨c, hc, ⟨rfl, -, -⟩ | ⟨b, kids, rfl, -, hb, hkc, hk⟩⟩ := h
    · simp [Tr.frs, Tr.cnt]
    · have ih := frs_drop n hc (old_kid ho (dg_lt id (n + 1)))
      unfold Tr.frs Tr.cnt
      rw [if_neg (old_blk ho hb), sum16_one (dg_lt id (n + 1)) (fun i hi hne => by rw [hk i hi hne]; exact frs_self _), hkc]
      exact ⟨by omega, by omega⟩

/-- The same tree, as far as its sixteen places go. -/
def Tr.Eqv : Tr → Tr → Prop
  | .nil, a => a = .nil
  | .node b kids, a => a.blk = some b ∧ ∀ i, i < 16 → (kids i).Eqv (a.kid i)
  | .leaf b _ _ _ _, a => a.blk = some b ∧ ∀ i, i < 16 → a.kid i = .nil
theorem eqv_frs : ∀ (t a : Tr), t.Eqv a → t.frs a = 0
  | .nil, _, _ => rfl
  | .node b kids, a, h => by rw [frs_node, if_pos h.1]
  | .leaf b _ _ _ _, a, h => if_pos h.1
theorem frs_cases {t a : Tr} : t.frs a = if t.blk = none ∨ a.blk = t.blk then 0 else 1 + sum16 fun i => (t.kid i).frs (a.kid i) := by
  cases t with
  | nil => rw [if_pos (.inl rfl)]; rfl
  | node b kids =>
    rw [frs_node]
    by_cases h : a.blk = some b
    · rw [if_pos h, if_pos (.inr h)]
    · rw [if_neg h, if_neg (by rintro (h1 | h1); cases h1; exact h h1)]
      rfl
  | leaf b s th vk vn =>
    show (if a.blk = some b then 0 else 1) = _
    by_cases h : a.blk = some b
    · rw [if_pos h, if_pos (.inr h)]
    · rw [if_neg h, if_neg (by rintro (h1 | h1); cases h1; exact h h1)]
      have : (sum16 fun i => ((Tr.leaf b s th vk vn).kid i).frs (a.kid i)) = 0 := sum16_zero (fun i _ => rfl)
      rw [this]
theorem eqv_kid : ∀ {t a : Tr}, t.Eqv a → ∀ i, i < 16 → (t.kid i).Eqv (a.kid i)
  | .nil, a, h, i, _ => by
    have : a = .nil := h
    subst this
    rfl
  | .node b kids, a, h, i, hi => h.2 i hi
  | .leaf b _ _ _ _, a, h, i, hi => h.2 i hi
theorem eqv_blk : ∀ {t a : Tr}, t.Eqv a → t.blk = a.blk
  | .nil, a, h => by
    have : a = .nil := h
    rw [this]
  | .node b kids, a, h => h.1.symm
  | .leaf b _ _ _ _, a, h => h.1.symm
theorem blk_none {t : Tr} (h : t.blk = none) : t = .nil := by
  cases t with
  | nil => rfl
  | node => cases h
  | leaf => cases h
theorem kid_cnt : ∀ (t : Tr) (i : Nat), i < 16 → (t.kid i).cnt < t.cnt ∨ t.kid i = .nil
  | .nil, _, _ => .inr rfl
  | .node b kids, i, hi => by
    left
    rw [cnt_node]
    have : sum16 (fun j => if j = i then (kids i).cnt else 0) ≤ sum16 fun j => (kids j).cnt := sum16_le fun j _ => by
      split
      · rename_i h; rw [h]; exact Nat.le_refl _
      · omega
    rw [sum16_one hi (fun j _ hne => if_neg hne), if_pos rfl] at this
    show (kids i).cnt < _
    omega
  | .leaf _ _ _ _ _, _, _ => .inr rfl
theorem frs_eqv : ∀ (t a c : Tr), t.Eqv a → t.frs c = a.frs c
  | .nil, a, c, h => by
    have : a = .nil := h
    rw [this]
  | .node b kids, a, c, h => by
    rw [frs_cases, frs_cases (t := a), h.1]
    show (if some b = none ∨ c.blk = some b then 0 else _) = _
    rw [sum16_congr (f := fun i => ((Tr.node b kids).kid i).frs (c.kid i)) (g := fun i => (a.kid i).frs (c.kid i)) fun i hi => frs_eqv (kids i) (a.kid i) (c.kid i) (h.2 i hi)]
  | .leaf b s th vk vn, a, c, h => by
    rw [frs_cases, frs_cases (t := a), h.1]
    show (if some b = none ∨ c.blk = some b then 0 else _) = _
    rw [sum16_congr (f := fun i => (a.kid i).frs (c.kid i)) (g := fun i => ((Tr.leaf b s th vk vn).kid i).frs (c.kid i)) fun i hi => by rw [h.2 i hi]; rfl]
/-- By way of a third tree nothing is won: where one block is one tree. -/
theorem frs_way {R : Tr → Tr → Prop} (hK : ∀ {t a : Tr}, R t a → ∀ i, i < 16 → R (t.kid i) (a.kid i)) (hE : ∀ {t a : Tr}, R t a → t.blk = a.blk → t.Eqv a) :
    ∀ (c b a : Tr), R c b → R b a → c.frs a ≤ c.frs b + b.frs a := by
  have main : ∀ (N : Nat) (c b a : Tr), c.cnt ≤ N → R c b → R b a → c.frs a ≤ c.frs b + b.frs a := by
    intro N
    induction N with
    | zero =>
      intro c b a hN _ _
      rw [cnt_zero.1 (Nat.le_zero.1 hN)]
      exact Nat.zero_le _
    | succ N ih =>
      intro c b a hN h1 h2
      by_cases e1 : c.blk = b.blk
      · rw [frs_eqv c b a (hE h1 e1)]
        omega
      · rw [frs_cases (t := c) (a := a), frs_cases (t := c) (a := b)]
        by_cases e0 : c.blk = none
        · rw [if_pos (.inl e0)]; omega
        · by_cases e2 : a.blk = c.blk
          · rw [if_pos (.inr e2)]; omega
          · rw [if_neg (by rintro (h | h); exact e0 h; exact e2 h), if_neg (by rintro (h | h); exact e0 h; exact e1 h.symm)]
            have hs : sum16 (fun i => (c.kid i).frs (a.kid i)) ≤ sum16 (fun i => (c.kid i).frs (b.kid i)) + sum16 (fun i => (b.kid i).frs (a.kid i)) := by
              rw [← sum16_add]
              refine sum16_le fun i hi => ?_
              rcases kid_cnt c i hi with h | h
              · exact ih _ _ _ (by omega) (hK h1 i hi) (hK h2 i hi)
              · rw [h]; exact Nat.zero_le _
            have hb : sum16 (fun i => (b.kid i).frs (a.kid i)) ≤ b.frs a := by
              rw [frs_cases (t := b) (a := a)]
              by_cases e3 : b.blk = none
              · rw [if_pos (.inl e3), blk_none e3]
                exact Nat.le_of_eq (sum16_zero (fun i _ => rfl))
              · by_cases e4 : a.blk = b.blk
                · rw [if_pos (.inr e4), sum16_zero (fun i hi => eqv_frs _ _ (eqv_kid (hE h2 e4.symm) i hi))]
                  exact Nat.le_refl _
                · rw [if_neg (by rintro (h | h); exact e3 h; exact e4 h)]
                  omega
            omega
  exact fun c b a => main c.cnt c b a (Nat.le_refl _)

end Go.Proofs.YtpmfgffhkklfeaaDoor

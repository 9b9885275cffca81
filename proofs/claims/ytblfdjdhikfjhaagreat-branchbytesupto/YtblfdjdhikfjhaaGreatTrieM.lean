import Derived.Below
/- THE PLAIN MATHEMATICS of layer 3: a tree of eight levels, each node of which has sixteen children; what it holds; its entries, rising. Levels go by their height n over the bottom (the bottom: 0). No program. -/
namespace Go.Proofs.YtblfdjdhikfjhaaGreat

/-- A node, by its block; one at the bottom, by its block and its shelf's. -/
inductive Tr where
  | nil : Tr
  | node (b : Nat) (kids : Nat → Tr) : Tr
  | leaf (b s : Nat) (th : Nat → Bool) (vk vn : Nat → Int) : Tr

namespace Tr

def kid : Tr → Nat → Tr
  | node _ kids, i => kids i
  | _, _ => nil
def th : Tr → Nat → Bool
  | leaf _ _ th _ _, i => th i
  | _, _ => false
def vk : Tr → Nat → Int
  | leaf _ _ _ vk _, i => vk i
  | _, _ => 0
def vn : Tr → Nat → Int
  | leaf _ _ _ _ vn, i => vn i
  | _, _ => 0

end Tr

/-- Which child of a node of height n the key hangs on. -/
def dg (id n : Nat) : Nat := id / 16 ^ n % 16
theorem dg_lt (id n : Nat) : dg id n < 16 := Nat.mod_lt _ (by decide)
theorem dg_zero (id : Nat) : dg id 0 = id % 16 := by simp [dg]

/-- What is there at a key, below a node of height n. -/
def Tr.get : Tr → Nat → Nat → Option (Int × Int)
  | .nil, _, _ => none
  | .node _ kids, n, id => (kids (dg id n)).get (n - 1) id
  | .leaf _ _ th vk vn, _, id => if th (dg id 0) = true then some (vk (dg id 0), vn (dg id 0)) else none

/-- A tree that may hang at height n: no node without keys. -/
def Tr.wf : Tr → Nat → Prop
  | .nil, _ => True
  | .node _ kids, n => 0 < n ∧ (∀ i, i < 16 → (kids i).wf (n - 1)) ∧ ∃ i, i < 16 ∧ kids i ≠ .nil
  | .leaf _ _ th vk vn, n => n = 0 ∧ (∀ i, i < 16 → th i = false → vk i = 0 ∧ vn i = 0) ∧ ∃ i, i < 16 ∧ th i = true

theorem wf_kid {t : Tr} {n i : Nat} (h : t.wf (n + 1)) (hi : i < 16) : (t.kid i).wf n := by
  cases t with
  | nil => trivial
  | node b kids => exact h.2.1 i hi
  | leaf => trivial

theorem get_kid {t : Tr} {n : Nat} (h : t.wf (n + 1)) (id : Nat) : t.get (n + 1) id = (t.kid (dg id (n + 1))).get n id := by
  cases t with
  | nil => rfl
  | node b kids => rfl
  | leaf => exact absurd h.1 (by omega)

theorem get_leaf {t : Tr} (h : t.wf 0) (id : Nat) : t.get 0 id = if t.th (dg id 0) = true then some (t.vk (dg id 0), t.vn (dg id 0)) else none := by
  cases t with
  | nil => rfl
  | node b kids => exact absurd h.1 (by omega)
  | leaf => rfl

/-- t' is t with a value at a key: all on the way to it new, all else as it was. -/
def PutR (B id : Nat) (v : Int × Int) : Nat → Tr → Tr → Prop
  | 0, t', t => ∃ b s th vk vn, t' = .leaf b s th vk vn ∧ B ≤ b ∧ B ≤ s ∧ ∀ i, i < 16 → (th i, vk i, vn i) = if i = dg id 0 then (true, v.1, v.2) else (t.th i, t.vk i, t.vn i)
  | n + 1, t', t => ∃ b kids, t' = .node b kids ∧ B ≤ b ∧ (∀ i, i < 16 → i ≠ dg id (n + 1) → kids i = t.kid i) ∧ PutR B id v n (kids (dg id (n + 1))) (t.kid (dg id (n + 1)))

/-- t' is t without a key. -/
def DropR (B id : Nat) : Nat → Tr → Tr → Prop
  | 0, t', t => (t' = .nil ∧ ∀ i, i < 16 → i ≠ dg id 0 → t.th i = false) ∨
      ∃ b s th vk vn, t' = .leaf b s th vk vn ∧ (∃ i, i < 16 ∧ th i = true) ∧ B ≤ b ∧ B ≤ s ∧ ∀ i, i < 16 → (th i, vk i, vn i) = if i = dg id 0 then (false, 0, 0) else (t.th i, t.vk i, t.vn i)
  | n + 1, t', t => ∃ c, DropR B id n c (t.kid (dg id (n + 1))) ∧ ((t' = .nil ∧ c = .nil ∧ ∀ i, i < 16 → i ≠ dg id (n + 1) → t.kid i = .nil) ∨
      ∃ b kids, t' = .node b kids ∧ (∃ i, i < 16 ∧ kids i ≠ .nil) ∧ B ≤ b ∧ kids (dg id (n + 1)) = c ∧ ∀ i, i < 16 → i ≠ dg id (n + 1) → kids i = t.kid i)

/-- Two keys that hang together from height n on. -/
def Same (n k id : Nat) : Prop := k % 16 ^ (n + 1) = id % 16 ^ (n + 1)
theorem same_last {k id : Nat} : Same 0 k id ↔ dg k 0 = dg id 0 := by simp [Same, dg]
theorem same_step {n k id : Nat} : Same (n + 1) k id ↔ dg k (n + 1) = dg id (n + 1) ∧ Same n k id := by
  unfold Same dg
  rw [Nat.pow_succ 16 (n + 1), Nat.mod_mul, Nat.mod_mul]
  have hp : 0 < 16 ^ (n + 1) := Nat.pow_pos (by decide)
  have h1 := Nat.mod_lt k hp
  have h2 := Nat.mod_lt id hp
  generalize 16 ^ (n + 1) = a at *
  generalize k / a % 16 = x
  generalize id / a % 16 = y
  generalize k % a = r at *
  generalize id % a = s at *
  constructor
  · intro h
    have e1 : (r + a * x) / a = x := by rw [Nat.add_mul_div_left _ _ hp, Nat.div_eq_of_lt h1]; omega
    have e2 : (s + a * y) / a = y := by rw [Nat.add_mul_div_left _ _ hp, Nat.div_eq_of_lt h2]; omega
    have e3 : (r + a * x) % a = r := by rw [Nat.add_mul_mod_self_left, Nat.mod_eq_of_lt h1]
    have e4 : (s + a * y) % a = s := by rw [Nat.add_mul_mod_self_left, Nat.mod_eq_of_lt h2]
    rw [← e1, h, e2]
    exact ⟨rfl, by rw [← e3, h, e4]⟩
  · rintro ⟨rfl, rfl⟩; rfl

theorem put_get {B id : Nat} {v : Int × Int} : ∀ (n : Nat) {t' t : Tr}, PutR B id v n t' t → t.wf n → ∀ k, (Same n k id → t'.get n k = some v) ∧ (¬ Same n k id → t'.get n k = t.get n k)
  | 0, t', t, h, hw, k => by
    obtain ⟨b, s, th, vk, vn, rfl, -, -, hk⟩ := h
    have := hk (dg k 0) (dg_lt k 0)
    rw [get_leaf hw, same_last]
    show (_ → (if th (dg k 0) = true then some (vk (dg k 0), vn (dg k 0)) else none) = some v) ∧ (_ → (if th (dg k 0) = true then some (vk (dg k 0), vn (dg k 0)) else none) = _)
    constructor
    · intro e
      rw [if_pos e] at this
      simp only [Prod.mk.injEq] at this
      obtain ⟨h1, h2, h3⟩ := this
      rw [if_pos h1, h2, h3]
    · intro e
      rw [if_neg e] at this
      simp only [Prod.mk.injEq] at this
      obtain ⟨h1, h2, h3⟩ := this
      rw [h1, h2, h3]
  | n + 1, t', t, h, hw, k => by
    obtain ⟨b, kids, rfl, -, hk, hp⟩ := h
    have ih := put_get n hp (wf_kid hw (dg_lt _ _)) k
    rw [get_kid hw, same_step]
    show (_ → (kids (dg k (n + 1))).get n k = some v) ∧ (_ → (kids (dg k (n + 1))).get n k = _)
    by_cases e : dg k (n + 1) = dg id (n + 1)
    · rw [e]
      exact ⟨fun h => ih.1 h.2, fun h => ih.2 fun hs => h ⟨rfl, hs⟩⟩
    · exact ⟨fun h => absurd h.1 e, fun _ => by rw [hk _ (dg_lt _ _) e]⟩

theorem drop_get {B id : Nat} : ∀ (n : Nat) {t' t : Tr}, DropR B id n t' t → t.wf n → ∀ k, (Same n k id → t'.get n k = none) ∧ (¬ Same n k id → t'.get n k = t.get n k)
  | 0, t', t, h, hw, k => by
    rw [get_leaf hw, same_last]
    rcases h with ⟨rfl, hk⟩ | ⟨b, s, th, vk, vn, rfl, -, -, -, hk⟩
    · refine ⟨fun _ => rfl, fun e => ?_⟩
      rw [hk _ (dg_lt _ _) e]
      rfl
    · have := hk (dg k 0) (dg_lt k 0)
      show (_ → (if th (dg k 0) = true then some (vk (dg k 0), vn (dg k 0)) else none) = none) ∧ (_ → (if th (dg k 0) = true then some (vk (dg k 0), vn (dg k 0)) else none) = _)
      constructor
      · intro e
        rw [if_pos e] at this
        simp only [Prod.mk.injEq] at this
        rw [this.1]
        rfl
      · intro e
        rw [if_neg e] at this
        simp only [Prod.mk.injEq] at this
        obtain ⟨h1, h2, h3⟩ := this
        rw [h1, h2, h3]
  | n + 1, t', t, h, hw, k => by
    obtain ⟨c, hc, h⟩ := h
    have ih := drop_get n hc (wf_kid hw (dg_lt _ _)) k
    rw [get_kid hw, same_step]
    rcases h with ⟨rfl, rfl, hk⟩ | ⟨b, kids, rfl, -, -, rfl, hk⟩
    · refine ⟨fun _ => rfl, fun h => ?_⟩
      by_cases e : dg k (n + 1) = dg id (n + 1)
      · rw [e]
        exact ih.2 fun hs => h ⟨e, hs⟩
      · rw [hk _ (dg_lt _ _) e]
        rfl
    · show (_ → (kids (dg k (n + 1))).get n k = none) ∧ (_ → (kids (dg k (n + 1))).get n k = _)
      by_cases e : dg k (n + 1) = dg id (n + 1)
      · rw [e]
        exact ⟨fun h => ih.1 h.2, fun h => ih.2 fun hs => h ⟨rfl, hs⟩⟩
      · exact ⟨fun h => absurd h.1 e, fun _ => by rw [hk _ (dg_lt _ _) e]⟩

theorem put_ne {B id : Nat} {v : Int × Int} : ∀ {n : Nat} {t' t : Tr}, PutR B id v n t' t → t' ≠ .nil
  | 0, _, _, ⟨_, _, _, _, _, rfl, _⟩ => fun e => by cases e
  | _ + 1, _, _, ⟨_, _, rfl, _⟩ => fun e => by cases e

theorem put_wf {B id : Nat} {v : Int × Int} : ∀ (n : Nat) {t' t : Tr}, PutR B id v n t' t → t.wf n → t'.wf n
  | 0, t', t, h, hw => by
    obtain ⟨b, s, th, vk, vn, rfl, -, -, hk⟩ := h
    refine ⟨rfl, fun i hi ht => ?_, dg id 0, dg_lt _ _, ?_⟩
    · have := hk i hi
      by_cases e : i = dg id 0
      · rw [if_pos e] at this
        simp only [Prod.mk.injEq] at this
        rw [this.1] at ht
        cases ht
      · rw [if_neg e] at this
        simp only [Prod.mk.injEq] at this
        obtain ⟨h1, h2, h3⟩ := this
        rw [h1] at ht
        rw [h2, h3]
        cases t with
        | nil => exact ⟨rfl, rfl⟩
        | node => exact ⟨rfl, rfl⟩
        | leaf => exact hw.2.1 i hi ht
    · have := hk _ (dg_lt id 0)
      rw [if_pos rfl] at this
      simp only [Prod.mk.injEq] at this
      exact this.1
  | n + 1, t', t, h, hw => by
    obtain ⟨b, kids, rfl, -, hk, hp⟩ := h
    refine ⟨by omega, fun i hi => ?_, dg id (n + 1), dg_lt _ _, put_ne hp⟩
    by_cases e : i = dg id (n + 1)
    · rw [e]
      exact put_wf n hp (wf_kid hw (dg_lt _ _))
    · rw [hk i hi e]
      exact wf_kid hw hi

theorem drop_wf {B id : Nat} : ∀ (n : Nat) {t' t : Tr}, DropR B id n t' t → t.wf n → t'.wf n
  | 0, t', t, h, hw => by
    rcases h with ⟨rfl, -⟩ | ⟨b, s, th, vk, vn, rfl, hne, -, -, hk⟩
    · trivial
    · refine ⟨rfl, fun i hi ht => ?_, hne⟩
      have := hk i hi
      by_cases e : i = dg id 0
      · rw [if_pos e] at this
        simp only [Prod.mk.injEq] at this
        exact ⟨this.2.1, this.2.2⟩
      · rw [if_neg e] at this
        simp only [Prod.mk.injEq] at this
        obtain ⟨h1, h2, h3⟩ := this
        rw [h1] at ht
        rw [h2, h3]
        cases t with
        | nil => exact ⟨rfl, rfl⟩
        | node => exact ⟨rfl, rfl⟩
        | leaf => exact hw.2.1 i hi ht
  | n + 1, t', t, h, hw => by
    obtain ⟨c, hc, h⟩ := h
    rcases h with ⟨rfl, rfl, -⟩ | ⟨b, kids, rfl, hne, -, rfl, hk⟩
    · trivial
    · refine ⟨by omega, fun i hi => ?_, hne⟩
      by_cases e : i = dg id (n + 1)
      · rw [e]
        exact drop_wf n hc (wf_kid hw (dg_lt _ _))
      · rw [hk i hi e]
        exact wf_kid hw hi

/-! ### The entries, rising -/

/-- The entries below a node of height n; p: the first bits of its keys. -/
def Tr.ents : Tr → Nat → Nat → List (Nat × (Int × Int))
  | .nil, _, _ => []
  | .node _ kids, n, p => (List.range 16).flatMap fun i => (kids i).ents (n - 1) (p + i * 16 ^ n)
  | .leaf _ _ th vk vn, _, p => (List.range 16).filterMap fun i => if th i = true then some (p + i, (vk i, vn i)) else none

theorem ents_kid {t : Tr} {n : Nat} (h : t.wf (n + 1)) (p : Nat) : t.ents (n + 1) p = (List.range 16).flatMap fun i => (t.kid i).ents n (p + i * 16 ^ (n + 1)) := by
  cases t with
  | nil => simp [Tr.ents, Tr.kid]
  | node b kids => rfl
  | leaf => exact absurd h.1 (by omega)
theorem ents_leaf {t : Tr} (h : t.wf 0) (p : Nat) : t.ents 0 p = (List.range 16).filterMap fun i => if t.th i = true then some (p + i, (t.vk i, t.vn i)) else none := by
  cases t with
  | nil => simp [Tr.ents, Tr.th]
  | node b kids => exact absurd h.1 (by omega)
  | leaf => rfl

theorem dg_mod {n j : Nat} (h : j ≤ n) (k : Nat) : dg (k % 16 ^ (n + 1)) j = dg k j := by
  unfold dg
  have e : 16 ^ (n + 1) = 16 ^ j * 16 ^ (n + 1 - j) := by rw [← Nat.pow_add]; congr 1; omega
  rw [e, Nat.mod_mul_right_div_self]
  refine Nat.mod_mod_of_dvd _ ⟨16 ^ (n - j), ?_⟩
  rw [show n + 1 - j = (n - j) + 1 by omega, Nat.pow_succ, Nat.mul_comm]
theorem get_mod : ∀ (n : Nat) {t : Tr}, t.wf n → ∀ k m, n ≤ m → t.get n (k % 16 ^ (m + 1)) = t.get n k
  | 0, t, hw, k, m, hm => by rw [get_leaf hw, get_leaf hw, dg_mod (Nat.zero_le m)]
  | n + 1, t, hw, k, m, hm => by rw [get_kid hw, get_kid hw, dg_mod hm, get_mod n (wf_kid hw (dg_lt _ _)) k m (by omega)]
theorem get_shift {n : Nat} {t : Tr} (hw : t.wf n) (i r : Nat) (hr : r < 16 ^ (n + 1)) : t.get n (i * 16 ^ (n + 1) + r) = t.get n r := by
  rw [← get_mod n hw (i * 16 ^ (n + 1) + r) n (Nat.le_refl _), Nat.mul_comm, Nat.mul_add_mod, Nat.mod_eq_of_lt hr]

/-- An entry is there just where the tree has it. -/
theorem ents_mem : ∀ (n : Nat) {t : Tr}, t.wf n → ∀ (p k : Nat) (v : Int × Int), (k, v) ∈ t.ents n p ↔ ∃ r, r < 16 ^ (n + 1) ∧ k = p + r ∧ t.get n r = some v
  | 0, t, hw, p, k, v => by
    rw [ents_leaf hw, List.mem_filterMap]
    constructor
    · rintro ⟨i, hi, h⟩
      have hi := List.mem_range.1 hi
      by_cases ht : t.th i = true
      · rw [if_pos ht] at h
        injection h with h
        injection h with h1 h2
        have e : dg i 0 = i := by rw [dg_zero]; omega
        exact ⟨i, by simpa using hi, h1.symm, by rw [get_leaf hw, e, if_pos ht, h2]⟩
      · rw [if_neg ht] at h; cases h
    · rintro ⟨r, hr, rfl, h⟩
      have hr : r < 16 := by simpa using hr
      have e : dg r 0 = r := by rw [dg_zero]; omega
      rw [get_leaf hw, e] at h
      refine ⟨r, List.mem_range.2 hr, ?_⟩
      by_cases ht : t.th r = true
      · rw [if_pos ht] at h ⊢
        injection h with h
        rw [h]
      · rw [if_neg ht] at h; cases h
  | n + 1, t, hw, p, k, v => by
    rw [ents_kid hw, List.mem_flatMap]
    have hp : 0 < 16 ^ (n + 1) := Nat.pow_pos (by decide)
    constructor
    · rintro ⟨i, hi, h⟩
      have hi := List.mem_range.1 hi
      obtain ⟨r, hr, rfl, hg⟩ := (ents_mem n (wf_kid hw hi) _ _ _).1 h
      have e : dg (i * 16 ^ (n + 1) + r) (n + 1) = i := by
        unfold dg
        rw [Nat.mul_comm, Nat.mul_add_div hp, Nat.div_eq_of_lt hr]
        omega
      refine ⟨i * 16 ^ (n + 1) + r, ?_, by omega, ?_⟩
      · rw [Nat.pow_succ 16 (n + 1)]
        have : i * 16 ^ (n + 1) ≤ 15 * 16 ^ (n + 1) := Nat.mul_le_mul_right _ (by omega)
        omega
      · rw [get_kid hw, e, get_shift (wf_kid hw hi) _ _ hr]
        exact hg
    · rintro ⟨r, hr, rfl, hg⟩
      rw [get_kid hw] at hg
      have hr16 : r / 16 ^ (n + 1) < 16 := Nat.div_lt_of_lt_mul (by rw [← Nat.pow_succ]; exact hr)
      have e : dg r (n + 1) = r / 16 ^ (n + 1) := Nat.mod_eq_of_lt hr16
      rw [e] at hg
      have hm := Nat.mod_lt r hp
      have hd := Nat.div_add_mod r (16 ^ (n + 1))
      refine ⟨r / 16 ^ (n + 1), List.mem_range.2 hr16, (ents_mem n (wf_kid hw hr16) _ _ _).2 ⟨r % 16 ^ (n + 1), hm, ?_, ?_⟩⟩
      · rw [Nat.mul_comm (r / _)]; omega
      · rw [get_mod n (wf_kid hw hr16) r n (Nat.le_refl _)]
        exact hg

/-- Keys rise. -/
def Rises (L : List (Nat × (Int × Int))) : Prop := L.Pairwise fun a b => a.1 < b.1

theorem ents_range {n : Nat} {t : Tr} (hw : t.wf n) {p : Nat} {e : Nat × (Int × Int)} (h : e ∈ t.ents n p) : p ≤ e.1 ∧ e.1 < p + 16 ^ (n + 1) := by
  obtain ⟨r, hr, h1, -⟩ := (ents_mem n hw p e.1 e.2).1 h
  omega

theorem rises_flat {f : Nat → List (Nat × (Int × Int))} {p a : Nat} (h : ∀ i, i < 16 → Rises (f i)) (hb : ∀ i, i < 16 → ∀ e ∈ f i, p + i * a ≤ e.1 ∧ e.1 < p + i * a + a) : ∀ m, m ≤ 16 → Rises ((List.range m).flatMap f)
  | 0, _ => by simp [Rises]
  | m + 1, hm => by
    rw [List.range_succ, List.flatMap_append]
    simp only [List.flatMap_cons, List.flatMap_nil, List.append_nil]
    refine List.pairwise_append.2 ⟨rises_flat h hb m (by omega), h m (by omega), fun x hx y hy => ?_⟩
    obtain ⟨i, hi, hx⟩ := List.mem_flatMap.1 hx
    have hi := List.mem_range.1 hi
    have h1 := hb i (by omega) x hx
    have h2 := hb m (by omega) y hy
    have h3 : (i + 1) * a ≤ m * a := Nat.mul_le_mul_right _ (by omega)
    rw [Nat.add_mul] at h3
    omega

theorem rises_map {f : Nat → Option (Nat × (Int × Int))} {p : Nat} (hb : ∀ i, i < 16 → ∀ e, f i = some e → e.1 = p + i) : ∀ m, m ≤ 16 → Rises ((List.range m).filterMap f)
  | 0, _ => by simp [Rises]
  | m + 1, hm => by
    rw [List.range_succ, List.filterMap_append]
    refine List.pairwise_append.2 ⟨rises_map hb m (by omega), ?_, fun x hx y hy => ?_⟩
    · cases h : f m <;> simp [h]
    · obtain ⟨i, hi, hx1⟩ := List.mem_filterMap.1 hx
      have hi := List.mem_range.1 hi
      obtain ⟨j, hj, hy1⟩ := List.mem_filterMap.1 hy
      obtain rfl : j = m := by simpa using hj
      have h1 := hb i (by omega) x hx1
      have h2 := hb j (by omega) y hy1
      omega

theorem ents_rises : ∀ (n : Nat) {t : Tr}, t.wf n → ∀ p, Rises (t.ents n p)
  | 0, t, hw, p => by
    rw [ents_leaf hw]
    refine rises_map (p := p) (fun i _ e h => ?_) 16 (Nat.le_refl _)
    split at h
    · injection h with h; rw [← h]
    · cases h
  | n + 1, t, hw, p => by
    rw [ents_kid hw]
    exact rises_flat (p := p) (a := 16 ^ (n + 1)) (fun i hi => ents_rises n (wf_kid hw hi) _) (fun i hi e he => ents_range (wf_kid hw hi) he) 16 (Nat.le_refl _)

theorem flat_length {α : Type} {f : Nat → List α} {K : Nat} (h : ∀ i, i < 16 → (f i).length ≤ K) : ∀ m, m ≤ 16 → ((List.range m).flatMap f).length ≤ m * K
  | 0, _ => by simp
  | m + 1, hm => by
    rw [List.range_succ, List.flatMap_append]
    simp only [List.flatMap_cons, List.flatMap_nil, List.append_nil, List.length_append]
    have h1 := flat_length h m (by omega)
    have h2 := h m (by omega)
    rw [Nat.add_mul]
    omega
theorem ents_length : ∀ (n : Nat) {t : Tr}, t.wf n → ∀ p, (t.ents n p).length ≤ 16 ^ (n + 1)
  | 0, t, hw, p => by
    rw [ents_leaf hw]
    have := List.length_filterMap_le (fun i => if t.th i = true then some (p + i, (t.vk i, t.vn i)) else none) (List.range 16)
    simpa using this
  | n + 1, t, hw, p => by
    rw [ents_kid hw, show 16 ^ (n + 1 + 1) = 16 * 16 ^ (n + 1) from by rw [Nat.pow_succ 16 (n + 1), Nat.mul_comm]]
    exact flat_length (fun i hi => ents_length n (wf_kid hw hi) _) 16 (Nat.le_refl _)

/-- Two rising lists with the same entries are one. -/
theorem rises_ext : ∀ {A B : List (Nat × (Int × Int))}, Rises A → Rises B → (∀ e, e ∈ A ↔ e ∈ B) → A = B
  | [], [], _, _, _ => rfl
  | [], b :: B, _, _, h => absurd ((h b).2 (by simp)) (by simp)
  | a :: A, [], _, _, h => absurd ((h a).1 (by simp)) (by simp)
  | a :: A, b :: B, hA, hB, h => by
    obtain ⟨ha, hA'⟩ := List.pairwise_cons.1 hA
    obtain ⟨hb, hB'⟩ := List.pairwise_cons.1 hB
    have e : a = b := by
      rcases List.mem_cons.1 ((h a).1 (by simp)) with e | h1
      · exact e
      · rcases List.mem_cons.1 ((h b).2 (by simp)) with e | h2
        · exact e.symm
        · have := hb a h1
          have := ha b h2
          omega
    subst e
    congr 1
    refine rises_ext hA' hB' fun e => ⟨fun he => ?_, fun he => ?_⟩
    · rcases List.mem_cons.1 ((h e).1 (by simp [he])) with rfl | h1
      · exact absurd (ha e he) (by omega)
      · exact h1
    · rcases List.mem_cons.1 ((h e).2 (by simp [he])) with rfl | h1
      · exact absurd (hb e he) (by omega)
      · exact h1

/-! ### What a put and a drop do to the entries -/

def ins (L : List (Nat × (Int × Int))) (id : Nat) (v : Int × Int) : List (Nat × (Int × Int)) := L.filter (fun e => decide (e.1 < id)) ++ (id, v) :: L.filter (fun e => decide (id < e.1))
def del (L : List (Nat × (Int × Int))) (id : Nat) : List (Nat × (Int × Int)) := L.filter (fun e => decide (e.1 ≠ id))

theorem mem_ins {L : List (Nat × (Int × Int))} {id : Nat} {v : Int × Int} {e : Nat × (Int × Int)} : e ∈ ins L id v ↔ e = (id, v) ∨ (e.1 ≠ id ∧ e ∈ L) := by
  unfold ins
  simp only [List.mem_append, List.mem_cons, List.mem_filter, decide_eq_true_eq]
  constructor
  · rintro (⟨h1, h2⟩ | h | ⟨h1, h2⟩)
    · exact .inr ⟨by omega, h1⟩
    · exact .inl h
    · exact .inr ⟨by omega, h1⟩
  · rintro (h | ⟨h1, h2⟩)
    · exact .inr (.inl h)
    · rcases Nat.lt_or_ge e.1 id with h | h
      · exact .inl ⟨h2, h⟩
      · exact .inr (.inr ⟨h2, by omega⟩)
theorem mem_del {L : List (Nat × (Int × Int))} {id : Nat} {e : Nat × (Int × Int)} : e ∈ del L id ↔ e.1 ≠ id ∧ e ∈ L := by
  unfold del
  simp only [List.mem_filter, decide_eq_true_eq]
  exact And.comm
theorem rises_del {L : List (Nat × (Int × Int))} (h : Rises L) (id : Nat) : Rises (del L id) := List.Pairwise.filter _ h
theorem rises_ins {L : List (Nat × (Int × Int))} (h : Rises L) (id : Nat) (v : Int × Int) : Rises (ins L id v) := by
  refine List.pairwise_append.2 ⟨List.Pairwise.filter _ h, List.pairwise_cons.2 ⟨fun y hy => ?_, List.Pairwise.filter _ h⟩, fun x hx y hy => ?_⟩
  · simpa using (List.mem_filter.1 hy).2
  · have h1 : x.1 < id := by simpa using (List.mem_filter.1 hx).2
    rcases List.mem_cons.1 hy with rfl | hy
    · exact h1
    · have h2 : id < y.1 := by simpa using (List.mem_filter.1 hy).2
      omega

theorem same_all {k id : Nat} (hk : k < 16 ^ 8) (hi : id < 16 ^ 8) : Same 7 k id ↔ k = id := by
  unfold Same
  rw [Nat.mod_eq_of_lt hk, Nat.mod_eq_of_lt hi]

theorem mem_all {t : Tr} (hw : t.wf 7) {k : Nat} {v : Int × Int} : (k, v) ∈ t.ents 7 0 ↔ k < 16 ^ 8 ∧ t.get 7 k = some v := by
  rw [ents_mem 7 hw]
  constructor
  · rintro ⟨r, hr, rfl, h⟩
    rw [Nat.zero_add]
    exact ⟨hr, h⟩
  · rintro ⟨h1, h2⟩
    exact ⟨k, h1, by omega, h2⟩

theorem ents_put {B id : Nat} {v : Int × Int} {t' t : Tr} (h : PutR B id v 7 t' t) (hw : t.wf 7) (hi : id < 16 ^ 8) : t'.ents 7 0 = ins (t.ents 7 0) id v := by
  refine rises_ext (ents_rises 7 (put_wf 7 h hw) 0) (rises_ins (ents_rises 7 hw 0) id v) fun ⟨k, x⟩ => ?_
  rw [mem_all (put_wf 7 h hw), mem_ins, mem_all hw]
  obtain ⟨h1, h2⟩ := put_get 7 h hw k
  by_cases hk : k < 16 ^ 8
  · rw [same_all hk hi] at h1 h2
    by_cases e : k = id
    · subst e
      rw [h1 rfl]
      simp [hk, eq_comm]
    · rw [h2 e]
      simp [hk, e]
  · simp only [hk, false_and, and_false, or_false, false_iff]
    intro e
    injection e with e1
    omega

theorem ents_drop {B id : Nat} {t' t : Tr} (h : DropR B id 7 t' t) (hw : t.wf 7) (hi : id < 16 ^ 8) : t'.ents 7 0 = del (t.ents 7 0) id := by
  refine rises_ext (ents_rises 7 (drop_wf 7 h hw) 0) (rises_del (ents_rises 7 hw 0) id) fun ⟨k, x⟩ => ?_
  rw [mem_all (drop_wf 7 h hw), mem_del, mem_all hw]
  obtain ⟨h1, h2⟩ := drop_get 7 h hw k
  by_cases hk : k < 16 ^ 8
  · rw [same_all hk hi] at h1 h2
    by_cases e : k = id
    · subst e
      rw [h1 rfl]
      simp
    · rw [h2 e]
      simp [hk, e]
  · simp [hk]

theorem length_parts (L : List (Nat × (Int × Int))) (id : Nat) : L.length = (L.filter (fun e => decide (e.1 < id))).length + (L.filter (fun e => decide (e.1 = id))).length + (L.filter (fun e => decide (id < e.1))).length := by
  induction L with
  | nil => rfl
  | cons a L ih =>
    rcases Nat.lt_trichotomy a.1 id with h | h | h
    · have h1 : ¬ a.1 = id := by omega
      have h2 : ¬ id < a.1 := by omega
      simp [h, h1, h2]; omega
    · have h1 : ¬ a.1 < id := by omega
      have h2 : ¬ id < a.1 := by omega
      simp [h]; omega
    · have h1 : ¬ a.1 < id := by omega
      have h2 : ¬ a.1 = id := by omega
      simp [h, h1, h2]; omega
theorem filter_one {L : List (Nat × (Int × Int))} (h : Rises L) {id : Nat} {v : Int × Int} (hm : (id, v) ∈ L) : (L.filter (fun e => decide (e.1 = id))).length = 1 := by
  induction L with
  | nil => simp at hm
  | cons a L ih =>
    obtain ⟨ha, hL⟩ := List.pairwise_cons.1 h
    rcases List.mem_cons.1 hm with e | hm'
    · have h0 : L.filter (fun e => decide (e.1 = id)) = [] := List.filter_eq_nil_iff.2 fun x hx => by
        have := ha x hx
        rw [← e] at this
        simp
        omega
      rw [← e]
      simp [h0]
    · have := ha _ hm'
      have h1 : ¬ a.1 = id := by omega
      simp [h1, ih hL hm']
theorem filter_none {L : List (Nat × (Int × Int))} {id : Nat} (hm : ∀ v, (id, v) ∉ L) : L.filter (fun e => decide (e.1 = id)) = [] :=
  List.filter_eq_nil_iff.2 fun x hx => by
    simp only [decide_eq_true_eq]
    intro e
    exact hm x.2 (by rw [← e]; exact hx)
theorem length_ins (L : List (Nat × (Int × Int))) (id : Nat) (v : Int × Int) : (ins L id v).length + (L.filter (fun e => decide (e.1 = id))).length = L.length + 1 := by
  have := length_parts L id
  simp only [ins, List.length_append, List.length_cons]
  omega
theorem length_del (L : List (Nat × (Int × Int))) (id : Nat) : (del L id).length + (L.filter (fun e => decide (e.1 = id))).length = L.length := by
  induction L with
  | nil => rfl
  | cons a L ih =>
    by_cases h : a.1 = id
    · simp [del, h] at ih ⊢; omega
    · simp [del, h] at ih ⊢; omega

end Go.Proofs.YtblfdjdhikfjhaaGreat

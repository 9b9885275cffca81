import Derived.Test.YtmppgcijbeipfaaDoorJoin46
import Derived.Test.YtmppgcijbeipfaaDoorRsShr
import Derived.Test.YtmppgcijbeipfaaDoorTLies
/- THE MATHEMATICS of a count of nodes with weights: by the tree, and by the rising list of its entries. -/
namespace Go.Proofs.YtmppgcijbeipfaaDoor

/-- The weights of the heights at which a key has another prefix than the one ahead of it. -/
def stW (g : Nat → Nat → Nat) : Nat → Option Nat → Nat → Nat
  | 0, _, _ => 0
  | n + 1, o, k => stW g n o k + if o.map (· / 16 ^ (n + 1)) = some (k / 16 ^ (n + 1)) then 0 else g (n + 1) (k / 16 ^ (n + 1))
def ndsW (g : Nat → Nat → Nat) (n : Nat) : Option Nat → List (Nat × (Int × Int)) → Nat
  | _, [] => 0
  | o, e :: L => stW g n o e.1 + ndsW g n (some e.1) L
/-- The sum of the weights of a tree's nodes, which stands at height n and begins at p. -/
def Tr.wsum (g : Nat → Nat → Nat) : Tr → Nat → Nat → Nat
  | .nil, _, _ => 0
  | .node _ kids, n, p => g (n + 1) (p / 16 ^ (n + 1)) + sum16 fun i => (kids i).wsum g (n - 1) (p + i * 16 ^ n)
  | .leaf _ _ _ _ _, n, p => g (n + 1) (p / 16 ^ (n + 1))
theorem wsum_node (g : Nat → Nat → Nat) (b : Nat) (kids : Nat → Tr) (n p : Nat) : (Tr.node b kids).wsum g n p = g (n + 1) (p / 16 ^ (n + 1)) + sum16 fun i => (kids i).wsum g (n - 1) (p + i * 16 ^ n) := rfl
theorem stW_far (g : Nat → Nat → Nat) : ∀ (n : Nat) {a k : Nat}, a / 16 ^ n ≠ k / 16 ^ n → stW g n (some a) k = stW g n none k
  | 0, _, _, _ => rfl
  | n + 1, a, k, h => by
    have h1 : a / 16 ^ n ≠ k / 16 ^ n := fun e => h (by rw [Nat.pow_succ, ← Nat.div_div_eq_div_mul, ← Nat.div_div_eq_div_mul, e])
    show stW g n (some a) k + _ = stW g n none k + _
    rw [stW_far g n h1, if_neg (by simpa using h), if_neg (by simp)]
theorem ndsW_far (g : Nat → Nat → Nat) (n : Nat) {o : Option Nat} {B : List (Nat × (Int × Int))} (h : ∀ b ∈ B, ∀ a, o = some a → a / 16 ^ n ≠ b.1 / 16 ^ n) : ndsW g n o B = ndsW g n none B := by
  cases B with
  | nil => rfl
  | cons b B =>
    show stW g n o b.1 + _ = stW g n none b.1 + _
    cases o with
    | none => rfl
    | some a => rw [stW_far g n (h b (by simp) a rfl)]
theorem ndsW_cat (g : Nat → Nat → Nat) (n : Nat) {B : List (Nat × (Int × Int))} : ∀ (A : List (Nat × (Int × Int))) (o : Option Nat), (∀ b ∈ B, ∀ a, o = some a → a / 16 ^ n ≠ b.1 / 16 ^ n) → (∀ a ∈ A, ∀ b ∈ B, a.1 / 16 ^ n ≠ b.1 / 16 ^ n) → ndsW g n o (A ++ B) = ndsW g n o A + ndsW g n none B
  | [], o, ho, _ => by
    show ndsW g n o B = 0 + _
    rw [ndsW_far g n ho, Nat.zero_add]
  | a :: A, o, _, hA => by
    have ih := ndsW_cat g n A (some a.1) (fun b hb c hc => by obtain rfl := Option.some.inj hc; exact hA a (by simp) b hb) (fun x hx b hb => hA x (by simp [hx]) b hb)
    show stW g n o a.1 + ndsW g n (some a.1) (A ++ B) = stW g n o a.1 + ndsW g n (some a.1) A + _
    rw [ih]
    omega
theorem ndsW_same (g : Nat → Nat → Nat) (n c : Nat) : ∀ (L : List (Nat × (Int × Int))) (a : Nat), a / 16 ^ (n + 1) = c → (∀ e ∈ L, e.1 / 16 ^ (n + 1) = c) → ndsW g (n + 1) (some a) L = ndsW g n (some a) L
  | [], _, _, _ => rfl
  | e :: L, a, ha, h => by
    have he := h e (by simp)
    show (stW g n (some a) e.1 + if (some a).map (· / 16 ^ (n + 1)) = some (e.1 / 16 ^ (n + 1)) then 0 else g (n + 1) (e.1 / 16 ^ (n + 1))) + _ = _
    rw [if_pos (by simp [ha, he]), ndsW_same g n c L e.1 he (fun x hx => h x (by simp [hx]))]
    rfl
theorem ndsW_new (g : Nat → Nat → Nat) (n c : Nat) {L : List (Nat × (Int × Int))} (h0 : L ≠ []) (h : ∀ e ∈ L, e.1 / 16 ^ (n + 1) = c) : ndsW g (n + 1) none L = ndsW g n none L + g (n + 1) c := by
  cases L with
  | nil => exact absurd rfl h0
  | cons e L =>
    have he := h e (by simp)
    show (stW g n none e.1 + if (none : Option Nat).map (· / 16 ^ (n + 1)) = some (e.1 / 16 ^ (n + 1)) then 0 else g (n + 1) (e.1 / 16 ^ (n + 1))) + ndsW g (n + 1) (some e.1) L = stW g n none e.1 + ndsW g n (some e.1) L + g (n + 1) c
    rw [if_neg (by simp), ndsW_same g n c L e.1 he (fun x hx => h x (by simp [hx])), he]
    omega
theorem ndsW_zero (g : Nat → Nat → Nat) (o : Option Nat) : ∀ (L : List (Nat × (Int × Int))), ndsW g 0 o L = 0
  | [] => rfl
  | e :: L => by
    show 0 + ndsW g 0 (some e.1) L = 0
    rw [ndsW_zero g (some e.1) L]
theorem flat_ndsW (g : Nat → Nat → Nat) (n c : Nat) {f : Nat → List (Nat × (Int × Int))} (hf : ∀ i, i < 16 → ∀ e ∈ f i, e.1 / 16 ^ n = c + i) : ∀ m, m ≤ 16 → ndsW g n none ((List.range m).flatMap f) = ((List.range m).map fun i => ndsW g n none (f i)).sum
  | 0, _ => rfl
  | m + 1, hm => by
    have ih := flat_ndsW g n c hf m (by omega)
    rw [List.range_succ, List.flatMap_append, List.map_append, List.sum_append]
    have e1 : [m].flatMap f = f m := by simp
    rw [e1, ndsW_cat g n _ none (fun _ _ _ h => by cases h) (fun a ha b hb => ?_), ih]
    · simp
    · obtain ⟨i, hi, hai⟩ := List.mem_flatMap.1 ha
      have hi' : i < m := by simpa using hi
      rw [hf i (by omega) a hai, hf m (by omega) b hb]
      omega
theorem wsum_nds (g : Nat → Nat → Nat) : ∀ (n : Nat) {t : Tr}, t.wf n → ∀ p, p % 16 ^ (n + 1) = 0 → t.wsum g n p = ndsW g (n + 1) none (t.ents n p)
  | n, .nil, _, p, _ => by cases n <;> rfl
  | 0, .node b kids, h, _, _ => absurd h.1 (by omega)
  | n + 1, .leaf b s th vk vn, h, _, _ => absurd h.1 (by omega)
  | 0, .leaf b s th vk vn, h, p, hp => by
    have hw : (Tr.leaf b s th vk vn).wf 0 := h
    obtain ⟨-, -, i, hi, ht⟩ := h
    have hne : (Tr.leaf b s th vk vn).ents 0 p ≠ [] := fun e0 => by
      have : (p + i, (vk i, vn i)) ∈ (Tr.leaf b s th vk vn).ents 0 p := by
        rw [ents_leaf hw]
        refine List.mem_filterMap.2 ⟨i, by simpa using hi, ?_⟩
        show (if th i = true then some (p + i, (vk i, vn i)) else none) = _
        rw [if_pos ht]
      rw [e0] at this
      cases this
    rw [ndsW_new g 0 (p / 16 ^ (0 + 1)) hne (fun e he => quot hp (by decide) (ents_range hw he).1 (ents_range hw he).2), ndsW_zero, Nat.zero_add]
    rfl
  | n + 1, .node b kids, h, p, hp => by
    have hw : (Tr.node b kids).wf (n + 1) := h
    obtain ⟨-, hk, i, hi, hne⟩ := h
    have hQ : 0 < 16 ^ (n + 1) := Nat.pow_pos (by decide)
    have hp1 : p % 16 ^ (n + 1) = 0 := by
      rw [Nat.pow_succ 16 (n + 1)] at hp
      exact Nat.mod_eq_zero_of_dvd (Nat.dvd_trans (Nat.dvd_mul_right _ _) (Nat.dvd_of_mod_eq_zero hp))
    have hpi : ∀ i, (p + i * 16 ^ (n + 1)) % 16 ^ (n + 1) = 0 := fun i => by rw [Nat.add_mul_mod_self_right]; exact hp1
    have ih : ∀ i, i < 16 → (kids i).wsum g n (p + i * 16 ^ (n + 1)) = ndsW g (n + 1) none ((kids i).ents n (p + i * 16 ^ (n + 1))) := fun i hi => wsum_nds g n (hk i hi) _ (hpi i)
    have hE : (Tr.node b kids).ents (n + 1) p = (List.range 16).flatMap fun i => (kids i).ents n (p + i * 16 ^ (n + 1)) := ents_kid hw p
    have hfl := flat_ndsW g (n + 1) (p / 16 ^ (n + 1)) (f := fun i => (kids i).ents n (p + i * 16 ^ (n + 1))) (fun i hi e he => by
      have hr := ents_range (hk i hi) he
      rw [quot (hpi i) hQ hr.1 hr.2, Nat.add_mul_div_right _ _ hQ]) 16 (Nat.le_refl _)
    have hne' : (Tr.node b kids).ents (n + 1) p ≠ [] := fun e0 => by
      have h1 := cnt_nds n (hk i hi) _ (hpi i)
      have h2 : (kids i).ents n (p + i * 16 ^ (n + 1)) = [] := by
        rw [hE, List.flatMap_eq_nil_iff] at e0
        exact e0 i (by simpa using hi)
      rw [h2] at h1
      exact hne (cnt_zero.1 h1)
    rw [ndsW_new g (n + 1) (p / 16 ^ (n + 1 + 1)) hne' (fun e he => quot hp (Nat.pow_pos (by decide)) (ents_range hw he).1 (ents_range hw he).2), hE, hfl, wsum_node, show n + 1 - 1 = n from rfl]
    have hs : sum16 (fun i => (kids i).wsum g n (p + i * 16 ^ (n + 1))) = sum16 fun i => ndsW g (n + 1) none ((kids i).ents n (p + i * 16 ^ (n + 1))) := sum16_congr ih
    rw [hs]
    unfold sum16
    omega
end Go.Proofs.YtmppgcijbeipfaaDoor


namespace Go.Proofs.YtmppgcijbeipfaaDoor

theorem ndsW_snoc (g : Nat → Nat → Nat) (n : Nat) : ∀ (A : List (Nat × (Int × Int))) (o : Option Nat) (e : Nat × (Int × Int)), ndsW g n o (A ++ [e]) = ndsW g n o A + stW g n (match A.getLast? with | some x => some x.1 | none => o) e.1
  | [], o, e => by
    show stW g n o e.1 + 0 = 0 + _
    simp
  | a :: A, o, e => by
    have ih := ndsW_snoc g n A (some a.1) e
    show stW g n o a.1 + ndsW g n (some a.1) (A ++ [e]) = stW g n o a.1 + ndsW g n (some a.1) A + _
    rw [ih]
    cases A with
    | nil => simp; omega
    | cons b A =>
      have : (a :: b :: A).getLast? = (b :: A).getLast? := by simp [List.getLast?_cons]
      rw [this]
      have h2 : ∃ x, (b :: A).getLast? = some x := ⟨_, List.getLast?_eq_some_getLast (by simp)⟩
      obtain ⟨x, hx⟩ := h2
      rw [hx]
      show _ + (_ + stW g n (some x.1) e.1) = _ + _ + stW g n (some x.1) e.1
      omega
theorem ndsW_take (g : Nat → Nat → Nat) (n : Nat) {L : List (Nat × (Int × Int))} {i : Nat} (h : i < L.length) : ndsW g n none (L.take (i + 1)) = ndsW g n none (L.take i) + stW g n (prv L i) L[i].1 := by
  rw [List.take_succ_eq_append_getElem h, ndsW_snoc]
  congr 2
  unfold prv
  cases i with
  | zero => rfl
  | succ i =>
    rw [if_neg (by omega)]
    have e1 : (L.take (i + 1)).getLast? = some L[i] := by
      rw [List.take_succ_eq_append_getElem (by omega), List.getLast?_append]
      rfl
    have e2 : L[i + 1 - 1]? = some L[i] := by
      rw [Nat.add_sub_cancel]
      exact List.getElem?_eq_getElem (by omega)
    rw [e1, e2]
    rfl
open Classical in
/-- The weight of a node that the other map has, by stamps; and of one that it has not. -/
noncomputable def gS (A : Es) (σA σB : Nat → Nat → Int) (m q : Nat) : Nat := if hasS A σA (8 - m) q (σB (8 - m) q) then 1 else 0
open Classical in
noncomputable def gF (A : Es) (σA σB : Nat → Nat → Int) (m q : Nat) : Nat := if hasS A σA (8 - m) q (σB (8 - m) q) then 0 else 1
/-- One level's share. -/
def lev (g : Nat → Nat → Nat) (o : Option Nat) (k m : Nat) : Nat := if o.map (· / 16 ^ m) = some (k / 16 ^ m) then 0 else g m (k / 16 ^ m)
theorem stW_eight (g : Nat → Nat → Nat) (o : Option Nat) (k : Nat) : stW g 8 o k = lev g o k 1 + lev g o k 2 + lev g o k 3 + lev g o k 4 + lev g o k 5 + lev g o k 6 + lev g o k 7 + lev g o k 8 := by
  show ((((((((0 + lev g o k 1) + lev g o k 2) + lev g o k 3) + lev g o k 4) + lev g o k 5) + lev g o k 6) + lev g o k 7) + lev g o k 8) = _
  omega
open Classical in
theorem shOne_lev {A : Es} {σA : Nat → Nat → Int} {B : Es} {σB : Nat → Nat → Int} {i l : Nat} (hi : i < B.length) (hl : l < 8) (c : Nat × Nat) : shAdd (shOne A σA B σB i l) c = (c.1 + lev (gS A σA σB) (prv B i) B[i].1 (8 - l), c.2 + lev (gF A σA σB) (prv B i) B[i].1 (8 - l)) := by
  have h8 : 8 - (8 - l) = l := by omega
  have hp : (prv B i).map (· / 16 ^ (8 - l)) = some (B[i].1 / 16 ^ (8 - l)) ↔ (i ≠ 0 ∧ rfPre (B[i - 1]'(by omega)).1 l = rfPre B[i].1 l) := by
    unfold prv rfPre
    by_cases h0 : i = 0
    · simp [h0]
    · rw [if_neg h0, List.getElem?_eq_getElem (by omega)]
      simp [h0]
  unfold shOne lev gS gF
  rw [dif_pos hi]
  by_cases hc : i ≠ 0 ∧ rfPre (B[i - 1]'(by omega)).1 l = rfPre B[i].1 l
  · rw [if_pos hc, if_pos (hp.2 hc), if_pos (hp.2 hc)]
    rfl
  · have hn : ¬ (prv B i).map (· / 16 ^ (8 - l)) = some (B[i].1 / 16 ^ (8 - l)) := fun h => hc (hp.1 h)
    rw [if_neg hc, if_neg hn, if_neg hn, h8]
    show shAdd (some (@decide (hasS A σA l (rfPre B[i].1 l) (σB l (rfPre B[i].1 l))) (Classical.propDecidable _))) c = (c.1 + if hasS A σA l (rfPre B[i].1 l) (σB l (rfPre B[i].1 l)) then 1 else 0, c.2 + if hasS A σA l (rfPre B[i].1 l) (σB l (rfPre B[i].1 l)) then 0 else 1)
    by_cases hh : hasS A σA l (rfPre B[i].1 l) (σB l (rfPre B[i].1 l))
    · rw [if_pos hh, if_pos hh, @decide_eq_true _ (Classical.propDecidable _) hh]
      rfl
    · rw [if_neg hh, if_neg hh, @decide_eq_false _ (Classical.propDecidable _) hh]
      rfl
theorem shC_row {A : Es} {σA : Nat → Nat → Int} {B : Es} {σB : Nat → Nat → Int} {i : Nat} (hi : i < B.length) : shC A σA B σB ((i + 1) * 8) = ((shC A σA B σB (i * 8)).1 + stW (gS A σA σB) 8 (prv B i) B[i].1, (shC A σA B σB (i * 8)).2 + stW (gF A σA σB) 8 (prv B i) B[i].1) := by
  have step := fun l hl => shC_step A σA B σB i l hl
  have one := fun l hl c => shOne_lev (A := A) (σA := σA) (B := B) (σB := σB) (l := l) hi hl c
  rw [show (i + 1) * 8 = i * 8 + (7 + 1) from by omega, step 7 (by omega), one 7 (by omega), step 6 (by omega), one 6 (by omega), step 5 (by omega), one 5 (by omega), step 4 (by omega), one 4 (by omega), step 3 (by omega), one 3 (by omega), step 2 (by omega), one 2 (by omega), step 1 (by omega), one 1 (by omega), step 0 (by omega), one 0 (by omega), stW_eight, stW_eight]
  simp only [Nat.add_zero, Nat.reduceSub]
  refine Prod.ext ?_ ?_
  · simp only; omega
  · simp only; omega
/-- What Shared of the reference tells, by the list's own count. -/
theorem shC_nds {A : Es} {σA : Nat → Nat → Int} {B : Es} {σB : Nat → Nat → Int} : ∀ i, i ≤ B.length → shC A σA B σB (i * 8) = (ndsW (gS A σA σB) 8 none (B.take i), ndsW (gF A σA σB) 8 none (B.take i))
  | 0, _ => by simp [shC, ndsW]
  | i + 1, h => by
    rw [shC_row (by omega), shC_nds i (by omega), ndsW_take _ 8 (by omega), ndsW_take _ 8 (by omega)]
theorem shC_all (A : Es) (σA : Nat → Nat → Int) (B : Es) (σB : Nat → Nat → Int) : shC A σA B σB (B.length * 8) = (ndsW (gS A σA σB) 8 none B, ndsW (gF A σA σB) 8 none B) := by
  rw [shC_nds B.length (Nat.le_refl _), List.take_length]

end Go.Proofs.YtmppgcijbeipfaaDoor


/- THE MATHEMATICS of places: the node at a height above a key; what a put and a drop leave of it; what Shared tells, by places. -/
namespace Go.Proofs.YtmppgcijbeipfaaDoor

/-- The node whose prefix is k / 16 ^ m, of a tree that stands at height n. -/
def atP : Nat → Tr → Nat → Nat → Tr
  | 0, t, _, _ => t
  | n + 1, t, m, k => if m = n + 2 then t else atP n (t.kid (dg k (n + 1))) m k
theorem at_top (n : Nat) (t : Tr) (k : Nat) : atP n t (n + 1) k = t := by
  cases n with
  | zero => rfl
  | succ n => exact if_pos rfl
theorem at_down {n m : Nat} (hm : m ≤ n + 1) (t : Tr) (k : Nat) : atP (n + 1) t m k = atP n (t.kid (dg k (n + 1))) m k := if_neg (by omega)
theorem at_nil : ∀ (n m k : Nat), atP n .nil m k = .nil
  | 0, _, _ => rfl
  | n + 1, m, k => by
    unfold atP
    by_cases h : m = n + 2
    · rw [if_pos h]
    · rw [if_neg h]; exact at_nil n m k
theorem eqv_at : ∀ (n : Nat) {t a : Tr}, t.Eqv a → ∀ m k, (atP n a m k).blk = (atP n t m k).blk
  | 0, _, _, h, _, _ => (eqv_blk h).symm
  | n + 1, t, a, h, m, k => by
    unfold atP
    by_cases hm : m = n + 2
    · rw [if_pos hm, if_pos hm]; exact (eqv_blk h).symm
    · rw [if_neg hm, if_neg hm]; exact eqv_at n (eqv_kid h _ (dg_lt _ _)) m k
theorem old_at {B : Nat} : ∀ (n : Nat) {t : Tr}, t.old B → ∀ m k, (atP n t m k).old B
  | 0, _, h, _, _ => h
  | n + 1, t, h, m, k => by
    unfold atP
    by_cases hm : m = n + 2
    · rw [if_pos hm]; exact h
    · rw [if_neg hm]; exact old_at n (old_kid h (dg_lt _ _)) m k
theorem place {n p k i : Nat} (hp : p % 16 ^ (n + 2) = 0) (hi : i < 16) (hk : k / 16 ^ (n + 1) = (p + i * 16 ^ (n + 1)) / 16 ^ (n + 1)) : dg k (n + 1) = i ∧ k / 16 ^ (n + 2) = p / 16 ^ (n + 2) := by
  have hQ : 0 < 16 ^ (n + 1) := Nat.pow_pos (by decide)
  unfold dg
  rw [Nat.pow_succ 16 (n + 1)] at hp ⊢
  rw [Nat.add_mul_div_right _ _ hQ] at hk
  rw [← Nat.div_div_eq_div_mul, ← Nat.div_div_eq_div_mul, hk]
  rw [Nat.mod_mul] at hp
  generalize 16 ^ (n + 1) = Q at *
  have h1 : p % Q = 0 := Nat.eq_zero_of_add_eq_zero_right hp
  have h2 : Q * (p / Q % 16) = 0 := Nat.eq_zero_of_add_eq_zero_left hp
  have h3 : p / Q % 16 = 0 := by
    rcases Nat.mul_eq_zero.1 h2 with h | h
    · omega
    · exact h
  omega
theorem up {k e m n : Nat} (hm : m ≤ n) (h : k / 16 ^ m = e / 16 ^ m) : k / 16 ^ n = e / 16 ^ n := by
  obtain ⟨d, rfl⟩ := Nat.exists_eq_add_of_le hm
  rw [Nat.pow_add, ← Nat.div_div_eq_div_mul, ← Nat.div_div_eq_div_mul, h]
theorem dg_of {k e n : Nat} (h : k / 16 ^ n = e / 16 ^ n) : dg k n = dg e n := by unfold dg; rw [h]
theorem down {k e n : Nat} (h : k / 16 ^ (n + 1) = e / 16 ^ (n + 1)) (hd : dg k n = dg e n) : k / 16 ^ n = e / 16 ^ n := by
  unfold dg at hd
  rw [Nat.pow_succ, ← Nat.div_div_eq_div_mul, ← Nat.div_div_eq_div_mul] at h
  omega

theorem wsum_zero (g : Nat → Nat → Nat) : ∀ (n : Nat) {t : Tr}, t.wf n → ∀ p, p % 16 ^ (n + 1) = 0 → (∀ m k, 1 ≤ m → m ≤ n + 1 → k / 16 ^ (n + 1) = p / 16 ^ (n + 1) → atP n t m k ≠ .nil → g m (k / 16 ^ m) = 0) → t.wsum g n p = 0
  | n, .nil, _, _, _, _ => by cases n <;> rfl
  | 0, .node b kids, h, _, _, _ => absurd h.1 (by omega)
  | n + 1, .leaf b s th vk vn, h, _, _, _ => absurd h.1 (by omega)
  | 0, .leaf b s th vk vn, _, p, _, hg => hg 1 p (Nat.le_refl _) (Nat.le_refl _) rfl (by rw [at_top]; simp)
  | n + 1, .node b kids, h, p, hp, hg => by
    rw [wsum_node, hg (n + 2) p (by omega) (Nat.le_refl _) rfl (by rw [at_top]; simp), Nat.zero_add]
    have hp1 : p % 16 ^ (n + 1) = 0 := by
      rw [Nat.pow_succ 16 (n + 1)] at hp
      exact Nat.mod_eq_zero_of_dvd (Nat.dvd_trans (Nat.dvd_mul_right _ _) (Nat.dvd_of_mod_eq_zero hp))
    refine sum16_zero fun i hi => wsum_zero g n (h.2.1 i hi) _ (by rw [Nat.add_mul_mod_self_right]; exact hp1) fun m k h1 h2 hk hne => ?_
    obtain ⟨hd, hq⟩ := place hp hi hk
    refine hg m k h1 (by omega) hq ?_
    rw [at_down h2, hd]
    exact hne
theorem frs_wsum {R : Tr → Tr → Prop} (hK : ∀ {t a : Tr}, R t a → ∀ i, i < 16 → R (t.kid i) (a.kid i)) (hE : ∀ {t a : Tr}, R t a → t.blk = a.blk → t.Eqv a) (g : Nat → Nat → Nat) : ∀ (n : Nat) {t a : Tr}, t.wf n → R t a → ∀ p, p % 16 ^ (n + 1) = 0 → (∀ m k, 1 ≤ m → m ≤ n + 1 → k / 16 ^ (n + 1) = p / 16 ^ (n + 1) → atP n t m k ≠ .nil → g m (k / 16 ^ m) = if (atP n a m k).blk = (atP n t m k).blk then 0 else 1) → t.frs a = t.wsum g n p
  | n, .nil, _, _, _, _, _, _ => by cases n <;> rfl
  | 0, .node b kids, _, h, _, _, _, _ => absurd h.1 (by omega)
  | n + 1, .leaf b s th vk vn, _, h, _, _, _, _ => absurd h.1 (by omega)
  | 0, .leaf b s th vk vn, a, _, _, p, _, hg => (hg 1 p (Nat.le_refl _) (Nat.le_refl _) rfl (by rw [at_top]; simp)).symm
  | n + 1, .node b kids, a, h, hR, p, hp, hg => by
    by_cases hb : a.blk = some b
    · have hq := hE hR hb.symm
      rw [frs_node, if_pos hb, wsum_zero g (n + 1) h p hp fun m k h1 h2 hk hne => by rw [hg m k h1 h2 hk hne, if_pos (eqv_at (n + 1) hq m k)]]
    · have h0 : g (n + 2) (p / 16 ^ (n + 2)) = 1 := by
        rw [hg (n + 2) p (by omega) (Nat.le_refl _) rfl (by rw [at_top]; simp), at_top, at_top]
        exact if_neg hb
      rw [frs_node, if_neg hb, wsum_node, h0]
      have hp1 : p % 16 ^ (n + 1) = 0 := by
        rw [Nat.pow_succ 16 (n + 1)] at hp
        exact Nat.mod_eq_zero_of_dvd (Nat.dvd_trans (Nat.dvd_mul_right _ _) (Nat.dvd_of_mod_eq_zero hp))
      have ih : ∀ i, i < 16 → (kids i).frs (a.kid i) = (kids i).wsum g n (p + i * 16 ^ (n + 1)) := fun i hi => frs_wsum hK hE g n (h.2.1 i hi) (hK hR i hi) _ (by rw [Nat.add_mul_mod_self_right]; exact hp1) fun m k h1 h2 hk hne => by
        obtain ⟨hd, hq⟩ := place hp hi hk
        have h5 := hg m k h1 (by omega) hq (by rw [at_down h2, hd]; exact hne)
        rw [at_down h2, at_down h2, hd] at h5
        exact h5
      have hs : sum16 (fun i => (kids i).frs (a.kid i)) = sum16 fun i => (kids i).wsum g n (p + i * 16 ^ (n + 1)) := sum16_congr ih
      rw [hs, show n + 1 - 1 = n from rfl]
theorem wsum_add (g f : Nat → Nat → Nat) : ∀ (t : Tr) (n p : Nat), t.wsum (fun m q => g m q + f m q) n p = t.wsum g n p + t.wsum f n p
  | .nil, _, _ => rfl
  | .leaf _ _ _ _ _, _, _ => rfl
  | .node b kids, n, p => by
    rw [wsum_node, wsum_node, wsum_node, sum16_congr fun i _ => wsum_add g f (kids i) (n - 1) (p + i * 16 ^ n), sum16_add]
    omega
theorem wsum_one : ∀ (t : Tr) (n p : Nat), t.wsum (fun _ _ => 1) n p = t.cnt
  | .nil, _, _ => rfl
  | .leaf _ _ _ _ _, _, _ => rfl
  | .node b kids, n, p => by
    rw [wsum_node, cnt_node, sum16_congr fun i _ => wsum_one (kids i) (n - 1) (p + i * 16 ^ n)]

/-- Where a tree has a node, and where its list has a key. -/
theorem at_ents : ∀ (n : Nat) {t : Tr}, t.wf n → ∀ p, p % 16 ^ (n + 1) = 0 → ∀ m k, 1 ≤ m → m ≤ n + 1 → k / 16 ^ (n + 1) = p / 16 ^ (n + 1) → ((∃ e ∈ t.ents n p, e.1 / 16 ^ m = k / 16 ^ m) ↔ atP n t m k ≠ .nil) := by
  have top : ∀ (n : Nat) {t : Tr}, t.wf n → ∀ p, p % 16 ^ (n + 1) = 0 → ∀ k, k / 16 ^ (n + 1) = p / 16 ^ (n + 1) → ((∃ e ∈ t.ents n p, e.1 / 16 ^ (n + 1) = k / 16 ^ (n + 1)) ↔ t ≠ .nil) := by
    intro n t hw p hp k hk
    constructor
    · rintro ⟨e, he, -⟩ rfl
      cases n <;> simp [Tr.ents] at he
    · intro hne
      have hc := cnt_nds n hw p hp
      cases hL : t.ents n p with
      | nil => rw [hL] at hc; exact absurd (cnt_zero.1 hc) hne
      | cons e L =>
        have he : e ∈ t.ents n p := by rw [hL]; exact List.mem_cons_self ..
        have hr := ents_range hw he
        exact ⟨e, List.mem_cons_self .., by rw [quot hp (Nat.pow_pos (by decide)) hr.1 hr.2, hk]⟩
  intro n
  induction n with
  | zero =>
    intro t hw p hp m k h1 h2 hk
    obtain rfl : m = 1 := by omega
    exact top 0 hw p hp k hk
  | succ n ih =>
    intro t hw p hp m k h1 h2 hk
    by_cases hm : m = n + 2
    · subst hm
      rw [at_top]
      exact top (n + 1) hw p hp k hk
    · have hm' : m ≤ n + 1 := by omega
      have hQ : 0 < 16 ^ (n + 1) := Nat.pow_pos (by decide)
      have hp1 : p % 16 ^ (n + 1) = 0 := by
        have hp' := hp
        rw [Nat.pow_succ 16 (n + 1)] at hp'
        exact Nat.mod_eq_zero_of_dvd (Nat.dvd_trans (Nat.dvd_mul_right _ _) (Nat.dvd_of_mod_eq_zero hp'))
      have hpi : ∀ i, (p + i * 16 ^ (n + 1)) % 16 ^ (n + 1) = 0 := fun i => by rw [Nat.add_mul_mod_self_right]; exact hp1
      have hkd : k / 16 ^ (n + 1) = (p + dg k (n + 1) * 16 ^ (n + 1)) / 16 ^ (n + 1) := by
        rw [Nat.add_mul_div_right _ _ hQ]
        have hk' := hk
        have hp' := hp
        unfold dg
        rw [Nat.pow_succ 16 (n + 1), ← Nat.div_div_eq_div_mul, ← Nat.div_div_eq_div_mul] at hk'
        rw [Nat.pow_succ 16 (n + 1), Nat.mod_mul] at hp'
        have h3 : p / 16 ^ (n + 1) % 16 = 0 := by
          rcases Nat.mul_eq_zero.1 (Nat.eq_zero_of_add_eq_zero_left hp') with h | h
          · omega
          · exact h
        omega
      have hi := ih (wf_kid hw (dg_lt k (n + 1))) _ (hpi (dg k (n + 1))) m k h1 hm' hkd
      rw [at_down hm', ← hi, ents_kid hw p]
      constructor
      · rintro ⟨e, he, hq⟩
        obtain ⟨i, hi, he⟩ := List.mem_flatMap.1 he
        have hi' : i < 16 := by simpa using hi
        have hr := ents_range (wf_kid hw hi') he
        obtain ⟨hd, -⟩ := place hp hi' (quot (hpi i) hQ hr.1 hr.2)
        have : dg k (n + 1) = i := by rw [← hd]; exact (dg_of (up hm' hq)).symm
        subst this
        exact ⟨e, he, hq⟩
      · rintro ⟨e, he, hq⟩
        exact ⟨e, List.mem_flatMap.2 ⟨dg k (n + 1), by simpa using dg_lt k (n + 1), he⟩, hq⟩

/-- What a put leaves at a place. -/
theorem put_at {B id : Nat} {v : Int × Int} : ∀ (n : Nat) {t' t : Tr}, PutR B id v n t' t → ∀ m k, 1 ≤ m → m ≤ n + 1 → k / 16 ^ (n + 1) = id / 16 ^ (n + 1) → (k / 16 ^ m = id / 16 ^ m → ∃ b, B ≤ b ∧ (atP n t' m k).blk = some b) ∧ (k / 16 ^ m ≠ id / 16 ^ m → atP n t' m k = atP n t m k)
  | 0, t', t, h, m, k, h1, h2, hk => by
    obtain ⟨b, s, th, vk, vn, rfl, hb, -, -⟩ := h
    obtain rfl : m = 1 := by omega
    exact ⟨fun _ => ⟨b, hb, rfl⟩, fun hne => absurd hk hne⟩
  | n + 1, t', t, h, m, k, h1, h2, hk => by
    obtain ⟨b, kids, rfl, hb, hks, hp⟩ := h
    by_cases hm : m = n + 2
    · subst hm
      rw [at_top]
      exact ⟨fun _ => ⟨b, hb, rfl⟩, fun hne => absurd hk hne⟩
    · have hm' : m ≤ n + 1 := by omega
      rw [at_down hm', at_down hm']
      by_cases hd : dg k (n + 1) = dg id (n + 1)
      · rw [hd]
        exact put_at n hp m k h1 hm' (down hk hd)
      · refine ⟨fun he => absurd (dg_of (up hm' he)) hd, fun _ => ?_⟩
        show atP n (kids (dg k (n + 1))) m k = _
        rw [hks _ (dg_lt _ _) hd]
/-- What a drop leaves at a place. -/
theorem drop_at {B id : Nat} : ∀ (n : Nat) {t' t : Tr}, DropR B id n t' t → ∀ m k, 1 ≤ m → m ≤ n + 1 → k / 16 ^ (n + 1) = id / 16 ^ (n + 1) → (k / 16 ^ m = id / 16 ^ m → atP n t' m k = .nil ∨ ∃ b, B ≤ b ∧ (atP n t' m k).blk = some b) ∧ (k / 16 ^ m ≠ id / 16 ^ m → atP n t' m k = atP n t m k)
  | 0, t', t, h, m, k, h1, h2, hk => by
    obtain rfl : m = 1 := by omega
    rcases h with ⟨rfl, -⟩ | ⟨b, s, th, vk, vn, rfl, -, hb, -, -⟩
    · exact ⟨fun _ => .inl rfl, fun hne => absurd hk hne⟩
    · exact ⟨fun _ => .inr ⟨b, hb, rfl⟩, fun hne => absurd hk hne⟩
  | n + 1, t', t, h, m, k, h1, h2, hk => by
    obtain ⟨c, hc, ⟨rfl, rfl, hz⟩ | ⟨b, kids, rfl, -, hb, rfl, hks⟩⟩ := h
    · refine ⟨fun _ => .inl (at_nil _ _ _), fun hne => ?_⟩
      have hm : m ≠ n + 2 := by rintro rfl; exact hne hk
      have hm' : m ≤ n + 1 := by omega
      rw [at_nil, at_down hm']
      by_cases hd : dg k (n + 1) = dg id (n + 1)
      · rw [hd, ← (drop_at n hc m k h1 hm' (down hk hd)).2 hne, at_nil]
      · rw [hz _ (dg_lt _ _) hd, at_nil]
    · by_cases hm : m = n + 2
      · subst hm
        rw [at_top]
        exact ⟨fun _ => .inr ⟨b, hb, rfl⟩, fun hne => absurd hk hne⟩
      · have hm' : m ≤ n + 1 := by omega
        rw [at_down hm', at_down hm']
        by_cases hd : dg k (n + 1) = dg id (n + 1)
        · rw [hd]
          exact drop_at n hc m k h1 hm' (down hk hd)
        · refine ⟨fun he => absurd (dg_of (up hm' he)) hd, fun _ => ?_⟩
          show atP n (kids (dg k (n + 1))) m k = _
          rw [hks _ (dg_lt _ _) hd]

end Go.Proofs.YtmppgcijbeipfaaDoor


/- THE MATHEMATICS of stamps: two trees and the stamps of two lists are alike where one block is one stamp. -/
namespace Go.Proofs.YtmppgcijbeipfaaDoor

/-- At each place that both have: the same node where the stamps are the same, and only there. -/
def Keyed (t a : Tr) (σ τ : Nat → Nat → Int) : Prop := ∀ m k, 1 ≤ m → m ≤ 8 → k < 4294967296 → atP 7 t m k ≠ .nil → atP 7 a m k ≠ .nil → (τ (8 - m) (k / 16 ^ m) = σ (8 - m) (k / 16 ^ m) ↔ (atP 7 a m k).blk = (atP 7 t m k).blk)
theorem keyed_self (t : Tr) (σ : Nat → Nat → Int) : Keyed t t σ σ := fun _ _ _ _ _ _ _ => ⟨fun _ => rfl, fun _ => rfl⟩
theorem keyed_symm {t a : Tr} {σ τ : Nat → Nat → Int} (h : Keyed t a σ τ) : Keyed a t τ σ := fun m k h1 h2 hk ha ht => by
  rw [eq_comm, h m k h1 h2 hk ht ha, eq_comm]
theorem keyed_nil (t : Tr) (σ τ : Nat → Nat → Int) : Keyed t .nil σ τ := fun m k _ _ _ _ hn => absurd (at_nil 7 m k) hn
theorem root {k id : Nat} (hk : k < 4294967296) (hid : id < 4294967296) : k / 16 ^ (7 + 1) = id / 16 ^ (7 + 1) := by
  rw [Nat.div_eq_of_lt (by exact hk), Nat.div_eq_of_lt (by exact hid)]
theorem pre_m (id m : Nat) (h2 : m ≤ 8) : rfPre id (8 - m) = id / 16 ^ m := by
  unfold rfPre
  rw [show 8 - (8 - m) = m from by omega]
theorem keyed_put {B id : Nat} {v : Int × Int} {t' t a : Tr} {σ τ : Nat → Nat → Int} {s : Int} (hP : PutR B id v 7 t' t) (hid : id < 4294967296) (ho : a.old B) (hs : ∀ l q, τ l q < s) (h : Keyed t a σ τ) : Keyed t' a (updS σ id s) τ := by
  intro m k h1 h2 hk ht ha
  have hp := put_at 7 hP m k h1 h2 (root hk hid)
  unfold updS
  rw [pre_m id m h2]
  by_cases he : k / 16 ^ m = id / 16 ^ m
  · obtain ⟨b, hb, hbl⟩ := hp.1 he
    rw [if_pos he, hbl]
    exact ⟨fun e => absurd e (Int.ne_of_lt (hs _ _)), fun e => absurd e (old_blk (old_at 7 ho m k) hb)⟩
  · rw [if_neg he]
    rw [hp.2 he] at ht ⊢
    exact h m k h1 h2 hk ht ha
theorem keyed_drop {B id : Nat} {t' t a : Tr} {σ τ : Nat → Nat → Int} {s : Int} (hP : DropR B id 7 t' t) (hid : id < 4294967296) (ho : a.old B) (hs : ∀ l q, τ l q < s) (h : Keyed t a σ τ) : Keyed t' a (updS σ id s) τ := by
  intro m k h1 h2 hk ht ha
  have hp := drop_at 7 hP m k h1 h2 (root hk hid)
  unfold updS
  rw [pre_m id m h2]
  by_cases he : k / 16 ^ m = id / 16 ^ m
  · rcases hp.1 he with hn | ⟨b, hb, hbl⟩
    · exact absurd hn ht
    · rw [if_pos he, hbl]
      exact ⟨fun e => absurd e (Int.ne_of_lt (hs _ _)), fun e => absurd e (old_blk (old_at 7 ho m k) hb)⟩
  · rw [if_neg he]
    rw [hp.2 he] at ht ⊢
    exact h m k h1 h2 hk ht ha
theorem updS_lt {σ : Nat → Nat → Int} {id : Nat} {s s' : Int} (h : ∀ l q, σ l q < s') (hs : s < s') : ∀ l q, updS σ id s l q < s' := fun l q => by
  unfold updS
  by_cases he : q = rfPre id l
  · rw [if_pos he]; exact hs
  · rw [if_neg he]; exact h l q

/-- What Shared of the reference tells is what the trie's tells. -/
theorem shC_tr {R : Tr → Tr → Prop} (hK : ∀ {t a : Tr}, R t a → ∀ i, i < 16 → R (t.kid i) (a.kid i)) (hE : ∀ {t a : Tr}, R t a → t.blk = a.blk → t.Eqv a) {t a : Tr} {σ τ : Nat → Nat → Int} (ht : t.wf 7) (ha : a.wf 7) (hR : R t a) (h : Keyed t a σ τ) : shC (a.ents 7 0) τ (t.ents 7 0) σ ((t.ents 7 0).length * 8) = (t.sme a, t.frs a) := by
  have hg : ∀ m k, 1 ≤ m → m ≤ 7 + 1 → k / 16 ^ (7 + 1) = 0 / 16 ^ (7 + 1) → atP 7 t m k ≠ .nil → gF (a.ents 7 0) τ σ m (k / 16 ^ m) = if (atP 7 a m k).blk = (atP 7 t m k).blk then 0 else 1 := by
    intro m k h1 h2 hk hne
    have hk' : k < 4294967296 := by
      rw [Nat.zero_div] at hk
      exact (Nat.div_eq_zero_iff.1 hk).resolve_left (by decide)
    have hhas : hasS (a.ents 7 0) τ (8 - m) (k / 16 ^ m) (σ (8 - m) (k / 16 ^ m)) ↔ (atP 7 a m k).blk = (atP 7 t m k).blk := by
      unfold hasS
      have he := at_ents 7 ha 0 (Nat.zero_mod _) m k h1 h2 hk
      constructor
      · rintro ⟨⟨e, hm, hq⟩, hs⟩
        rw [pre_m _ _ h2] at hq
        exact (h m k h1 h2 hk' hne (he.1 ⟨e, hm, hq⟩)).1 hs
      · intro hb
        have han : atP 7 a m k ≠ .nil := fun e0 => by
          rw [e0] at hb
          exact hne (blk_none hb.symm)
        obtain ⟨e, hm, hq⟩ := he.2 han
        exact ⟨⟨e, hm, by rw [pre_m _ _ h2]; exact hq⟩, (h m k h1 h2 hk' hne han).2 hb⟩
    unfold gF
    by_cases hb : (atP 7 a m k).blk = (atP 7 t m k).blk
    · rw [if_pos (hhas.2 hb), if_pos hb]
    · rw [if_neg (fun x => hb (hhas.1 x)), if_neg hb]
  have hf := frs_wsum hK hE (gF (a.ents 7 0) τ σ) 7 ht hR 0 (Nat.zero_mod _) hg
  have hsum : t.wsum (gS (a.ents 7 0) τ σ) 7 0 + t.wsum (gF (a.ents 7 0) τ σ) 7 0 = t.cnt := by
    rw [← wsum_add, ← wsum_one t 7 0]
    congr 1
    funext m q
    unfold gS gF
    by_cases hb : hasS (a.ents 7 0) τ (8 - m) q (σ (8 - m) q)
    · rw [if_pos hb, if_pos hb]
    · rw [if_neg hb, if_neg hb]
  have hsf := sme_frs t a
  rw [shC_all, ← wsum_nds _ 7 ht 0 (Nat.zero_mod _), ← wsum_nds _ 7 ht 0 (Nat.zero_mod _), ← hf]
  refine Prod.ext ?_ rfl
  show t.wsum (gS (a.ents 7 0) τ σ) 7 0 = t.sme a
  omega

end Go.Proofs.YtmppgcijbeipfaaDoor


namespace Go.Proofs.YtmppgcijbeipfaaDoor

theorem ptr_blk {t a : Tr} (h : t.ptr = a.ptr) : t.blk = a.blk := by
  cases t <;> cases a <;> simp [Tr.ptr, Tr.blk] at h ⊢ <;> exact h
theorem lies_old {W : World} : ∀ {t : Tr}, Lies W t → t.old W.heap.size
  | .nil, _ => trivial
  | .node _ _, h => ⟨h.1.lt, fun i hi => lies_old (h.2 i hi)⟩
  | .leaf _ _ _ _ _, h => h.1.lt
/-- What lies at any block of a tree that is no nil: its children's pointers. -/
theorem lies_at {W : World} {t : Tr} {b : Nat} (h : Lies W t) (hb : t.blk = some b) {i : Nat} (hi : i < 16) : W.cell? ⟨b, i, none⟩ = some (t.kid i).ptr := by
  cases t with
  | nil => cases hb
  | node c kids => obtain rfl : c = b := Option.some.inj hb; exact h.1.kid hi
  | leaf c s th vk vn => obtain rfl : c = b := Option.some.inj hb; exact h.1.kid hi
theorem lies_eqv {W : World} : ∀ (t a : Tr), Lies W t → Lies W a → t.blk = a.blk → t.Eqv a
  | .nil, a, _, _, h => blk_none h.symm
  | .node b kids, a, h1, h2, h => ⟨h.symm, fun i hi => by
      have e1 := lies_at h1 (b := b) rfl hi
      have e2 := lies_at h2 (b := b) h.symm hi
      exact lies_eqv (kids i) (a.kid i) (h1.2 i hi) (h2.kid hi) (ptr_blk (Option.some.inj (e1.symm.trans e2)))⟩
  | .leaf b s th vk vn, a, h1, h2, h => ⟨h.symm, fun i hi => by
      have e1 := lies_at h1 (b := b) rfl hi
      have e2 := lies_at h2 (b := b) h.symm hi
      exact blk_none (ptr_blk (Option.some.inj (e2.symm.trans e1)))⟩
/-- Three trees of one world. -/
theorem frs_lies {W : World} (c b a : Tr) (hc : Lies W c) (hb : Lies W b) (ha : Lies W a) : c.frs a ≤ c.frs b + b.frs a :=
  frs_way (R := fun t a => Lies W t ∧ Lies W a) (fun h _ hi => ⟨h.1.kid hi, h.2.kid hi⟩) (fun h e => lies_eqv _ _ h.1 h.2 e) c b a ⟨hc, hb⟩ ⟨hb, ha⟩

end Go.Proofs.YtmppgcijbeipfaaDoor

import Derived.Test.YtpmfgffhkklfeaaDoorTShM
/- THE MATHEMATICS of the statement's own count: how many nodes a rising list of entries asks for. -/
namespace Go.Proofs.YtpmfgffhkklfeaaDoor

/-- At how many of the first n heights a key has another prefix than the one ahead of it. -/
def st : Nat → Option Nat → Nat → Nat
  | 0, _, _ => 0
  | n + 1, o, k => st n o k + if o.map (· / 16 ^ (n + 1)) = some (k / 16 ^ (n + 1)) then 0 else 1
def nds (n : Nat) : Option Nat → List (Nat × (Int × Int)) → Nat
  | _, [] => 0
  | o, e :: L => st n o e.1 + nds n (some e.1) L

theorem st_none : ∀ (n k : Nat), st n none k = n
  | 0, _ => rfl
  | n + 1, k => by
    show st n none k + _ = _
    rw [st_none n k, if_neg (by simp)]
theorem st_far : ∀ (n : Nat) {a k : Nat}, a / 16 ^ n ≠ k / 16 ^ n → st n (some a) k = n
  | 0, _, _, _ => rfl
  | n + 1, a, k, h => by
    have h1 : a / 16 ^ n ≠ k / 16 ^ n := fun e => h (by rw [Nat.pow_succ, ← Nat.div_div_eq_div_mul, ← Nat.div_div_eq_div_mul, e])
    show st n (some a) k + _ = _
    rw [st_far n h1, if_neg (by simpa using h)]
theorem nds_far (n : Nat) {o : Option Nat} {B : List (Nat × (Int × Int))} (h : ∀ b ∈ B, ∀ a, o = some a → a / 16 ^ n ≠ b.1 / 16 ^ n) : nds n o B = nds n none B := by
  cases B with
  | nil => rfl
  | cons b B =>
    show st n o b.1 + _ = st n none b.1 + _
    cases o with
    | none => rfl
    | some a => rw [st_none, st_far n (h b (by simp) a rfl)]
theorem nds_cat (n : Nat) {B : List (Nat × (Int × Int))} : ∀ (A : List (Nat × (Int × Int))) (o : Option Nat), (∀ b ∈ B, ∀ a, o = some a → a / 16 ^ n ≠ b.1 / 16 ^ n) → (∀ a ∈ A, ∀ b ∈ B, a.1 / 16 ^ n ≠ b.1 / 16 ^ n) → nds n o (A ++ B) = nds n o A + nds n none B
  | [], o, ho, _ => by
    show nds n o B = 0 + _
    rw [nds_far n ho, Nat.zero_add]
  | a :: A, o, _, hA => by
    have ih := nds_cat n A (some a.1) (fun b hb c hc => by obtain rfl := Option.some.inj hc; exact hA a (by simp) b hb) (fun x hx b hb => hA x (by simp [hx]) b hb)
    show st n o a.1 + nds n (some a.1) (A ++ B) = st n o a.1 + nds n (some a.1) A + _
    rw [ih]
    omega
theorem nds_same (n c : Nat) : ∀ (L : List (Nat × (Int × Int))) (a : Nat), a / 16 ^ (n + 1) = c → (∀ e ∈ L, e.1 / 16 ^ (n + 1) = c) → nds (n + 1) (some a) L = nds n (some a) L
  | [], _, _, _ => rfl
  | e :: L, a, ha, h => by
    have he := h e (by simp)
    show (st n (some a) e.1 + if (some a).map (· / 16 ^ (n + 1)) = some (e.1 / 16 ^ (n + 1)) then 0 else 1) + _ = _
    rw [if_pos (by simp [ha, he]), nds_same n c L e.1 he (fun x hx => h x (by simp [hx]))]
    rfl
theorem nds_new (n c : Nat) {L : List (Nat × (Int × Int))} (h0 : L ≠ []) (h : ∀ e ∈ L, e.1 / 16 ^ (n + 1) = c) : nds (n + 1) none L = nds n none L + 1 := by
  cases L with
  | nil => exact absurd rfl h0
  | cons e L =>
    have he := h e (by simp)
    show (st n none e.1 + if (none : Option Nat).map (· / 16 ^ (n + 1)) = some (e.1 / 16 ^ (n + 1)) then 0 else 1) + nds (n + 1) (some e.1) L = st n none e.1 + nds n (some e.1) L + 1
    rw [if_neg (by simp), nds_same n c L e.1 he (fun x hx => h x (by simp [hx]))]
    omega
theorem nds_zero (o : Option Nat) : ∀ (L : List (Nat × (Int × Int))), nds 0 o L = 0
  | [] => rfl
  | e :: L => by
    show 0 + nds 0 (some e.1) L = 0
    rw [nds_zero (some e.1) L]
theorem quot {p Q e : Nat} (hp : p % Q = 0) (hQ : 0 < Q) (h1 : p ≤ e) (h2 : e < p + Q) : e / Q = p / Q := by
  obtain ⟨c, rfl⟩ : ∃ c, p = Q * c := ⟨p / Q, by have := Nat.div_add_mod p Q; omega⟩
  rw [Nat.mul_div_cancel_left _ hQ]
  refine Nat.div_eq_of_lt_le ?_ ?_
  · rw [Nat.mul_comm]; exact h1
  · rw [Nat.add_mul, Nat.one_mul, Nat.mul_comm c Q]; exact h2
theorem flat_nds (n c : Nat) {f : Nat → List (Nat × (Int × Int))} (hf : ∀ i, i < 16 → ∀ e ∈ f i, e.1 / 16 ^ n = c + i) : ∀ m, m ≤ 16 → nds n none ((List.range m).flatMap f) = ((List.range m).map fun i => nds n none (f i)).sum
  | 0, _ => rfl
  | m + 1, hm => by
    have ih := flat_nds n c hf m (by omega)
    rw [List.range_succ, List.flatMap_append, List.map_append, List.sum_append]
    have e1 : [m].flatMap f = f m := by simp
    rw [e1, nds_cat n _ none (fun _ _ _ h => by cases h) (fun a ha b hb => ?_), ih]
    · simp
    · obtain ⟨i, hi, hai⟩ := List.mem_flatMap.1 ha
      have hi' : i < m := by simpa using hi
      rw [hf i (by omega) a hai, hf m (by omega) b hb]
      omega
theorem cnt_nds : ∀ (n : Nat) {t : Tr}, t.wf n → ∀ p, p % 16 ^ (n + 1) = 0 → t.cnt = nds (n + 1) none (t.ents n p)
  | n, .nil, _, p, _ => by cases n <;> rfl
  | 0, .node b kids, h, _, _ => absurd h.1 (by omega)
  | n + 1, .leaf b s th vk vn, h, _, _ => absurd h.1 (by omega)
  | 0, .leaf b s th vk vn, h, p, hp => by
    have hw : (Tr.leaf b s th vk vn).wf 0 := h
    obtain ⟨-, -, i, hi, ht⟩ := h
    have hne : (Tr.leaf b s th vk vn).ents 0 p ≠ [] := fun e0 => by
      have : (p + i, (vk i, vn i)) ∈ (Tr.leaf b s th vk vn).ents 0 p := by
        rw [ents_leaf hw]
        refine List.mem_filterMap.2 ⟨i, by simpa using hi, ?_⟩
        show (if th i = true then some (p + i, (vk i, vn i)) else none) = _
        rw [if_pos ht]
      rw [e0] at this
      cases this
    rw [nds_new 0 (p / 16 ^ (0 + 1)) hne (fun e he => quot hp (by decide) (ents_range hw he).1 (ents_range hw he).2), nds_zero]
    rfl
  | n + 1, .node b kids, h, p, hp => by
    have hw : (Tr.node b kids).wf (n + 1) := h
    obtain ⟨-, hk, i, hi, hne⟩ := h
    have hQ : 0 < 16 ^ (n + 1) := Nat.pow_pos (by decide)
    have hp1 : p % 16 ^ (n + 1) = 0 := by
      rw [Nat.pow_succ 16 (n + 1)] at hp
      exact Nat.mod_eq_zero_of_dvd (Nat.dvd_trans (Nat.dvd_mul_right _ _) (Nat.dvd_of_mod_eq_zero hp))
    have hpi : ∀ i, (p + i * 16 ^ (n + 1)) % 16 ^ (n + 1) = 0 := fun i => by rw [Nat.add_mul_mod_self_right]; exact hp1
    have ih : ∀ i, i < 16 → (kids i).cnt = nds (n + 1) none ((kids i).ents n (p + i * 16 ^ (n + 1))) := fun i hi => cnt_nds n (hk i hi) _ (hpi i)
    have hE : (Tr.node b kids).ents (n + 1) p = (List.range 16).flatMap fun i => (kids i).ents n (p + i * 16 ^ (n + 1)) := ents_kid hw p
    have hfl := flat_nds (n + 1) (p / 16 ^ (n + 1)) (f := fun i => (kids i).ents n (p + i * 16 ^ (n + 1))) (fun i hi e he => by
      have hr := ents_range (hk i hi) he
      rw [quot (hpi i) hQ hr.1 hr.2, Nat.add_mul_div_right _ _ hQ]) 16 (Nat.le_refl _)
    have hne' : (Tr.node b kids).ents (n + 1) p ≠ [] := fun e0 => by
      have h1 := ih i hi
      have h2 : (kids i).ents n (p + i * 16 ^ (n + 1)) = [] := by
        rw [hE, List.flatMap_eq_nil_iff] at e0
        exact e0 i (by simpa using hi)
      rw [h2] at h1
      exact hne (cnt_zero.1 h1)
    rw [nds_new (n + 1) (p / 16 ^ (n + 1 + 1)) hne' (fun e he => quot hp (Nat.pow_pos (by decide)) (ents_range hw he).1 (ents_range hw he).2), hE, hfl, cnt_node]
    have hs : sum16 (fun i => (kids i).cnt) = sum16 fun i => nds (n + 1) none ((kids i).ents n (p + i * 16 ^ (n + 1))) := sum16_congr ih
    rw [hs]
    unfold sum16
    omega
/-- What the whole tree has. -/
theorem cnt_all {t : Tr} (h : t.wf 7) : t.cnt = nds 8 none (t.ents 7 0) := cnt_nds 7 h 0 (Nat.zero_mod _)

theorem st_le : ∀ (n : Nat) (o : Option Nat) (k : Nat), st n o k ≤ n
  | 0, _, _ => Nat.le_refl _
  | n + 1, o, k => by
    have := st_le n o k
    show st n o k + _ ≤ _
    split <;> omega
theorem nds_le (n : Nat) : ∀ (o : Option Nat) (L : List (Nat × (Int × Int))), nds n o L ≤ n * L.length
  | _, [] => Nat.zero_le _
  | o, e :: L => by
    have h1 := st_le n o e.1
    have h2 := nds_le n (some e.1) L
    show st n o e.1 + _ ≤ _
    rw [List.length_cons, Nat.mul_succ]
    omega

/-- The key ahead of the i'th. -/
def prv (L : List (Nat × (Int × Int))) (i : Nat) : Option Nat := if i = 0 then none else (L[i - 1]?).map Prod.fst
theorem nds_snoc (n : Nat) : ∀ (A : List (Nat × (Int × Int))) (o : Option Nat) (e : Nat × (Int × Int)), nds n o (A ++ [e]) = nds n o A + st n (match A.getLast? with | some x => some x.1 | none => o) e.1
  | [], o, e => by
    show st n o e.1 + 0 = 0 + _
    simp
  | a :: A, o, e => by
    have ih := nds_snoc n A (some a.1) e
    show st n o a.1 + nds n (some a.1) (A ++ [e]) = st n o a.1 + nds n (some a.1) A + _
    rw [ih]
    cases A with
    | nil => simp; omega
    | cons b A =>
      have : (a :: b :: A).getLast? = (b :: A).getLast? := by simp [List.getLast?_cons]
      rw [this]
      have h2 : ∃ x, (b :: A).getLast? = some x := ⟨_, List.getLast?_eq_some_getLast (by simp)⟩
      obtain ⟨x, hx⟩ := h2
      rw [hx]
      show _ + (_ + st n (some x.1) e.1) = _ + _ + st n (some x.1) e.1
      omega
theorem nds_take (n : Nat) {L : List (Nat × (Int × Int))} {i : Nat} (h : i < L.length) : nds n none (L.take (i + 1)) = nds n none (L.take i) + st n (prv L i) L[i].1 := by
  rw [List.take_succ_eq_append_getElem h, nds_snoc]
  congr 2
  unfold prv
  cases i with
  | zero => rfl
  | succ i =>
    rw [if_neg (by omega)]
    have e1 : (L.take (i + 1)).getLast? = some L[i] := by
      rw [List.take_succ_eq_append_getElem (by omega), List.getLast?_append]
      rfl
    have e2 : L[i + 1 - 1]? = some L[i] := by
      rw [Nat.add_sub_cancel]
      exact List.getElem?_eq_getElem (by omega)
    rw [e1, e2]
    rfl
theorem st_small : ∀ (n a k : Nat), a < 16 ^ (n + 1) → k < 16 ^ (n + 1) → st (n + 1) (some a) k = st n (some a) k := by
  intro n a k ha hk
  show st n (some a) k + _ = _
  rw [if_pos (by simp [Nat.div_eq_of_lt ha, Nat.div_eq_of_lt hk])]
  omega

end Go.Proofs.YtpmfgffhkklfeaaDoor

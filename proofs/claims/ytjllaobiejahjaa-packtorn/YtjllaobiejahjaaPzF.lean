import Derived.Test.YtjllaobiejahjaaPzT
/- ONE BYTE THAT IS CHANGED CHANGES THE SUM. No program. -/
namespace Go.Proofs.Ytjllaobiejahjaa

theorem mul_inj {x y : Nat} (h : x * 16777619 % 4294967296 = y * 16777619 % 4294967296) : x % 4294967296 = y % 4294967296 := by
  have e : ∀ z : Nat, z * 16777619 * 899433627 % 4294967296 = z % 4294967296 := fun z => by
    rw [Nat.mul_assoc, show 16777619 * 899433627 = 4294967296 * 3513497 + 1 from by decide, Nat.mul_add, Nat.mul_one, ← Nat.mul_assoc, Nat.mul_comm z, Nat.mul_assoc, Nat.mul_add_mod]
  have h2 := congrArg (fun z => z * 899433627 % 4294967296) h
  simp only [Nat.mod_mul_mod] at h2
  rwa [e, e] at h2
theorem xor_lt32 {h x : Nat} (hh : h < 4294967296) (hx : x < 256) : h ^^^ x < 4294967296 := by
  have := Nat.xor_lt_two_pow (n := 32) (x := h) (y := x) (by simpa using hh) (by show x < 2 ^ 32; omega)
  simpa using this
theorem fn1_inj_l {h1 h2 x : Nat} (g1 : h1 < 4294967296) (g2 : h2 < 4294967296) (hx : x < 256) (h : fn1 h1 x = fn1 h2 x) : h1 = h2 := by
  unfold fn1 at h
  have := mul_inj h
  rw [Nat.mod_eq_of_lt (xor_lt32 g1 hx), Nat.mod_eq_of_lt (xor_lt32 g2 hx)] at this
  have h3 := congrArg (fun z => z ^^^ x) this
  simpa [Nat.xor_assoc, Nat.xor_self] using h3
theorem fn1_inj_r {h x y : Nat} (g : h < 4294967296) (hx : x < 256) (hy : y < 256) (e : fn1 h x = fn1 h y) : x = y := by
  unfold fn1 at e
  have := mul_inj e
  rw [Nat.mod_eq_of_lt (xor_lt32 g hx), Nat.mod_eq_of_lt (xor_lt32 g hy)] at this
  have h3 := congrArg (fun z => h ^^^ z) this
  simpa [← Nat.xor_assoc, Nat.xor_self] using h3
theorem fold_inj : ∀ (l : List Nat) {h1 h2 : Nat}, (∀ x ∈ l, x < 256) → h1 < 4294967296 → h2 < 4294967296 → l.foldl fn1 h1 = l.foldl fn1 h2 → h1 = h2
  | [], _, _, _, _, _, h => h
  | x :: l, h1, h2, hl, g1, g2, h => fn1_inj_l g1 g2 (hl x (by simp)) (fold_inj l (fun y hy => hl y (List.mem_cons_of_mem _ hy)) (fn1_lt _ _) (fn1_lt _ _) h)
/-- Bytes that differ in one place alone have not the same number. -/
theorem fnvB_one (p s : List UInt8) {x y : UInt8} (h : x ≠ y) : fnvB (p ++ x :: s) ≠ fnvB (p ++ y :: s) := by
  intro e
  unfold fnvB at e
  rw [List.map_append, List.map_cons, List.map_append, List.map_cons] at e
  unfold fnv at e
  rw [List.foldl_append, List.foldl_append, List.foldl_cons, List.foldl_cons] at e
  have hb : ∀ z ∈ s.map UInt8.toNat, z < 256 := fun z hz => by
    obtain ⟨c, _, rfl⟩ := List.mem_map.1 hz
    exact c.toNat_lt
  have h1 := fold_inj _ hb (fn1_lt _ _) (fn1_lt _ _) e
  have h2 : (p.map UInt8.toNat).foldl fn1 fnv0 < 4294967296 := fnv_lt _
  exact h (UInt8.toNat_inj.1 (fn1_inj_r h2 x.toNat_lt y.toNat_lt h1))
theorem ofNat_inj {m n : Nat} (hm : m < 256) (hn : n < 256) (h : UInt8.ofNat m = UInt8.ofNat n) : m = n := by
  have := congrArg UInt8.toNat h
  rw [UInt8.toNat_ofNat', UInt8.toNat_ofNat'] at this
  omega
theorem sum4_inj {m n : Nat} (hm : m < 4294967296) (hn : n < 4294967296) (h : sum4 m = sum4 n) : m = n := by
  unfold sum4 at h
  simp only [List.cons.injEq, and_true] at h
  obtain ⟨h0, h1, h2, h3⟩ := h
  have e0 := ofNat_inj (by omega) (by omega) h0
  have e1 := ofNat_inj (by omega) (by omega) h1
  have e2 := ofNat_inj (by omega) (by omega) h2
  have e3 := ofNat_inj (by omega) (by omega) h3
  omega
/-- One byte changed: the bytes are refused. -/
theorem torn_one {p : Pk} {i : Nat} (hi : i < (encP p ++ sum4 (fnvB (encP p))).length) {x : UInt8} (hx : x ≠ (encP p ++ sum4 (fnvB (encP p)))[i]) : ∀ q a, rPack ((encP p ++ sum4 (fnvB (encP p))).set i x) 0 ≠ .ok (q, a) := fun q a hq => by
  obtain ⟨h, -⟩ := rPack_sound hq
  have hlen := congrArg List.length h
  rw [List.length_set, List.length_append, List.length_append] at hlen
  have hS : ∀ n, (sum4 n).length = 4 := fun _ => rfl
  rw [hS, hS] at hlen
  rw [List.length_append, hS] at hi
  by_cases hp : i < (encP p).length
  · rw [List.set_append_left _ _ hp] at h
    obtain ⟨h1, h2⟩ := List.append_inj h (by rw [List.length_set]; omega)
    have h3 := sum4_inj (fnv_lt _) (fnv_lt _) h2
    rw [← h1] at h3
    rw [List.getElem_append_left hp] at hx
    have e1 : encP p = (encP p).take i ++ (encP p)[i] :: (encP p).drop (i + 1) := by rw [← List.drop_eq_getElem_cons hp, List.take_append_drop]
    have e2 : (encP p).set i x = (encP p).take i ++ x :: (encP p).drop (i + 1) := List.set_eq_take_append_cons_drop.trans (if_pos hp)
    rw [e2] at h3
    have h4 := fnvB_one ((encP p).take i) ((encP p).drop (i + 1)) (x := (encP p)[i]) (y := x) (fun e => hx e.symm)
    rw [← e1] at h4
    exact h4 h3
  · rw [List.set_append_right _ _ (by omega)] at h
    obtain ⟨h1, h2⟩ := List.append_inj h (by omega)
    rw [← h1] at h2
    rw [List.getElem_append_right (by omega)] at hx
    have h3 := congrArg (fun l => l[i - (encP p).length]?) h2
    simp only [List.getElem?_set_self (show i - (encP p).length < (sum4 (fnvB (encP p))).length by rw [hS]; omega)] at h3
    rw [List.getElem?_eq_getElem (by rw [hS]; omega)] at h3
    exact hx (Option.some.inj h3)

end Go.Proofs.Ytjllaobiejahjaa

import Derived.Test.YtmppgcijbeipfaaDoorTOne
namespace Go.Proofs.YtmppgcijbeipfaaDoor
open Go.RowKit

theorem del_snoc (P : List (Nat × (Int × Int))) (e : Nat × (Int × Int)) (id : Nat) : del (P ++ [e]) id = del P id ++ (if e.1 = id then [] else [e]) := by
  unfold del
  rw [List.filter_append]
  by_cases h : e.1 = id <;> simp [h]
theorem less_of {P : List (Nat × (Int × Int))} {id : Nat} (h : ∀ e ∈ P, e.1 ≤ id) : P.filter (fun e => decide (e.1 < id)) = del P id := by
  unfold del
  refine List.filter_congr fun e he => ?_
  have := h e he
  rw [decide_eq_decide]
  omega
theorem more_none {P : List (Nat × (Int × Int))} {id : Nat} (h : ∀ e ∈ P, e.1 ≤ id) : P.filter (fun e => decide (id < e.1)) = [] := by
  rw [List.filter_eq_nil_iff]
  intro e he
  have := h e he
  simp
  omega
theorem ins_all {P : List (Nat × (Int × Int))} {id : Nat} (v : Int × Int) (h : ∀ e ∈ P, e.1 ≤ id) : ins P id v = del P id ++ [(id, v)] := by
  unfold ins
  rw [less_of h, more_none h]
theorem ins_above {P : List (Nat × (Int × Int))} {e : Nat × (Int × Int)} {id : Nat} (v : Int × Int) (h : id < e.1) : ins (P ++ [e]) id v = ins P id v ++ [e] := by
  unfold ins
  rw [List.filter_append, List.filter_append]
  have h1 : ¬ e.1 < id := by omega
  simp [h, h1]
theorem ins_at {P : List (Nat × (Int × Int))} {e : Nat × (Int × Int)} {id : Nat} (v : Int × Int) (h : e.1 = id) : ins (P ++ [e]) id v = ins P id v := by
  unfold ins
  rw [List.filter_append, List.filter_append]
  simp [h]

/-- What laid has of the first entries. -/
def LaidI (id : Nat) (v : Int × Int) (gone : Bool) (P out : List (Nat × (Int × Int))) (dn : Bool) : Prop :=
  (gone = true ∧ dn = true ∧ out = del P id) ∨ (gone = false ∧ dn = true ∧ out = ins P id v ∧ ∃ e ∈ P, id < e.1) ∨ (gone = false ∧ dn = false ∧ out = del P id ∧ ∀ e ∈ P, e.1 ≤ id)

theorem laid_start (id : Nat) (v : Int × Int) (gone : Bool) : LaidI id v gone [] [] gone := by
  cases gone
  · exact .inr (.inr ⟨rfl, rfl, rfl, by simp⟩)
  · exact .inl ⟨rfl, rfl, rfl⟩
theorem laid_skip {id : Nat} {v : Int × Int} {gone dn : Bool} {P out : List (Nat × (Int × Int))} {e : Nat × (Int × Int)} (h : LaidI id v gone P out dn) (he : e.1 = id) : LaidI id v gone (P ++ [e]) out dn := by
  rcases h with ⟨h1, h2, rfl⟩ | ⟨h1, h2, rfl, e0, h3, h4⟩ | ⟨h1, h2, rfl, h3⟩
  · exact .inl ⟨h1, h2, by rw [del_snoc, if_pos he, List.append_nil]⟩
  · exact .inr (.inl ⟨h1, h2, by rw [ins_at v he], e0, by simp [h3], h4⟩)
  · refine .inr (.inr ⟨h1, h2, by rw [del_snoc, if_pos he, List.append_nil], fun x hx => ?_⟩)
    rcases List.mem_append.1 hx with hx | hx
    · exact h3 x hx
    · obtain rfl : x = e := by simpa using hx
      omega
theorem laid_plain {id : Nat} {v : Int × Int} {gone dn : Bool} {P out : List (Nat × (Int × Int))} {e : Nat × (Int × Int)} (hR : Rises (P ++ [e])) (h : LaidI id v gone P out dn) (he : e.1 ≠ id) (hd : dn = true ∨ ¬ id < e.1) : LaidI id v gone (P ++ [e]) (out ++ [e]) dn := by
  rcases h with ⟨h1, h2, rfl⟩ | ⟨h1, h2, rfl, e0, h3, h4⟩ | ⟨h1, h2, rfl, h3⟩
  · exact .inl ⟨h1, h2, by rw [del_snoc, if_neg he]⟩
  · have := (List.pairwise_append.1 hR).2.2 e0 h3 e (by simp)
    exact .inr (.inl ⟨h1, h2, by rw [ins_above v (by omega)], e0, by simp [h3], h4⟩)
  · have hle : ¬ id < e.1 := by
      rcases hd with hd | hd
      · rw [h2] at hd; cases hd
      · exact hd
    refine .inr (.inr ⟨h1, h2, by rw [del_snoc, if_neg he], fun x hx => ?_⟩)
    rcases List.mem_append.1 hx with hx | hx
    · exact h3 x hx
    · obtain rfl : x = e := by simpa using hx
      omega
theorem laid_put {id : Nat} {v : Int × Int} {gone : Bool} {P out : List (Nat × (Int × Int))} {e : Nat × (Int × Int)} (h : LaidI id v gone P out false) (he : id < e.1) : LaidI id v gone (P ++ [e]) (out ++ [(id, v)] ++ [e]) true := by
  rcases h with ⟨-, h2, -⟩ | ⟨-, h2, -⟩ | ⟨h1, -, rfl, h3⟩
  · cases h2
  · cases h2
  · exact .inr (.inl ⟨h1, rfl, by rw [ins_above v he, ins_all v h3], e, by simp, he⟩)
theorem laid_done {id : Nat} {v : Int × Int} {gone : Bool} {P out : List (Nat × (Int × Int))} (h : LaidI id v gone P out true) : out = stepL P id v gone := by
  rcases h with ⟨h1, -, h3⟩ | ⟨h1, -, h3, -⟩ | ⟨-, h2, -⟩
  · rw [h3, stepL, if_pos h1]
  · rw [h3, stepL, if_neg (by simp [h1])]
  · cases h2
theorem laid_last {id : Nat} {v : Int × Int} {gone : Bool} {P out : List (Nat × (Int × Int))} (h : LaidI id v gone P out false) : out ++ [(id, v)] = stepL P id v gone := by
  rcases h with ⟨-, h2, -⟩ | ⟨-, h2, -⟩ | ⟨h1, -, rfl, h3⟩
  · cases h2
  · cases h2
  · rw [stepL, if_neg (by simp [h1]), ins_all v h3]
theorem laid_length {id : Nat} {v : Int × Int} {gone dn : Bool} {P out : List (Nat × (Int × Int))} (h : LaidI id v gone P out dn) : out.length ≤ P.length + 1 := by
  have hi := length_ins P id v
  have hd := length_del P id
  rcases h with ⟨-, -, rfl⟩ | ⟨-, -, rfl, -⟩ | ⟨-, -, rfl, -⟩ <;> omega

theorem one3 (k : Nat) (x y : Int) : ∀ u ∈ ([.int .u32 (k : Int), .int .i64 x, .int .i64 y] : List Value), u.oneCell' = true := by
  intro u hu
  simp at hu
  rcases hu with rfl | rfl | rfl <;> rfl
theorem own_base {w : World} {base base' n size : Nat} {e : TypeId} {v : Value} {xs : List Value} (h : w.ownsRow base e size v n xs) (hb : base' ≤ base) : w.ownsRow base' e size v n xs := by
  obtain ⟨h1, h2 | ⟨g, cap, cur, h3, h4, h5⟩⟩ := h
  · exact ⟨h1, .inl h2⟩
  · exact ⟨h1, .inr ⟨g, cap, cur, h3, by omega, h5⟩⟩
theorem appended {V A X B : World} {base k : Nat} {x y : Int} {v v' : Value} {out : List (Nat × (Int × Int))} (hA : A = X.alloc (.cells #[.int .u32 (k : Int), .int .i64 x, .int .i64 y] 49)) (hs : base ≤ X.heap.size) (hown : X.ownsRow base 49 3 v out.length (flat3 out)) (hB : Below base V X) (hown' : B.ownsRow base 49 3 v' (out.length + 1) (flat3 out ++ [.int .u32 (k : Int), .int .i64 x, .int .i64 y])) (hg : A.grownBy B v.ownBlock) :
    B.ownsRow base 49 3 v' (out ++ [(k, (x, y))]).length (flat3 (out ++ [(k, (x, y))])) ∧ Below base V B ∧ base ≤ B.heap.size := by
  subst hA
  have hb := (hB.alloc hs (.cells #[.int .u32 (k : Int), .int .i64 x, .int .i64 y] 49)).grown hg (by simp; omega) (fun k hk => (hown.lt k hk).1)
  refine ⟨?_, hb, ?_⟩
  · rw [List.length_append, flat3_snoc]
    exact hown'
  · have := hg.size
    simp at this
    omega


end Go.Proofs.YtmppgcijbeipfaaDoor

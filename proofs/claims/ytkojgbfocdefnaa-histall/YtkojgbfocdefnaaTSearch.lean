import Derived.Test.YtkojgbfocdefnaaTPut2
namespace Go.Proofs.Ytkojgbfocdefnaa
open Go.RowKit

/-- The entries from a key on, as search goes through them. -/
def Tr.fromL : Tr → Nat → Nat → Nat → List (Nat × (Int × Int))
  | .nil, _, _, _ => []
  | .node _ kids, n, p, low => ((List.range 16).drop (dg low n)).flatMap fun i => (kids i).fromL (n - 1) (p + i * 16 ^ n) (if i = dg low n then low else 0)
  | .leaf _ _ th vk vn, _, p, low => ((List.range 16).drop (dg low 0)).filterMap fun i => if th i = true then some (p + i, (vk i, vn i)) else none

theorem dg_none (n : Nat) : dg 0 n = 0 := by simp [dg]
theorem fromL_all : ∀ (t : Tr) (n p : Nat), t.fromL n p 0 = t.ents n p := by
  intro t
  induction t with
  | nil => intros; rfl
  | node b kids ih =>
    intro n p
    show ((List.range 16).drop (dg 0 n)).flatMap _ = (List.range 16).flatMap _
    rw [dg_none, List.drop_zero]
    congr 1
    funext i
    rw [← ih i]
    split <;> rfl
  | leaf b s th vk vn =>
    intro n p
    show ((List.range 16).drop (dg 0 0)).filterMap _ = (List.range 16).filterMap _
    rw [dg_none, List.drop_zero]

/-- What is asked of the function that an iterator hands its entries to: J: what holds while it goes on, by what was given; Jx: what holds once it was told to stop. -/
structure Takes (f : Nat) (T : Addr) (t : Tr) (J Jx : List (Nat × (Int × Int)) → World → Prop) : Prop where
  lies : ∀ done X, J done X → Lies X t
  liesx : ∀ done X, Jx done X → Lies X t
  draw : ∀ done X n, J done X → J done (X.drewN n)
  call : ∀ done X (k : Nat) (x y : Int), k < 4294967296 → J done X → Calls Try.prog f #[.pointer (some T), .int .u32 (k : Int), .agg #[.int .i64 x, .int .i64 y]] X fun e X' => ∃ o : Bool, e = .returned (.bool o) ∧ (o = true → J (done ++ [(k, (x, y))]) X') ∧ (o = false → Jx (done ++ [(k, (x, y))]) X')

theorem takes_lies {f : Nat} {T : Addr} {t : Tr} {J Jx : List (Nat × (Int × Int)) → World → Prop} (hT : Takes f T t J Jx) {d : List (Nat × (Int × Int))} {X : World} (o : Bool) (h1 : o = true → J d X) (h2 : o = false → Jx d X) : Lies X t := by
  cases o with
  | true => exact hT.lies _ _ (h1 rfl)
  | false => exact hT.liesx _ _ (h2 rfl)

/-- The entries of a shelf's places from first on and below j. -/
def seg (th : Nat → Bool) (vk vn : Nat → Int) (p first j : Nat) : List (Nat × (Int × Int)) := ((List.range j).drop first).filterMap fun i => if th i = true then some (p + i, (vk i, vn i)) else none
theorem drop_range_succ {a j : Nat} (h : a ≤ j) : (List.range (j + 1)).drop a = (List.range j).drop a ++ [j] := by
  rw [List.range_succ, List.drop_append_of_le_length (by simpa using h)]
theorem seg_yes {th : Nat → Bool} {vk vn : Nat → Int} {p first j : Nat} (h : first ≤ j) (ht : th j = true) : seg th vk vn p first (j + 1) = seg th vk vn p first j ++ [(p + j, (vk j, vn j))] := by
  unfold seg
  rw [drop_range_succ h, List.filterMap_append]
  simp [ht]
theorem seg_no {th : Nat → Bool} {vk vn : Nat → Int} {p first j : Nat} (h : first ≤ j) (ht : th j = false) : seg th vk vn p first (j + 1) = seg th vk vn p first j := by
  unfold seg
  rw [drop_range_succ h, List.filterMap_append]
  simp [ht]
theorem seg_first (th : Nat → Bool) (vk vn : Nat → Int) (p first : Nat) : seg th vk vn p first first = [] := by
  unfold seg
  rw [List.drop_of_length_le (by simp)]
  rfl
theorem seg_prefix {th : Nat → Bool} {vk vn : Nat → Int} {p first : Nat} {j : Nat} : ∀ {k : Nat}, first ≤ j → j ≤ k → seg th vk vn p first j <+: seg th vk vn p first k := by
  intro k h1 h2
  obtain ⟨m, rfl⟩ : ∃ m, k = j + m := ⟨k - j, by omega⟩
  clear h2
  induction m with
  | zero => exact List.prefix_refl _
  | succ m ih =>
    refine List.IsPrefix.trans ih ?_
    cases ht : th (j + m) with
    | true => rw [show j + (m + 1) = (j + m) + 1 from rfl, seg_yes (by omega) ht]; exact List.prefix_append _ _
    | false => rw [show j + (m + 1) = (j + m) + 1 from rfl, seg_no (by omega) ht]; exact List.prefix_refl _

/-- How a search ends: it went through all of the list, or was told to stop. -/
def Ends (J Jx : List (Nat × (Int × Int)) → World → Prop) (done L : List (Nat × (Int × Int))) (e : Ending) (w' : World) : Prop := ∃ o : Bool, e = .returned (.bool o) ∧ (o = true → J (done ++ L) w') ∧ (o = false → ∃ pre, pre <+: L ∧ Jx (done ++ pre) w')

theorem head_bottom (p a k : Nat) (hk : p + a = k) (hp : p < 4294967296) (hm : p % 16 = 0) (ha : a < 16) (w : World) : Calls Try.prog 62 #[.int .u32 (p : Int), .int .i64 7, .int .i64 (a : Int)] w fun e w' => e = .returned (.int .u32 (k : Int)) ∧ w' = w := by
  have := head_any 0 7 rfl p a hp (by simpa using hm) ha w
  rw [Nat.pow_zero, Nat.mul_one, hk] at this
  exact this

theorem fromL_leaf (b s : Nat) (th : Nat → Bool) (vk vn : Nat → Int) (n p low : Nat) : (Tr.leaf b s th vk vn).fromL n p low = seg th vk vn p (dg low 0) 16 := rfl

/-- The entries of a node's children from first on and below j. -/
def segs (kids : Nat → Tr) (n p low j : Nat) : List (Nat × (Int × Int)) := ((List.range j).drop (dg low (n + 1))).flatMap fun i => (kids i).fromL n (p + i * 16 ^ (n + 1)) (if i = dg low (n + 1) then low else 0)
theorem segs_step {kids : Nat → Tr} {n p low j : Nat} (h : dg low (n + 1) ≤ j) : segs kids n p low (j + 1) = segs kids n p low j ++ (kids j).fromL n (p + j * 16 ^ (n + 1)) (if j = dg low (n + 1) then low else 0) := by
  unfold segs
  rw [drop_range_succ h, List.flatMap_append]
  simp
theorem segs_first (kids : Nat → Tr) (n p low : Nat) : segs kids n p low (dg low (n + 1)) = [] := by
  unfold segs
  rw [List.drop_of_length_le (by simp)]
  rfl
theorem segs_prefix {kids : Nat → Tr} {n p low j : Nat} : ∀ {k : Nat}, dg low (n + 1) ≤ j → j ≤ k → segs kids n p low j <+: segs kids n p low k := by
  intro k h1 h2
  obtain ⟨m, rfl⟩ : ∃ m, k = j + m := ⟨k - j, by omega⟩
  clear h2
  induction m with
  | zero => exact List.prefix_refl _
  | succ m ih =>
    refine List.IsPrefix.trans ih ?_
    rw [show j + (m + 1) = (j + m) + 1 from rfl, segs_step (by omega)]
    exact List.prefix_append _ _
theorem fromL_node (b : Nat) (kids : Nat → Tr) (n p low : Nat) : (Tr.node b kids).fromL (n + 1) p low = segs kids n p low 16 := rfl

theorem Takes.kid {f : Nat} {T : Addr} {t : Tr} {J Jx : List (Nat × (Int × Int)) → World → Prop} (hT : Takes f T t J Jx) {i : Nat} (hi : i < 16) : Takes f T (t.kid i) J Jx :=
  ⟨fun d X h => (hT.lies d X h).kid hi, fun d X h => (hT.liesx d X h).kid hi, hT.draw, hT.call⟩

theorem digit_low (low : Nat) (w : World) : Calls Try.prog 65 #[.int .u32 (low : Int), .int .i64 7] w fun e w' => e = .returned (.int .i64 (dg low 0 : Int)) ∧ w' = w := digit_any 0 7 rfl low w

theorem search_nil (l : Nat) (J Jx : List (Nat × (Int × Int)) → World → Prop) (p low n : Nat) (done : List (Nat × (Int × Int))) (w : World) (h : J done w) (f : Value) :
    Calls Try.prog 71 #[.pointer none, .int .i64 (l : Int), .int .u32 (p : Int), .int .u32 (low : Int), f] w (Ends J Jx done (Tr.nil.fromL n p low)) := by
  go_enter Try.func71, Try.ntmps71
  go_wp2
  go_ret
  exact ⟨true, rfl, fun _ => by rw [show Tr.nil.fromL n p low = [] from rfl, List.append_nil]; exact h, fun e => (by cases e)⟩

theorem head_at (n l : Nat) (hl : l + (n + 1) = 7) (p a k : Nat) (hk : p + a * 16 ^ (n + 1) = k) (hp : p < 4294967296) (hm : p % 16 ^ (n + 1 + 1) = 0) (ha : a < 16) (w : World) : Calls Try.prog 62 #[.int .u32 (p : Int), .int .i64 (l : Int), .int .i64 (a : Int)] w fun e w' => e = .returned (.int .u32 (k : Int)) ∧ w' = w := by
  have := head_any (n + 1) l hl p a hp hm ha w
  rw [hk] at this
  exact this

end Go.Proofs.Ytkojgbfocdefnaa

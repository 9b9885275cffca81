import Derived.Test.YtmppgcijbeipfaaDoorTPut2
namespace Go.Proofs.YtmppgcijbeipfaaDoor
open Go.RowKit

/-- The entries from a key on, as search goes through them. -/
def Tr.fromL : Tr → Nat → Nat → Nat → List (Nat × (Int × Int))
  | .nil, _, _, _ => []
  | .node _ kids, n, p, low => ((List.range 16).drop (dg low n)).flatMap fun i => (kids i).fromL (n - 1) (p + i * 16 ^ n) (if i = dg low n then low else 0)
  | .leaf _ _ th vk vn, _, p, low => ((List.range 16).drop (dg low 0)).filterMap fun i => if th i = true then some (p + i, (vk i, vn i)) else none

theorem dg_none (n : Nat) : dg 0 n = 0 := by simp [dg]
theorem fromL_all : ∀ (t : Tr) (n p : Nat), t.fromL n p 0 = t.ents n p := by
  intro t
  induction t with
  | nil => intros; rfl
  | node b kids ih =>
    intro n p
    show ((List.range 16).drop (dg 0 n)).flatMap _ = (List.range 16).flatMap _
    rw [dg_none, List.drop_zero]
    congr 1
    funext i
    rw [← ih i]
    split <;> rfl
  | leaf b s th vk vn =>
    intro n p
    show ((List.range 16).drop (dg 0 0)).filterMap _ = (List.range 16).filterMap _
    rw [dg_none, List.drop_zero]

/-- What is asked of the function that an iterator hands its entries to: J: what holds while it goes on, by what was given; Jx: what holds once it was told to stop. -/
structure Takes (f : Nat) (T : Addr) (t : Tr) (J Jx : List (Nat × (Int × Int)) → World → Prop) : Prop where
  lies : ∀ done X, J done X → Lies X t
  liesx : ∀ done X, Jx done X → Lies X t
  draw : ∀ done X n, J done X → J done (X.drewN n)
  call : ∀ done X (k : Nat) (x y : Int), k < 4294967296 → J done X → Calls Tryd.prog f #[.pointer (some T), .int .u32 (k : Int), .agg #[.int .i64 x, .int .i64 y]] X fun e X' => ∃ o : Bool, e = .returned (.bool o) ∧ (o = true → J (done ++ [(k, (x, y))]) X') ∧ (o = false → Jx (done ++ [(k, (x, y))]) X')

theorem takes_lies {f : Nat} {T : Addr} {t : Tr} {J Jx : List (Nat × (Int × Int)) → World → Prop} (hT : Takes f T t J Jx) {d : List (Nat × (Int × Int))} {X : World} (o : Bool) (h1 : o = true → J d X) (h2 : o = false → Jx d X) : Lies X t := by
  cases o with
  | true => exact hT.lies _ _ (h1 rfl)
  | false => exact hT.liesx _ _ (h2 rfl)

/-- The entries of a shelf's places from first on and below j. -/
def seg (th : Nat → Bool) (vk vn : Nat → Int) (p first j : Nat) : List (Nat × (Int × Int)) := ((List.range j).drop first).filterMap fun i => if th i = true then some (p + i, (vk i, vn i)) else none
theorem drop_range_succ {a j : Nat} (h : a ≤ j) : (List.range (j + 1)).drop a = (List.range j).drop a ++ [j] := by
  rw [List.range_succ, List.drop_append_of_le_length (by simpa using h)]
theorem seg_yes {th : Nat → Bool} {vk vn : Nat → Int} {p first j : Nat} (h : first ≤ j) (ht : th j = true) : seg th vk vn p first (j + 1) = seg th vk vn p first j ++ [(p + j, (vk j, vn j))] := by
  unfold seg
  rw [drop_range_succ h, List.filterMap_append]
  simp [ht]
theorem seg_no {th : Nat → Bool} {vk vn : Nat → Int} {p first j : Nat} (h : first ≤ j) (ht : th j = false) : seg th vk vn p first (j + 1) = seg th vk vn p first j := by
  unfold seg
  rw [drop_range_succ h, List.filterMap_append]
  simp [ht]
theorem seg_first (th : Nat → Bool) (vk vn : Nat → Int) (p first : Nat) : seg th vk vn p first first = [] := by
  unfold seg
  rw [List.drop_of_length_le (by simp)]
  rfl
theorem seg_prefix {th : Nat → Bool} {vk vn : Nat → Int} {p first : Nat} {j : Nat} : ∀ {k : Nat}, first ≤ j → j ≤ k → seg th vk vn p first j <+: seg th vk vn p first k := by
  intro k h1 h2
  obtain ⟨m, rfl⟩ : ∃ m, k = j + m := ⟨k - j, by omega⟩
  clear h2
  induction m with
  | zero => exact List.prefix_refl _
  | succ m ih =>
    refine List.IsPrefix.trans ih ?_
    cases ht : th (j + m) with
    | true => rw [show j + (m + 1) = (j + m) + 1 from rfl, seg_yes (by omega) ht]; exact List.prefix_append _ _
    | false => rw [show j + (m + 1) = (j + m) + 1 from rfl, seg_no (by omega) ht]; exact List.prefix_refl _

/-- How a search ends: it went through all of the list, or was told to stop. -/
def Ends (J Jx : List (Nat × (Int × Int)) → World → Prop) (done L : List (Nat × (Int × Int))) (e : Ending) (w' : World) : Prop := ∃ o : Bool, e = .returned (.bool o) ∧ (o = true → J (done ++ L) w') ∧ (o = false → ∃ pre, pre <+: L ∧ Jx (done ++ pre) w')

theorem head_bottom (p a k : Nat) (hk : p + a = k) (hp : p < 4294967296) (hm : p % 16 = 0) (ha : a < 16) (w : World) : Calls Tryd.prog 56 #[.int .u32 (p : Int), .int .i64 7, .int .i64 (a : Int)] w fun e w' => e = .returned (.int .u32 (k : Int)) ∧ w' = w := by
  have := head_any 0 7 rfl p a hp (by simpa using hm) ha w
  rw [Nat.pow_zero, Nat.mul_one, hk] at this
  exact this

set_option maxRecDepth 4000 in
set_option maxHeartbeats 1000000 in
theorem shelf_search (T : Addr) (b s : Nat) (th : Nat → Bool) (vk vn : Nat → Int) (J Jx : List (Nat × (Int × Int)) → World → Prop) (hT : Takes 38 T (.leaf b s th vk vn) J Jx) (p first : Nat) (hf : first ≤ 16) (hp : p + 16 ≤ 4294967296) (hm : p % 16 = 0) (done : List (Nat × (Int × Int))) (w : World) (h : J done w) :
    Calls Tryd.prog 55 #[.pointer (some ⟨s, 0, none⟩), .int .u32 (p : Int), .int .i64 (first : Int), .func (.func 38) #[.pointer (some T)] #[]] w (Ends J Jx done (seg th vk vn p first 16)) := by
  go_enter Tryd.func55, Tryd.ntmps55
  go_wp2
  go_loopw [9] (fun x wr => ∃ j : Nat, first ≤ j ∧ j ≤ 16 ∧ x = .int .i64 j ∧ J (done ++ seg th vk vn p first j) wr) (fun x _ => 16 - (intOf x).toNat)
  case atStart => exact ⟨first, Nat.le_refl _, hf, rfl, by rw [seg_first, List.append_nil]; exact h⟩
  case round =>
    obtain ⟨j, hj1, hj2, rfl, hJ⟩ := hrel
    clear h
    by_cases hlt : j < 16
    · have hlt' : (j : Int) < 16 := by omega
      have hj0 : (0 : Int) ≤ (j : Int) := by omega
      have hS := (hT.lies _ _ hJ).2
      have c0 := hS.th hlt
      have c1 := (hS.val hlt).1
      have c2 := (hS.val hlt).2
      cases ht : th j with
      | false =>
        rw [ht] at c0
        go_wp2
        go_quiet (fail)
        go_wp2
        go_roundw
        case rel => exact ⟨j + 1, by omega, by omega, by go_num, by rw [seg_no hj1 ht]; exact hT.draw _ _ _ hJ⟩
        case measure => simp [intOf]; omega
      | true =>
        rw [ht] at c0
        have hJ1 : J (done ++ seg th vk vn p first j) wr.drew := hT.draw _ _ 1 hJ
        obtain ⟨k, hk⟩ : ∃ k, p + j = k := ⟨_, rfl⟩
        have hyes := seg_yes (vk := vk) (vn := vn) (p := p) hj1 ht
        rw [hk] at hyes
        have hk32 : k < 4294967296 := by omega
        have hcl := hT.call _ _ k (vk j) (vn j) hk32 hJ1
        have hhd := head_bottom p j k hk (by omega) hm hlt
        have hYes : Hid (seg th vk vn p first (j + 1) = seg th vk vn p first j ++ [(k, (vk j, vn j))]) := hyes
        clear hyes hk
        go_wp2
        have hS1 : wr.drew.cell? ⟨s, j, none⟩ = some (.bool true) ∧ wr.drew.cell? ⟨s, 16 + j * 2, none⟩ = some (.int .i64 (vk j)) ∧ wr.drew.cell? ⟨s, 16 + j * 2 + 1, none⟩ = some (.int .i64 (vn j)) := ⟨c0, c1, c2⟩
        go_region_held3 (fun X => X.cell? ⟨s, j, none⟩ = some (.bool true) ∧ X.cell? ⟨s, 16 + j * 2, none⟩ = some (.int .i64 (vk j)) ∧ X.cell? ⟨s, 16 + j * 2 + 1, none⟩ = some (.int .i64 (vn j))) (with_reducible assumption)
          (first | (go_at_call 56; refine (hhd _).mono ?_; rintro e w4 ⟨rfl, rfl⟩) | (go_at_call 38; refine hcl.mono ?_; rintro e w5 ⟨o, rfl, hJ5, hX5⟩; have hL5 := takes_lies hT o hJ5 hX5; have hS5 : w5.cell? ⟨s, j, none⟩ = some (.bool true) ∧ w5.cell? ⟨s, 16 + j * 2, none⟩ = some (.int .i64 (vk j)) ∧ w5.cell? ⟨s, 16 + j * 2 + 1, none⟩ = some (.int .i64 (vn j)) := ⟨by rw [← ht]; exact hL5.2.th hlt, (hL5.2.val hlt).1, (hL5.2.val hlt).2⟩))
        rw [List.append_assoc, ← hYes.out] at hJ5 hX5
        cases o with
        | true =>
          have hJ6 := hJ5 rfl
          clear hJ5 hX5
          go_wp2
          go_roundw
          case rel => exact ⟨j + 1, by omega, by omega, by go_num, hJ6⟩
          case measure => simp [intOf]; omega
        | false =>
          have hX6 := hX5 rfl
          clear hJ5 hX5
          go_wp2
          go_ret
          exact ⟨false, rfl, fun e => (by cases e), fun _ => ⟨_, seg_prefix (by omega) (by omega), hX6⟩⟩
    · obtain rfl : j = 16 := by omega
      go_wp2
      go_ret
      exact ⟨true, rfl, fun _ => hJ, fun e => (by cases e)⟩

theorem fromL_leaf (b s : Nat) (th : Nat → Bool) (vk vn : Nat → Int) (n p low : Nat) : (Tr.leaf b s th vk vn).fromL n p low = seg th vk vn p (dg low 0) 16 := rfl

/-- The entries of a node's children from first on and below j. -/
def segs (kids : Nat → Tr) (n p low j : Nat) : List (Nat × (Int × Int)) := ((List.range j).drop (dg low (n + 1))).flatMap fun i => (kids i).fromL n (p + i * 16 ^ (n + 1)) (if i = dg low (n + 1) then low else 0)
theorem segs_step {kids : Nat → Tr} {n p low j : Nat} (h : dg low (n + 1) ≤ j) : segs kids n p low (j + 1) = segs kids n p low j ++ (kids j).fromL n (p + j * 16 ^ (n + 1)) (if j = dg low (n + 1) then low else 0) := by
  unfold segs
  rw [drop_range_succ h, List.flatMap_append]
  simp
theorem segs_first (kids : Nat → Tr) (n p low : Nat) : segs kids n p low (dg low (n + 1)) = [] := by
  unfold segs
  rw [List.drop_of_length_le (by simp)]
  rfl
theorem segs_prefix {kids : Nat → Tr} {n p low j : Nat} : ∀ {k : Nat}, dg low (n + 1) ≤ j → j ≤ k → segs kids n p low j <+: segs kids n p low k := by
  intro k h1 h2
  obtain ⟨m, rfl⟩ : ∃ m, k = j + m := ⟨k - j, by omega⟩
  clear h2
  induction m with
  | zero => exact List.prefix_refl _
  | succ m ih =>
    refine List.IsPrefix.trans ih ?_
    rw [show j + (m + 1) = (j + m) + 1 from rfl, segs_step (by omega)]
    exact List.prefix_append _ _
theorem fromL_node (b : Nat) (kids : Nat → Tr) (n p low : Nat) : (Tr.node b kids).fromL (n + 1) p low = segs kids n p low 16 := rfl

theorem Takes.kid {f : Nat} {T : Addr} {t : Tr} {J Jx : List (Nat × (Int × Int)) → World → Prop} (hT : Takes f T t J Jx) {i : Nat} (hi : i < 16) : Takes f T (t.kid i) J Jx :=
  ⟨fun d X h => (hT.lies d X h).kid hi, fun d X h => (hT.liesx d X h).kid hi, hT.draw, hT.call⟩

theorem digit_low (low : Nat) (w : World) : Calls Tryd.prog 33 #[.int .u32 (low : Int), .int .i64 7] w fun e w' => e = .returned (.int .i64 (dg low 0 : Int)) ∧ w' = w := digit_any 0 7 rfl low w

set_option maxRecDepth 4000 in
set_option maxHeartbeats 1000000 in
theorem search_down (T : Addr) (t : Tr) (hw : t.wf 0) (J Jx : List (Nat × (Int × Int)) → World → Prop) (hT : Takes 38 T t J Jx) (p low : Nat) (hp : p + 16 ≤ 4294967296) (hm : p % 16 = 0) (done : List (Nat × (Int × Int))) (w : World) (h : J done w) :
    Calls Tryd.prog 50 #[t.ptr, .int .i64 7, .int .u32 (p : Int), .int .u32 (low : Int), .func (.func 38) #[.pointer (some T)] #[]] w (Ends J Jx done (t.fromL 0 p low)) := by
  cases t with
  | nil =>
    have hq : Tr.nil.ptr = .pointer none := rfl
    go_enter Tryd.func50, Tryd.ntmps50
    go_wp2
    go_ret
    exact ⟨true, rfl, fun _ => by rw [show Tr.nil.fromL 0 p low = [] from rfl, List.append_nil]; exact h, fun e => (by cases e)⟩
  | node b kids => exact absurd hw.1 (by omega)
  | leaf b s th vk vn =>
    have hq : (Tr.leaf b s th vk vn).ptr = .pointer (some ⟨b, 0, none⟩) := rfl
    have c0 := (hT.lies _ _ h).1.shelf
    have hd := dg_lt low 0
    have hss := shelf_search T b s th vk vn J Jx hT p (dg low 0) (by omega) hp hm done w.drew (hT.draw _ _ 1 h)
    go_enter Tryd.func50, Tryd.ntmps50
    go_wp2
    go_region_with (first | (go_at_call 33; refine (digit_low low _).mono ?_; rintro e w4 ⟨rfl, rfl⟩) | (go_at_call 55; refine hss.mono ?_; rintro e w5 ⟨o, rfl, hJ5, hX5⟩))
    all_goals
      have hE : Ends J Jx done ((Tr.leaf b s th vk vn).fromL 0 p low) (.returned (.bool o)) w5 := ⟨o, rfl, hJ5, hX5⟩
      clear hJ5 hX5
      go_wp2
      exact bodyPost_ret (v := .bool o) (by simp [results, Tryd.results50, go_sem]) rfl hE

theorem search_nil (l : Nat) (J Jx : List (Nat × (Int × Int)) → World → Prop) (p low n : Nat) (done : List (Nat × (Int × Int))) (w : World) (h : J done w) (f : Value) :
    Calls Tryd.prog 50 #[.pointer none, .int .i64 (l : Int), .int .u32 (p : Int), .int .u32 (low : Int), f] w (Ends J Jx done (Tr.nil.fromL n p low)) := by
  go_enter Tryd.func50, Tryd.ntmps50
  go_wp2
  go_ret
  exact ⟨true, rfl, fun _ => by rw [show Tr.nil.fromL n p low = [] from rfl, List.append_nil]; exact h, fun e => (by cases e)⟩

theorem head_at (n l : Nat) (hl : l + (n + 1) = 7) (p a k : Nat) (hk : p + a * 16 ^ (n + 1) = k) (hp : p < 4294967296) (hm : p % 16 ^ (n + 1 + 1) = 0) (ha : a < 16) (w : World) : Calls Tryd.prog 56 #[.int .u32 (p : Int), .int .i64 (l : Int), .int .i64 (a : Int)] w fun e w' => e = .returned (.int .u32 (k : Int)) ∧ w' = w := by
  have := head_any (n + 1) l hl p a hp hm ha w
  rw [hk] at this
  exact this

end Go.Proofs.YtmppgcijbeipfaaDoor

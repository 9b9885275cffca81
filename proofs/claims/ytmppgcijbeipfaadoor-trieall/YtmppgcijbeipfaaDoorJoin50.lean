import Derived.Test.YtmppgcijbeipfaaDoorJoin49
import Derived.Test.YtmppgcijbeipfaaDoorTOne2
import Derived.RangeFuncWrites
import Derived.Test.YtmppgcijbeipfaaDoorTChange
namespace Go.Proofs.YtmppgcijbeipfaaDoor
open Go.RowKit

theorem TakesY.kid {yl : Nat} {t : Tr} {J Jx : List (Nat × (Int × Int)) → World → Prop} (hT : TakesY yl t J Jx) {i : Nat} (hi : i < 16) : TakesY yl (t.kid i) J Jx :=
  ⟨fun d X h => (hT.lies d X h).kid hi, fun d X h => (hT.liesx d X h).kid hi, hT.draw, hT.call⟩
theorem takesY_ends {yl : Nat} {t : Tr} {J Jx : List (Nat × (Int × Int)) → World → Prop} (hT : TakesY yl t J Jx) {d d' L : List (Nat × (Int × Int))} {X : World} (o : Bool) (h1 : o = true → J d X) (h2 : o = false → ∃ pre, pre <+: L ∧ Jx (d' ++ pre) X) : Lies X t := by
  cases o with
  | true => exact hT.lies _ _ (h1 rfl)
  | false =>
    obtain ⟨pre, -, h⟩ := h2 rfl
    exact hT.liesx _ _ h

theorem search_downY (yl : Nat) (t : Tr) (hw : t.wf 0) (J Jx : List (Nat × (Int × Int)) → World → Prop) (hT : TakesY yl t J Jx) (p low : Nat) (hp : p + 16 ≤ 4294967296) (hm : p % 16 = 0) (done : List (Nat × (Int × Int))) (w : World) (h : J done w) :
    Calls Tryd.prog 50 #[t.ptr, .int .i64 7, .int .u32 (p : Int), .int .u32 (low : Int), .func (.yield yl) #[] #[]] w (Ends J Jx done (t.fromL 0 p low)) := by
  cases t with
  | nil =>
    have hq : Tr.nil.ptr = .pointer none := rfl
    go_enter Tryd.func50, Tryd.ntmps50
    go_wp2
    go_ret
    exact ⟨true, rfl, fun _ => by rw [show Tr.nil.fromL 0 p low = [] from rfl, List.append_nil]; exact h, fun e => (by cases e)⟩
  | node b kids => exact absurd hw.1 (by omega)
  | leaf b s th vk vn =>
    have hq : (Tr.leaf b s th vk vn).ptr = .pointer (some ⟨b, 0, none⟩) := rfl
    have c0 := (hT.lies _ _ h).1.shelf
    have hd := dg_lt low 0
    have hss := shelf_searchY yl b s th vk vn J Jx hT p (dg low 0) (by omega) hp hm done w.drew (hT.draw _ _ 1 h)
    go_enter Tryd.func50, Tryd.ntmps50
    go_wp2
    go_region_with (first | (go_at_call 33; refine (digit_low low _).mono ?_; rintro e w4 ⟨rfl, rfl⟩) | (go_at_call 55; refine hss.mono ?_; rintro e w5 ⟨o, rfl, hJ5, hX5⟩))
    all_goals
      have hE : Ends J Jx done ((Tr.leaf b s th vk vn).fromL 0 p low) (.returned (.bool o)) w5 := ⟨o, rfl, hJ5, hX5⟩
      clear hJ5 hX5
      go_wp2
      exact bodyPost_ret (v := .bool o) (by simp [results, Tryd.results50, go_sem]) rfl hE


theorem search_upY (yl : Nat) (n l : Nat) (hn : l + (n + 1) = 7) (J Jx : List (Nat × (Int × Int)) → World → Prop)
    (ih : ∀ (t : Tr), t.wf n → TakesY yl t J Jx → ∀ (p low : Nat), p + 16 ^ (n + 1) ≤ 4294967296 → p % 16 ^ (n + 1) = 0 → ∀ (done : List (Nat × (Int × Int))) (w : World), J done w →
      Calls Tryd.prog 50 #[t.ptr, .int .i64 ((l + 1 : Nat) : Int), .int .u32 (p : Int), .int .u32 (low : Int), .func (.yield yl) #[] #[]] w (Ends J Jx done (t.fromL n p low)))
    (b : Nat) (kids : Nat → Tr) (hw : (Tr.node b kids).wf (n + 1)) (hT : TakesY yl (.node b kids) J Jx) (p low : Nat) (hp : p + 16 ^ (n + 1 + 1) ≤ 4294967296) (hm : p % 16 ^ (n + 1 + 1) = 0) (done : List (Nat × (Int × Int))) (w : World) (h : J done w) :
    Calls Tryd.prog 50 #[.pointer (some ⟨b, 0, none⟩), .int .i64 (l : Int), .int .u32 (p : Int), .int .u32 (low : Int), .func (.yield yl) #[] #[]] w (Ends J Jx done ((Tr.node b kids).fromL (n + 1) p low)) := by
  have hl7 : ((l : Int) == 7) = false := by simp; omega
  have hd := dg_lt low (n + 1)
  go_enter Tryd.func50, Tryd.ntmps50
  go_wp2_with (go_at_call 33; refine (digit_any (n + 1) l hn low _).mono ?_; rintro e w4 ⟨rfl, rfl⟩)
  go_loopw [3, 12] (fun lo x wr => ∃ j z : Nat, dg low (n + 1) ≤ j ∧ j ≤ 16 ∧ x = .int .i64 j ∧ lo = .int .u32 z ∧ (j = dg low (n + 1) → z = low) ∧ J (done ++ segs kids n p low j) wr) (fun _ x _ => 16 - (intOf x).toNat)
  case atStart => exact ⟨dg low (n + 1), low, Nat.le_refl _, by omega, rfl, rfl, fun _ => rfl, by rw [segs_first, List.append_nil]; exact h⟩
  case round =>
    obtain ⟨j, z, hj1, hj2, rfl, rfl, hz, hJ⟩ := hrel
    clear h
    by_cases hlt : j < 16
    · have hlt' : (j : Int) < 16 := by omega
      have hj0 : (0 : Int) ≤ (j : Int) := by omega
      have hJ1 : J (done ++ segs kids n p low j) wr.drew := hT.draw _ _ 1 hJ
      have c0 := (hT.lies _ _ hJ1).1.kid hlt
      obtain ⟨u, hu⟩ := ptr_pointer (kids j)
      rw [hu] at c0
      obtain ⟨k, hk⟩ : ∃ k, p + j * 16 ^ (n + 1) = k := ⟨_, rfl⟩
      have h16 : 16 ^ (n + 1 + 1) = 16 ^ (n + 1) * 16 := Nat.pow_succ 16 (n + 1)
      have hjm : j * 16 ^ (n + 1) ≤ 15 * 16 ^ (n + 1) := Nat.mul_le_mul_right _ (by omega)
      have hkb : k + 16 ^ (n + 1) ≤ 4294967296 := by omega
      have hkm : k % 16 ^ (n + 1) = 0 := by
        rw [← hk, Nat.add_mul_mod_self_right, ← Nat.mod_mod_of_dvd p ⟨16, h16⟩, hm, Nat.zero_mod]
      have hhd := head_at n l hn p j k hk (by omega) hm hlt
      have hstep := segs_step (kids := kids) (p := p) hj1
      rw [hk] at hstep
      have hwr : IntKind.i64.wrap ((l : Int) + 1) = (l : Int) + 1 := by rw [IntKind.wrap_i64]; omega
      by_cases hjf : j = dg low (n + 1)
      · obtain rfl := hz hjf
        rw [if_pos hjf] at hstep
        have hg : ¬ (dg z (n + 1) : Int) < (j : Int) := by omega
        have hcl := ih (kids j) (hw.2.1 j hlt) (hT.kid (i := j) hlt) k z hkb hkm _ _ hJ1
        rw [hu, show (((l + 1 : Nat)) : Int) = (l : Int) + 1 from by omega] at hcl
        have hStep : Hid (segs kids n p z (j + 1) = segs kids n p z j ++ (kids j).fromL n k z) := hstep
        clear hstep hz hk hkm hkb hjm h16 hjf
        go_wp2
        go_region_held3 (fun X => X.cell? ⟨b, j, none⟩ = some (.pointer u)) (with_reducible assumption)
          (first | (go_at_call 56; refine (hhd _).mono ?_; rintro e w4 ⟨rfl, rfl⟩) | (go_at_call 50; refine hcl.mono ?_; rintro e w5 ⟨o, rfl, hJ5, hX5⟩; have hS5 : w5.cell? ⟨b, j, none⟩ = some (.pointer u) := by { rw [← hu]; exact (takesY_ends hT o hJ5 hX5).1.kid hlt }))
        rw [List.append_assoc, ← hStep.out] at hJ5
        cases o with
        | true =>
          have hJ6 := hJ5 rfl
          clear hJ5 hX5
          go_wp2
          go_roundw
          case rel => exact ⟨j + 1, z, by omega, by omega, by go_num, rfl, fun e => by omega, hJ6⟩
          case measure => simp [intOf]; omega
        | false =>
          obtain ⟨pre, hp5, hX6⟩ := hX5 rfl
          clear hJ5 hX5
          rw [List.append_assoc] at hX6
          have hq1 : segs kids n p z j ++ pre <+: segs kids n p z (j + 1) := by rw [hStep.out]; exact (List.prefix_append_right_inj _).2 hp5
          have hE : Ends J Jx done ((Tr.node b kids).fromL (n + 1) p z) (.returned (.bool false)) w5 := ⟨false, rfl, fun e => (by cases e), fun _ => ⟨_, List.IsPrefix.trans hq1 (segs_prefix (by omega) (by omega)), hX6⟩⟩
          clear hp5 hX6 hq1
          go_wp2
          go_ret
          exact hE
      · have hg : (dg low (n + 1) : Int) < (j : Int) := by omega
        rw [if_neg hjf] at hstep
        have hcl := ih (kids j) (hw.2.1 j hlt) (hT.kid (i := j) hlt) k 0 hkb hkm _ _ hJ1
        rw [hu, show (((l + 1 : Nat)) : Int) = (l : Int) + 1 from by omega, show (((0 : Nat)) : Int) = 0 from rfl] at hcl
        have hStep : Hid (segs kids n p low (j + 1) = segs kids n p low j ++ (kids j).fromL n k 0) := hstep
        clear hstep hz hk hkm hkb hjm h16
        go_wp2
        go_region_held3 (fun X => X.cell? ⟨b, j, none⟩ = some (.pointer u)) (with_reducible assumption)
          (first | (go_at_call 56; refine (hhd _).mono ?_; rintro e w4 ⟨rfl, rfl⟩) | (go_at_call 50; refine hcl.mono ?_; rintro e w5 ⟨o, rfl, hJ5, hX5⟩; have hS5 : w5.cell? ⟨b, j, none⟩ = some (.pointer u) := by { rw [← hu]; exact (takesY_ends hT o hJ5 hX5).1.kid hlt }))
        rw [List.append_assoc, ← hStep.out] at hJ5
        cases o with
        | true =>
          have hJ6 := hJ5 rfl
          clear hJ5 hX5
          go_wp2
          go_roundw
          case rel => exact ⟨j + 1, 0, by omega, by omega, by go_num, rfl, fun e => by omega, hJ6⟩
          case measure => simp [intOf]; omega
        | false =>
          obtain ⟨pre, hp5, hX6⟩ := hX5 rfl
          clear hJ5 hX5
          rw [List.append_assoc] at hX6
          have hq1 : segs kids n p low j ++ pre <+: segs kids n p low (j + 1) := by rw [hStep.out]; exact (List.prefix_append_right_inj _).2 hp5
          have hE : Ends J Jx done ((Tr.node b kids).fromL (n + 1) p low) (.returned (.bool false)) w5 := ⟨false, rfl, fun e => (by cases e), fun _ => ⟨_, List.IsPrefix.trans hq1 (segs_prefix (by omega) (by omega)), hX6⟩⟩
          clear hp5 hX6 hq1
          go_wp2
          go_ret
          exact hE
    · obtain rfl : j = 16 := by omega
      go_wp2
      go_ret
      exact ⟨true, rfl, fun _ => hJ, fun e => (by cases e)⟩


theorem search_anyY (yl : Nat) (J Jx : List (Nat × (Int × Int)) → World → Prop) : ∀ (n l : Nat), l + n = 7 → ∀ (t : Tr), t.wf n → TakesY yl t J Jx → ∀ (p low : Nat), p + 16 ^ (n + 1) ≤ 4294967296 → p % 16 ^ (n + 1) = 0 → ∀ (done : List (Nat × (Int × Int))) (w : World), J done w →
      Calls Tryd.prog 50 #[t.ptr, .int .i64 (l : Int), .int .u32 (p : Int), .int .u32 (low : Int), .func (.yield yl) #[] #[]] w (Ends J Jx done (t.fromL n p low))
  | 0, l, hl, t, hw, hT, p, low, hp, hm, done, w, h => by
    obtain rfl : l = 7 := by omega
    exact search_downY yl t hw J Jx hT p low hp hm done w h
  | n + 1, l, hl, t, hw, hT, p, low, hp, hm, done, w, h => by
    cases t with
    | nil => exact search_nil l J Jx p low (n + 1) done w h _
    | node b kids => exact search_upY yl n l hl J Jx (fun t hw hT p low => search_anyY yl J Jx n (l + 1) (by omega) t hw hT p low) b kids hw hT p low hp hm done w h
    | leaf => exact absurd hw.1 (by omega)


/-- An iterator over the keys below a node of some level. -/
def IterG (W : World) (b : Nat) (t : Tr) (l p low : Nat) : Prop := b + 1 + 1 + 1 < W.heap.size ∧ W.cell? ⟨b, 0, none⟩ = some t.ptr ∧ W.cell? ⟨b + 1, 0, none⟩ = some (.int .i64 (l : Int)) ∧ W.cell? ⟨b + 1 + 1, 0, none⟩ = some (.int .u32 (p : Int)) ∧ W.cell? ⟨b + 1 + 1 + 1, 0, none⟩ = some (.int .u32 (low : Int))
theorem IterG.later {W W' : World} {b : Nat} {t : Tr} {l p low : Nat} (h : IterG W b t l p low) (hb : Below W.heap.size W W') : IterG W' b t l p low := by
  obtain ⟨h0, h1, h2, h3, h4⟩ := h
  exact ⟨Nat.lt_of_lt_of_le h0 hb.size, (hb.cell (p := ⟨b, 0, none⟩) (by simp; omega)).trans h1, (hb.cell (p := ⟨b + 1, 0, none⟩) (by simp; omega)).trans h2, (hb.cell (p := ⟨b + 1 + 1, 0, none⟩) (by simp; omega)).trans h3, (hb.cell (p := ⟨b + 1 + 1 + 1, 0, none⟩) (by simp; omega)).trans h4⟩
theorem iterG_new (w : World) (t : Tr) (u : Option Addr) (hu : t.ptr = .pointer u) (l p low : Nat) (t1 t2 t3 t4 : TypeId) : IterG ((((w.alloc (.cells #[.pointer u] t1)).alloc (.cells #[.int .i64 (l : Int)] t2)).alloc (.cells #[.int .u32 (p : Int)] t3)).alloc (.cells #[.int .u32 (low : Int)] t4)) w.heap.size t l p low ∧ Below w.heap.size w ((((w.alloc (.cells #[.pointer u] t1)).alloc (.cells #[.int .i64 (l : Int)] t2)).alloc (.cells #[.int .u32 (p : Int)] t3)).alloc (.cells #[.int .u32 (low : Int)] t4)) := by
  refine ⟨⟨by simp only [szA]; omega, ?_, ?_, ?_, ?_⟩, ((((Below.refl w.heap.size w).alloc (Nat.le_refl _) _).alloc (by simp only [szA]; omega) _).alloc (by simp only [szA]; omega) _).alloc (by simp only [szA]; omega) _⟩
  · rw [cell_old _ _ _ (by simp only [szA]; omega), cell_old _ _ _ (by simp only [szA]; omega), cell_old _ _ _ (by simp only [szA]; omega), cell_new1 _ _ _ _ rfl, hu]
  · rw [cell_old _ _ _ (by simp only [szA]; omega), cell_old _ _ _ (by simp only [szA]; omega), cell_new1 _ _ _ _ (by simp only [szA])]
  · rw [cell_old _ _ _ (by simp only [szA]; omega), cell_new1 _ _ _ _ (by simp only [szA])]
  · rw [cell_new1 _ _ _ _ (by simp only [szA])]

/-- from, of a node at some level. -/
theorem from_node (t : Tr) (u : Option Addr) (hu : t.ptr = .pointer u) (l p low : Nat) (w : World) : Calls Tryd.prog 39 #[.pointer u, .int .i64 (l : Int), .int .u32 (p : Int), .int .u32 (low : Int)] w fun e w' => e = .returned (iterV w.heap.size) ∧ IterG w' w.heap.size t l p low ∧ Below w.heap.size w w' := by
  go_enter Tryd.func39, Tryd.ntmps39
  go_wp2
  go_ret
  have := iterG_new w t u hu l p low 70 3 27 27
  exact ⟨rfl, this.1, this.2⟩

set_option maxRecDepth 4000 in
set_option maxHeartbeats 1000000 in
/-- The iterator, over the body of a range. -/
theorem from1Y (yl b n l : Nat) (hl : l + n = 7) (t : Tr) (hw : t.wf n) (p low : Nat) (hp : p + 16 ^ (n + 1) ≤ 4294967296) (hm : p % 16 ^ (n + 1) = 0) (J Jx : List (Nat × (Int × Int)) → World → Prop) (hT : TakesY yl t J Jx) (w : World) (hI : IterG w b t l p low) (h : J [] w) :
    Calls Tryd.prog 49 #[.func (.yield yl) #[] #[], .pointer (some ⟨b, 0, none⟩), .pointer (some ⟨b + 1, 0, none⟩), .pointer (some ⟨b + 1 + 1, 0, none⟩), .pointer (some ⟨b + 1 + 1 + 1, 0, none⟩)] w fun e w' => e = .returned (.tuple #[]) ∧ (J (t.fromL n p low) w' ∨ ∃ pre, pre <+: t.fromL n p low ∧ Jx pre w') := by
  obtain ⟨-, c0, c1, c2, c3⟩ := hI
  obtain ⟨u, hu⟩ := ptr_pointer t
  rw [hu] at c0
  have hs := search_anyY yl J Jx n l hl t hw hT p low hp hm [] w h
  rw [hu] at hs
  go_enter Tryd.func49, Tryd.ntmps49
  go_wp2_with (go_at_call 50; refine hs.mono ?_; rintro e w5 ⟨o, rfl, hJ5, hX5⟩)
  go_end0
  refine ⟨rfl, ?_⟩
  cases o with
  | true => exact .inl (by simpa using hJ5)
  | false =>
    obtain ⟨pre, hp, hx⟩ := hX5 (by first | rfl | trivial)
    exact .inr ⟨pre, hp, by simpa using hx⟩

end Go.Proofs.YtmppgcijbeipfaaDoor


namespace Go.Proofs.YtmppgcijbeipfaaDoor
open Go.RowKit Go.Shelf

/-- What a statement's own book-keeping may turn: a block from B on that is no cells. -/
def StepB (B : Nat) (X Y : World) : Prop := ∃ row, X.grownBy Y row ∧ ∀ r, row = some r → B ≤ r ∧ ∃ o : Obj, X.heap[r]? = some o ∧ o.isCells = false
theorem stepB_put {B l : Nat} {X : World} {o : Obj} (o' : Obj) (hl : B ≤ l) (h : X.heap[l]? = some o) (hc : o.isCells = false) : StepB B X (X.putObj l o') :=
  ⟨some l, grownBy_putObj' X l o', fun r e => by cases e; exact ⟨hl, o, h, hc⟩⟩
theorem stepB_alloc (B : Nat) (X : World) (o : Obj) : StepB B X (X.alloc o) := ⟨none, World.grownBy_alloc X o none, fun r e => by cases e⟩
theorem stepB_below (B : Nat) {X Y : World} (h : Below X.heap.size X Y) : StepB B X Y := ⟨none, grown_of_belowB h, fun r e => by cases e⟩
theorem StepB.mono {B B' : Nat} {X Y : World} (h : StepB B X Y) (hb : B' ≤ B) : StepB B' X Y := by
  obtain ⟨row, hg, hr⟩ := h
  exact ⟨row, hg, fun r e => ⟨Nat.le_trans hb (hr r e).1, (hr r e).2⟩⟩
theorem StepB.below {B : Nat} {W X Y : World} (h : StepB B X Y) (hW : Below B W X) (hB : B ≤ X.heap.size) : Below B W Y := by
  obtain ⟨row, hg, hr⟩ := h
  exact hW.grown hg hB (fun k e => (hr k e).1)

theorem lies_off {W : World} {r : Nat} {o : Obj} (ho : W.heap[r]? = some o) (hc : o.isCells = false) : ∀ {t : Tr}, Lies W t → t.avoid r := by
  have key : ∀ {c : Nat} {cs : Array Value} {ty : TypeId} {z : Nat × Nat}, W.heap[c]? = some (.cells cs ty z) → c ≠ r := by
    intro c cs ty z h e
    subst e
    rw [h] at ho
    rw [← Option.some.inj ho] at hc
    cases hc
  intro t
  induction t with
  | nil => intro _; trivial
  | node c kids ih => intro h; exact ⟨key h.1, fun i hi => ih i (h.2 i hi)⟩
  | leaf c s th vk vn => intro h; exact ⟨key h.1, key h.2⟩
theorem lies_stepB {B : Nat} {X Y : World} {t : Tr} (h : Lies X t) (hs : StepB B X Y) : Lies Y t := by
  obtain ⟨row, hg, hr⟩ := hs
  exact lies_grown hg h (fun r e => by obtain ⟨-, o, h1, h2⟩ := hr r e; exact lies_off h1 h2 h)

theorem cell_stepB {B : Nat} {X Y : World} {p : Addr} {v : Value} (h : X.cell? p = some v) (hs : StepB B X Y) : Y.cell? p = some v := by
  obtain ⟨row, hg, hr⟩ := hs
  exact cell_kept h hg (fun r e => (hr r e).2)
theorem frozen_stepB {B : Nat} {X Y : World} {p : Addr} {v : Value} (h : X.cell? p = some v) (hf : X.frozen? p = false) (hs : StepB B X Y) : Y.frozen? p = false := by
  obtain ⟨row, hg, hr⟩ := hs
  exact (frozen_kept h hg (fun r e => (hr r e).2)).trans hf

/-- How a round is left: it goes on, or the function is left. -/
def entPost (B : Nat) (I Ix : List (Nat × (Int × Int)) → World → Prop) (xs : List (Nat × (Int × Int))) (W : World) : Exit → Act → World → Prop
  | .normal, _, W' => KeepsFrom B W W' ∧ I xs W'
  | .ret, _, W' => KeepsFrom B W W' ∧ Ix xs W'
  | _, _, _ => False

theorem roundIn_depth {n m : Nat} {P : Program} {l : Nat} {f : FuncId} {tmps : Array Value} {assign body : Code} {w : World} {R : Ending → World → Prop} (h : RoundIn Fence.wide n P l f tmps assign body w R) : RoundIn Fence.wide m P l f tmps assign body w R :=
  ⟨h.1, fun c cs _ => h.2 c cs (room_wide _)⟩

set_option maxHeartbeats 1000000 in
/-- The statement 'for id, v := range entries', of an iterator over a node; its body may leave the function. -/
theorem range_ents {n : Nat} {g : Operand} {ps : Array Tmp} {assign body : Code} {Q : Exit → Act → World → Prop} {a : Act} {w : World} (b N l : Nat) (hl : l + N = 7) (t : Tr) (hw : t.wf N) (p : Nat) (hp : p + 16 ^ (N + 1) ≤ 4294967296) (hm : p % 16 ^ (N + 1) = 0)
    (hg : a.eval g = .func (.func 49) #[] #[.pointer (some ⟨b, 0, none⟩), .pointer (some ⟨b + 1, 0, none⟩), .pointer (some ⟨b + 1 + 1, 0, none⟩), .pointer (some ⟨b + 1 + 1 + 1, 0, none⟩)]) (hps : ps.size = 2) (I Ix : List (Nat × (Int × Int)) → World → Prop)
    (hI : ∀ pre X Y, I pre X → StepB w.heap.size X Y → I pre Y) (hIx : ∀ pre X Y, Ix pre X → StepB w.heap.size X Y → Ix pre Y) (hLi : ∀ pre X, I pre X → Lies X t) (hLx : ∀ pre X, Ix pre X → Lies X t)
    (hG : IterG w b t l p 0) (h0 : I [] w) (Ax : Nat × (Int × Int) → Act → World → Prop) (hAx : ∀ x a' X Y, Ax x a' X → StepB w.heap.size X Y → Ax x a' Y)
    (hassign : ∀ (l : Nat) (pre : List (Nat × (Int × Int))) (x : Nat × (Int × Int)) (W : World) (K : Act → World → Prop), x.1 < 4294967296 → I pre W → (∀ a' W', KeepsFrom w.heap.size W W' → I pre W' → Ax x a' W' → K a' W') → assign.wpIn (Fence.wide.inRound l) 3 Tryd.prog (Exit.then K (fun _ _ _ => False)) { tmps := (ps.zip (encE x.1 x.2.1 x.2.2)).foldl (fun t (p, v) => t.setIfInBounds p v) a.tmps, defers := [] } W)
    (hbody : ∀ (l : Nat) (pre : List (Nat × (Int × Int))) (x : Nat × (Int × Int)) (a' : Act) (W : World), x.1 < 4294967296 → I pre W → Ax x a' W → body.wpIn (Fence.wide.inRound l) 3 Tryd.prog (entPost w.heap.size I Ix (pre ++ [x]) W) a' W)
    (hdone : ∀ (D : Nat) (W : World), w.heap.size ≤ D → I (t.ents N p) W → W.heap[D]? = some (.deferred (some [])) → Q .normal { a with defers := { target := .collected D, args := #[] } :: a.defers } W)
    (hstop : ∀ (D : Nat) (pre : List (Nat × (Int × Int))) (W : World), w.heap.size ≤ D → pre <+: t.ents N p → Ix pre W → W.heap[D]? = some (.deferred (some [])) → Code.ret.wpIn Fence.wide n Tryd.prog Q { a with defers := { target := .collected D, args := #[] } :: a.defers } W) :
    (Code.rangeFunc g ps assign body).wpIn Fence.wide n Tryd.prog Q a w := by
  refine wpIn_rangeFunc fun fn hfn => ?_
  obtain ⟨L, hL⟩ : ∃ L : LoopState → Option Code → Loop, L = fun st pe => { state := st, pending := pe, fn := fn, tmps := a.tmps, params := ps, assign := assign, body := body, defers := w.heap.size } := ⟨_, rfl⟩
  obtain ⟨V, hV⟩ : ∃ V, (w.alloc (.deferred (some []))).alloc (.loop (L .ready none)) = V := ⟨_, rfl⟩
  have hV1 : V.heap[w.heap.size + 1]? = some (.loop (L .ready none)) := by
    rw [← hV]
    have := World.alloc_heap_new (w.alloc (.deferred (some []))) (.loop (L .ready none))
    rwa [World.size_alloc] at this
  have hV0 : V.heap[w.heap.size]? = some (.deferred (some [])) := by
    rw [← hV]
    exact (Below.heap_alloc _ _ _ (by simp)).trans (World.alloc_heap_new w _)
  have hIV : I [] V := by rw [← hV]; exact hI _ _ _ (hI _ _ _ h0 (stepB_alloc _ _ _)) (stepB_alloc _ _ _)
  have hGV : IterG V b t l p 0 := by rw [← hV]; exact hG.later (((Below.refl _ _).alloc (Nat.le_refl _) _).alloc (by simp) _)
  have hT : TakesY (w.heap.size + 1) t (fun pre W => I pre W ∧ W.heap[w.heap.size + 1]? = some (.loop (L .ready none)) ∧ W.heap[w.heap.size]? = some (.deferred (some [])))
      (fun pre W => Ix pre W ∧ W.heap[w.heap.size + 1]? = some (.loop (L .done (some .ret))) ∧ W.heap[w.heap.size]? = some (.deferred (some []))) := by
    refine ⟨fun pre W h => hLi _ _ h.1, fun pre W h => hLx _ _ h.1, fun pre W m h => ⟨hI _ _ _ h.1 (stepB_below _ (below_drewN (Below.refl _ _) m)), ?_, ?_⟩, ?_⟩
    · exact ((below_drewN (Below.refl W.heap.size W) m).block _ (Array.getElem?_eq_some_iff.1 h.2.1).1).trans h.2.1
    · exact ((below_drewN (Below.refl W.heap.size W) m).block _ (Array.getElem?_eq_some_iff.1 h.2.2).1).trans h.2.2
    · rintro pre Wr k x y m hk ⟨hi0, h10, h20⟩
      have hy := run_yield (P := Tryd.prog) (args := encE k x y) h10 (by rw [hL]; exact hps.symm)
      rw [hL] at hy
      refine ⟨fn, _, assign, body, hy, roundIn_depth (n := 3) (roundIn_of_wpIn hfn (hassign _ pre (k, (x, y)) Wr _ hk hi0 fun a' W hkf hi hax => ?_))⟩
      have h1 := hkf.same _ _ (Nat.le_succ _) h10 rfl
      have h2 := hkf.same _ _ (Nat.le_refl _) h20 rfl
      have hlt : w.heap.size + 1 < W.heap.size := (Array.getElem?_eq_some_iff.1 h1).1
      refine ⟨_, run_beginRound h1 (by rw [hL]), ?_⟩
      have s1 := stepB_put (B := w.heap.size) (.loop { L .ready none with state := .busy }) (Nat.le_succ _) h1 rfl
      have k1 : (W.putObj (w.heap.size + 1) (.loop { L .ready none with state := .busy })).heap[w.heap.size + 1]? = some (.loop { L .ready none with state := .busy }) := World.putObj_heap_same hlt
      have k0 : (W.putObj (w.heap.size + 1) (.loop { L .ready none with state := .busy })).heap[w.heap.size]? = some (.deferred (some [])) := (World.putObj_heap_other (by omega)).trans h2
      refine wpIn_mono (hbody _ pre (k, (x, y)) _ _ hk (hI _ _ _ hi s1) (hAx _ _ _ _ hax s1)) ?_
      have fin : ∀ (jump : Option Code) (X : World), KeepsFrom w.heap.size (W.putObj (w.heap.size + 1) (.loop { L .ready none with state := .busy })) X →
          (Instr.endRound (w.heap.size + 1) jump).run Tryd.prog X = .ok (.bool jump.isNone) (X.putObj (w.heap.size + 1) (.loop (L (if jump.isNone then .ready else .done) jump))) ∧ StepB w.heap.size X (X.putObj (w.heap.size + 1) (.loop (L (if jump.isNone then .ready else .done) jump))) ∧
          (X.putObj (w.heap.size + 1) (.loop (L (if jump.isNone then .ready else .done) jump))).heap[w.heap.size + 1]? = some (.loop (L (if jump.isNone then .ready else .done) jump)) ∧
          (X.putObj (w.heap.size + 1) (.loop (L (if jump.isNone then .ready else .done) jump))).heap[w.heap.size]? = some (.deferred (some [])) := fun jump X hX => by
        have e1 := hX.same _ _ (Nat.le_succ _) k1 rfl
        have e0 := hX.same _ _ (Nat.le_refl _) k0 rfl
        have e2 := run_endRound (P := Tryd.prog) jump e1
        refine ⟨by rw [hL] at e2 ⊢; exact e2, stepB_put _ (Nat.le_succ _) e1 rfl, World.putObj_heap_same (Array.getElem?_eq_some_iff.1 e1).1, (World.putObj_heap_other (by omega)).trans e0⟩
      rintro e a3 X hp
      cases e with
      | normal =>
        obtain ⟨hX, hi3⟩ := hp
        obtain ⟨hr, hs, e1, e0⟩ := fin none X hX
        exact ⟨_, _, hr, true, rfl, fun _ => ⟨hI _ _ _ hi3 hs, e1, e0⟩, fun e => (by cases e)⟩
      | ret =>
        obtain ⟨hX, hi3⟩ := hp
        obtain ⟨hr, hs, e1, e0⟩ := fin (some .ret) X hX
        exact ⟨_, _, hr, false, rfl, fun e => (by cases e), fun _ => ⟨hIx _ _ _ hi3 hs, e1, e0⟩⟩
      | exit i => exact hp.elim
      | goto t => exact hp.elim
      | panic ch => exact hp.elim
      | outgrown => exact hp.elim
  refine ⟨w.heap.size + 1, [{ target := .collected w.heap.size, args := #[] }], V, { target := .fn (.func 49) #[.pointer (some ⟨b, 0, none⟩), .pointer (some ⟨b + 1, 0, none⟩), .pointer (some ⟨b + 1 + 1, 0, none⟩), .pointer (some ⟨b + 1 + 1 + 1, 0, none⟩)], args := #[.func (.yield (w.heap.size + 1)) #[] #[]] }, V, 49,
    #[.func (.yield (w.heap.size + 1)) #[] #[], .pointer (some ⟨b, 0, none⟩), .pointer (some ⟨b + 1, 0, none⟩), .pointer (some ⟨b + 1 + 1, 0, none⟩), .pointer (some ⟨b + 1 + 1 + 1, 0, none⟩)], V, ?_, ?_, ?_, ?_, fun e => by simp [Fence.wide] at e, ?_⟩
  · rw [← hV, hL]; exact run_enterLoop_outer _ _ _ _ _
  · simp only [resolve, hg]
    simp [go_sem]
  · intro f' _; trivial
  · simp [invoke, go_sem]
  · refine (callsIn_wide.2 (from1Y (w.heap.size + 1) b N l hl t hw p 0 hp hm _ _ hT V hGV ⟨hIV, hV1, hV0⟩)).mono ?_
    rw [fromL_all]
    rintro e X ⟨rfl, ⟨hi, e1, e0⟩ | ⟨pre, hpre, hi, e1, e0⟩⟩
    · have hs := stepB_put (B := w.heap.size) (.loop { L .ready none with state := .exhausted }) (Nat.le_succ _) e1 rfl
      refine ⟨none, _, by have := run_endLoop (P := Tryd.prog) e1 (by rw [hL]; simp); rw [hL] at this ⊢; exact this, hdone _ _ (Nat.le_refl _) (hI _ _ _ hi hs) ((World.putObj_heap_other (by omega)).trans e0)⟩
    · have hs := stepB_put (B := w.heap.size) (.loop { L .done (some .ret) with state := .exhausted }) (Nat.le_succ _) e1 rfl
      refine ⟨some .ret, _, by have := run_endLoop (P := Tryd.prog) e1 (by rw [hL]; simp); rw [hL] at this ⊢; exact this, hstop _ pre _ (Nat.le_refl _) hpre (hIx _ _ _ hi hs) ((World.putObj_heap_other (by omega)).trans e0)⟩

end Go.Proofs.YtmppgcijbeipfaaDoor


namespace Go.Proofs.YtmppgcijbeipfaaDoor
open Go.RowKit Go.Shelf
attribute [local go_sem] Oper.semAt_some

/-- What is asked of the method that a difference hands its changes to. B: blocks below are not turned; G: what always stands; off k: the block k is none of the method's. -/
structure TakesC (f : Nat) (T : Addr) (B : Nat) (G : World → Prop) (off : Nat → World → Prop) (J Jx : List Ch → World → Prop) : Prop where
  good : ∀ done X, J done X → G X
  goodx : ∀ done X, Jx done X → G X
  low : ∀ done X, J done X → B ≤ X.heap.size
  step : ∀ done X Y, J done X → StepB B X Y → J done Y
  stepx : ∀ done X Y, Jx done X → StepB B X Y → Jx done Y
  set : ∀ done X k o v, J done X → off k X → B ≤ k → J done (X.setCell ⟨k, o, none⟩ v)
  setx : ∀ done X k o v, Jx done X → off k X → B ≤ k → Jx done (X.setCell ⟨k, o, none⟩ v)
  offNew : ∀ done X k, J done X → X.heap.size ≤ k → off k X
  offStep : ∀ done X Y k, J done X → off k X → StepB B X Y → off k Y
  call : ∀ done X (c : Ch) (k : Nat) (p q : Bool) (x y x' y' : Int), chL c = [.int .u32 (k : Int), .bool p, .bool q, .int .i64 x, .int .i64 y, .int .i64 x', .int .i64 y'] → J done X →
    Calls Tryd.prog f #[.pointer (some T), .agg #[.int .u32 (k : Int), .bool p, .bool q, .int .i64 x, .int .i64 y, .int .i64 x', .int .i64 y']] X fun e X' => ∃ o : Bool, e = .returned (.bool o) ∧ KeepsOthers X X' ∧ (∀ k, off k X → k < X.heap.size → X'.heap[k]? = X.heap[k]? ∧ off k X') ∧ (o = true → J (done ++ [c]) X') ∧ (o = false → Jx (done ++ [c]) X')

theorem TakesC.weak {f : Nat} {T : Addr} {B : Nat} {G G' : World → Prop} {off : Nat → World → Prop} {J Jx : List Ch → World → Prop} (h : TakesC f T B G off J Jx) (hG : ∀ X, G X → G' X) : TakesC f T B G' off J Jx :=
  ⟨fun d X hJ => hG _ (h.good d X hJ), fun d X hJ => hG _ (h.goodx d X hJ), h.low, h.step, h.stepx, h.set, h.setx, h.offNew, h.offStep, h.call⟩

/-- How a difference ends: all of it was told, or it was told to stop. -/
def EndsC (J Jx : List Ch → World → Prop) (done L : List Ch) (e : Ending) (w' : World) : Prop := ∃ o : Bool, e = .returned (.bool o) ∧ (o = true → J (done ++ L) w') ∧ (o = false → ∃ pre, pre <+: L ∧ Jx (done ++ pre) w')

def yieldV (T : Addr) : Value := .func (.func 41) #[.pointer (some T)] #[]

/-- Between two rounds. -/
def gI (off : Nat → World → Prop) (J : List Ch → World → Prop) (f : Nat × (Int × Int) → Ch) (done : List Ch) (T : Addr) (yb : Nat) (pre : List (Nat × (Int × Int))) (X : World) : Prop :=
  J (done ++ pre.map f) X ∧ off yb X ∧ off (yb + 1) X ∧ X.heap[yb]? = some (.cells #[yieldV T] 100 (0, 0)) ∧ X.heap[yb + 1]? = some (.cells #[.bool false] 4 (0, 0))
def gX (Jx : List Ch → World → Prop) (f : Nat × (Int × Int) → Ch) (done : List Ch) (yb : Nat) (pre : List (Nat × (Int × Int))) (X : World) : Prop :=
  Jx (done ++ pre.map f) X ∧ X.heap[yb + 1]? = some (.cells #[.bool false] 4 (0, 0))

theorem block_stepB {B : Nat} {X Y : World} {k : Nat} {cs : Array Value} {t : TypeId} {z : Nat × Nat} (h : X.heap[k]? = some (.cells cs t z)) (hs : StepB B X Y) : Y.heap[k]? = some (.cells cs t z) := by
  obtain ⟨row, hg, hr⟩ := hs
  refine (hg.block k (Array.getElem?_eq_some_iff.1 h).1 (fun e => ?_)).trans h
  obtain ⟨-, o, h1, h2⟩ := hr k e.symm
  rw [h] at h1
  rw [← Option.some.inj h1] at h2
  cases h2
theorem gI_step {T : Addr} {B : Nat} {G : World → Prop} {off : Nat → World → Prop} {J Jx : List Ch → World → Prop} (hT : TakesC 41 T B G off J Jx) {f : Nat × (Int × Int) → Ch} {done : List Ch} {yb : Nat} {pre : List (Nat × (Int × Int))} {X Y : World} (h : gI off J f done T yb pre X) (hs : StepB B X Y) : gI off J f done T yb pre Y :=
  ⟨hT.step _ _ _ h.1 hs, hT.offStep _ _ _ _ h.1 h.2.1 hs, hT.offStep _ _ _ _ h.1 h.2.2.1 hs, block_stepB h.2.2.2.1 hs, block_stepB h.2.2.2.2 hs⟩
theorem gX_step {T : Addr} {B : Nat} {G : World → Prop} {off : Nat → World → Prop} {J Jx : List Ch → World → Prop} (hT : TakesC 41 T B G off J Jx) {f : Nat × (Int × Int) → Ch} {done : List Ch} {yb : Nat} {pre : List (Nat × (Int × Int))} {X Y : World} (h : gX Jx f done yb pre X) (hs : StepB B X Y) : gX Jx f done yb pre Y :=
  ⟨hT.stepx _ _ _ h.1 hs, block_stepB h.2 hs⟩

set_option maxRecDepth 10000 in
set_option maxHeartbeats 1000000 in
theorem gained_any (T : Addr) (B : Nat) (G : World → Prop) (off : Nat → World → Prop) (J Jx : List Ch → World → Prop) (hT : TakesC 41 T B G off J Jx) (b N l : Nat) (hl : l + N = 7) (t : Tr) (hw : t.wf N) (hGL : ∀ X, G X → Lies X t) (p : Nat) (hp : p + 16 ^ (N + 1) ≤ 4294967296) (hm : p % 16 ^ (N + 1) = 0) (done : List Ch) (w : World) (hI : IterG w b t l p 0) (h : J done w) :
    Calls Tryd.prog 57 #[iterV b, yieldV T] w (EndsC J Jx done ((t.ents N p).map gainC)) := by
  refine (callsIn_wide (n := 5)).1 ?_
  have hlow := hT.low _ _ h
  have ha1 := (Below.refl w.heap.size w).alloc (Nat.le_refl _) (.cells #[yieldV T] 100)
  have ha2 : Below w.heap.size w ((w.alloc (.cells #[yieldV T] 100)).alloc (.cells #[.bool false] 4)) := ha1.alloc (by simp) _
  have hs12 := stepB_below B ha2
  have hb0 : ((w.alloc (.cells #[yieldV T] 100)).alloc (.cells #[.bool false] 4)).heap[w.heap.size]? = some (.cells #[yieldV T] 100 (0, 0)) := (Below.heap_alloc _ _ _ (by simp)).trans (heap_alloc_last w _)
  have hb1 : ((w.alloc (.cells #[yieldV T] 100)).alloc (.cells #[.bool false] 4)).heap[w.heap.size + 1]? = some (.cells #[.bool false] 4 (0, 0)) := by
    have := heap_alloc_last (w.alloc (.cells #[yieldV T] 100)) (.cells #[.bool false] 4)
    simpa using this
  have hI0 : gI off J gainC done T w.heap.size [] ((w.alloc (.cells #[yieldV T] 100)).alloc (.cells #[.bool false] 4)) :=
    ⟨by rw [List.map_nil, List.append_nil]; exact hT.step _ _ _ h hs12, hT.offStep _ _ _ _ h (hT.offNew _ _ _ h (Nat.le_refl _)) hs12, hT.offStep _ _ _ _ h (hT.offNew _ _ _ h (Nat.le_succ _)) hs12, hb0, hb1⟩
  have hIt := hI.later ha2
  refine callsIn_of_wp_marks Tryd.func57 rfl trivial ?_ rfl
  simp only [Tryd.ntmps57, List.size_toArray, List.length_cons, List.length_nil, Nat.reduceAdd, Nat.reduceSub, Array.replicate_succ, Array.replicate_zero, List.push_toArray, List.append_toArray, List.nil_append, List.cons_append]
  unfold yieldV iterV at *
  gi_wp2
  have hsz : ((w.alloc (.cells #[Value.func (.func 41) #[.pointer (some T)] #[]] 100)).alloc (.cells #[.bool false] 4)).heap.size = w.heap.size + 1 + 1 := by simp
  generalize ((w.alloc (.cells #[Value.func (.func 41) #[.pointer (some T)] #[]] 100)).alloc (.cells #[.bool false] 4)) = wb at *
  clear hI ha1 ha2 hs12 hb0 hb1
  have hBb : B ≤ wb.heap.size := by omega
  refine range_ents b N l hl t hw p hp hm rfl rfl (gI off J gainC done T w.heap.size) (gX Jx gainC done w.heap.size) (fun pre X Y h hs => gI_step hT h (hs.mono hBb)) (fun pre X Y h hs => gX_step hT h (hs.mono hBb)) (fun pre X h => hGL _ (hT.good _ _ h.1)) (fun pre X h => hGL _ (hT.goodx _ _ h.1)) hIt hI0
    (fun x a' X => ∃ vb, wb.heap.size ≤ vb ∧ a' = { tmps := #[Value.func (.func 49) #[] #[.pointer (some ⟨b, 0, none⟩), .pointer (some ⟨b + 1, 0, none⟩), .pointer (some ⟨b + 1 + 1, 0, none⟩), .pointer (some ⟨b + 1 + 1 + 1, 0, none⟩)], Value.func (.func 41) #[.pointer (some T)] #[], undef, .pointer (some ⟨w.heap.size, 0, none⟩), .pointer (some ⟨w.heap.size + 1, 0, none⟩), .int .u32 (x.1 : Int), .pointer (some ⟨vb, 0, none⟩), Value.func (.func 49) #[] #[.pointer (some ⟨b, 0, none⟩), .pointer (some ⟨b + 1, 0, none⟩), .pointer (some ⟨b + 1 + 1, 0, none⟩), .pointer (some ⟨b + 1 + 1 + 1, 0, none⟩)], .int .u32 (x.1 : Int), .agg #[.int .i64 x.2.1, .int .i64 x.2.2], undef, undef, undef, undef, undef, undef], defers := [] } ∧ X.cell? ⟨vb, 0, none⟩ = some (.int .i64 x.2.1) ∧ X.cell? ⟨vb, 1, none⟩ = some (.int .i64 x.2.2))
    (fun x a' X Y ⟨vb, h1, h2, h3, h4⟩ hs => ⟨vb, h1, h2, cell_stepB h3 hs, cell_stepB h4 hs⟩) ?assign ?body ?done ?stop
  case assign =>
    intro l' pre x W K hx hIW hK'
    gi_wp2
    have hBl : w.heap.size + 1 < W.heap.size := (Array.getElem?_eq_some_iff.1 hIW.2.2.2.2).1
    refine hK' _ _ ((KeepsOthers.alloc W _).from _) (gI_step hT hIW (stepB_alloc _ _ _)) ⟨W.heap.size, by omega, rfl, by simp, by simp⟩
  case body =>
    rintro l' pre x a' W hx hIW ⟨vb, hvb, rfl, v0, v1⟩
    have c0 : W.cell? ⟨w.heap.size, 0, none⟩ = some (Value.func (.func 41) #[.pointer (some T)] #[]) := cell_of_row _ _ 0 _ _ _ hIW.2.2.2.1
    have hcl := hT.call _ W (gainC x) x.1 false true 0 0 x.2.1 x.2.2 rfl hIW.1
    gi_wp2_with (refine ⟨trivial, ?_⟩; gi_at_call 41; fail)
    refine ⟨trivial, (CallsIn.inRound l' (callsIn_wide.2 hcl)).mono ?_⟩
    clear hcl
    rintro _ X ⟨o, rfl, hKO, hoff, hJ, hX⟩
    have hlt0 := (Array.getElem?_eq_some_iff.1 hIW.2.2.2.1).1
    have hlt1 := (Array.getElem?_eq_some_iff.1 hIW.2.2.2.2).1
    obtain ⟨o0, o0'⟩ := hoff _ hIW.2.1 hlt0
    obtain ⟨o1, o1'⟩ := hoff _ hIW.2.2.1 hlt1
    have r0 := o0.trans hIW.2.2.2.1
    have r1 := o1.trans hIW.2.2.2.2
    have c1 : X.cell? ⟨w.heap.size + 1, 0, none⟩ = some (.bool false) := cell_of_row _ _ 0 _ _ _ r1
    have f1 := frozen_of_row r1 0
    have e1 : (done ++ pre.map gainC) ++ [gainC x] = done ++ (pre ++ [x]).map gainC := by simp
    rw [e1] at hJ hX
    clear o0 o1 hoff e1
    cases o with
    | true =>
      have hJ6 := hJ rfl
      clear hX hJ
      gi_wp2
      exact ⟨hKO.from _, hJ6, o0', o1', r0, r1⟩
    | false =>
      have hX2 := hT.setx _ _ (w.heap.size + 1) 0 (.bool false) (hX rfl) o1' (by omega)
      clear hJ hX
      have r2 := heap_setCell_same X (w.heap.size + 1) 0 _ _ (.bool false) r1
      have hK2 := hKO.trans (KeepsOthers.setCell X ⟨w.heap.size + 1, 0, none⟩ (.bool false))
      gi_wp2
      exact ⟨hK2.from _, hX2, r2⟩
  case done =>
    intro D W hD hIW hdef
    have r1 := hIW.2.2.2.2
    have c1 : W.cell? ⟨w.heap.size + 1, 0, none⟩ = some (.bool false) := cell_of_row _ _ 0 _ _ _ r1
    have f1 := frozen_of_row r1 0
    have hJ2 := hT.set _ _ (w.heap.size + 1) 0 (.bool true) hIW.1 hIW.2.2.1 (by omega)
    have hdef2 : (W.setCell ⟨w.heap.size + 1, 0, none⟩ (.bool true)).heap[D]? = some (.deferred (some [])) := (Below.heap_setCell _ _ _ D (by simp; omega)).trans hdef
    have r2 := heap_setCell_same W (w.heap.size + 1) 0 _ _ (.bool true) r1
    have hst := stepB_put (B := B) (.deferred none) (by omega) hdef2 rfl
    have r3 := block_stepB r2 hst
    have hc3 : ((W.setCell ⟨w.heap.size + 1, 0, none⟩ (.bool true)).putObj D (.deferred none)).cell? ⟨w.heap.size + 1, 0, none⟩ = some (.bool true) := cell_of_row _ _ 0 _ _ _ r3
    have hJ3 := hT.step _ _ _ hJ2 hst
    gi_wp2
    refine ⟨by simp, .inl ⟨_, _, rfl, run_takeDeferred hdef2, ?_⟩⟩
    exact ⟨.bool true, by simp [results, Tryd.results57, go_sem, hc3], true, rfl, fun _ => hJ3, fun e => (by cases e)⟩
  case stop =>
    intro D pre W hD hpre hIW hdef
    have hst := stepB_put (B := B) (.deferred none) (by omega) hdef rfl
    have r3 := block_stepB hIW.2 hst
    have hc3 : (W.putObj D (.deferred none)).cell? ⟨w.heap.size + 1, 0, none⟩ = some (.bool false) := cell_of_row _ _ 0 _ _ _ r3
    have hJ3 := hT.stepx _ _ _ hIW.1 hst
    gi_wp2
    refine ⟨by simp, .inl ⟨_, _, rfl, run_takeDeferred hdef, ?_⟩⟩
    exact ⟨.bool false, by simp [results, Tryd.results57, go_sem, hc3], false, rfl, fun e => (by cases e), fun _ => ⟨_, hpre.map _, hJ3⟩⟩

end Go.Proofs.YtmppgcijbeipfaaDoor


namespace Go.Proofs.YtmppgcijbeipfaaDoor
open Go.RowKit Go.Shelf
attribute [local go_sem] Oper.semAt_some

set_option maxRecDepth 10000 in
set_option maxHeartbeats 1000000 in
theorem lost_any (T : Addr) (B : Nat) (G : World → Prop) (off : Nat → World → Prop) (J Jx : List Ch → World → Prop) (hT : TakesC 41 T B G off J Jx) (b N l : Nat) (hl : l + N = 7) (t : Tr) (hw : t.wf N) (hGL : ∀ X, G X → Lies X t) (p : Nat) (hp : p + 16 ^ (N + 1) ≤ 4294967296) (hm : p % 16 ^ (N + 1) = 0) (done : List Ch) (w : World) (hI : IterG w b t l p 0) (h : J done w) :
    Calls Tryd.prog 58 #[iterV b, yieldV T] w (EndsC J Jx done ((t.ents N p).map loseC)) := by
  refine (callsIn_wide (n := 5)).1 ?_
  have hlow := hT.low _ _ h
  have ha1 := (Below.refl w.heap.size w).alloc (Nat.le_refl _) (.cells #[yieldV T] 100)
  have ha2 : Below w.heap.size w ((w.alloc (.cells #[yieldV T] 100)).alloc (.cells #[.bool false] 4)) := ha1.alloc (by simp) _
  have hs12 := stepB_below B ha2
  have hb0 : ((w.alloc (.cells #[yieldV T] 100)).alloc (.cells #[.bool false] 4)).heap[w.heap.size]? = some (.cells #[yieldV T] 100 (0, 0)) := (Below.heap_alloc _ _ _ (by simp)).trans (heap_alloc_last w _)
  have hb1 : ((w.alloc (.cells #[yieldV T] 100)).alloc (.cells #[.bool false] 4)).heap[w.heap.size + 1]? = some (.cells #[.bool false] 4 (0, 0)) := by
    have := heap_alloc_last (w.alloc (.cells #[yieldV T] 100)) (.cells #[.bool false] 4)
    simpa using this
  have hI0 : gI off J loseC done T w.heap.size [] ((w.alloc (.cells #[yieldV T] 100)).alloc (.cells #[.bool false] 4)) :=
    ⟨by rw [List.map_nil, List.append_nil]; exact hT.step _ _ _ h hs12, hT.offStep _ _ _ _ h (hT.offNew _ _ _ h (Nat.le_refl _)) hs12, hT.offStep _ _ _ _ h (hT.offNew _ _ _ h (Nat.le_succ _)) hs12, hb0, hb1⟩
  have hIt := hI.later ha2
  refine callsIn_of_wp_marks Tryd.func58 rfl trivial ?_ rfl
  simp only [Tryd.ntmps58, List.size_toArray, List.length_cons, List.length_nil, Nat.reduceAdd, Nat.reduceSub, Array.replicate_succ, Array.replicate_zero, List.push_toArray, List.append_toArray, List.nil_append, List.cons_append]
  unfold yieldV iterV at *
  gi_wp2
  have hsz : ((w.alloc (.cells #[Value.func (.func 41) #[.pointer (some T)] #[]] 100)).alloc (.cells #[.bool false] 4)).heap.size = w.heap.size + 1 + 1 := by simp
  generalize ((w.alloc (.cells #[Value.func (.func 41) #[.pointer (some T)] #[]] 100)).alloc (.cells #[.bool false] 4)) = wb at *
  clear hI ha1 ha2 hs12 hb0 hb1
  have hBb : B ≤ wb.heap.size := by omega
  refine range_ents b N l hl t hw p hp hm rfl rfl (gI off J loseC done T w.heap.size) (gX Jx loseC done w.heap.size) (fun pre X Y h hs => gI_step hT h (hs.mono hBb)) (fun pre X Y h hs => gX_step hT h (hs.mono hBb)) (fun pre X h => hGL _ (hT.good _ _ h.1)) (fun pre X h => hGL _ (hT.goodx _ _ h.1)) hIt hI0
    (fun x a' X => ∃ vb, wb.heap.size ≤ vb ∧ a' = { tmps := #[Value.func (.func 49) #[] #[.pointer (some ⟨b, 0, none⟩), .pointer (some ⟨b + 1, 0, none⟩), .pointer (some ⟨b + 1 + 1, 0, none⟩), .pointer (some ⟨b + 1 + 1 + 1, 0, none⟩)], Value.func (.func 41) #[.pointer (some T)] #[], undef, .pointer (some ⟨w.heap.size, 0, none⟩), .pointer (some ⟨w.heap.size + 1, 0, none⟩), .int .u32 (x.1 : Int), .pointer (some ⟨vb, 0, none⟩), Value.func (.func 49) #[] #[.pointer (some ⟨b, 0, none⟩), .pointer (some ⟨b + 1, 0, none⟩), .pointer (some ⟨b + 1 + 1, 0, none⟩), .pointer (some ⟨b + 1 + 1 + 1, 0, none⟩)], .int .u32 (x.1 : Int), .agg #[.int .i64 x.2.1, .int .i64 x.2.2], undef, undef, undef, undef, undef, undef], defers := [] } ∧ X.cell? ⟨vb, 0, none⟩ = some (.int .i64 x.2.1) ∧ X.cell? ⟨vb, 1, none⟩ = some (.int .i64 x.2.2))
    (fun x a' X Y ⟨vb, h1, h2, h3, h4⟩ hs => ⟨vb, h1, h2, cell_stepB h3 hs, cell_stepB h4 hs⟩) ?assign ?body ?done ?stop
  case assign =>
    intro l' pre x W K hx hIW hK'
    gi_wp2
    have hBl : w.heap.size + 1 < W.heap.size := (Array.getElem?_eq_some_iff.1 hIW.2.2.2.2).1
    refine hK' _ _ ((KeepsOthers.alloc W _).from _) (gI_step hT hIW (stepB_alloc _ _ _)) ⟨W.heap.size, by omega, rfl, by simp, by simp⟩
  case body =>
    rintro l' pre x a' W hx hIW ⟨vb, hvb, rfl, v0, v1⟩
    have c0 : W.cell? ⟨w.heap.size, 0, none⟩ = some (Value.func (.func 41) #[.pointer (some T)] #[]) := cell_of_row _ _ 0 _ _ _ hIW.2.2.2.1
    have hcl := hT.call _ W (loseC x) x.1 true false x.2.1 x.2.2 0 0 rfl hIW.1
    gi_wp2_with (refine ⟨trivial, ?_⟩; gi_at_call 41; fail)
    refine ⟨trivial, (CallsIn.inRound l' (callsIn_wide.2 hcl)).mono ?_⟩
    clear hcl
    rintro _ X ⟨o, rfl, hKO, hoff, hJ, hX⟩
    have hlt0 := (Array.getElem?_eq_some_iff.1 hIW.2.2.2.1).1
    have hlt1 := (Array.getElem?_eq_some_iff.1 hIW.2.2.2.2).1
    obtain ⟨o0, o0'⟩ := hoff _ hIW.2.1 hlt0
    obtain ⟨o1, o1'⟩ := hoff _ hIW.2.2.1 hlt1
    have r0 := o0.trans hIW.2.2.2.1
    have r1 := o1.trans hIW.2.2.2.2
    have c1 : X.cell? ⟨w.heap.size + 1, 0, none⟩ = some (.bool false) := cell_of_row _ _ 0 _ _ _ r1
    have f1 := frozen_of_row r1 0
    have e1 : (done ++ pre.map loseC) ++ [loseC x] = done ++ (pre ++ [x]).map loseC := by simp
    rw [e1] at hJ hX
    clear o0 o1 hoff e1
    cases o with
    | true =>
      have hJ6 := hJ rfl
      clear hX hJ
      gi_wp2
      exact ⟨hKO.from _, hJ6, o0', o1', r0, r1⟩
    | false =>
      have hX2 := hT.setx _ _ (w.heap.size + 1) 0 (.bool false) (hX rfl) o1' (by omega)
      clear hJ hX
      have r2 := heap_setCell_same X (w.heap.size + 1) 0 _ _ (.bool false) r1
      have hK2 := hKO.trans (KeepsOthers.setCell X ⟨w.heap.size + 1, 0, none⟩ (.bool false))
      gi_wp2
      exact ⟨hK2.from _, hX2, r2⟩
  case done =>
    intro D W hD hIW hdef
    have r1 := hIW.2.2.2.2
    have c1 : W.cell? ⟨w.heap.size + 1, 0, none⟩ = some (.bool false) := cell_of_row _ _ 0 _ _ _ r1
    have f1 := frozen_of_row r1 0
    have hJ2 := hT.set _ _ (w.heap.size + 1) 0 (.bool true) hIW.1 hIW.2.2.1 (by omega)
    have hdef2 : (W.setCell ⟨w.heap.size + 1, 0, none⟩ (.bool true)).heap[D]? = some (.deferred (some [])) := (Below.heap_setCell _ _ _ D (by simp; omega)).trans hdef
    have r2 := heap_setCell_same W (w.heap.size + 1) 0 _ _ (.bool true) r1
    have hst := stepB_put (B := B) (.deferred none) (by omega) hdef2 rfl
    have r3 := block_stepB r2 hst
    have hc3 : ((W.setCell ⟨w.heap.size + 1, 0, none⟩ (.bool true)).putObj D (.deferred none)).cell? ⟨w.heap.size + 1, 0, none⟩ = some (.bool true) := cell_of_row _ _ 0 _ _ _ r3
    have hJ3 := hT.step _ _ _ hJ2 hst
    gi_wp2
    refine ⟨by simp, .inl ⟨_, _, rfl, run_takeDeferred hdef2, ?_⟩⟩
    exact ⟨.bool true, by simp [results, Tryd.results58, go_sem, hc3], true, rfl, fun _ => hJ3, fun e => (by cases e)⟩
  case stop =>
    intro D pre W hD hpre hIW hdef
    have hst := stepB_put (B := B) (.deferred none) (by omega) hdef rfl
    have r3 := block_stepB hIW.2 hst
    have hc3 : (W.putObj D (.deferred none)).cell? ⟨w.heap.size + 1, 0, none⟩ = some (.bool false) := cell_of_row _ _ 0 _ _ _ r3
    have hJ3 := hT.stepx _ _ _ hIW.1 hst
    gi_wp2
    refine ⟨by simp, .inl ⟨_, _, rfl, run_takeDeferred hdef, ?_⟩⟩
    exact ⟨.bool false, by simp [results, Tryd.results58, go_sem, hc3], false, rfl, fun e => (by cases e), fun _ => ⟨_, hpre.map _, hJ3⟩⟩

end Go.Proofs.YtmppgcijbeipfaaDoor

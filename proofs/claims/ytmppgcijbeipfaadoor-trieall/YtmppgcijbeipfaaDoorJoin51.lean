import Derived.Test.YtmppgcijbeipfaaDoorJoin50
import Derived.Test.YtmppgcijbeipfaaDoorTGet
import Derived.Deep.RegionHeld3
import Derived.LaidEqlPtr
namespace Go.Proofs.YtmppgcijbeipfaaDoor
open Go.RowKit

/-- Trees that hang on one node hold the same. -/
theorem lies_get {X : World} : ∀ (n : Nat) {a b : Tr}, a.wf n → b.wf n → Lies X a → Lies X b → a.ptr = b.ptr → ∀ r, a.get n r = b.get n r
  | 0, a, b, ha, hb, la, lb, he, r => by
    cases a with
    | node => exact absurd ha.1 (by omega)
    | nil =>
      cases b with
      | nil => rfl
      | node => cases he
      | leaf => cases he
    | leaf c s th vk vn =>
      cases b with
      | nil => cases he
      | node => exact absurd hb.1 (by omega)
      | leaf c' s' th' vk' vn' =>
        obtain rfl : c = c' := congrArg Addr.block (Option.some.inj (Value.pointer.inj he))
        have hs : s = s' := by
          have h1 := la.1.shelf
          have h2 := lb.1.shelf
          rw [h1] at h2
          exact congrArg Addr.block (Option.some.inj (Value.pointer.inj (Option.some.inj h2)))
        subst hs
        have hd := dg_lt r 0
        have t1 := la.2.th hd
        rw [lb.2.th hd] at t1
        have e1 : th' (dg r 0) = th (dg r 0) := Value.bool.inj (Option.some.inj t1)
        have v1 := (la.2.val hd).1
        rw [(lb.2.val hd).1] at v1
        have e2 : vk' (dg r 0) = vk (dg r 0) := (Value.int.inj (Option.some.inj v1)).2
        have v2 := (la.2.val hd).2
        rw [(lb.2.val hd).2] at v2
        have e3 : vn' (dg r 0) = vn (dg r 0) := (Value.int.inj (Option.some.inj v2)).2
        show (if th (dg r 0) = true then some (vk (dg r 0), vn (dg r 0)) else none) = (if th' (dg r 0) = true then some (vk' (dg r 0), vn' (dg r 0)) else none)
        rw [e1, e2, e3]
  | n + 1, a, b, ha, hb, la, lb, he, r => by
    cases a with
    | leaf => exact absurd ha.1 (by omega)
    | nil =>
      cases b with
      | nil => rfl
      | node => cases he
      | leaf => cases he
    | node c kids =>
      cases b with
      | nil => cases he
      | leaf => exact absurd hb.1 (by omega)
      | node c' kids' =>
        obtain rfl : c = c' := congrArg Addr.block (Option.some.inj (Value.pointer.inj he))
        have hd := dg_lt r (n + 1)
        have h1 := la.1.kid hd
        rw [lb.1.kid hd] at h1
        have e1 : (kids' (dg r (n + 1))).ptr = (kids (dg r (n + 1))).ptr := Option.some.inj h1
        exact lies_get n (ha.2.1 _ hd) (hb.2.1 _ hd) (la.2 _ hd) (lb.2 _ hd) e1.symm r

theorem dif_one {X : World} {n : Nat} {a b : Tr} (ha : a.wf n) (hb : b.wf n) (la : Lies X a) (lb : Lies X b) (he : a.ptr = b.ptr) (p : Nat) : a.dif b n p = [] := by
  unfold Tr.dif
  rw [List.filterMap_eq_nil_iff]
  intro r _
  rw [if_pos (lies_get n ha hb la lb he r)]

theorem at_leaf {b s : Nat} {th : Nat → Bool} {vk vn : Nat → Int} (hw : (Tr.leaf b s th vk vn).wf 0) {i : Nat} (hi : i < 16) : ((Tr.leaf b s th vk vn).at i).isSome = th i ∧ ((Tr.leaf b s th vk vn).at i).getD (0, 0) = (vk i, vn i) := by
  unfold Tr.at
  show (if th i = true then some (vk i, vn i) else none).isSome = th i ∧ (if th i = true then some (vk i, vn i) else none).getD (0, 0) = (vk i, vn i)
  cases h : th i with
  | true => exact ⟨rfl, rfl⟩
  | false =>
    obtain ⟨h1, h2⟩ := hw.2.1 i hi h
    rw [h1, h2]
    exact ⟨rfl, rfl⟩

set_option maxRecDepth 8000 in
set_option maxHeartbeats 1000000 in
theorem shelves_any (T : Addr) (B : Nat) (off : Nat → World → Prop) (J Jx : List Ch → World → Prop) (ba sa : Nat) (tha : Nat → Bool) (vka vna : Nat → Int) (bb sb : Nat) (thb : Nat → Bool) (vkb vnb : Nat → Int) (hwa : (Tr.leaf ba sa tha vka vna).wf 0) (hwb : (Tr.leaf bb sb thb vkb vnb).wf 0)
    (hT : TakesC 41 T B (fun X => Lies X (.leaf ba sa tha vka vna) ∧ Lies X (.leaf bb sb thb vkb vnb)) off J Jx) (p : Nat) (hp : p + 16 ≤ 4294967296) (hm : p % 16 = 0) (done : List Ch) (w : World) (h : J done w) :
    Calls Tryd.prog 59 #[.pointer (some ⟨sa, 0, none⟩), .pointer (some ⟨sb, 0, none⟩), .int .u32 (p : Int), yieldV T] w (EndsC J Jx done (difl (.leaf ba sa tha vka vna) (.leaf bb sb thb vkb vnb) p 16)) := by
  go_enter Tryd.func59, Tryd.ntmps59
  unfold yieldV
  go_wp2
  go_loopw [11] (fun x wr => ∃ j : Nat, j ≤ 16 ∧ x = .int .i64 j ∧ J (done ++ difl (.leaf ba sa tha vka vna) (.leaf bb sb thb vkb vnb) p j) wr) (fun x _ => 16 - (intOf x).toNat)
  case atStart => exact ⟨0, by omega, rfl, by rw [difl_zero, List.append_nil]; exact h⟩
  case round =>
    obtain ⟨j, hj, rfl, hJ⟩ := hrel
    clear h
    by_cases hlt : j < 16
    · have hlt' : (j : Int) < 16 := by omega
      have hj0 : (0 : Int) ≤ (j : Int) := by omega
      obtain ⟨k, hk⟩ : ∃ k, p + j = k := ⟨_, rfl⟩
      have hhd := head_bottom p j k hk (by omega) hm hlt
      have hSh : ∀ X, Below wr.heap.size wr X → ShelfAt X sa tha vka vna ∧ ShelfAt X sb thb vkb vnb := fun X hb => by
        have := hT.good _ _ (hT.step _ _ X hJ (stepB_below B hb))
        exact ⟨this.1.2, this.2.2⟩
      have hbA : ∀ o, Below wr.heap.size wr (wr.alloc o) := fun o => (Below.refl _ _).alloc (Nat.le_refl _) o
      have aA := at_leaf hwa hlt
      have aB := at_leaf hwb hlt
      have hch : chL (k, ((Tr.leaf ba sa tha vka vna).at j, (Tr.leaf bb sb thb vkb vnb).at j)) = [.int .u32 (k : Int), .bool (tha j), .bool (thb j), .int .i64 (vka j), .int .i64 (vna j), .int .i64 (vkb j), .int .i64 (vnb j)] := by
        simp only [chL]
        rw [aA.1, aA.2, aB.1, aB.2]
      have hNe : Hid ((Tr.leaf ba sa tha vka vna).at j = (Tr.leaf bb sb thb vkb vnb).at j ↔ tha j = thb j ∧ vka j = vkb j ∧ vna j = vnb j) := by
        constructor
        · intro e
          have e1 := aA.1
          have e2 := aA.2
          rw [e, aB.1] at e1
          rw [e, aB.2] at e2
          exact ⟨e1.symm, (congrArg Prod.fst e2).symm, (congrArg Prod.snd e2).symm⟩
        · rintro ⟨e1, e2, e3⟩
          show (if tha j = true then some (vka j, vna j) else none) = (if thb j = true then some (vkb j, vnb j) else none)
          rw [e1, e2, e3]
      have hK : Hid (p + j = k) := hk
      have hCh : Hid (chL (k, ((Tr.leaf ba sa tha vka vna).at j, (Tr.leaf bb sb thb vkb vnb).at j)) = [.int .u32 (k : Int), .bool (tha j), .bool (thb j), .int .i64 (vka j), .int .i64 (vna j), .int .i64 (vkb j), .int .i64 (vnb j)]) := hch
      have hLa := fun X hb => look_any sa j hlt tha vka vna X (hSh X hb).1
      have hLb := fun X hb => look_any sb j hlt thb vkb vnb X (hSh X hb).2
      have hSame : Hid ((Tr.leaf ba sa tha vka vna).at j = (Tr.leaf bb sb thb vkb vnb).at j → difl (.leaf ba sa tha vka vna) (.leaf bb sb thb vkb vnb) p (j + 1) = difl (.leaf ba sa tha vka vna) (.leaf bb sb thb vkb vnb) p j) := fun e => difl_same e
      have hOther : Hid (¬ (Tr.leaf ba sa tha vka vna).at j = (Tr.leaf bb sb thb vkb vnb).at j → difl (.leaf ba sa tha vka vna) (.leaf bb sb thb vkb vnb) p (j + 1) = difl (.leaf ba sa tha vka vna) (.leaf bb sb thb vkb vnb) p j ++ [(k, ((Tr.leaf ba sa tha vka vna).at j, (Tr.leaf bb sb thb vkb vnb).at j))]) := fun e => by rw [difl_other e, hk]
      have hJs : ∀ X, Below wr.heap.size wr X → J (done ++ difl (.leaf ba sa tha vka vna) (.leaf bb sb thb vkb vnb) p j) X := fun X hb => hT.step _ _ X hJ (stepB_below B hb)
      have hcl := fun X hb => hT.call _ X (k, ((Tr.leaf ba sa tha vka vna).at j, (Tr.leaf bb sb thb vkb vnb).at j)) k (tha j) (thb j) (vka j) (vna j) (vkb j) (vnb j) hch (hJs X hb)
      generalize (Tr.leaf ba sa tha vka vna).at j = oa at *
      generalize (Tr.leaf bb sb thb vkb vnb).at j = ob at *
      generalize tha j = A at *
      generalize vka j = x at *
      generalize vna j = y at *
      generalize thb j = A' at *
      generalize vkb j = x' at *
      generalize vnb j = y' at *
      clear hk hch aA aB hCh hSh hK
      by_cases heq : oa = ob
      · obtain ⟨rfl, rfl, rfl⟩ := hNe.out.1 heq
        have e0 : (A != A) = false := by cases A <;> rfl
        have e1 : (x == x) = true := by simp
        have e2 : (y == y) = true := by simp
        have hStep := hSame.out heq
        have hSt : Hid (difl (.leaf ba sa tha vka vna) (.leaf bb sb thb vkb vnb) p (j + 1) = difl (.leaf ba sa tha vka vna) (.leaf bb sb thb vkb vnb) p j) := hStep
        clear hStep hSame hOther hNe heq hcl
        go_wp2_with (first | (go_at_call 56; refine (hhd _).mono ?_; rintro e w4 ⟨rfl, h4⟩; subst w4) | (go_at_call_of 34 (Value.pointer (some ⟨sa, 0, none⟩)); refine (hLa _ (hbA _)).mono ?_; rintro e w5 ⟨rfl, hb5⟩; have hbw5 := below_step (hbA _) hb5; have r5 := (hb5.block wr.heap.size (by simp)).trans (heap_alloc_last wr _); have q1 := cell_of_row _ _ 1 _ _ _ r5; have q2 := cell_of_row _ _ 2 _ _ _ r5; have q3 := cell_of_row _ _ 3 _ _ _ r5; have q4 := cell_of_row _ _ 4 _ _ _ r5; have f1 := frozen_of_row r5 1; have f3 := frozen_of_row r5 3; have f4 := frozen_of_row r5 4) | (go_at_call 34; refine (hLb _ (((hbw5.setCell (Nat.le_refl _) _).setCell (Nat.le_refl _) _).setCell (Nat.le_refl _) _)).mono ?_; rintro e w6 ⟨rfl, hb6⟩; have hbw6 := below_step (((hbw5.setCell (p := ⟨wr.heap.size, 3, none⟩) (Nat.le_refl _) (.int .i64 x)).setCell (p := ⟨wr.heap.size, 4, none⟩) (Nat.le_refl _) (.int .i64 y)).setCell (p := ⟨wr.heap.size, 1, none⟩) (Nat.le_refl _) (.bool A)) hb6; have s1 := heap_setCell_same w5 wr.heap.size 3 _ _ (.int .i64 x) r5; have s2 := heap_setCell_same _ wr.heap.size 4 _ _ (.int .i64 y) s1; have s3 := heap_setCell_same _ wr.heap.size 1 _ _ (.bool A) s2; have r6 := (hb6.block wr.heap.size (Array.getElem?_eq_some_iff.1 s3).1).trans s3; have p0 : w6.cell? ⟨wr.heap.size, 0, none⟩ = some (.int .u32 (k : Int)) := cell_of_row _ _ 0 _ _ _ r6; have p1 : w6.cell? ⟨wr.heap.size, 1, none⟩ = some (.bool A) := cell_of_row _ _ 1 _ _ _ r6; have p2 : w6.cell? ⟨wr.heap.size, 2, none⟩ = some (.bool false) := cell_of_row _ _ 2 _ _ _ r6; have p3 : w6.cell? ⟨wr.heap.size, 3, none⟩ = some (.int .i64 x) := cell_of_row _ _ 3 _ _ _ r6; have p4 : w6.cell? ⟨wr.heap.size, 4, none⟩ = some (.int .i64 y) := cell_of_row _ _ 4 _ _ _ r6; have p5 : w6.cell? ⟨wr.heap.size, 5, none⟩ = some (.int .i64 0) := cell_of_row _ _ 5 _ _ _ r6; have p6 : w6.cell? ⟨wr.heap.size, 6, none⟩ = some (.int .i64 0) := cell_of_row _ _ 6 _ _ _ r6; have g2 := frozen_of_row r6 2; have g5 := frozen_of_row r6 5; have g6 := frozen_of_row r6 6; clear q1 q2 q3 q4 f1 f3 f4 s1 s2 s3 r5 hb5 hb6 hbw5) | (go_at_call 41; fail))
        go_roundw
        case rel => exact ⟨j + 1, by omega, by go_num, by rw [hSt.out]; exact hJs _ (((hbw6.setCell (Nat.le_refl _) _).setCell (Nat.le_refl _) _).setCell (Nat.le_refl _) _)⟩
        case measure => simp [intOf]; omega
      · have hStep := hOther.out heq
        have hSt : Hid (difl (.leaf ba sa tha vka vna) (.leaf bb sb thb vkb vnb) p (j + 1) = difl (.leaf ba sa tha vka vna) (.leaf bb sb thb vkb vnb) p j ++ [(k, (oa, ob))]) := hStep
        have hcase : ¬ A = A' ∨ (A = A' ∧ ¬ x = x') ∨ (A = A' ∧ x = x' ∧ ¬ y = y') := by
          by_cases h1 : A = A'
          · by_cases h2 : x = x'
            · by_cases h3 : y = y'
              · exact absurd (hNe.out.2 ⟨h1, h2, h3⟩) heq
              · exact .inr (.inr ⟨h1, h2, h3⟩)
            · exact .inr (.inl ⟨h1, h2⟩)
          · exact .inl h1
        clear hStep hSame hOther hNe heq
        have hbZ : ∀ X, Below wr.heap.size wr X → ∀ u v b, Below wr.heap.size wr (((X.setCell ⟨wr.heap.size, 5, none⟩ u).setCell ⟨wr.heap.size, 6, none⟩ v).setCell ⟨wr.heap.size, 2, none⟩ b) := fun X hX u v b => ((hX.setCell (p := ⟨wr.heap.size, 5, none⟩) (Nat.le_refl _) _).setCell (p := ⟨wr.heap.size, 6, none⟩) (Nat.le_refl _) _).setCell (p := ⟨wr.heap.size, 2, none⟩) (Nat.le_refl _) _
        rcases hcase with e0 | ⟨rfl, e1⟩ | ⟨rfl, rfl, e2⟩
        all_goals
          go_wp2_with (first | (go_at_call 56; refine (hhd _).mono ?_; rintro e w4 ⟨rfl, h4⟩; subst w4) | (go_at_call_of 34 (Value.pointer (some ⟨sa, 0, none⟩)); refine (hLa _ (hbA _)).mono ?_; rintro e w5 ⟨rfl, hb5⟩; have hbw5 := below_step (hbA _) hb5; have r5 := (hb5.block wr.heap.size (by simp)).trans (heap_alloc_last wr _); have q1 := cell_of_row _ _ 1 _ _ _ r5; have q2 := cell_of_row _ _ 2 _ _ _ r5; have q3 := cell_of_row _ _ 3 _ _ _ r5; have q4 := cell_of_row _ _ 4 _ _ _ r5; have f1 := frozen_of_row r5 1; have f3 := frozen_of_row r5 3; have f4 := frozen_of_row r5 4) | (go_at_call 34; refine (hLb _ (((hbw5.setCell (Nat.le_refl _) _).setCell (Nat.le_refl _) _).setCell (Nat.le_refl _) _)).mono ?_; rintro e w6 ⟨rfl, hb6⟩; have hbw6 := below_step (((hbw5.setCell (p := ⟨wr.heap.size, 3, none⟩) (Nat.le_refl _) (.int .i64 x)).setCell (p := ⟨wr.heap.size, 4, none⟩) (Nat.le_refl _) (.int .i64 y)).setCell (p := ⟨wr.heap.size, 1, none⟩) (Nat.le_refl _) (.bool A)) hb6; have s1 := heap_setCell_same w5 wr.heap.size 3 _ _ (.int .i64 x) r5; have s2 := heap_setCell_same _ wr.heap.size 4 _ _ (.int .i64 y) s1; have s3 := heap_setCell_same _ wr.heap.size 1 _ _ (.bool A) s2; have r6 := (hb6.block wr.heap.size (Array.getElem?_eq_some_iff.1 s3).1).trans s3; have p0 : w6.cell? ⟨wr.heap.size, 0, none⟩ = some (.int .u32 (k : Int)) := cell_of_row _ _ 0 _ _ _ r6; have p1 : w6.cell? ⟨wr.heap.size, 1, none⟩ = some (.bool A) := cell_of_row _ _ 1 _ _ _ r6; have p2 : w6.cell? ⟨wr.heap.size, 2, none⟩ = some (.bool false) := cell_of_row _ _ 2 _ _ _ r6; have p3 : w6.cell? ⟨wr.heap.size, 3, none⟩ = some (.int .i64 x) := cell_of_row _ _ 3 _ _ _ r6; have p4 : w6.cell? ⟨wr.heap.size, 4, none⟩ = some (.int .i64 y) := cell_of_row _ _ 4 _ _ _ r6; have p5 : w6.cell? ⟨wr.heap.size, 5, none⟩ = some (.int .i64 0) := cell_of_row _ _ 5 _ _ _ r6; have p6 : w6.cell? ⟨wr.heap.size, 6, none⟩ = some (.int .i64 0) := cell_of_row _ _ 6 _ _ _ r6; have g2 := frozen_of_row r6 2; have g5 := frozen_of_row r6 5; have g6 := frozen_of_row r6 6; clear q1 q2 q3 q4 f1 f3 f4 s1 s2 s3 r5 hb5 hb6 hbw5) | (go_at_call 41; fail))
          refine (hcl _ (hbZ w6 hbw6 _ _ _)).mono ?_
          rintro e w7 ⟨o, rfl, -, -, hJ7, hX7⟩
          rw [List.append_assoc, ← hSt.out] at hJ7 hX7
          cases o with
          | true =>
            have hJ8 := hJ7 rfl
            clear hJ7 hX7
            go_wp2
            go_roundw
            case rel => exact ⟨j + 1, by omega, by go_num, hJ8⟩
            case measure => simp [intOf]; omega
          | false =>
            have hX8 := hX7 rfl
            clear hJ7 hX7
            go_wp2
            go_ret
            exact ⟨false, rfl, fun e => (by cases e), fun _ => ⟨_, difl_prefix _ _ _ (by omega), hX8⟩⟩
    · obtain rfl : j = 16 := by omega
      go_wp2
      go_ret
      exact ⟨true, rfl, fun _ => hJ, fun e => (by cases e)⟩

end Go.Proofs.YtmppgcijbeipfaaDoor


namespace Go.Proofs.YtmppgcijbeipfaaDoor
open Go.RowKit

theorem takesC_ends {f : Nat} {T : Addr} {B : Nat} {G : World → Prop} {off : Nat → World → Prop} {J Jx : List Ch → World → Prop} (hT : TakesC f T B G off J Jx) {d d' L : List Ch} {X : World} (o : Bool) (h1 : o = true → J d X) (h2 : o = false → ∃ pre, pre <+: L ∧ Jx (d' ++ pre) X) : G X := by
  cases o with
  | true => exact hT.good _ _ (h1 rfl)
  | false =>
    obtain ⟨pre, -, h⟩ := h2 rfl
    exact hT.goodx _ _ h

theorem infoNd : (Tryd.prog.info? 82).map (fun i => i.size) = some 17 := by kernel_rfl
theorem eql_same (w : World) (a : Addr) : (binOp BinOp.eql 70 (.pointer (some a)) (.pointer (some a))).run Tryd.prog w = .ok (.bool true) w := by
  obtain ⟨j, hj, -⟩ := Option.map_eq_some_iff.1 infoNd
  exact run_eql_ptr_same w a Tryd.underlying70 hj
theorem eql_other (w : World) (a b : Nat) (hne : ¬ a = b) {ca cb : Array Value} {ta tb : TypeId} (ha : w.heap[a]? = some (.cells ca ta (0, 0))) (hb : w.heap[b]? = some (.cells cb tb (0, 0))) : (binOp BinOp.eql 70 (.pointer (some ⟨a, 0, none⟩)) (.pointer (some ⟨b, 0, none⟩))).run Tryd.prog w = .ok (.bool false) w := by
  obtain ⟨j, hj, hs⟩ := Option.map_eq_some_iff.1 infoNd
  exact run_eql_ptr_other w Tryd.underlying70 hj (by rw [hs]; decide) (fun e => hne (congrArg Addr.block e)) ha hb
theorem eql_none (w : World) (a : Addr) : (binOp BinOp.eql 70 (.pointer none) (.pointer (some a))).run Tryd.prog w = .ok (.bool false) w := by
  have h : ∀ d : Nat, (Op.equalIn (d + 1) 70 (.pointer none) (.pointer (some a))).run Tryd.prog w = .ok false w := fun d => by
    simp [Op.equalIn, run_underlying Tryd.underlying70]
  simp only [binOp]
  simp [Op.equal, Op.maxDepth, h 9999]

set_option maxHeartbeats 1000000 in
theorem differ_same (T : Addr) (J Jx : List Ch → World → Prop) (u : Option Addr) (l p : Nat) (done : List Ch) (w : World) (h : J done w) :
    Calls Tryd.prog 52 #[.pointer u, .pointer u, .int .i64 (l : Int), .int .u32 (p : Int), yieldV T] w (EndsC J Jx done []) := by
  cases u with
  | none =>
    go_enter Tryd.func52, Tryd.ntmps52
    go_wp2
    go_ret
    exact ⟨true, rfl, fun _ => by rw [List.append_nil]; exact h, fun e => (by cases e)⟩
  | some ad =>
  have hq := eql_same w ad
  go_enter Tryd.func52, Tryd.ntmps52
  go_wp2
  go_ret
  exact ⟨true, rfl, fun _ => by rw [List.append_nil]; exact h, fun e => (by cases e)⟩

set_option maxHeartbeats 1000000 in
theorem differ_gain (T : Addr) (B : Nat) (off : Nat → World → Prop) (J Jx : List Ch → World → Prop) (n l : Nat) (hl : l + n = 7) (b : Tr) (c : Nat) (hc : b.ptr = .pointer (some ⟨c, 0, none⟩)) (hw : b.wf n) (hT : TakesC 41 T B (fun X => Lies X .nil ∧ Lies X b) off J Jx) (p : Nat) (hp : p + 16 ^ (n + 1) ≤ 4294967296) (hm : p % 16 ^ (n + 1) = 0) (done : List Ch) (w : World) (h : J done w) :
    Calls Tryd.prog 52 #[.pointer none, .pointer (some ⟨c, 0, none⟩), .int .i64 (l : Int), .int .u32 (p : Int), yieldV T] w (EndsC J Jx done (Tr.nil.dif b n p)) := by
  rw [dif_gain hw]
  have hfr := from_node b _ hc l p 0 w
  have hq := eql_none w ⟨c, 0, none⟩
  rw [show (((0 : Nat)) : Int) = 0 from rfl] at hfr
  go_enter Tryd.func52, Tryd.ntmps52
  go_wp2_with (first | (go_at_call 39; refine hfr.mono ?_; rintro e w1 ⟨rfl, hI, hb1⟩) | (go_at_call 57; refine (gained_any T B _ off J Jx hT w.heap.size n l hl b hw (fun X h => h.2) p hp hm done _ hI (hT.step _ _ _ h (stepB_below B hb1))).mono ?_; rintro e w2 ⟨o, rfl, hJ2, hX2⟩))
  go_ret
  exact ⟨o, rfl, hJ2, hX2⟩

set_option maxHeartbeats 1000000 in
theorem differ_lose (T : Addr) (B : Nat) (off : Nat → World → Prop) (J Jx : List Ch → World → Prop) (n l : Nat) (hl : l + n = 7) (a : Tr) (c : Nat) (hc : a.ptr = .pointer (some ⟨c, 0, none⟩)) (hw : a.wf n) (hT : TakesC 41 T B (fun X => Lies X a ∧ Lies X .nil) off J Jx) (p : Nat) (hp : p + 16 ^ (n + 1) ≤ 4294967296) (hm : p % 16 ^ (n + 1) = 0) (done : List Ch) (w : World) (h : J done w) :
    Calls Tryd.prog 52 #[.pointer (some ⟨c, 0, none⟩), .pointer none, .int .i64 (l : Int), .int .u32 (p : Int), yieldV T] w (EndsC J Jx done (a.dif .nil n p)) := by
  rw [dif_lose hw]
  have hfr := from_node a _ hc l p 0 w
  rw [show (((0 : Nat)) : Int) = 0 from rfl] at hfr
  go_enter Tryd.func52, Tryd.ntmps52
  go_wp2_with (first | (go_at_call 39; refine hfr.mono ?_; rintro e w1 ⟨rfl, hI, hb1⟩) | (go_at_call 58; refine (lost_any T B _ off J Jx hT w.heap.size n l hl a hw (fun X h => h.1) p hp hm done _ hI (hT.step _ _ _ h (stepB_below B hb1))).mono ?_; rintro e w2 ⟨o, rfl, hJ2, hX2⟩))
  go_ret
  exact ⟨o, rfl, hJ2, hX2⟩

set_option maxRecDepth 4000 in
set_option maxHeartbeats 1000000 in
theorem differ_down (T : Addr) (B : Nat) (off : Nat → World → Prop) (J Jx : List Ch → World → Prop) (ba sa : Nat) (tha : Nat → Bool) (vka vna : Nat → Int) (bb sb : Nat) (thb : Nat → Bool) (vkb vnb : Nat → Int) (hne : ¬ ba = bb) (hwa : (Tr.leaf ba sa tha vka vna).wf 0) (hwb : (Tr.leaf bb sb thb vkb vnb).wf 0)
    (hT : TakesC 41 T B (fun X => Lies X (.leaf ba sa tha vka vna) ∧ Lies X (.leaf bb sb thb vkb vnb)) off J Jx) (p : Nat) (hp : p + 16 ≤ 4294967296) (hm : p % 16 = 0) (done : List Ch) (w : World) (h : J done w) :
    Calls Tryd.prog 52 #[.pointer (some ⟨ba, 0, none⟩), .pointer (some ⟨bb, 0, none⟩), .int .i64 7, .int .u32 (p : Int), yieldV T] w (EndsC J Jx done ((Tr.leaf ba sa tha vka vna).dif (.leaf bb sb thb vkb vnb) 0 p)) := by
  rw [dif_leaf hwa hwb]
  have hJd := hT.step _ _ w.drew h (stepB_below B (Below.refl w.heap.size w).drew)
  have hLd := hT.good _ _ hJd
  have c0 := hLd.1.1.shelf
  have c1 := hLd.2.1.shelf
  have hq := eql_other w ba bb hne (hT.good _ _ h).1.1 (hT.good _ _ h).2.1
  have hsh := shelves_any T B off J Jx ba sa tha vka vna bb sb thb vkb vnb hwa hwb hT p hp hm done w.drew hJd
  go_enter Tryd.func52, Tryd.ntmps52
  go_wp2
  have hS : w.drew.cell? ⟨ba, 16, none⟩ = some (.pointer (some ⟨sa, 0, none⟩)) ∧ w.drew.cell? ⟨bb, 16, none⟩ = some (.pointer (some ⟨sb, 0, none⟩)) := ⟨c0, c1⟩
  go_region_held3 (fun X => X.cell? ⟨ba, 16, none⟩ = some (.pointer (some ⟨sa, 0, none⟩)) ∧ X.cell? ⟨bb, 16, none⟩ = some (.pointer (some ⟨sb, 0, none⟩))) (with_reducible assumption)
    (first | (go_at_call 59; refine hsh.mono ?_; rintro e w5 ⟨o, rfl, hJ5, hX5⟩; have hL5 := takesC_ends hT o hJ5 hX5; have hS5 : w5.cell? ⟨ba, 16, none⟩ = some (.pointer (some ⟨sa, 0, none⟩)) ∧ w5.cell? ⟨bb, 16, none⟩ = some (.pointer (some ⟨sb, 0, none⟩)) := ⟨hL5.1.1.shelf, hL5.2.1.shelf⟩))
  have hE : EndsC J Jx done (difl (.leaf ba sa tha vka vna) (.leaf bb sb thb vkb vnb) p 16) (.returned (.bool o)) w5 := ⟨o, rfl, hJ5, hX5⟩
  clear hJ5 hX5
  go_wp2
  go_ret
  exact hE

set_option maxRecDepth 4000 in
set_option maxHeartbeats 1000000 in
theorem differ_up (T : Addr) (B : Nat) (off : Nat → World → Prop) (J Jx : List Ch → World → Prop) (n l : Nat) (hn : l + (n + 1) = 7)
    (ih : ∀ (a b : Tr), a.wf n → b.wf n → TakesC 41 T B (fun X => Lies X a ∧ Lies X b) off J Jx → ∀ p : Nat, p + 16 ^ (n + 1) ≤ 4294967296 → p % 16 ^ (n + 1) = 0 → ∀ (done : List Ch) (w : World), J done w →
      Calls Tryd.prog 52 #[a.ptr, b.ptr, .int .i64 ((l + 1 : Nat) : Int), .int .u32 (p : Int), yieldV T] w (EndsC J Jx done (a.dif b n p)))
    (ca : Nat) (ka : Nat → Tr) (cb : Nat) (kb : Nat → Tr) (hne : ¬ ca = cb) (hwa : (Tr.node ca ka).wf (n + 1)) (hwb : (Tr.node cb kb).wf (n + 1)) (hT : TakesC 41 T B (fun X => Lies X (.node ca ka) ∧ Lies X (.node cb kb)) off J Jx) (p : Nat) (hp : p + 16 ^ (n + 1 + 1) ≤ 4294967296) (hm : p % 16 ^ (n + 1 + 1) = 0) (done : List Ch) (w : World) (h : J done w) :
    Calls Tryd.prog 52 #[.pointer (some ⟨ca, 0, none⟩), .pointer (some ⟨cb, 0, none⟩), .int .i64 (l : Int), .int .u32 (p : Int), yieldV T] w (EndsC J Jx done ((Tr.node ca ka).dif (.node cb kb) (n + 1) p)) := by
  rw [dif_node hwa hwb]
  have hl7 : ((l : Int) == 7) = false := by simp; omega
  have hq := eql_other w ca cb hne (hT.good _ _ h).1.1 (hT.good _ _ h).2.1
  go_enter Tryd.func52, Tryd.ntmps52
  go_wp2
  go_loopw [48] (fun x wr => ∃ j : Nat, j ≤ 16 ∧ x = .int .i64 j ∧ J (done ++ difs (.node ca ka) (.node cb kb) n p j) wr) (fun x _ => 16 - (intOf x).toNat)
  case atStart => exact ⟨0, by omega, rfl, by rw [difs_zero, List.append_nil]; exact h⟩
  case round =>
    obtain ⟨j, hj, rfl, hJ⟩ := hrel
    clear h
    by_cases hlt : j < 16
    · have hlt' : (j : Int) < 16 := by omega
      have hj0 : (0 : Int) ≤ (j : Int) := by omega
      have hJ1 := hT.step _ _ wr.drew hJ (stepB_below B (Below.refl wr.heap.size wr).drew)
      have hLd := hT.good _ _ hJ1
      have c0 := hLd.1.1.kid hlt
      have c1 := hLd.2.1.kid hlt
      obtain ⟨u, hu⟩ := ptr_pointer (ka j)
      obtain ⟨v, hv⟩ := ptr_pointer (kb j)
      rw [hu] at c0
      rw [hv] at c1
      obtain ⟨k, hk⟩ : ∃ k, p + j * 16 ^ (n + 1) = k := ⟨_, rfl⟩
      have h16 : 16 ^ (n + 1 + 1) = 16 ^ (n + 1) * 16 := Nat.pow_succ 16 (n + 1)
      have hjm : j * 16 ^ (n + 1) ≤ 15 * 16 ^ (n + 1) := Nat.mul_le_mul_right _ (by omega)
      have hkb : k + 16 ^ (n + 1) ≤ 4294967296 := by omega
      have hkm : k % 16 ^ (n + 1) = 0 := by
        rw [← hk, Nat.add_mul_mod_self_right, ← Nat.mod_mod_of_dvd p ⟨16, h16⟩, hm, Nat.zero_mod]
      have hhd := head_at n l hn p j k hk (by omega) hm hlt
      have hstep := difs_succ (.node ca ka) (.node cb kb) n p j
      rw [hk] at hstep
      have hwr : IntKind.i64.wrap ((l : Int) + 1) = (l : Int) + 1 := by rw [IntKind.wrap_i64]; omega
      have hcl := ih (ka j) (kb j) (hwa.2.1 j hlt) (hwb.2.1 j hlt) (hT.weak (fun X hX => ⟨hX.1.2 j hlt, hX.2.2 j hlt⟩)) k hkb hkm _ _ hJ1
      rw [hu, hv, show (((l + 1 : Nat)) : Int) = (l : Int) + 1 from by omega] at hcl
      have hStep : Hid (difs (.node ca ka) (.node cb kb) n p (j + 1) = difs (.node ca ka) (.node cb kb) n p j ++ (ka j).dif (kb j) n k) := hstep
      have hS : wr.drew.cell? ⟨ca, j, none⟩ = some (.pointer u) ∧ wr.drew.cell? ⟨cb, j, none⟩ = some (.pointer v) := ⟨c0, c1⟩
      clear hstep hk hkm hkb hjm h16 hLd c0 c1
      go_wp2
      go_region_held3 (fun X => X.cell? ⟨ca, j, none⟩ = some (.pointer u) ∧ X.cell? ⟨cb, j, none⟩ = some (.pointer v)) (with_reducible assumption)
        (first | (go_at_call 56; refine (hhd _).mono ?_; rintro e w4 ⟨rfl, rfl⟩) | (go_at_call 52; refine hcl.mono ?_; rintro e w5 ⟨o, rfl, hJ5, hX5⟩; have hL5 := takesC_ends hT o hJ5 hX5; have hS5 : w5.cell? ⟨ca, j, none⟩ = some (.pointer u) ∧ w5.cell? ⟨cb, j, none⟩ = some (.pointer v) := ⟨by { rw [← hu]; exact hL5.1.1.kid hlt }, by { rw [← hv]; exact hL5.2.1.kid hlt }⟩))
      rw [List.append_assoc, ← hStep.out] at hJ5
      cases o with
      | true =>
        have hJ6 := hJ5 rfl
        clear hJ5 hX5
        go_wp2
        go_roundw
        case rel => exact ⟨j + 1, by omega, by go_num, hJ6⟩
        case measure => simp [intOf]; omega
      | false =>
        obtain ⟨pre, hp5, hX6⟩ := hX5 rfl
        clear hJ5 hX5
        rw [List.append_assoc] at hX6
        have hq1 : difs (.node ca ka) (.node cb kb) n p j ++ pre <+: difs (.node ca ka) (.node cb kb) n p (j + 1) := by rw [hStep.out]; exact (List.prefix_append_right_inj _).2 hp5
        have hE : EndsC J Jx done (difs (.node ca ka) (.node cb kb) n p 16) (.returned (.bool false)) w5 := ⟨false, rfl, fun e => (by cases e), fun _ => ⟨_, List.IsPrefix.trans hq1 (difs_prefix _ _ _ _ (by omega)), hX6⟩⟩
        clear hp5 hX6 hq1
        go_wp2
        go_ret
        exact hE
    · obtain rfl : j = 16 := by omega
      go_wp2
      go_ret
      exact ⟨true, rfl, fun _ => hJ, fun e => (by cases e)⟩

/-- What differ does, at every height. -/
theorem differ_any (T : Addr) (B : Nat) (off : Nat → World → Prop) (J Jx : List Ch → World → Prop) : ∀ (n l : Nat), l + n = 7 → ∀ (a b : Tr), a.wf n → b.wf n → TakesC 41 T B (fun X => Lies X a ∧ Lies X b) off J Jx → ∀ p : Nat, p + 16 ^ (n + 1) ≤ 4294967296 → p % 16 ^ (n + 1) = 0 → ∀ (done : List Ch) (w : World), J done w →
      Calls Tryd.prog 52 #[a.ptr, b.ptr, .int .i64 (l : Int), .int .u32 (p : Int), yieldV T] w (EndsC J Jx done (a.dif b n p))
  | 0, l, hl, a, b, hwa, hwb, hT, p, hp, hm, done, w, h => by
    obtain rfl : l = 7 := by omega
    by_cases he : a.ptr = b.ptr
    · have hL := hT.good _ _ h
      rw [dif_one hwa hwb hL.1 hL.2 he]
      obtain ⟨u, hu⟩ := ptr_pointer b
      rw [he, hu]
      exact differ_same T J Jx u 7 p done w h
    · cases a with
      | node => exact absurd hwa.1 (by omega)
      | nil =>
        cases b with
        | nil => exact absurd rfl he
        | node => exact absurd hwb.1 (by omega)
        | leaf c s th vk vn => exact differ_gain T B off J Jx 0 7 hl _ c rfl hwb hT p hp hm done w h
      | leaf c s th vk vn =>
        cases b with
        | nil => exact differ_lose T B off J Jx 0 7 hl _ c rfl hwa hT p hp hm done w h
        | node => exact absurd hwb.1 (by omega)
        | leaf c' s' th' vk' vn' => exact differ_down T B off J Jx c s th vk vn c' s' th' vk' vn' (fun e => he (by subst e; rfl)) hwa hwb hT p hp hm done w h
  | n + 1, l, hl, a, b, hwa, hwb, hT, p, hp, hm, done, w, h => by
    by_cases he : a.ptr = b.ptr
    · have hL := hT.good _ _ h
      rw [dif_one hwa hwb hL.1 hL.2 he]
      obtain ⟨u, hu⟩ := ptr_pointer b
      rw [he, hu]
      exact differ_same T J Jx u l p done w h
    · cases a with
      | leaf => exact absurd hwa.1 (by omega)
      | nil =>
        cases b with
        | nil => exact absurd rfl he
        | leaf => exact absurd hwb.1 (by omega)
        | node c kids => exact differ_gain T B off J Jx (n + 1) l hl _ c rfl hwb hT p hp hm done w h
      | node c kids =>
        cases b with
        | nil => exact differ_lose T B off J Jx (n + 1) l hl _ c rfl hwa hT p hp hm done w h
        | leaf => exact absurd hwb.1 (by omega)
        | node c' kids' => exact differ_up T B off J Jx n l hl (fun a b ha hb hT p => differ_any T B off J Jx n (l + 1) (by omega) a b ha hb hT p) c kids c' kids' (fun e => he (by subst e; rfl)) hwa hwb hT p hp hm done w h

end Go.Proofs.YtmppgcijbeipfaaDoor

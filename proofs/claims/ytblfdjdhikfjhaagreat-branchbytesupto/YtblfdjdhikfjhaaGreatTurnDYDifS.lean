import Derived.Test.YtblfdjdhikfjhaaGreatJoin41
import Derived.Deep.DeepCutAuto
import Derived.Test.YtblfdjdhikfjhaaGreatJoin5
namespace Go.Proofs.YtblfdjdhikfjhaaGreat
open Go.RowKit Go.Shelf
attribute [local go_sem] Oper.semAt_some

/-- Trees that hang on one node hold the same. -/
theorem lies_get {X : World} : ∀ (n : Nat) {a b : Tr}, a.wf n → b.wf n → Lies X a → Lies X b → a.ptr = b.ptr → ∀ r, a.get n r = b.get n r
  | 0, a, b, ha, hb, la, lb, he, r => by
    cases a with
    | node => exact absurd ha.1 (by omega)
    | nil =>
      cases b with
      | nil => rfl
      | node => cases he
      | leaf => cases he
    | leaf c s th vk vn =>
      cases b with
      | nil => cases he
      | node => exact absurd hb.1 (by omega)
      | leaf c' s' th' vk' vn' =>
        obtain rfl : c = c' := congrArg Addr.block (Option.some.inj (Value.pointer.inj he))
        have hs : s = s' := by
          have h1 := la.1.shelf
          have h2 := lb.1.shelf
          rw [h1] at h2
          exact congrArg Addr.block (Option.some.inj (Value.pointer.inj (Option.some.inj h2)))
        subst hs
        have hd := dg_lt r 0
        have t1 := la.2.th hd
        rw [lb.2.th hd] at t1
        have e1 : th' (dg r 0) = th (dg r 0) := Value.bool.inj (Option.some.inj t1)
        have v1 := (la.2.val hd).1
        rw [(lb.2.val hd).1] at v1
        have e2 : vk' (dg r 0) = vk (dg r 0) := (Value.int.inj (Option.some.inj v1)).2
        have v2 := (la.2.val hd).2
        rw [(lb.2.val hd).2] at v2
        have e3 : vn' (dg r 0) = vn (dg r 0) := (Value.int.inj (Option.some.inj v2)).2
        show (if th (dg r 0) = true then some (vk (dg r 0), vn (dg r 0)) else none) = (if th' (dg r 0) = true then some (vk' (dg r 0), vn' (dg r 0)) else none)
        rw [e1, e2, e3]
  | n + 1, a, b, ha, hb, la, lb, he, r => by
    cases a with
    | leaf => exact absurd ha.1 (by omega)
    | nil =>
      cases b with
      | nil => rfl
      | node => cases he
      | leaf => cases he
    | node c kids =>
      cases b with
      | nil => cases he
      | leaf => exact absurd hb.1 (by omega)
      | node c' kids' =>
        obtain rfl : c = c' := congrArg Addr.block (Option.some.inj (Value.pointer.inj he))
        have hd := dg_lt r (n + 1)
        have h1 := la.1.kid hd
        rw [lb.1.kid hd] at h1
        have e1 : (kids' (dg r (n + 1))).ptr = (kids (dg r (n + 1))).ptr := Option.some.inj h1
        exact lies_get n (ha.2.1 _ hd) (hb.2.1 _ hd) (la.2 _ hd) (lb.2 _ hd) e1.symm r

theorem dif_one {X : World} {n : Nat} {a b : Tr} (ha : a.wf n) (hb : b.wf n) (la : Lies X a) (lb : Lies X b) (he : a.ptr = b.ptr) (p : Nat) : a.dif b n p = [] := by
  unfold Tr.dif
  rw [List.filterMap_eq_nil_iff]
  intro r _
  rw [if_pos (lies_get n ha hb la lb he r)]

theorem at_leaf {b s : Nat} {th : Nat → Bool} {vk vn : Nat → Int} (hw : (Tr.leaf b s th vk vn).wf 0) {i : Nat} (hi : i < 16) : ((Tr.leaf b s th vk vn).at i).isSome = th i ∧ ((Tr.leaf b s th vk vn).at i).getD (0, 0) = (vk i, vn i) := by
  unfold Tr.at
  show (if th i = true then some (vk i, vn i) else none).isSome = th i ∧ (if th i = true then some (vk i, vn i) else none).getD (0, 0) = (vk i, vn i)
  cases h : th i with
  | true => exact ⟨rfl, rfl⟩
  | false =>
    obtain ⟨h1, h2⟩ := hw.2.1 i hi h
    rw [h1, h2]
    exact ⟨rfl, rfl⟩

set_option maxRecDepth 8000 in
set_option maxHeartbeats 1000000 in
theorem shelves_anyD (T : Nat) (B : Nat) (off : Nat → World → Prop) (Q : List Ch → Ch → Prop) (J Jx : List Ch → World → Prop) (ba sa : Nat) (tha : Nat → Bool) (vka vna : Nat → Int) (bb sb : Nat) (thb : Nat → Bool) (vkb vnb : Nat → Int) (hwa : (Tr.leaf ba sa tha vka vna).wf 0) (hwb : (Tr.leaf bb sb thb vkb vnb).wf 0)
    (hT : TakesD T B (fun X => Lies X (.leaf ba sa tha vka vna) ∧ Lies X (.leaf bb sb thb vkb vnb)) off Q J Jx) (p : Nat) (hp : p + 16 ≤ 4294967296) (hm : p % 16 = 0) (done : List Ch) (w : World) (h : J done w) (hQ : ∀ pre c, pre ++ [c] <+: difl (.leaf ba sa tha vka vna) (.leaf bb sb thb vkb vnb) p 16 → Q (done ++ pre) c) :
    Calls Tryz.prog 117 #[.pointer (some ⟨sa, 0, none⟩), .pointer (some ⟨sb, 0, none⟩), .int .u32 (p : Int), yieldVD T] w (EndsC J Jx done (difl (.leaf ba sa tha vka vna) (.leaf bb sb thb vkb vnb) p 16)) := by
  go_enter Tryz.func117, Tryz.ntmps117
  unfold yieldVD
  go_wp2
  go_loopw [11] (fun x wr => ∃ j : Nat, j ≤ 16 ∧ x = .int .i64 j ∧ J (done ++ difl (.leaf ba sa tha vka vna) (.leaf bb sb thb vkb vnb) p j) wr) (fun x _ => 16 - (intOf x).toNat)
  case atStart => exact ⟨0, by omega, rfl, by rw [difl_zero, List.append_nil]; exact h⟩
  case round =>
    obtain ⟨j, hj, rfl, hJ⟩ := hrel
    clear h
    by_cases hlt : j < 16
    · have hlt' : (j : Int) < 16 := by omega
      have hj0 : (0 : Int) ≤ (j : Int) := by omega
      obtain ⟨k, hk⟩ : ∃ k, p + j = k := ⟨_, rfl⟩
      have hhd := head_bottom p j k hk (by omega) hm hlt
      have hSh : ∀ X, Below wr.heap.size wr X → ShelfAt X sa tha vka vna ∧ ShelfAt X sb thb vkb vnb := fun X hb => by
        have := hT.good _ _ (hT.step _ _ X hJ (stepB_below B hb))
        exact ⟨this.1.2, this.2.2⟩
      have hbA : ∀ o, Below wr.heap.size wr (wr.alloc o) := fun o => (Below.refl _ _).alloc (Nat.le_refl _) o
      have aA := at_leaf hwa hlt
      have aB := at_leaf hwb hlt
      have hch : chL (k, ((Tr.leaf ba sa tha vka vna).at j, (Tr.leaf bb sb thb vkb vnb).at j)) = [.int .u32 (k : Int), .bool (tha j), .bool (thb j), .int .i64 (vka j), .int .i64 (vna j), .int .i64 (vkb j), .int .i64 (vnb j)] := by
        simp only [chL]
        rw [aA.1, aA.2, aB.1, aB.2]
      have hNe : Hid ((Tr.leaf ba sa tha vka vna).at j = (Tr.leaf bb sb thb vkb vnb).at j ↔ tha j = thb j ∧ vka j = vkb j ∧ vna j = vnb j) := by
        constructor
        · intro e
          have e1 := aA.1
          have e2 := aA.2
          rw [e, aB.1] at e1
          rw [e, aB.2] at e2
          exact ⟨e1.symm, (congrArg Prod.fst e2).symm, (congrArg Prod.snd e2).symm⟩
        · rintro ⟨e1, e2, e3⟩
          show (if tha j = true then some (vka j, vna j) else none) = (if thb j = true then some (vkb j, vnb j) else none)
          rw [e1, e2, e3]
      have hK : Hid (p + j = k) := hk
      have hCh : Hid (chL (k, ((Tr.leaf ba sa tha vka vna).at j, (Tr.leaf bb sb thb vkb vnb).at j)) = [.int .u32 (k : Int), .bool (tha j), .bool (thb j), .int .i64 (vka j), .int .i64 (vna j), .int .i64 (vkb j), .int .i64 (vnb j)]) := hch
      have hLa := fun X hb => look_any sa j hlt tha vka vna X (hSh X hb).1
      have hLb := fun X hb => look_any sb j hlt thb vkb vnb X (hSh X hb).2
      have hSame : Hid ((Tr.leaf ba sa tha vka vna).at j = (Tr.leaf bb sb thb vkb vnb).at j → difl (.leaf ba sa tha vka vna) (.leaf bb sb thb vkb vnb) p (j + 1) = difl (.leaf ba sa tha vka vna) (.leaf bb sb thb vkb vnb) p j) := fun e => difl_same e
      have hOther : Hid (¬ (Tr.leaf ba sa tha vka vna).at j = (Tr.leaf bb sb thb vkb vnb).at j → difl (.leaf ba sa tha vka vna) (.leaf bb sb thb vkb vnb) p (j + 1) = difl (.leaf ba sa tha vka vna) (.leaf bb sb thb vkb vnb) p j ++ [(k, ((Tr.leaf ba sa tha vka vna).at j, (Tr.leaf bb sb thb vkb vnb).at j))]) := fun e => by rw [difl_other e, hk]
      have hJs : ∀ X, Below wr.heap.size wr X → J (done ++ difl (.leaf ba sa tha vka vna) (.leaf bb sb thb vkb vnb) p j) X := fun X hb => hT.step _ _ X hJ (stepB_below B hb)
      have hQk : Hid (¬ (Tr.leaf ba sa tha vka vna).at j = (Tr.leaf bb sb thb vkb vnb).at j → Q (done ++ difl (.leaf ba sa tha vka vna) (.leaf bb sb thb vkb vnb) p j) (k, ((Tr.leaf ba sa tha vka vna).at j, (Tr.leaf bb sb thb vkb vnb).at j))) := fun e => hQ _ _ (by rw [← hOther.out e]; exact difl_prefix _ _ _ (by omega))
      have hcl := fun X hb hq => hT.call _ X (k, ((Tr.leaf ba sa tha vka vna).at j, (Tr.leaf bb sb thb vkb vnb).at j)) k (tha j) (thb j) (vka j) (vna j) (vkb j) (vnb j) 3 hch hq (hJs X hb)
      generalize (Tr.leaf ba sa tha vka vna).at j = oa at *
      generalize (Tr.leaf bb sb thb vkb vnb).at j = ob at *
      generalize tha j = A at *
      generalize vka j = x at *
      generalize vna j = y at *
      generalize thb j = A' at *
      generalize vkb j = x' at *
      generalize vnb j = y' at *
      clear hk hch aA aB hCh hSh hK
      by_cases heq : oa = ob
      · obtain ⟨rfl, rfl, rfl⟩ := hNe.out.1 heq
        have e0 : (A != A) = false := by cases A <;> rfl
        have e1 : (x == x) = true := by simp
        have e2 : (y == y) = true := by simp
        have hStep := hSame.out heq
        have hSt : Hid (difl (.leaf ba sa tha vka vna) (.leaf bb sb thb vkb vnb) p (j + 1) = difl (.leaf ba sa tha vka vna) (.leaf bb sb thb vkb vnb) p j) := hStep
        clear hStep hSame hOther hNe heq hcl hQk
        go_wp2_with (first | (go_at_call 92; refine (hhd _).mono ?_; rintro e w4 ⟨rfl, h4⟩; subst w4) | (go_at_call_of 77 (Value.pointer (some ⟨sa, 0, none⟩)); refine (hLa _ (hbA _)).mono ?_; rintro e w5 ⟨rfl, hb5⟩; have hbw5 := below_step (hbA _) hb5; have r5 := (hb5.block wr.heap.size (by simp)).trans (heap_alloc_last wr _); have q1 := cell_of_row _ _ 1 _ _ _ r5; have q2 := cell_of_row _ _ 2 _ _ _ r5; have q3 := cell_of_row _ _ 3 _ _ _ r5; have q4 := cell_of_row _ _ 4 _ _ _ r5; have f1 := frozen_of_row r5 1; have f3 := frozen_of_row r5 3; have f4 := frozen_of_row r5 4) | (go_at_call 77; refine (hLb _ (((hbw5.setCell (Nat.le_refl _) _).setCell (Nat.le_refl _) _).setCell (Nat.le_refl _) _)).mono ?_; rintro e w6 ⟨rfl, hb6⟩; have hbw6 := below_step (((hbw5.setCell (p := ⟨wr.heap.size, 3, none⟩) (Nat.le_refl _) (.int .i64 x)).setCell (p := ⟨wr.heap.size, 4, none⟩) (Nat.le_refl _) (.int .i64 y)).setCell (p := ⟨wr.heap.size, 1, none⟩) (Nat.le_refl _) (.bool A)) hb6; have s1 := heap_setCell_same w5 wr.heap.size 3 _ _ (.int .i64 x) r5; have s2 := heap_setCell_same _ wr.heap.size 4 _ _ (.int .i64 y) s1; have s3 := heap_setCell_same _ wr.heap.size 1 _ _ (.bool A) s2; have r6 := (hb6.block wr.heap.size (Array.getElem?_eq_some_iff.1 s3).1).trans s3; have p0 : w6.cell? ⟨wr.heap.size, 0, none⟩ = some (.int .u32 (k : Int)) := cell_of_row _ _ 0 _ _ _ r6; have p1 : w6.cell? ⟨wr.heap.size, 1, none⟩ = some (.bool A) := cell_of_row _ _ 1 _ _ _ r6; have p2 : w6.cell? ⟨wr.heap.size, 2, none⟩ = some (.bool false) := cell_of_row _ _ 2 _ _ _ r6; have p3 : w6.cell? ⟨wr.heap.size, 3, none⟩ = some (.int .i64 x) := cell_of_row _ _ 3 _ _ _ r6; have p4 : w6.cell? ⟨wr.heap.size, 4, none⟩ = some (.int .i64 y) := cell_of_row _ _ 4 _ _ _ r6; have p5 : w6.cell? ⟨wr.heap.size, 5, none⟩ = some (.int .i64 0) := cell_of_row _ _ 5 _ _ _ r6; have p6 : w6.cell? ⟨wr.heap.size, 6, none⟩ = some (.int .i64 0) := cell_of_row _ _ 6 _ _ _ r6; have g2 := frozen_of_row r6 2; have g5 := frozen_of_row r6 5; have g6 := frozen_of_row r6 6; clear q1 q2 q3 q4 f1 f3 f4 s1 s2 s3 r5 hb5 hb6 hbw5))
        go_roundw
        case rel => exact ⟨j + 1, by omega, by go_num, by rw [hSt.out]; exact hJs _ (((hbw6.setCell (Nat.le_refl _) _).setCell (Nat.le_refl _) _).setCell (Nat.le_refl _) _)⟩
        case measure => simp [intOf]; omega
      · have hStep := hOther.out heq
        have hSt : Hid (difl (.leaf ba sa tha vka vna) (.leaf bb sb thb vkb vnb) p (j + 1) = difl (.leaf ba sa tha vka vna) (.leaf bb sb thb vkb vnb) p j ++ [(k, (oa, ob))]) := hStep
        have hcase : ¬ A = A' ∨ (A = A' ∧ ¬ x = x') ∨ (A = A' ∧ x = x' ∧ ¬ y = y') := by
          by_cases h1 : A = A'
          · by_cases h2 : x = x'
            · by_cases h3 : y = y'
              · exact absurd (hNe.out.2 ⟨h1, h2, h3⟩) heq
              · exact .inr (.inr ⟨h1, h2, h3⟩)
            · exact .inr (.inl ⟨h1, h2⟩)
          · exact .inl h1
        have hQ2 := hQk.out heq
        clear hStep hSame hOther hNe heq hQk
        have hbZ : ∀ X, Below wr.heap.size wr X → ∀ u v b, Below wr.heap.size wr (((X.setCell ⟨wr.heap.size, 5, none⟩ u).setCell ⟨wr.heap.size, 6, none⟩ v).setCell ⟨wr.heap.size, 2, none⟩ b) := fun X hX u v b => ((hX.setCell (p := ⟨wr.heap.size, 5, none⟩) (Nat.le_refl _) _).setCell (p := ⟨wr.heap.size, 6, none⟩) (Nat.le_refl _) _).setCell (p := ⟨wr.heap.size, 2, none⟩) (Nat.le_refl _) _
        rcases hcase with e0 | ⟨rfl, e1⟩ | ⟨rfl, rfl, e2⟩
        all_goals
          go_upto_region 7 with (first | (go_at_call 92; refine (hhd _).mono ?_; rintro e w4 ⟨rfl, h4⟩; subst w4) | (go_at_call_of 77 (Value.pointer (some ⟨sa, 0, none⟩)); refine (hLa _ (hbA _)).mono ?_; rintro e w5 ⟨rfl, hb5⟩; have hbw5 := below_step (hbA _) hb5; have r5 := (hb5.block wr.heap.size (by simp)).trans (heap_alloc_last wr _); have q1 := cell_of_row _ _ 1 _ _ _ r5; have q2 := cell_of_row _ _ 2 _ _ _ r5; have q3 := cell_of_row _ _ 3 _ _ _ r5; have q4 := cell_of_row _ _ 4 _ _ _ r5; have f1 := frozen_of_row r5 1; have f3 := frozen_of_row r5 3; have f4 := frozen_of_row r5 4) | (go_at_call 77; refine (hLb _ (((hbw5.setCell (Nat.le_refl _) _).setCell (Nat.le_refl _) _).setCell (Nat.le_refl _) _)).mono ?_; rintro e w6 ⟨rfl, hb6⟩; have hbw6 := below_step (((hbw5.setCell (p := ⟨wr.heap.size, 3, none⟩) (Nat.le_refl _) (.int .i64 x)).setCell (p := ⟨wr.heap.size, 4, none⟩) (Nat.le_refl _) (.int .i64 y)).setCell (p := ⟨wr.heap.size, 1, none⟩) (Nat.le_refl _) (.bool A)) hb6; have s1 := heap_setCell_same w5 wr.heap.size 3 _ _ (.int .i64 x) r5; have s2 := heap_setCell_same _ wr.heap.size 4 _ _ (.int .i64 y) s1; have s3 := heap_setCell_same _ wr.heap.size 1 _ _ (.bool A) s2; have r6 := (hb6.block wr.heap.size (Array.getElem?_eq_some_iff.1 s3).1).trans s3; have p0 : w6.cell? ⟨wr.heap.size, 0, none⟩ = some (.int .u32 (k : Int)) := cell_of_row _ _ 0 _ _ _ r6; have p1 : w6.cell? ⟨wr.heap.size, 1, none⟩ = some (.bool A) := cell_of_row _ _ 1 _ _ _ r6; have p2 : w6.cell? ⟨wr.heap.size, 2, none⟩ = some (.bool false) := cell_of_row _ _ 2 _ _ _ r6; have p3 : w6.cell? ⟨wr.heap.size, 3, none⟩ = some (.int .i64 x) := cell_of_row _ _ 3 _ _ _ r6; have p4 : w6.cell? ⟨wr.heap.size, 4, none⟩ = some (.int .i64 y) := cell_of_row _ _ 4 _ _ _ r6; have p5 : w6.cell? ⟨wr.heap.size, 5, none⟩ = some (.int .i64 0) := cell_of_row _ _ 5 _ _ _ r6; have p6 : w6.cell? ⟨wr.heap.size, 6, none⟩ = some (.int .i64 0) := cell_of_row _ _ 6 _ _ _ r6; have g2 := frozen_of_row r6 2; have g5 := frozen_of_row r6 5; have g6 := frozen_of_row r6 6; clear q1 q2 q3 q4 f1 f3 f4 s1 s2 s3 r5 hb5 hb6 hbw5))
          first
            | have hYd := hcl _ (hbZ w6 hbw6 (.int .i64 x') (.int .i64 y') (.bool A')) hQ2
            | have hYd := hcl _ (hbZ w6 hbw6 (.int .i64 x') (.int .i64 y') (.bool A)) hQ2
            | have hYd := hcl _ (hbZ w6 hbw6 (.int .i64 x) (.int .i64 y') (.bool A)) hQ2
          obtain ⟨fn, tm, asg, bod, hy, hR⟩ := hYd
          refine (wpIn_wide (n := 4)).1 ?_
          gi_wp2
          refine (roundIn_depth hR).mono ?_
          rintro e w7 ⟨o, rfl, -, -, hJ7, hX7⟩
          rw [List.append_assoc, ← hSt.out] at hJ7 hX7
          cases o with
          | true =>
            have hJ8 := hJ7 rfl
            clear hJ7 hX7
            gi_wp2
            go_wp2
            go_roundw
            case rel => exact ⟨j + 1, by omega, by go_num, hJ8⟩
            case measure => simp [intOf]; omega
          | false =>
            have hX8 := hX7 rfl
            clear hJ7 hX7
            gi_wp2
            go_wp2
            go_ret
            exact ⟨false, rfl, fun e => (by cases e), fun _ => ⟨_, difl_prefix _ _ _ (by omega), hX8⟩⟩
    · obtain rfl : j = 16 := by omega
      go_wp2
      go_ret
      exact ⟨true, rfl, fun _ => hJ, fun e => (by cases e)⟩

end Go.Proofs.YtblfdjdhikfjhaaGreat

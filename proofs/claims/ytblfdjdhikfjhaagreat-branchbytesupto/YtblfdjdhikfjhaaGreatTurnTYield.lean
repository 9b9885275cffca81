import Derived.Test.YtblfdjdhikfjhaaGreatJoin8
import Derived.RangeFuncNested
import Derived.RangeFuncBound
import Derived.RangeFuncCalls
import Derived.RangeFuncLeaves
import Derived.Shelf.Abstract
import Derived.OwnWalkIn
import Derived.TacticsInMore
import Derived.LoopNIn
import Derived.LoopIn
import Derived.Stop.RegionWithIn
import Derived.Deep.QuietTactic
import Derived.BigQuiet
namespace Go.Proofs.YtblfdjdhikfjhaaGreat
open Go.RowKit Go.Shelf
attribute [local go_sem] Oper.semAt_some

abbrev encE (k : Nat) (x y : Int) : Array Value := #[.int .u32 (k : Int), .agg #[.int .i64 x, .int .i64 y]]

/-- What is asked of the body of a range over an iterator of entries: the loop's record is block l. -/
structure TakesY (l : Nat) (t : Tr) (P : List (Nat × (Int × Int)) → Nat × (Int × Int) → Prop) (J Jx : List (Nat × (Int × Int)) → World → Prop) : Prop where
  lies : ∀ done X, J done X → Lies X t
  liesx : ∀ done X, Jx done X → Lies X t
  draw : ∀ done X n, J done X → J done (X.drewN n)
  call : ∀ done X (k : Nat) (x y : Int) (m : Nat), k < 4294967296 → P done (k, (x, y)) → J done X → YieldAt Fence.wide m Tryz.prog l (encE k x y) X fun e X' => ∃ o : Bool, e = .returned (.bool o) ∧ (o = true → J (done ++ [(k, (x, y))]) X') ∧ (o = false → Jx (done ++ [(k, (x, y))]) X')

theorem takesY_lies {l : Nat} {t : Tr} {P : List (Nat × (Int × Int)) → Nat × (Int × Int) → Prop} {J Jx : List (Nat × (Int × Int)) → World → Prop} (hT : TakesY l t P J Jx) {d : List (Nat × (Int × Int))} {X : World} (o : Bool) (h1 : o = true → J d X) (h2 : o = false → Jx d X) : Lies X t := by
  cases o with
  | true => exact hT.lies _ _ (h1 rfl)
  | false => exact hT.liesx _ _ (h2 rfl)

/-- An operation that yields in whatever world is taken first; its slot is given. -/
theorem take_at {F : Fence} {n : Nat} {P : Program} {md : Region.Mode} {ops : Array Oper} {Q : Exit → Act → World → Prop} {i : Nat} {oi : Oper} {d : Option Tmp} {v : Value} {fuel : Nat} {listed : Array Bool} {a : Act} {w : World} (hro : F.round = none) (hi : ops[i]? = some oi) (hd : oi.dst = d)
    (hs : Region.noSelect ops = true) (hf : Region.free md ops listed i = true) (hr : (Region.ready md ops listed).contains i = true)
    (hQ : ∀ c a w, Q (.panic c) (a.put d v) w → Q (.panic c) a w) (hy : YieldsFenced P ops oi v a)
    (h : wpAnyIn F n P md ops Q fuel (listed.setIfInBounds i true) (a.put d v) w) : wpAnyIn F n P md ops Q (fuel + 1) listed a w := by
  subst hd
  exact wpAnyIn_take hro hi hs hf hr hQ hy h

set_option maxRecDepth 8000 in
set_option maxHeartbeats 1000000 in
theorem shelf_searchY (l b s : Nat) (th : Nat → Bool) (vk vn : Nat → Int) (P : List (Nat × (Int × Int)) → Nat × (Int × Int) → Prop) (J Jx : List (Nat × (Int × Int)) → World → Prop) (hT : TakesY l (.leaf b s th vk vn) P J Jx) (p first : Nat) (hf : first ≤ 16) (hp : p + 16 ≤ 4294967296) (hm : p % 16 = 0) (done : List (Nat × (Int × Int))) (w : World) (h : J done w) (hP : ∀ pre e, pre ++ [e] <+: seg th vk vn p first 16 → P (done ++ pre) e) :
    Calls Tryz.prog 91 #[.pointer (some ⟨s, 0, none⟩), .int .u32 (p : Int), .int .i64 (first : Int), .func (.yield l) #[] #[]] w (Ends J Jx done (seg th vk vn p first 16)) := by
  refine (callsIn_wide (n := 3)).1 ?_
  refine callsIn_of_wp Tryz.func91 rfl trivial ?_ rfl
  simp only [Tryz.ntmps91, List.size_toArray, List.length_cons, List.length_nil, Nat.reduceAdd, Nat.reduceSub, Array.replicate_succ, Array.replicate_zero, List.push_toArray, List.append_toArray, List.nil_append, List.cons_append]
  gi_wp2
  gi_loopw [9] (fun x wr => ∃ j : Nat, first ≤ j ∧ j ≤ 16 ∧ x = .int .i64 j ∧ J (done ++ seg th vk vn p first j) wr) (fun x _ => 16 - (intOf x).toNat)
  case atStart => exact ⟨first, Nat.le_refl _, hf, rfl, by rw [seg_first, List.append_nil]; exact h⟩
  case round =>
    obtain ⟨j, hj1, hj2, rfl, hJ⟩ := hrel
    clear h
    by_cases hlt : j < 16
    · have hlt' : (j : Int) < 16 := by omega
      have hj0 : (0 : Int) ≤ (j : Int) := by omega
      have hS := (hT.lies _ _ hJ).2
      have c0 := hS.th hlt
      have c1 := (hS.val hlt).1
      have c2 := (hS.val hlt).2
      cases ht : th j with
      | false =>
        rw [ht] at c0
        gi_wp2
        refine wpIn_wide.2 ?_
        go_quiet (fail)
        gi_wp2
        exact ⟨⟨j + 1, by omega, by omega, by go_num, by rw [seg_no hj1 ht]; exact hT.draw _ _ _ hJ⟩, by simp [intOf]; omega⟩
      | true =>
        rw [ht] at c0
        have hJ1 : J (done ++ seg th vk vn p first j) wr.drew := hT.draw _ _ 1 hJ
        obtain ⟨k, hk⟩ : ∃ k, p + j = k := ⟨_, rfl⟩
        have hyes := seg_yes (vk := vk) (vn := vn) (p := p) hj1 ht
        rw [hk] at hyes
        have hk32 : k < 4294967296 := by omega
        obtain ⟨fn, tmps, assign, body, hy, hR⟩ := hT.call _ _ k (vk j) (vn j) 2 hk32 (hP _ _ (by rw [← hyes]; exact seg_prefix (by omega) (by omega))) hJ1
        have hhd := fun X => (callsIn_wide (n := 2)).2 (head_bottom p j k hk (by omega) hm hlt X)
        have hYes : Hid (seg th vk vn p first (j + 1) = seg th vk vn p first j ++ [(k, (vk j, vn j))]) := hyes
        clear hyes hk
        dsimp only [encE] at hy
        gi_wp2
        refine wpIn_region_any (by kernel_rfl) ?_
        try (change wpAnyIn _ _ _ _ _ _ _ _ _ (World.drew _))
        refine take_at (i := 0) (d := some 15) (v := ?_) rfl rfl rfl (by kernel_rfl) (by kernel_rfl) (by kernel_rfl) (fun _ _ _ h => h) ⟨Or.inl ⟨by rfl, ?_⟩, fun _ => rfl⟩ ?_
        rotate_left
        · (intro w; go_simp; (try with_reducible rfl))
        simp only [Act.put, List.setIfInBounds_toArray, List.set_cons_zero, List.set_cons_succ]
        refine take_at (i := 1) (d := some 16) (v := ?_) rfl rfl rfl (by kernel_rfl) (by kernel_rfl) (by kernel_rfl) (fun _ _ _ h => h) ⟨Or.inl ⟨by rfl, ?_⟩, fun _ => rfl⟩ ?_
        rotate_left
        · (intro w; go_simp; (try with_reducible rfl))
        simp only [Act.put, List.setIfInBounds_toArray, List.set_cons_zero, List.set_cons_succ]
        refine take_at (i := 2) (d := some 17) (v := ?_) rfl rfl rfl (by kernel_rfl) (by kernel_rfl) (by kernel_rfl) (fun _ _ _ h => h) ⟨Or.inl ⟨by rfl, ?_⟩, fun _ => rfl⟩ ?_
        rotate_left
        · (intro w; go_simp; (try with_reducible rfl))
        simp only [Act.put, List.setIfInBounds_toArray, List.set_cons_zero, List.set_cons_succ]
        refine take_at (i := 3) (d := some 18) (v := ?_) rfl rfl rfl (by kernel_rfl) (by kernel_rfl) (by kernel_rfl) (fun _ _ _ h => h) ⟨Or.inl ⟨by rfl, ?_⟩, fun _ => rfl⟩ ?_
        rotate_left
        · (intro w; go_simp; (try with_reducible rfl))
        simp only [Act.put, List.setIfInBounds_toArray, List.set_cons_zero, List.set_cons_succ]
        refine take_at (i := 4) (d := some 19) (v := ?_) rfl rfl rfl (by kernel_rfl) (by kernel_rfl) (by kernel_rfl) (fun _ _ _ h => h) ⟨Or.inl ⟨by rfl, ?_⟩, fun _ => rfl⟩ ?_
        rotate_left
        · (intro w; go_simp; (try with_reducible rfl))
        simp only [Act.put, List.setIfInBounds_toArray, List.set_cons_zero, List.set_cons_succ]
        refine wpAnyIn_ready (rs := [5]) (by kernel_rfl) (by simp) ?_
        refine AllReadyIn.cons rfl (fun K hK => ?_) AllReadyIn.nil
        go_simp
        refine hK _ _ ?_
        clear hK K
        refine take_at (i := 6) (d := some 21) (v := ?_) rfl rfl rfl (by kernel_rfl) (by kernel_rfl) (by kernel_rfl) (fun _ _ _ h => h) ⟨Or.inl ⟨by rfl, ?_⟩, fun _ => rfl⟩ ?_
        rotate_left
        · (intro w; go_simp; (try with_reducible rfl))
        simp only [Act.put, List.setIfInBounds_toArray, List.set_cons_zero, List.set_cons_succ]
        refine take_at (i := 7) (d := some 22) (v := ?_) rfl rfl rfl (by kernel_rfl) (by kernel_rfl) (by kernel_rfl) (fun _ _ _ h => h) ⟨Or.inl ⟨by rfl, ?_⟩, fun _ => rfl⟩ ?_
        rotate_left
        · (intro w; go_simp; (try with_reducible rfl))
        simp only [Act.put, List.setIfInBounds_toArray, List.set_cons_zero, List.set_cons_succ]
        refine take_at (i := 8) (d := some 23) (v := ?_) rfl rfl rfl (by kernel_rfl) (by kernel_rfl) (by kernel_rfl) (fun _ _ _ h => h) ⟨Or.inl ⟨by rfl, ?_⟩, fun _ => rfl⟩ ?_
        rotate_left
        · (intro w; go_simp; (try with_reducible rfl))
        simp only [Act.put, List.setIfInBounds_toArray, List.set_cons_zero, List.set_cons_succ]
        refine take_at (i := 9) (d := some 24) (v := ?_) rfl rfl rfl (by kernel_rfl) (by kernel_rfl) (by kernel_rfl) (fun _ _ _ h => h) ⟨Or.inl ⟨by rfl, ?_⟩, fun _ => rfl⟩ ?_
        rotate_left
        · (intro w; go_simp; (try with_reducible rfl))
        simp only [Act.put, List.setIfInBounds_toArray, List.set_cons_zero, List.set_cons_succ]
        refine take_at (i := 11) (d := some 26) (v := ?_) rfl rfl rfl (by kernel_rfl) (by kernel_rfl) (by kernel_rfl) (fun _ _ _ h => h) ⟨Or.inl ⟨by rfl, ?_⟩, fun _ => rfl⟩ ?_
        rotate_left
        · (intro w; go_simp; (try with_reducible rfl))
        simp only [Act.put, List.setIfInBounds_toArray, List.set_cons_zero, List.set_cons_succ]
        refine take_at (i := 12) (d := some 27) (v := ?_) rfl rfl rfl (by kernel_rfl) (by kernel_rfl) (by kernel_rfl) (fun _ _ _ h => h) ⟨Or.inl ⟨by rfl, ?_⟩, fun _ => rfl⟩ ?_
        rotate_left
        · (intro w; go_simp; (try with_reducible rfl))
        simp only [Act.put, List.setIfInBounds_toArray, List.set_cons_zero, List.set_cons_succ]
        refine take_at (i := 13) (d := some 28) (v := ?_) rfl rfl rfl (by kernel_rfl) (by kernel_rfl) (by kernel_rfl) (fun _ _ _ h => h) ⟨Or.inl ⟨by rfl, ?_⟩, fun _ => rfl⟩ ?_
        rotate_left
        · (intro w; go_simp; (try with_reducible rfl))
        simp only [Act.put, List.setIfInBounds_toArray, List.set_cons_zero, List.set_cons_succ]
        refine take_at (i := 14) (d := some 29) (v := ?_) rfl rfl rfl (by kernel_rfl) (by kernel_rfl) (by kernel_rfl) (fun _ _ _ h => h) ⟨Or.inl ⟨by rfl, ?_⟩, fun _ => rfl⟩ ?_
        rotate_left
        · (intro w; go_simp; (try with_reducible rfl))
        simp only [Act.put, List.setIfInBounds_toArray, List.set_cons_zero, List.set_cons_succ]
        refine take_at (i := 15) (d := some 30) (v := ?_) rfl rfl rfl (by kernel_rfl) (by kernel_rfl) (by kernel_rfl) (fun _ _ _ h => h) ⟨Or.inl ⟨by rfl, ?_⟩, fun _ => rfl⟩ ?_
        rotate_left
        · (intro w; go_simp; (try with_reducible rfl))
        simp only [Act.put, List.setIfInBounds_toArray, List.set_cons_zero, List.set_cons_succ]
        refine wpAnyIn_ready (rs := [10, 16]) (by kernel_rfl) (by simp) ?_
        refine AllReadyIn.cons rfl (fun K hK => ?_) (AllReadyIn.cons rfl (fun K hK => ?_) AllReadyIn.nil)
        · go_simp
          refine ⟨trivial, (hhd _).mono ?_⟩
          rintro e w4 ⟨rfl, rfl⟩
          dsimp only
          refine hK _ _ ?_
          clear hK K
          refine wpAnyIn_ready (rs := [16]) (by kernel_rfl) (by simp) ?_
          refine AllReadyIn.cons rfl (fun K hK => ?_) AllReadyIn.nil
          go_simp
          refine hK _ _ ?_
          clear hK K
          refine wpAnyIn_ready (rs := [17]) (by kernel_rfl) (by simp) ?_
          refine AllReadyIn.cons rfl (fun K hK => ?_) AllReadyIn.nil
          go_simp
          refine hR.mono ?_
          rintro e w5 ⟨o, rfl, hJ5, hX5⟩
          dsimp only
          refine hK _ _ ?_
          clear hK K
          refine take_at (i := 18) (d := some 33) (v := ?_) rfl rfl rfl (by kernel_rfl) (by kernel_rfl) (by kernel_rfl) (fun _ _ _ h => h) ⟨Or.inl ⟨by rfl, ?_⟩, fun _ => rfl⟩ ?_
          rotate_left
          · (intro w; go_simp; (try with_reducible rfl))
          simp only [Act.put, List.setIfInBounds_toArray, List.set_cons_zero, List.set_cons_succ]
          refine take_at (i := 19) (d := some 34) (v := ?_) rfl rfl rfl (by kernel_rfl) (by kernel_rfl) (by kernel_rfl) (fun _ _ _ h => h) ⟨Or.inl ⟨by rfl, ?_⟩, fun _ => rfl⟩ ?_
          rotate_left
          · (intro w; go_simp; (try with_reducible rfl))
          simp only [Act.put, List.setIfInBounds_toArray, List.set_cons_zero, List.set_cons_succ]
          refine wpAnyIn_done (by kernel_rfl) ?_ _
          rw [List.append_assoc, ← hYes.out] at hJ5 hX5
          cases o with
          | true =>
            have hJ6 := hJ5 rfl
            clear hJ5 hX5 hR hy
            gi_wp2
            exact ⟨⟨j + 1, by omega, by omega, by go_num, hJ6⟩, by simp [intOf]; omega⟩
          | false =>
            have hX6 := hX5 rfl
            clear hJ5 hX5 hR hy
            gi_wp2
            go_ret
            exact ⟨false, rfl, fun e => (by cases e), fun _ => ⟨_, seg_prefix (by omega) (by omega), hX6⟩⟩
        · go_simp
          refine hK _ _ ?_
          clear hK K
          refine wpAnyIn_ready (rs := [10]) (by kernel_rfl) (by simp) ?_
          refine AllReadyIn.cons rfl (fun K hK => ?_) AllReadyIn.nil
          go_simp
          refine ⟨trivial, (hhd _).mono ?_⟩
          rintro e w4 ⟨rfl, rfl⟩
          dsimp only
          refine hK _ _ ?_
          clear hK K
          refine wpAnyIn_ready (rs := [17]) (by kernel_rfl) (by simp) ?_
          refine AllReadyIn.cons rfl (fun K hK => ?_) AllReadyIn.nil
          go_simp
          refine hR.mono ?_
          rintro e w5 ⟨o, rfl, hJ5, hX5⟩
          dsimp only
          refine hK _ _ ?_
          clear hK K
          refine take_at (i := 18) (d := some 33) (v := ?_) rfl rfl rfl (by kernel_rfl) (by kernel_rfl) (by kernel_rfl) (fun _ _ _ h => h) ⟨Or.inl ⟨by rfl, ?_⟩, fun _ => rfl⟩ ?_
          rotate_left
          · (intro w; go_simp; (try with_reducible rfl))
          simp only [Act.put, List.setIfInBounds_toArray, List.set_cons_zero, List.set_cons_succ]
          refine take_at (i := 19) (d := some 34) (v := ?_) rfl rfl rfl (by kernel_rfl) (by kernel_rfl) (by kernel_rfl) (fun _ _ _ h => h) ⟨Or.inl ⟨by rfl, ?_⟩, fun _ => rfl⟩ ?_
          rotate_left
          · (intro w; go_simp; (try with_reducible rfl))
          simp only [Act.put, List.setIfInBounds_toArray, List.set_cons_zero, List.set_cons_succ]
          refine wpAnyIn_done (by kernel_rfl) ?_ _
          rw [List.append_assoc, ← hYes.out] at hJ5 hX5
          cases o with
          | true =>
            have hJ6 := hJ5 rfl
            clear hJ5 hX5 hR hy
            gi_wp2
            exact ⟨⟨j + 1, by omega, by omega, by go_num, hJ6⟩, by simp [intOf]; omega⟩
          | false =>
            have hX6 := hX5 rfl
            clear hJ5 hX5 hR hy
            gi_wp2
            go_ret
            exact ⟨false, rfl, fun e => (by cases e), fun _ => ⟨_, seg_prefix (by omega) (by omega), hX6⟩⟩
    · obtain rfl : j = 16 := by omega
      gi_wp2
      go_ret
      exact ⟨true, rfl, fun _ => hJ, fun e => (by cases e)⟩

end Go.Proofs.YtblfdjdhikfjhaaGreat

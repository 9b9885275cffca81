import Derived.Test.YtblfdjdhikfjhaaGreatTurnTYield
namespace Go.Proofs.YtblfdjdhikfjhaaGreat
open Go.RowKit

theorem TakesY.kid {yl : Nat} {t : Tr} {P : List (Nat × (Int × Int)) → Nat × (Int × Int) → Prop} {J Jx : List (Nat × (Int × Int)) → World → Prop} (hT : TakesY yl t P J Jx) {i : Nat} (hi : i < 16) : TakesY yl (t.kid i) P J Jx :=
  ⟨fun d X h => (hT.lies d X h).kid hi, fun d X h => (hT.liesx d X h).kid hi, hT.draw, hT.call⟩
theorem takesY_ends {yl : Nat} {t : Tr} {P : List (Nat × (Int × Int)) → Nat × (Int × Int) → Prop} {J Jx : List (Nat × (Int × Int)) → World → Prop} (hT : TakesY yl t P J Jx) {d d' L : List (Nat × (Int × Int))} {X : World} (o : Bool) (h1 : o = true → J d X) (h2 : o = false → ∃ pre, pre <+: L ∧ Jx (d' ++ pre) X) : Lies X t := by
  cases o with
  | true => exact hT.lies _ _ (h1 rfl)
  | false =>
    obtain ⟨pre, -, h⟩ := h2 rfl
    exact hT.liesx _ _ h

theorem search_downY (yl : Nat) (t : Tr) (hw : t.wf 0) (P : List (Nat × (Int × Int)) → Nat × (Int × Int) → Prop) (J Jx : List (Nat × (Int × Int)) → World → Prop) (hT : TakesY yl t P J Jx) (p low : Nat) (hp : p + 16 ≤ 4294967296) (hm : p % 16 = 0) (done : List (Nat × (Int × Int))) (w : World) (h : J done w) (hP : ∀ pre e, pre ++ [e] <+: t.fromL 0 p low → P (done ++ pre) e) :
    Calls Tryz.prog 80 #[t.ptr, .int .i64 7, .int .u32 (p : Int), .int .u32 (low : Int), .func (.yield yl) #[] #[]] w (Ends J Jx done (t.fromL 0 p low)) := by
  cases t with
  | nil =>
    have hq : Tr.nil.ptr = .pointer none := rfl
    go_enter Tryz.func80, Tryz.ntmps80
    go_wp2
    go_ret
    exact ⟨true, rfl, fun _ => by rw [show Tr.nil.fromL 0 p low = [] from rfl, List.append_nil]; exact h, fun e => (by cases e)⟩
  | node b kids => exact absurd hw.1 (by omega)
  | leaf b s th vk vn =>
    have hq : (Tr.leaf b s th vk vn).ptr = .pointer (some ⟨b, 0, none⟩) := rfl
    have c0 := (hT.lies _ _ h).1.shelf
    have hd := dg_lt low 0
    have hss := shelf_searchY yl b s th vk vn P J Jx hT p (dg low 0) (by omega) hp hm done w.drew (hT.draw _ _ 1 h) hP
    go_enter Tryz.func80, Tryz.ntmps80
    go_wp2
    go_region_with (first | (go_at_call 76; refine (digit_low low _).mono ?_; rintro e w4 ⟨rfl, rfl⟩) | (go_at_call 91; refine hss.mono ?_; rintro e w5 ⟨o, rfl, hJ5, hX5⟩))
    all_goals
      have hE : Ends J Jx done ((Tr.leaf b s th vk vn).fromL 0 p low) (.returned (.bool o)) w5 := ⟨o, rfl, hJ5, hX5⟩
      clear hJ5 hX5
      go_wp2
      exact bodyPost_ret (v := .bool o) (by simp [results, Tryz.results80, go_sem]) rfl hE


theorem search_upY (yl : Nat) (n l : Nat) (hn : l + (n + 1) = 7) (P : List (Nat × (Int × Int)) → Nat × (Int × Int) → Prop) (J Jx : List (Nat × (Int × Int)) → World → Prop)
    (ih : ∀ (t : Tr), t.wf n → TakesY yl t P J Jx → ∀ (p low : Nat), p + 16 ^ (n + 1) ≤ 4294967296 → p % 16 ^ (n + 1) = 0 → ∀ (done : List (Nat × (Int × Int))) (w : World), J done w → (∀ pre e, pre ++ [e] <+: t.fromL n p low → P (done ++ pre) e) →
      Calls Tryz.prog 80 #[t.ptr, .int .i64 ((l + 1 : Nat) : Int), .int .u32 (p : Int), .int .u32 (low : Int), .func (.yield yl) #[] #[]] w (Ends J Jx done (t.fromL n p low)))
    (b : Nat) (kids : Nat → Tr) (hw : (Tr.node b kids).wf (n + 1)) (hT : TakesY yl (.node b kids) P J Jx) (p low : Nat) (hp : p + 16 ^ (n + 1 + 1) ≤ 4294967296) (hm : p % 16 ^ (n + 1 + 1) = 0) (done : List (Nat × (Int × Int))) (w : World) (h : J done w) (hP : ∀ pre e, pre ++ [e] <+: (Tr.node b kids).fromL (n + 1) p low → P (done ++ pre) e) :
    Calls Tryz.prog 80 #[.pointer (some ⟨b, 0, none⟩), .int .i64 (l : Int), .int .u32 (p : Int), .int .u32 (low : Int), .func (.yield yl) #[] #[]] w (Ends J Jx done ((Tr.node b kids).fromL (n + 1) p low)) := by
  have hl7 : ((l : Int) == 7) = false := by simp; omega
  have hd := dg_lt low (n + 1)
  go_enter Tryz.func80, Tryz.ntmps80
  go_wp2_with (go_at_call 76; refine (digit_any (n + 1) l hn low _).mono ?_; rintro e w4 ⟨rfl, rfl⟩)
  go_loopw [3, 12] (fun lo x wr => ∃ j z : Nat, dg low (n + 1) ≤ j ∧ j ≤ 16 ∧ x = .int .i64 j ∧ lo = .int .u32 z ∧ (j = dg low (n + 1) → z = low) ∧ J (done ++ segs kids n p low j) wr) (fun _ x _ => 16 - (intOf x).toNat)
  case atStart => exact ⟨dg low (n + 1), low, Nat.le_refl _, by omega, rfl, rfl, fun _ => rfl, by rw [segs_first, List.append_nil]; exact h⟩
  case round =>
    obtain ⟨j, z, hj1, hj2, rfl, rfl, hz, hJ⟩ := hrel
    clear h
    by_cases hlt : j < 16
    · have hlt' : (j : Int) < 16 := by omega
      have hj0 : (0 : Int) ≤ (j : Int) := by omega
      have hJ1 : J (done ++ segs kids n p low j) wr.drew := hT.draw _ _ 1 hJ
      have c0 := (hT.lies _ _ hJ1).1.kid hlt
      obtain ⟨u, hu⟩ := ptr_pointer (kids j)
      rw [hu] at c0
      obtain ⟨k, hk⟩ : ∃ k, p + j * 16 ^ (n + 1) = k := ⟨_, rfl⟩
      have h16 : 16 ^ (n + 1 + 1) = 16 ^ (n + 1) * 16 := Nat.pow_succ 16 (n + 1)
      have hjm : j * 16 ^ (n + 1) ≤ 15 * 16 ^ (n + 1) := Nat.mul_le_mul_right _ (by omega)
      have hkb : k + 16 ^ (n + 1) ≤ 4294967296 := by omega
      have hkm : k % 16 ^ (n + 1) = 0 := by
        rw [← hk, Nat.add_mul_mod_self_right, ← Nat.mod_mod_of_dvd p ⟨16, h16⟩, hm, Nat.zero_mod]
      have hhd := head_at n l hn p j k hk (by omega) hm hlt
      have hstep := segs_step (kids := kids) (p := p) hj1
      rw [hk] at hstep
      have hwr : IntKind.i64.wrap ((l : Int) + 1) = (l : Int) + 1 := by rw [IntKind.wrap_i64]; omega
      by_cases hjf : j = dg low (n + 1)
      · obtain rfl := hz hjf
        rw [if_pos hjf] at hstep
        have hg : ¬ (dg z (n + 1) : Int) < (j : Int) := by omega
        have hcl := ih (kids j) (hw.2.1 j hlt) (hT.kid (i := j) hlt) k z hkb hkm _ _ hJ1 (fun pre e he => by have hq := (List.prefix_append_right_inj (segs kids n p z j)).2 he; rw [← hstep] at hq; rw [List.append_assoc]; exact hP _ _ (by rw [List.append_assoc]; exact hq.trans (segs_prefix (by omega) (by omega))))
        rw [hu, show (((l + 1 : Nat)) : Int) = (l : Int) + 1 from by omega] at hcl
        have hStep : Hid (segs kids n p z (j + 1) = segs kids n p z j ++ (kids j).fromL n k z) := hstep
        clear hstep hz hk hkm hkb hjm h16 hjf
        go_wp2
        go_region_held3 (fun X => X.cell? ⟨b, j, none⟩ = some (.pointer u)) (with_reducible assumption)
          (first | (go_at_call 92; refine (hhd _).mono ?_; rintro e w4 ⟨rfl, rfl⟩) | (go_at_call 80; refine hcl.mono ?_; rintro e w5 ⟨o, rfl, hJ5, hX5⟩; have hS5 : w5.cell? ⟨b, j, none⟩ = some (.pointer u) := by { rw [← hu]; exact (takesY_ends hT o hJ5 hX5).1.kid hlt }))
        rw [List.append_assoc, ← hStep.out] at hJ5
        cases o with
        | true =>
          have hJ6 := hJ5 rfl
          clear hJ5 hX5
          go_wp2
          go_roundw
          case rel => exact ⟨j + 1, z, by omega, by omega, by go_num, rfl, fun e => by omega, hJ6⟩
          case measure => simp [intOf]; omega
        | false =>
          obtain ⟨pre, hp5, hX6⟩ := hX5 rfl
          clear hJ5 hX5
          rw [List.append_assoc] at hX6
          have hq1 : segs kids n p z j ++ pre <+: segs kids n p z (j + 1) := by rw [hStep.out]; exact (List.prefix_append_right_inj _).2 hp5
          have hE : Ends J Jx done ((Tr.node b kids).fromL (n + 1) p z) (.returned (.bool false)) w5 := ⟨false, rfl, fun e => (by cases e), fun _ => ⟨_, List.IsPrefix.trans hq1 (segs_prefix (by omega) (by omega)), hX6⟩⟩
          clear hp5 hX6 hq1
          go_wp2
          go_ret
          exact hE
      · have hg : (dg low (n + 1) : Int) < (j : Int) := by omega
        rw [if_neg hjf] at hstep
        have hcl := ih (kids j) (hw.2.1 j hlt) (hT.kid (i := j) hlt) k 0 hkb hkm _ _ hJ1 (fun pre e he => by have hq := (List.prefix_append_right_inj (segs kids n p low j)).2 he; rw [← hstep] at hq; rw [List.append_assoc]; exact hP _ _ (by rw [List.append_assoc]; exact hq.trans (segs_prefix (by omega) (by omega))))
        rw [hu, show (((l + 1 : Nat)) : Int) = (l : Int) + 1 from by omega, show (((0 : Nat)) : Int) = 0 from rfl] at hcl
        have hStep : Hid (segs kids n p low (j + 1) = segs kids n p low j ++ (kids j).fromL n k 0) := hstep
        clear hstep hz hk hkm hkb hjm h16
        go_wp2
        go_region_held3 (fun X => X.cell? ⟨b, j, none⟩ = some (.pointer u)) (with_reducible assumption)
          (first | (go_at_call 92; refine (hhd _).mono ?_; rintro e w4 ⟨rfl, rfl⟩) | (go_at_call 80; refine hcl.mono ?_; rintro e w5 ⟨o, rfl, hJ5, hX5⟩; have hS5 : w5.cell? ⟨b, j, none⟩ = some (.pointer u) := by { rw [← hu]; exact (takesY_ends hT o hJ5 hX5).1.kid hlt }))
        rw [List.append_assoc, ← hStep.out] at hJ5
        cases o with
        | true =>
          have hJ6 := hJ5 rfl
          clear hJ5 hX5
          go_wp2
          go_roundw
          case rel => exact ⟨j + 1, 0, by omega, by omega, by go_num, rfl, fun e => by omega, hJ6⟩
          case measure => simp [intOf]; omega
        | false =>
          obtain ⟨pre, hp5, hX6⟩ := hX5 rfl
          clear hJ5 hX5
          rw [List.append_assoc] at hX6
          have hq1 : segs kids n p low j ++ pre <+: segs kids n p low (j + 1) := by rw [hStep.out]; exact (List.prefix_append_right_inj _).2 hp5
          have hE : Ends J Jx done ((Tr.node b kids).fromL (n + 1) p low) (.returned (.bool false)) w5 := ⟨false, rfl, fun e => (by cases e), fun _ => ⟨_, List.IsPrefix.trans hq1 (segs_prefix (by omega) (by omega)), hX6⟩⟩
          clear hp5 hX6 hq1
          go_wp2
          go_ret
          exact hE
    · obtain rfl : j = 16 := by omega
      go_wp2
      go_ret
      exact ⟨true, rfl, fun _ => hJ, fun e => (by cases e)⟩


theorem search_anyY (yl : Nat) (P : List (Nat × (Int × Int)) → Nat × (Int × Int) → Prop) (J Jx : List (Nat × (Int × Int)) → World → Prop) : ∀ (n l : Nat), l + n = 7 → ∀ (t : Tr), t.wf n → TakesY yl t P J Jx → ∀ (p low : Nat), p + 16 ^ (n + 1) ≤ 4294967296 → p % 16 ^ (n + 1) = 0 → ∀ (done : List (Nat × (Int × Int))) (w : World), J done w → (∀ pre e, pre ++ [e] <+: t.fromL n p low → P (done ++ pre) e) →
      Calls Tryz.prog 80 #[t.ptr, .int .i64 (l : Int), .int .u32 (p : Int), .int .u32 (low : Int), .func (.yield yl) #[] #[]] w (Ends J Jx done (t.fromL n p low))
  | 0, l, hl, t, hw, hT, p, low, hp, hm, done, w, h, hP => by
    obtain rfl : l = 7 := by omega
    exact search_downY yl t hw P J Jx hT p low hp hm done w h hP
  | n + 1, l, hl, t, hw, hT, p, low, hp, hm, done, w, h, hP => by
    cases t with
    | nil => exact search_nil l J Jx p low (n + 1) done w h _
    | node b kids => exact search_upY yl n l hl P J Jx (fun t hw hT p low => search_anyY yl P J Jx n (l + 1) (by omega) t hw hT p low) b kids hw hT p low hp hm done w h hP
    | leaf => exact absurd hw.1 (by omega)


/-- An iterator over the keys below a node of some level. -/
def IterG (W : World) (b : Nat) (t : Tr) (l p low : Nat) : Prop := b + 1 + 1 + 1 < W.heap.size ∧ W.cell? ⟨b, 0, none⟩ = some t.ptr ∧ W.cell? ⟨b + 1, 0, none⟩ = some (.int .i64 (l : Int)) ∧ W.cell? ⟨b + 1 + 1, 0, none⟩ = some (.int .u32 (p : Int)) ∧ W.cell? ⟨b + 1 + 1 + 1, 0, none⟩ = some (.int .u32 (low : Int))
theorem IterG.later {W W' : World} {b : Nat} {t : Tr} {l p low : Nat} (h : IterG W b t l p low) (hb : Below W.heap.size W W') : IterG W' b t l p low := by
  obtain ⟨h0, h1, h2, h3, h4⟩ := h
  exact ⟨Nat.lt_of_lt_of_le h0 hb.size, (hb.cell (p := ⟨b, 0, none⟩) (by simp; omega)).trans h1, (hb.cell (p := ⟨b + 1, 0, none⟩) (by simp; omega)).trans h2, (hb.cell (p := ⟨b + 1 + 1, 0, none⟩) (by simp; omega)).trans h3, (hb.cell (p := ⟨b + 1 + 1 + 1, 0, none⟩) (by simp; omega)).trans h4⟩
theorem iterG_new (w : World) (t : Tr) (u : Option Addr) (hu : t.ptr = .pointer u) (l p low : Nat) (t1 t2 t3 t4 : TypeId) : IterG ((((w.alloc (.cells #[.pointer u] t1)).alloc (.cells #[.int .i64 (l : Int)] t2)).alloc (.cells #[.int .u32 (p : Int)] t3)).alloc (.cells #[.int .u32 (low : Int)] t4)) w.heap.size t l p low ∧ Below w.heap.size w ((((w.alloc (.cells #[.pointer u] t1)).alloc (.cells #[.int .i64 (l : Int)] t2)).alloc (.cells #[.int .u32 (p : Int)] t3)).alloc (.cells #[.int .u32 (low : Int)] t4)) := by
  refine ⟨⟨by simp only [szA]; omega, ?_, ?_, ?_, ?_⟩, ((((Below.refl w.heap.size w).alloc (Nat.le_refl _) _).alloc (by simp only [szA]; omega) _).alloc (by simp only [szA]; omega) _).alloc (by simp only [szA]; omega) _⟩
  · rw [cell_old _ _ _ (by simp only [szA]; omega), cell_old _ _ _ (by simp only [szA]; omega), cell_old _ _ _ (by simp only [szA]; omega), cell_new1 _ _ _ _ rfl, hu]
  · rw [cell_old _ _ _ (by simp only [szA]; omega), cell_old _ _ _ (by simp only [szA]; omega), cell_new1 _ _ _ _ (by simp only [szA])]
  · rw [cell_old _ _ _ (by simp only [szA]; omega), cell_new1 _ _ _ _ (by simp only [szA])]
  · rw [cell_new1 _ _ _ _ (by simp only [szA])]

/-- from, of a node at some level. -/
theorem from_node (t : Tr) (u : Option Addr) (hu : t.ptr = .pointer u) (l p low : Nat) (w : World) : Calls Tryz.prog 66 #[.pointer u, .int .i64 (l : Int), .int .u32 (p : Int), .int .u32 (low : Int)] w fun e w' => e = .returned (iterV w.heap.size) ∧ IterG w' w.heap.size t l p low ∧ Below w.heap.size w w' := by
  go_enter Tryz.func66, Tryz.ntmps66
  go_wp2
  go_ret
  have := iterG_new w t u hu l p low 81 3 45 45
  exact ⟨rfl, this.1, this.2⟩

set_option maxRecDepth 4000 in
set_option maxHeartbeats 1000000 in
/-- The iterator, over the body of a range. -/
theorem from1Y (yl b n l : Nat) (hl : l + n = 7) (t : Tr) (hw : t.wf n) (p low : Nat) (hp : p + 16 ^ (n + 1) ≤ 4294967296) (hm : p % 16 ^ (n + 1) = 0) (P : List (Nat × (Int × Int)) → Nat × (Int × Int) → Prop) (J Jx : List (Nat × (Int × Int)) → World → Prop) (hT : TakesY yl t P J Jx) (w : World) (hI : IterG w b t l p low) (h : J [] w) (hP : ∀ pre e, pre ++ [e] <+: t.fromL n p low → P pre e) :
    Calls Tryz.prog 79 #[.func (.yield yl) #[] #[], .pointer (some ⟨b, 0, none⟩), .pointer (some ⟨b + 1, 0, none⟩), .pointer (some ⟨b + 1 + 1, 0, none⟩), .pointer (some ⟨b + 1 + 1 + 1, 0, none⟩)] w fun e w' => e = .returned (.tuple #[]) ∧ (J (t.fromL n p low) w' ∨ ∃ pre, pre <+: t.fromL n p low ∧ Jx pre w') := by
  obtain ⟨-, c0, c1, c2, c3⟩ := hI
  obtain ⟨u, hu⟩ := ptr_pointer t
  rw [hu] at c0
  have hs := search_anyY yl P J Jx n l hl t hw hT p low hp hm [] w h hP
  rw [hu] at hs
  go_enter Tryz.func79, Tryz.ntmps79
  go_wp2_with (go_at_call 80; refine hs.mono ?_; rintro e w5 ⟨o, rfl, hJ5, hX5⟩)
  go_end0
  refine ⟨rfl, ?_⟩
  cases o with
  | true => exact .inl (by simpa using hJ5)
  | false =>
    obtain ⟨pre, hp, hx⟩ := hX5 (by first | rfl | trivial)
    exact .inr ⟨pre, hp, by simpa using hx⟩

end Go.Proofs.YtblfdjdhikfjhaaGreat

import Derived.Test.YtblfdjdhikfjhaaGreatJoin8
namespace Go.Proofs.YtblfdjdhikfjhaaGreat
open Go.RowKit

abbrev LL := List (Nat × (Int × Int))
/-- What is asked of the function that takes the entries: it is told that they are not too many. -/
structure TakesB (T : Addr) (t : Tr) (J Jx : LL → World → Prop) : Prop where
  lies : ∀ done X, J done X → Lies X t
  liesx : ∀ done X, Jx done X → Lies X t
  draw : ∀ done X n, J done X → J done (X.drewN n)
  call : ∀ done X (k : Nat) (x y : Int), k < 4294967296 → done.length < 4294967296 → J done X → Calls Tryz.prog 41 #[.pointer (some T), .int .u32 (k : Int), .agg #[.int .i64 x, .int .i64 y]] X fun e X' => ∃ o : Bool, e = .returned (.bool o) ∧ (o = true → J (done ++ [(k, (x, y))]) X') ∧ (o = false → Jx (done ++ [(k, (x, y))]) X')
theorem takesB_lies {T : Addr} {t : Tr} {J Jx : LL → World → Prop} (hT : TakesB T t J Jx) {d : LL} {X : World} (o : Bool) (h1 : o = true → J d X) (h2 : o = false → Jx d X) : Lies X t := by
  cases o with
  | true => exact hT.lies _ _ (h1 rfl)
  | false => exact hT.liesx _ _ (h2 rfl)
theorem takesB_ends {T : Addr} {t : Tr} {J Jx : LL → World → Prop} (hT : TakesB T t J Jx) {d d' L : LL} {X : World} (o : Bool) (h1 : o = true → J d X) (h2 : o = false → ∃ pre, pre <+: L ∧ Jx (d' ++ pre) X) : Lies X t := by
  cases o with
  | true => exact hT.lies _ _ (h1 rfl)
  | false =>
    obtain ⟨pre, -, h⟩ := h2 rfl
    exact hT.liesx _ _ h
theorem TakesB.kid {T : Addr} {t : Tr} {J Jx : LL → World → Prop} (hT : TakesB T t J Jx) {i : Nat} (hi : i < 16) : TakesB T (t.kid i) J Jx :=
  ⟨fun d X h => (hT.lies d X h).kid hi, fun d X h => (hT.liesx d X h).kid hi, hT.draw, hT.call⟩
theorem pre_len {a b c : LL} (h : b <+: c) (hc : (a ++ c).length ≤ 4294967296) : (a ++ b).length ≤ 4294967296 := by
  have := h.length_le
  simp at hc ⊢
  omega
theorem pre_lt {a b : LL} {x : Nat × (Int × Int)} (hc : (a ++ (b ++ [x])).length ≤ 4294967296) : (a ++ b).length < 4294967296 := by
  simp at hc ⊢
  omega

theorem shelf_searchB (T : Addr) (b s : Nat) (th : Nat → Bool) (vk vn : Nat → Int) (J Jx : List (Nat × (Int × Int)) → World → Prop) (hT : TakesB T (.leaf b s th vk vn) J Jx) (p first : Nat) (hf : first ≤ 16) (hp : p + 16 ≤ 4294967296) (hm : p % 16 = 0) (done : List (Nat × (Int × Int))) (w : World) (hM : Hid ((done ++ seg th vk vn p first 16).length ≤ 4294967296)) (h : J done w) :
    Calls Tryz.prog 91 #[.pointer (some ⟨s, 0, none⟩), .int .u32 (p : Int), .int .i64 (first : Int), .func (.func 41) #[.pointer (some T)] #[]] w (Ends J Jx done (seg th vk vn p first 16)) := by
  go_enter Tryz.func91, Tryz.ntmps91
  go_wp2
  go_loopw [9] (fun x wr => ∃ j : Nat, first ≤ j ∧ j ≤ 16 ∧ x = .int .i64 j ∧ J (done ++ seg th vk vn p first j) wr) (fun x _ => 16 - (intOf x).toNat)
  case atStart => exact ⟨first, Nat.le_refl _, hf, rfl, by rw [seg_first, List.append_nil]; exact h⟩
  case round =>
    obtain ⟨j, hj1, hj2, rfl, hJ⟩ := hrel
    clear h
    by_cases hlt : j < 16
    · have hlt' : (j : Int) < 16 := by omega
      have hj0 : (0 : Int) ≤ (j : Int) := by omega
      have hS := (hT.lies _ _ hJ).2
      have c0 := hS.th hlt
      have c1 := (hS.val hlt).1
      have c2 := (hS.val hlt).2
      cases ht : th j with
      | false =>
        rw [ht] at c0
        go_wp2
        go_quiet (fail)
        go_wp2
        go_roundw
        case rel => exact ⟨j + 1, by omega, by omega, by go_num, by rw [seg_no hj1 ht]; exact hT.draw _ _ _ hJ⟩
        case measure => simp [intOf]; omega
      | true =>
        rw [ht] at c0
        have hJ1 : J (done ++ seg th vk vn p first j) wr.drew := hT.draw _ _ 1 hJ
        obtain ⟨k, hk⟩ : ∃ k, p + j = k := ⟨_, rfl⟩
        have hyes := seg_yes (vk := vk) (vn := vn) (p := p) hj1 ht
        rw [hk] at hyes
        have hk32 : k < 4294967296 := by omega
        have hcl := hT.call _ _ k (vk j) (vn j) hk32 (pre_lt (by rw [← hyes]; exact pre_len (seg_prefix (by omega) (by omega)) hM.out)) hJ1
        have hhd := head_bottom p j k hk (by omega) hm hlt
        have hYes : Hid (seg th vk vn p first (j + 1) = seg th vk vn p first j ++ [(k, (vk j, vn j))]) := hyes
        clear hyes hk
        go_wp2
        have hS1 : wr.drew.cell? ⟨s, j, none⟩ = some (.bool true) ∧ wr.drew.cell? ⟨s, 16 + j * 2, none⟩ = some (.int .i64 (vk j)) ∧ wr.drew.cell? ⟨s, 16 + j * 2 + 1, none⟩ = some (.int .i64 (vn j)) := ⟨c0, c1, c2⟩
        go_region_held3 (fun X => X.cell? ⟨s, j, none⟩ = some (.bool true) ∧ X.cell? ⟨s, 16 + j * 2, none⟩ = some (.int .i64 (vk j)) ∧ X.cell? ⟨s, 16 + j * 2 + 1, none⟩ = some (.int .i64 (vn j))) (with_reducible assumption)
          (first | (go_at_call 92; refine (hhd _).mono ?_; rintro e w4 ⟨rfl, rfl⟩) | (go_at_call 41; refine hcl.mono ?_; rintro e w5 ⟨o, rfl, hJ5, hX5⟩; have hL5 := takesB_lies hT o hJ5 hX5; have hS5 : w5.cell? ⟨s, j, none⟩ = some (.bool true) ∧ w5.cell? ⟨s, 16 + j * 2, none⟩ = some (.int .i64 (vk j)) ∧ w5.cell? ⟨s, 16 + j * 2 + 1, none⟩ = some (.int .i64 (vn j)) := ⟨by rw [← ht]; exact hL5.2.th hlt, (hL5.2.val hlt).1, (hL5.2.val hlt).2⟩))
        rw [List.append_assoc, ← hYes.out] at hJ5 hX5
        cases o with
        | true =>
          have hJ6 := hJ5 rfl
          clear hJ5 hX5
          go_wp2
          go_roundw
          case rel => exact ⟨j + 1, by omega, by omega, by go_num, hJ6⟩
          case measure => simp [intOf]; omega
        | false =>
          have hX6 := hX5 rfl
          clear hJ5 hX5
          go_wp2
          go_ret
          exact ⟨false, rfl, fun e => (by cases e), fun _ => ⟨_, seg_prefix (by omega) (by omega), hX6⟩⟩
    · obtain rfl : j = 16 := by omega
      go_wp2
      go_ret
      exact ⟨true, rfl, fun _ => hJ, fun e => (by cases e)⟩


theorem search_downB (T : Addr) (t : Tr) (hw : t.wf 0) (J Jx : List (Nat × (Int × Int)) → World → Prop) (hT : TakesB T t J Jx) (p low : Nat) (hp : p + 16 ≤ 4294967296) (hm : p % 16 = 0) (done : List (Nat × (Int × Int))) (w : World) (hM : Hid ((done ++ t.fromL 0 p low).length ≤ 4294967296)) (h : J done w) :
    Calls Tryz.prog 80 #[t.ptr, .int .i64 7, .int .u32 (p : Int), .int .u32 (low : Int), .func (.func 41) #[.pointer (some T)] #[]] w (Ends J Jx done (t.fromL 0 p low)) := by
  cases t with
  | nil =>
    have hq : Tr.nil.ptr = .pointer none := rfl
    go_enter Tryz.func80, Tryz.ntmps80
    go_wp2
    go_ret
    exact ⟨true, rfl, fun _ => by rw [show Tr.nil.fromL 0 p low = [] from rfl, List.append_nil]; exact h, fun e => (by cases e)⟩
  | node b kids => exact absurd hw.1 (by omega)
  | leaf b s th vk vn =>
    have hq : (Tr.leaf b s th vk vn).ptr = .pointer (some ⟨b, 0, none⟩) := rfl
    have c0 := (hT.lies _ _ h).1.shelf
    have hd := dg_lt low 0
    have hss := shelf_searchB T b s th vk vn J Jx hT p (dg low 0) (by omega) hp hm done w.drew hM (hT.draw _ _ 1 h)
    go_enter Tryz.func80, Tryz.ntmps80
    go_wp2
    go_region_with (first | (go_at_call 76; refine (digit_low low _).mono ?_; rintro e w4 ⟨rfl, rfl⟩) | (go_at_call 91; refine hss.mono ?_; rintro e w5 ⟨o, rfl, hJ5, hX5⟩))
    all_goals
      have hE : Ends J Jx done ((Tr.leaf b s th vk vn).fromL 0 p low) (.returned (.bool o)) w5 := ⟨o, rfl, hJ5, hX5⟩
      clear hJ5 hX5
      go_wp2
      exact bodyPost_ret (v := .bool o) (by simp [results, Tryz.results80, go_sem]) rfl hE


theorem search_upB (T : Addr) (n l : Nat) (hn : l + (n + 1) = 7) (J Jx : List (Nat × (Int × Int)) → World → Prop)
    (ih : ∀ (t : Tr), t.wf n → TakesB T t J Jx → ∀ (p low : Nat), p + 16 ^ (n + 1) ≤ 4294967296 → p % 16 ^ (n + 1) = 0 → ∀ (done : List (Nat × (Int × Int))) (w : World), Hid ((done ++ t.fromL n p low).length ≤ 4294967296) → J done w →
      Calls Tryz.prog 80 #[t.ptr, .int .i64 ((l + 1 : Nat) : Int), .int .u32 (p : Int), .int .u32 (low : Int), .func (.func 41) #[.pointer (some T)] #[]] w (Ends J Jx done (t.fromL n p low)))
    (b : Nat) (kids : Nat → Tr) (hw : (Tr.node b kids).wf (n + 1)) (hT : TakesB T (.node b kids) J Jx) (p low : Nat) (hp : p + 16 ^ (n + 1 + 1) ≤ 4294967296) (hm : p % 16 ^ (n + 1 + 1) = 0) (done : List (Nat × (Int × Int))) (w : World) (hM : Hid ((done ++ (Tr.node b kids).fromL (n + 1) p low).length ≤ 4294967296)) (h : J done w) :
    Calls Tryz.prog 80 #[.pointer (some ⟨b, 0, none⟩), .int .i64 (l : Int), .int .u32 (p : Int), .int .u32 (low : Int), .func (.func 41) #[.pointer (some T)] #[]] w (Ends J Jx done ((Tr.node b kids).fromL (n + 1) p low)) := by
  have hl7 : ((l : Int) == 7) = false := by simp; omega
  have hd := dg_lt low (n + 1)
  go_enter Tryz.func80, Tryz.ntmps80
  go_wp2_with (go_at_call 76; refine (digit_any (n + 1) l hn low _).mono ?_; rintro e w4 ⟨rfl, rfl⟩)
  go_loopw [3, 12] (fun lo x wr => ∃ j z : Nat, dg low (n + 1) ≤ j ∧ j ≤ 16 ∧ x = .int .i64 j ∧ lo = .int .u32 z ∧ (j = dg low (n + 1) → z = low) ∧ J (done ++ segs kids n p low j) wr) (fun _ x _ => 16 - (intOf x).toNat)
  case atStart => exact ⟨dg low (n + 1), low, Nat.le_refl _, by omega, rfl, rfl, fun _ => rfl, by rw [segs_first, List.append_nil]; exact h⟩
  case round =>
    obtain ⟨j, z, hj1, hj2, rfl, rfl, hz, hJ⟩ := hrel
    clear h
    by_cases hlt : j < 16
    · have hlt' : (j : Int) < 16 := by omega
      have hj0 : (0 : Int) ≤ (j : Int) := by omega
      have hJ1 : J (done ++ segs kids n p low j) wr.drew := hT.draw _ _ 1 hJ
      have c0 := (hT.lies _ _ hJ1).1.kid hlt
      obtain ⟨u, hu⟩ := ptr_pointer (kids j)
      rw [hu] at c0
      obtain ⟨k, hk⟩ : ∃ k, p + j * 16 ^ (n + 1) = k := ⟨_, rfl⟩
      have h16 : 16 ^ (n + 1 + 1) = 16 ^ (n + 1) * 16 := Nat.pow_succ 16 (n + 1)
      have hjm : j * 16 ^ (n + 1) ≤ 15 * 16 ^ (n + 1) := Nat.mul_le_mul_right _ (by omega)
      have hkb : k + 16 ^ (n + 1) ≤ 4294967296 := by omega
      have hkm : k % 16 ^ (n + 1) = 0 := by
        rw [← hk, Nat.add_mul_mod_self_right, ← Nat.mod_mod_of_dvd p ⟨16, h16⟩, hm, Nat.zero_mod]
      have hhd := head_at n l hn p j k hk (by omega) hm hlt
      have hstep := segs_step (kids := kids) (p := p) hj1
      rw [hk] at hstep
      have hwr : IntKind.i64.wrap ((l : Int) + 1) = (l : Int) + 1 := by rw [IntKind.wrap_i64]; omega
      by_cases hjf : j = dg low (n + 1)
      · obtain rfl := hz hjf
        rw [if_pos hjf] at hstep
        have hg : ¬ (dg z (n + 1) : Int) < (j : Int) := by omega
        have hM2 : Hid (((done ++ segs kids n p z j) ++ (kids j).fromL n k z).length ≤ 4294967296) := by { rw [Hid, List.append_assoc, ← hstep]; exact pre_len (segs_prefix (by omega) (by omega)) hM.out }
        have hcl := ih (kids j) (hw.2.1 j hlt) (hT.kid (i := j) hlt) k z hkb hkm _ _ hM2 hJ1
        rw [hu, show (((l + 1 : Nat)) : Int) = (l : Int) + 1 from by omega] at hcl
        have hStep : Hid (segs kids n p z (j + 1) = segs kids n p z j ++ (kids j).fromL n k z) := hstep
        clear hstep hz hk hkm hkb hjm h16 hjf
        go_wp2
        go_region_held3 (fun X => X.cell? ⟨b, j, none⟩ = some (.pointer u)) (with_reducible assumption)
          (first | (go_at_call 92; refine (hhd _).mono ?_; rintro e w4 ⟨rfl, rfl⟩) | (go_at_call 80; refine hcl.mono ?_; rintro e w5 ⟨o, rfl, hJ5, hX5⟩; have hS5 : w5.cell? ⟨b, j, none⟩ = some (.pointer u) := by { rw [← hu]; exact (takesB_ends hT o hJ5 hX5).1.kid hlt }))
        rw [List.append_assoc, ← hStep.out] at hJ5
        cases o with
        | true =>
          have hJ6 := hJ5 rfl
          clear hJ5 hX5
          go_wp2
          go_roundw
          case rel => exact ⟨j + 1, z, by omega, by omega, by go_num, rfl, fun e => by omega, hJ6⟩
          case measure => simp [intOf]; omega
        | false =>
          obtain ⟨pre, hp5, hX6⟩ := hX5 rfl
          clear hJ5 hX5
          rw [List.append_assoc] at hX6
          have hq1 : segs kids n p z j ++ pre <+: segs kids n p z (j + 1) := by rw [hStep.out]; exact (List.prefix_append_right_inj _).2 hp5
          have hE : Ends J Jx done ((Tr.node b kids).fromL (n + 1) p z) (.returned (.bool false)) w5 := ⟨false, rfl, fun e => (by cases e), fun _ => ⟨_, List.IsPrefix.trans hq1 (segs_prefix (by omega) (by omega)), hX6⟩⟩
          clear hp5 hX6 hq1
          go_wp2
          go_ret
          exact hE
      · have hg : (dg low (n + 1) : Int) < (j : Int) := by omega
        rw [if_neg hjf] at hstep
        have hM2 : Hid (((done ++ segs kids n p low j) ++ (kids j).fromL n k 0).length ≤ 4294967296) := by { rw [Hid, List.append_assoc, ← hstep]; exact pre_len (segs_prefix (by omega) (by omega)) hM.out }
        have hcl := ih (kids j) (hw.2.1 j hlt) (hT.kid (i := j) hlt) k 0 hkb hkm _ _ hM2 hJ1
        rw [hu, show (((l + 1 : Nat)) : Int) = (l : Int) + 1 from by omega, show (((0 : Nat)) : Int) = 0 from rfl] at hcl
        have hStep : Hid (segs kids n p low (j + 1) = segs kids n p low j ++ (kids j).fromL n k 0) := hstep
        clear hstep hz hk hkm hkb hjm h16
        go_wp2
        go_region_held3 (fun X => X.cell? ⟨b, j, none⟩ = some (.pointer u)) (with_reducible assumption)
          (first | (go_at_call 92; refine (hhd _).mono ?_; rintro e w4 ⟨rfl, rfl⟩) | (go_at_call 80; refine hcl.mono ?_; rintro e w5 ⟨o, rfl, hJ5, hX5⟩; have hS5 : w5.cell? ⟨b, j, none⟩ = some (.pointer u) := by { rw [← hu]; exact (takesB_ends hT o hJ5 hX5).1.kid hlt }))
        rw [List.append_assoc, ← hStep.out] at hJ5
        cases o with
        | true =>
          have hJ6 := hJ5 rfl
          clear hJ5 hX5
          go_wp2
          go_roundw
          case rel => exact ⟨j + 1, 0, by omega, by omega, by go_num, rfl, fun e => by omega, hJ6⟩
          case measure => simp [intOf]; omega
        | false =>
          obtain ⟨pre, hp5, hX6⟩ := hX5 rfl
          clear hJ5 hX5
          rw [List.append_assoc] at hX6
          have hq1 : segs kids n p low j ++ pre <+: segs kids n p low (j + 1) := by rw [hStep.out]; exact (List.prefix_append_right_inj _).2 hp5
          have hE : Ends J Jx done ((Tr.node b kids).fromL (n + 1) p low) (.returned (.bool false)) w5 := ⟨false, rfl, fun e => (by cases e), fun _ => ⟨_, List.IsPrefix.trans hq1 (segs_prefix (by omega) (by omega)), hX6⟩⟩
          clear hp5 hX6 hq1
          go_wp2
          go_ret
          exact hE
    · obtain rfl : j = 16 := by omega
      go_wp2
      go_ret
      exact ⟨true, rfl, fun _ => hJ, fun e => (by cases e)⟩


theorem search_anyB (T : Addr) (J Jx : List (Nat × (Int × Int)) → World → Prop) : ∀ (n l : Nat), l + n = 7 → ∀ (t : Tr), t.wf n → TakesB T t J Jx → ∀ (p low : Nat), p + 16 ^ (n + 1) ≤ 4294967296 → p % 16 ^ (n + 1) = 0 → ∀ (done : List (Nat × (Int × Int))) (w : World), Hid ((done ++ t.fromL n p low).length ≤ 4294967296) → J done w →
      Calls Tryz.prog 80 #[t.ptr, .int .i64 (l : Int), .int .u32 (p : Int), .int .u32 (low : Int), .func (.func 41) #[.pointer (some T)] #[]] w (Ends J Jx done (t.fromL n p low))
  | 0, l, hl, t, hw, hT, p, low, hp, hm, done, w, hM, h => by
    obtain rfl : l = 7 := by omega
    exact search_downB T t hw J Jx hT p low hp hm done w hM h
  | n + 1, l, hl, t, hw, hT, p, low, hp, hm, done, w, hM, h => by
    cases t with
    | nil => exact search_nil l J Jx p low (n + 1) done w h _
    | node b kids => exact search_upB T n l hl J Jx (fun t hw hT p low => search_anyB T J Jx n (l + 1) (by omega) t hw hT p low) b kids hw hT p low hp hm done w hM h
    | leaf => exact absurd hw.1 (by omega)


theorem from1_anyB (T : Addr) (b low : Nat) (t : Tr) (hw : t.wf 7) (J Jx : List (Nat × (Int × Int)) → World → Prop) (hT : TakesB T t J Jx) (w : World) (hI : IterAt w b t low) (hM : (t.fromL 7 0 low).length ≤ 4294967296) (h : J [] w) :
    Calls Tryz.prog 79 #[.func (.func 41) #[.pointer (some T)] #[], .pointer (some ⟨b, 0, none⟩), .pointer (some ⟨b + 1, 0, none⟩), .pointer (some ⟨b + 1 + 1, 0, none⟩), .pointer (some ⟨b + 1 + 1 + 1, 0, none⟩)] w fun e w' => e = .returned (.tuple #[]) ∧ (J (t.fromL 7 0 low) w' ∨ ∃ pre, pre <+: t.fromL 7 0 low ∧ Jx pre w') := by
  obtain ⟨-, c0, c1, c2, c3⟩ := hI
  obtain ⟨u, hu⟩ := ptr_pointer t
  rw [hu] at c0
  have hs := search_anyB T J Jx 7 0 rfl t hw hT 0 low (by decide) (by decide) [] w (by simpa [Hid] using hM) h
  rw [hu, show (((0 : Nat)) : Int) = 0 from rfl] at hs
  go_enter Tryz.func79, Tryz.ntmps79
  go_wp2_with (go_at_call 80; refine hs.mono ?_; rintro e w5 ⟨o, rfl, hJ5, hX5⟩)
  go_end0
  refine ⟨rfl, ?_⟩
  cases o with
  | true => exact .inl (by simpa using hJ5)
  | false =>
    obtain ⟨pre, hp, hx⟩ := hX5 (by first | rfl | trivial)
    exact .inr ⟨pre, hp, by simpa using hx⟩


end Go.Proofs.YtblfdjdhikfjhaaGreat

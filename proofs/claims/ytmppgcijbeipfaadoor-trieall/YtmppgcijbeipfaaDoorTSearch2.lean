import Derived.Test.YtmppgcijbeipfaaDoorTSearch
namespace Go.Proofs.YtmppgcijbeipfaaDoor
open Go.RowKit

theorem takes_ends {f : Nat} {T : Addr} {t : Tr} {J Jx : List (Nat × (Int × Int)) → World → Prop} (hT : Takes f T t J Jx) {d d' L : List (Nat × (Int × Int))} {X : World} (o : Bool) (h1 : o = true → J d X) (h2 : o = false → ∃ pre, pre <+: L ∧ Jx (d' ++ pre) X) : Lies X t := by
  cases o with
  | true => exact hT.lies _ _ (h1 rfl)
  | false =>
    obtain ⟨pre, -, h⟩ := h2 rfl
    exact hT.liesx _ _ h

set_option maxRecDepth 4000 in
set_option maxHeartbeats 1000000 in
theorem search_up (T : Addr) (n l : Nat) (hn : l + (n + 1) = 7) (J Jx : List (Nat × (Int × Int)) → World → Prop)
    (ih : ∀ (t : Tr), t.wf n → Takes 38 T t J Jx → ∀ (p low : Nat), p + 16 ^ (n + 1) ≤ 4294967296 → p % 16 ^ (n + 1) = 0 → ∀ (done : List (Nat × (Int × Int))) (w : World), J done w →
      Calls Tryd.prog 50 #[t.ptr, .int .i64 ((l + 1 : Nat) : Int), .int .u32 (p : Int), .int .u32 (low : Int), .func (.func 38) #[.pointer (some T)] #[]] w (Ends J Jx done (t.fromL n p low)))
    (b : Nat) (kids : Nat → Tr) (hw : (Tr.node b kids).wf (n + 1)) (hT : Takes 38 T (.node b kids) J Jx) (p low : Nat) (hp : p + 16 ^ (n + 1 + 1) ≤ 4294967296) (hm : p % 16 ^ (n + 1 + 1) = 0) (done : List (Nat × (Int × Int))) (w : World) (h : J done w) :
    Calls Tryd.prog 50 #[.pointer (some ⟨b, 0, none⟩), .int .i64 (l : Int), .int .u32 (p : Int), .int .u32 (low : Int), .func (.func 38) #[.pointer (some T)] #[]] w (Ends J Jx done ((Tr.node b kids).fromL (n + 1) p low)) := by
  have hl7 : ((l : Int) == 7) = false := by simp; omega
  have hd := dg_lt low (n + 1)
  go_enter Tryd.func50, Tryd.ntmps50
  go_wp2_with (go_at_call 33; refine (digit_any (n + 1) l hn low _).mono ?_; rintro e w4 ⟨rfl, rfl⟩)
  go_loopw [3, 12] (fun lo x wr => ∃ j z : Nat, dg low (n + 1) ≤ j ∧ j ≤ 16 ∧ x = .int .i64 j ∧ lo = .int .u32 z ∧ (j = dg low (n + 1) → z = low) ∧ J (done ++ segs kids n p low j) wr) (fun _ x _ => 16 - (intOf x).toNat)
  case atStart => exact ⟨dg low (n + 1), low, Nat.le_refl _, by omega, rfl, rfl, fun _ => rfl, by rw [segs_first, List.append_nil]; exact h⟩
  case round =>
    obtain ⟨j, z, hj1, hj2, rfl, rfl, hz, hJ⟩ := hrel
    clear h
    by_cases hlt : j < 16
    · have hlt' : (j : Int) < 16 := by omega
      have hj0 : (0 : Int) ≤ (j : Int) := by omega
      have hJ1 : J (done ++ segs kids n p low j) wr.drew := hT.draw _ _ 1 hJ
      have c0 := (hT.lies _ _ hJ1).1.kid hlt
      obtain ⟨u, hu⟩ := ptr_pointer (kids j)
      rw [hu] at c0
      obtain ⟨k, hk⟩ : ∃ k, p + j * 16 ^ (n + 1) = k := ⟨_, rfl⟩
      have h16 : 16 ^ (n + 1 + 1) = 16 ^ (n + 1) * 16 := Nat.pow_succ 16 (n + 1)
      have hjm : j * 16 ^ (n + 1) ≤ 15 * 16 ^ (n + 1) := Nat.mul_le_mul_right _ (by omega)
      have hkb : k + 16 ^ (n + 1) ≤ 4294967296 := by omega
      have hkm : k % 16 ^ (n + 1) = 0 := by
        rw [← hk, Nat.add_mul_mod_self_right, ← Nat.mod_mod_of_dvd p ⟨16, h16⟩, hm, Nat.zero_mod]
      have hhd := head_at n l hn p j k hk (by omega) hm hlt
      have hstep := segs_step (kids := kids) (p := p) hj1
      rw [hk] at hstep
      have hwr : IntKind.i64.wrap ((l : Int) + 1) = (l : Int) + 1 := by rw [IntKind.wrap_i64]; omega
      by_cases hjf : j = dg low (n + 1)
      · obtain rfl := hz hjf
        rw [if_pos hjf] at hstep
        have hg : ¬ (dg z (n + 1) : Int) < (j : Int) := by omega
        have hcl := ih (kids j) (hw.2.1 j hlt) (hT.kid (i := j) hlt) k z hkb hkm _ _ hJ1
        rw [hu, show (((l + 1 : Nat)) : Int) = (l : Int) + 1 from by omega] at hcl
        have hStep : Hid (segs kids n p z (j + 1) = segs kids n p z j ++ (kids j).fromL n k z) := hstep
        clear hstep hz hk hkm hkb hjm h16 hjf
        go_wp2
        go_region_held3 (fun X => X.cell? ⟨b, j, none⟩ = some (.pointer u)) (with_reducible assumption)
          (first | (go_at_call 56; refine (hhd _).mono ?_; rintro e w4 ⟨rfl, rfl⟩) | (go_at_call 50; refine hcl.mono ?_; rintro e w5 ⟨o, rfl, hJ5, hX5⟩; have hS5 : w5.cell? ⟨b, j, none⟩ = some (.pointer u) := by { rw [← hu]; exact (takes_ends hT o hJ5 hX5).1.kid hlt }))
        rw [List.append_assoc, ← hStep.out] at hJ5
        cases o with
        | true =>
          have hJ6 := hJ5 rfl
          clear hJ5 hX5
          go_wp2
          go_roundw
          case rel => exact ⟨j + 1, z, by omega, by omega, by go_num, rfl, fun e => by omega, hJ6⟩
          case measure => simp [intOf]; omega
        | false =>
          obtain ⟨pre, hp5, hX6⟩ := hX5 rfl
          clear hJ5 hX5
          rw [List.append_assoc] at hX6
          have hq1 : segs kids n p z j ++ pre <+: segs kids n p z (j + 1) := by rw [hStep.out]; exact (List.prefix_append_right_inj _).2 hp5
          have hE : Ends J Jx done ((Tr.node b kids).fromL (n + 1) p z) (.returned (.bool false)) w5 := ⟨false, rfl, fun e => (by cases e), fun _ => ⟨_, List.IsPrefix.trans hq1 (segs_prefix (by omega) (by omega)), hX6⟩⟩
          clear hp5 hX6 hq1
          go_wp2
          go_ret
          exact hE
      · have hg : (dg low (n + 1) : Int) < (j : Int) := by omega
        rw [if_neg hjf] at hstep
        have hcl := ih (kids j) (hw.2.1 j hlt) (hT.kid (i := j) hlt) k 0 hkb hkm _ _ hJ1
        rw [hu, show (((l + 1 : Nat)) : Int) = (l : Int) + 1 from by omega, show (((0 : Nat)) : Int) = 0 from rfl] at hcl
        have hStep : Hid (segs kids n p low (j + 1) = segs kids n p low j ++ (kids j).fromL n k 0) := hstep
        clear hstep hz hk hkm hkb hjm h16
        go_wp2
        go_region_held3 (fun X => X.cell? ⟨b, j, none⟩ = some (.pointer u)) (with_reducible assumption)
          (first | (go_at_call 56; refine (hhd _).mono ?_; rintro e w4 ⟨rfl, rfl⟩) | (go_at_call 50; refine hcl.mono ?_; rintro e w5 ⟨o, rfl, hJ5, hX5⟩; have hS5 : w5.cell? ⟨b, j, none⟩ = some (.pointer u) := by { rw [← hu]; exact (takes_ends hT o hJ5 hX5).1.kid hlt }))
        rw [List.append_assoc, ← hStep.out] at hJ5
        cases o with
        | true =>
          have hJ6 := hJ5 rfl
          clear hJ5 hX5
          go_wp2
          go_roundw
          case rel => exact ⟨j + 1, 0, by omega, by omega, by go_num, rfl, fun e => by omega, hJ6⟩
          case measure => simp [intOf]; omega
        | false =>
          obtain ⟨pre, hp5, hX6⟩ := hX5 rfl
          clear hJ5 hX5
          rw [List.append_assoc] at hX6
          have hq1 : segs kids n p low j ++ pre <+: segs kids n p low (j + 1) := by rw [hStep.out]; exact (List.prefix_append_right_inj _).2 hp5
          have hE : Ends J Jx done ((Tr.node b kids).fromL (n + 1) p low) (.returned (.bool false)) w5 := ⟨false, rfl, fun e => (by cases e), fun _ => ⟨_, List.IsPrefix.trans hq1 (segs_prefix (by omega) (by omega)), hX6⟩⟩
          clear hp5 hX6 hq1
          go_wp2
          go_ret
          exact hE
    · obtain rfl : j = 16 := by omega
      go_wp2
      go_ret
      exact ⟨true, rfl, fun _ => hJ, fun e => (by cases e)⟩

/-- What search does, at every height. -/
theorem search_any (T : Addr) (J Jx : List (Nat × (Int × Int)) → World → Prop) : ∀ (n l : Nat), l + n = 7 → ∀ (t : Tr), t.wf n → Takes 38 T t J Jx → ∀ (p low : Nat), p + 16 ^ (n + 1) ≤ 4294967296 → p % 16 ^ (n + 1) = 0 → ∀ (done : List (Nat × (Int × Int))) (w : World), J done w →
      Calls Tryd.prog 50 #[t.ptr, .int .i64 (l : Int), .int .u32 (p : Int), .int .u32 (low : Int), .func (.func 38) #[.pointer (some T)] #[]] w (Ends J Jx done (t.fromL n p low))
  | 0, l, hl, t, hw, hT, p, low, hp, hm, done, w, h => by
    obtain rfl : l = 7 := by omega
    exact search_down T t hw J Jx hT p low hp hm done w h
  | n + 1, l, hl, t, hw, hT, p, low, hp, hm, done, w, h => by
    cases t with
    | nil => exact search_nil l J Jx p low (n + 1) done w h _
    | node b kids => exact search_up T n l hl J Jx (fun t hw hT p low => search_any T J Jx n (l + 1) (by omega) t hw hT p low) b kids hw hT p low hp hm done w h
    | leaf => exact absurd hw.1 (by omega)

end Go.Proofs.YtmppgcijbeipfaaDoor

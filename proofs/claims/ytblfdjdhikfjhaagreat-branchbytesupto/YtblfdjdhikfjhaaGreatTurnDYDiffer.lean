import Derived.Test.YtblfdjdhikfjhaaGreatTurnDYDifS
import Derived.Test.YtblfdjdhikfjhaaGreatJoin41
import Derived.Deep.RegionHeld3
import Derived.LaidEqlPtr
namespace Go.Proofs.YtblfdjdhikfjhaaGreat
open Go.RowKit

theorem takesC_ends {T : Nat} {B : Nat} {G : World → Prop} {off : Nat → World → Prop} {Q : List Ch → Ch → Prop} {J Jx : List Ch → World → Prop} (hT : TakesD T B G off Q J Jx) {d d' L : List Ch} {X : World} (o : Bool) (h1 : o = true → J d X) (h2 : o = false → ∃ pre, pre <+: L ∧ Jx (d' ++ pre) X) : G X := by
  cases o with
  | true => exact hT.good _ _ (h1 rfl)
  | false =>
    obtain ⟨pre, -, h⟩ := h2 rfl
    exact hT.goodx _ _ h

theorem infoNd : (Tryz.prog.info? 134).map (fun i => i.size) = some 17 := by kernel_rfl
theorem eql_same (w : World) (a : Addr) : (binOp BinOp.eql 81 (.pointer (some a)) (.pointer (some a))).run Tryz.prog w = .ok (.bool true) w := by
  obtain ⟨j, hj, -⟩ := Option.map_eq_some_iff.1 infoNd
  exact run_eql_ptr_same w a Tryz.underlying81 hj
theorem eql_other (w : World) (a b : Nat) (hne : ¬ a = b) {ca cb : Array Value} {ta tb : TypeId} (ha : w.heap[a]? = some (.cells ca ta (0, 0))) (hb : w.heap[b]? = some (.cells cb tb (0, 0))) : (binOp BinOp.eql 81 (.pointer (some ⟨a, 0, none⟩)) (.pointer (some ⟨b, 0, none⟩))).run Tryz.prog w = .ok (.bool false) w := by
  obtain ⟨j, hj, hs⟩ := Option.map_eq_some_iff.1 infoNd
  exact run_eql_ptr_other w Tryz.underlying81 hj (by rw [hs]; decide) (fun e => hne (congrArg Addr.block e)) ha hb
theorem eql_none (w : World) (a : Addr) : (binOp BinOp.eql 81 (.pointer none) (.pointer (some a))).run Tryz.prog w = .ok (.bool false) w := by
  have h : ∀ d : Nat, (Op.equalIn (d + 1) 81 (.pointer none) (.pointer (some a))).run Tryz.prog w = .ok false w := fun d => by
    simp [Op.equalIn, run_underlying Tryz.underlying81]
  simp only [binOp]
  simp [Op.equal, Op.maxDepth, h 9999]

set_option maxHeartbeats 1000000 in
theorem differ_same (T : Nat) (J Jx : List Ch → World → Prop) (u : Option Addr) (l p : Nat) (done : List Ch) (w : World) (h : J done w) :
    Calls Tryz.prog 106 #[.pointer u, .pointer u, .int .i64 (l : Int), .int .u32 (p : Int), yieldVD T] w (EndsC J Jx done []) := by
  cases u with
  | none =>
    go_enter Tryz.func106, Tryz.ntmps106
    go_wp2
    go_ret
    exact ⟨true, rfl, fun _ => by rw [List.append_nil]; exact h, fun e => (by cases e)⟩
  | some ad =>
  have hq := eql_same w ad
  go_enter Tryz.func106, Tryz.ntmps106
  go_wp2
  go_ret
  exact ⟨true, rfl, fun _ => by rw [List.append_nil]; exact h, fun e => (by cases e)⟩

set_option maxHeartbeats 1000000 in
theorem differ_gain (T : Nat) (B : Nat) (off : Nat → World → Prop) (Q : List Ch → Ch → Prop) (J Jx : List Ch → World → Prop) (n l : Nat) (hl : l + n = 7) (b : Tr) (c : Nat) (hc : b.ptr = .pointer (some ⟨c, 0, none⟩)) (hw : b.wf n) (hT : TakesD T B (fun X => Lies X .nil ∧ Lies X b) off Q J Jx) (p : Nat) (hp : p + 16 ^ (n + 1) ≤ 4294967296) (hm : p % 16 ^ (n + 1) = 0) (done : List Ch) (w : World) (h : J done w) (hQ : ∀ pre c, pre ++ [c] <+: Tr.nil.dif b n p → Q (done ++ pre) c) :
    Calls Tryz.prog 106 #[.pointer none, .pointer (some ⟨c, 0, none⟩), .int .i64 (l : Int), .int .u32 (p : Int), yieldVD T] w (EndsC J Jx done (Tr.nil.dif b n p)) := by
  rw [dif_gain hw] at hQ ⊢
  have hfr := from_node b _ hc l p 0 w
  have hq := eql_none w ⟨c, 0, none⟩
  rw [show (((0 : Nat)) : Int) = 0 from rfl] at hfr
  go_enter Tryz.func106, Tryz.ntmps106
  go_wp2_with (first | (go_at_call 66; refine hfr.mono ?_; rintro e w1 ⟨rfl, hI, hb1⟩) | (go_at_call 115; refine (gained_anyD T B _ off Q J Jx hT w.heap.size n l hl b hw (fun X h => h.2) p hp hm done _ hI (hT.step _ _ _ h (stepB_below B hb1)) hQ).mono ?_; rintro e w2 ⟨o, rfl, hJ2, hX2⟩))
  go_ret
  exact ⟨o, rfl, hJ2, hX2⟩

set_option maxHeartbeats 1000000 in
theorem differ_lose (T : Nat) (B : Nat) (off : Nat → World → Prop) (Q : List Ch → Ch → Prop) (J Jx : List Ch → World → Prop) (n l : Nat) (hl : l + n = 7) (a : Tr) (c : Nat) (hc : a.ptr = .pointer (some ⟨c, 0, none⟩)) (hw : a.wf n) (hT : TakesD T B (fun X => Lies X a ∧ Lies X .nil) off Q J Jx) (p : Nat) (hp : p + 16 ^ (n + 1) ≤ 4294967296) (hm : p % 16 ^ (n + 1) = 0) (done : List Ch) (w : World) (h : J done w) (hQ : ∀ pre c, pre ++ [c] <+: a.dif .nil n p → Q (done ++ pre) c) :
    Calls Tryz.prog 106 #[.pointer (some ⟨c, 0, none⟩), .pointer none, .int .i64 (l : Int), .int .u32 (p : Int), yieldVD T] w (EndsC J Jx done (a.dif .nil n p)) := by
  rw [dif_lose hw] at hQ ⊢
  have hfr := from_node a _ hc l p 0 w
  rw [show (((0 : Nat)) : Int) = 0 from rfl] at hfr
  go_enter Tryz.func106, Tryz.ntmps106
  go_wp2_with (first | (go_at_call 66; refine hfr.mono ?_; rintro e w1 ⟨rfl, hI, hb1⟩) | (go_at_call 116; refine (lost_anyD T B _ off Q J Jx hT w.heap.size n l hl a hw (fun X h => h.1) p hp hm done _ hI (hT.step _ _ _ h (stepB_below B hb1)) hQ).mono ?_; rintro e w2 ⟨o, rfl, hJ2, hX2⟩))
  go_ret
  exact ⟨o, rfl, hJ2, hX2⟩

set_option maxRecDepth 4000 in
set_option maxHeartbeats 1000000 in
theorem differ_down (T : Nat) (B : Nat) (off : Nat → World → Prop) (Q : List Ch → Ch → Prop) (J Jx : List Ch → World → Prop) (ba sa : Nat) (tha : Nat → Bool) (vka vna : Nat → Int) (bb sb : Nat) (thb : Nat → Bool) (vkb vnb : Nat → Int) (hne : ¬ ba = bb) (hwa : (Tr.leaf ba sa tha vka vna).wf 0) (hwb : (Tr.leaf bb sb thb vkb vnb).wf 0)
    (hT : TakesD T B (fun X => Lies X (.leaf ba sa tha vka vna) ∧ Lies X (.leaf bb sb thb vkb vnb)) off Q J Jx) (p : Nat) (hp : p + 16 ≤ 4294967296) (hm : p % 16 = 0) (done : List Ch) (w : World) (h : J done w) (hQ : ∀ pre c, pre ++ [c] <+: (Tr.leaf ba sa tha vka vna).dif (.leaf bb sb thb vkb vnb) 0 p → Q (done ++ pre) c) :
    Calls Tryz.prog 106 #[.pointer (some ⟨ba, 0, none⟩), .pointer (some ⟨bb, 0, none⟩), .int .i64 7, .int .u32 (p : Int), yieldVD T] w (EndsC J Jx done ((Tr.leaf ba sa tha vka vna).dif (.leaf bb sb thb vkb vnb) 0 p)) := by
  rw [dif_leaf hwa hwb] at hQ ⊢
  have hJd := hT.step _ _ w.drew h (stepB_below B (Below.refl w.heap.size w).drew)
  have hLd := hT.good _ _ hJd
  have c0 := hLd.1.1.shelf
  have c1 := hLd.2.1.shelf
  have hq := eql_other w ba bb hne (hT.good _ _ h).1.1 (hT.good _ _ h).2.1
  have hsh := shelves_anyD T B off Q J Jx ba sa tha vka vna bb sb thb vkb vnb hwa hwb hT p hp hm done w.drew hJd hQ
  go_enter Tryz.func106, Tryz.ntmps106
  go_wp2
  have hS : w.drew.cell? ⟨ba, 16, none⟩ = some (.pointer (some ⟨sa, 0, none⟩)) ∧ w.drew.cell? ⟨bb, 16, none⟩ = some (.pointer (some ⟨sb, 0, none⟩)) := ⟨c0, c1⟩
  go_region_held3 (fun X => X.cell? ⟨ba, 16, none⟩ = some (.pointer (some ⟨sa, 0, none⟩)) ∧ X.cell? ⟨bb, 16, none⟩ = some (.pointer (some ⟨sb, 0, none⟩))) (with_reducible assumption)
    (first | (go_at_call 117; refine hsh.mono ?_; rintro e w5 ⟨o, rfl, hJ5, hX5⟩; have hL5 := takesC_ends hT o hJ5 hX5; have hS5 : w5.cell? ⟨ba, 16, none⟩ = some (.pointer (some ⟨sa, 0, none⟩)) ∧ w5.cell? ⟨bb, 16, none⟩ = some (.pointer (some ⟨sb, 0, none⟩)) := ⟨hL5.1.1.shelf, hL5.2.1.shelf⟩))
  have hE : EndsC J Jx done (difl (.leaf ba sa tha vka vna) (.leaf bb sb thb vkb vnb) p 16) (.returned (.bool o)) w5 := ⟨o, rfl, hJ5, hX5⟩
  clear hJ5 hX5
  go_wp2
  go_ret
  exact hE

set_option maxRecDepth 4000 in
set_option maxHeartbeats 1000000 in
theorem differ_up (T : Nat) (B : Nat) (off : Nat → World → Prop) (Q : List Ch → Ch → Prop) (J Jx : List Ch → World → Prop) (n l : Nat) (hn : l + (n + 1) = 7)
    (ih : ∀ (a b : Tr), a.wf n → b.wf n → TakesD T B (fun X => Lies X a ∧ Lies X b) off Q J Jx → ∀ p : Nat, p + 16 ^ (n + 1) ≤ 4294967296 → p % 16 ^ (n + 1) = 0 → ∀ (done : List Ch) (w : World), J done w → (∀ pre c, pre ++ [c] <+: a.dif b n p → Q (done ++ pre) c) →
      Calls Tryz.prog 106 #[a.ptr, b.ptr, .int .i64 ((l + 1 : Nat) : Int), .int .u32 (p : Int), yieldVD T] w (EndsC J Jx done (a.dif b n p)))
    (ca : Nat) (ka : Nat → Tr) (cb : Nat) (kb : Nat → Tr) (hne : ¬ ca = cb) (hwa : (Tr.node ca ka).wf (n + 1)) (hwb : (Tr.node cb kb).wf (n + 1)) (hT : TakesD T B (fun X => Lies X (.node ca ka) ∧ Lies X (.node cb kb)) off Q J Jx) (p : Nat) (hp : p + 16 ^ (n + 1 + 1) ≤ 4294967296) (hm : p % 16 ^ (n + 1 + 1) = 0) (done : List Ch) (w : World) (h : J done w) (hQ : ∀ pre c, pre ++ [c] <+: (Tr.node ca ka).dif (.node cb kb) (n + 1) p → Q (done ++ pre) c) :
    Calls Tryz.prog 106 #[.pointer (some ⟨ca, 0, none⟩), .pointer (some ⟨cb, 0, none⟩), .int .i64 (l : Int), .int .u32 (p : Int), yieldVD T] w (EndsC J Jx done ((Tr.node ca ka).dif (.node cb kb) (n + 1) p)) := by
  rw [dif_node hwa hwb] at hQ ⊢
  have hl7 : ((l : Int) == 7) = false := by simp; omega
  have hq := eql_other w ca cb hne (hT.good _ _ h).1.1 (hT.good _ _ h).2.1
  go_enter Tryz.func106, Tryz.ntmps106
  go_wp2
  go_loopw [48] (fun x wr => ∃ j : Nat, j ≤ 16 ∧ x = .int .i64 j ∧ J (done ++ difs (.node ca ka) (.node cb kb) n p j) wr) (fun x _ => 16 - (intOf x).toNat)
  case atStart => exact ⟨0, by omega, rfl, by rw [difs_zero, List.append_nil]; exact h⟩
  case round =>
    obtain ⟨j, hj, rfl, hJ⟩ := hrel
    clear h
    by_cases hlt : j < 16
    · have hlt' : (j : Int) < 16 := by omega
      have hj0 : (0 : Int) ≤ (j : Int) := by omega
      have hJ1 := hT.step _ _ wr.drew hJ (stepB_below B (Below.refl wr.heap.size wr).drew)
      have hLd := hT.good _ _ hJ1
      have c0 := hLd.1.1.kid hlt
      have c1 := hLd.2.1.kid hlt
      obtain ⟨u, hu⟩ := ptr_pointer (ka j)
      obtain ⟨v, hv⟩ := ptr_pointer (kb j)
      rw [hu] at c0
      rw [hv] at c1
      obtain ⟨k, hk⟩ : ∃ k, p + j * 16 ^ (n + 1) = k := ⟨_, rfl⟩
      have h16 : 16 ^ (n + 1 + 1) = 16 ^ (n + 1) * 16 := Nat.pow_succ 16 (n + 1)
      have hjm : j * 16 ^ (n + 1) ≤ 15 * 16 ^ (n + 1) := Nat.mul_le_mul_right _ (by omega)
      have hkb : k + 16 ^ (n + 1) ≤ 4294967296 := by omega
      have hkm : k % 16 ^ (n + 1) = 0 := by
        rw [← hk, Nat.add_mul_mod_self_right, ← Nat.mod_mod_of_dvd p ⟨16, h16⟩, hm, Nat.zero_mod]
      have hhd := head_at n l hn p j k hk (by omega) hm hlt
      have hstep := difs_succ (.node ca ka) (.node cb kb) n p j
      rw [hk] at hstep
      have hwr : IntKind.i64.wrap ((l : Int) + 1) = (l : Int) + 1 := by rw [IntKind.wrap_i64]; omega
      have hcl := ih (ka j) (kb j) (hwa.2.1 j hlt) (hwb.2.1 j hlt) (hT.weak (fun X hX => ⟨hX.1.2 j hlt, hX.2.2 j hlt⟩)) k hkb hkm _ _ hJ1 (fun pre c he => by have hq := (List.prefix_append_right_inj (difs (.node ca ka) (.node cb kb) n p j)).2 he; have hq2 : difs (.node ca ka) (.node cb kb) n p j ++ (pre ++ [c]) <+: difs (.node ca ka) (.node cb kb) n p (j + 1) := by { rw [hstep]; exact hq }; rw [List.append_assoc]; exact hQ _ _ (by rw [List.append_assoc]; exact hq2.trans (difs_prefix _ _ _ _ (by omega))))
      rw [hu, hv, show (((l + 1 : Nat)) : Int) = (l : Int) + 1 from by omega] at hcl
      have hStep : Hid (difs (.node ca ka) (.node cb kb) n p (j + 1) = difs (.node ca ka) (.node cb kb) n p j ++ (ka j).dif (kb j) n k) := hstep
      have hS : wr.drew.cell? ⟨ca, j, none⟩ = some (.pointer u) ∧ wr.drew.cell? ⟨cb, j, none⟩ = some (.pointer v) := ⟨c0, c1⟩
      clear hstep hk hkm hkb hjm h16 hLd c0 c1
      go_wp2
      go_region_held3 (fun X => X.cell? ⟨ca, j, none⟩ = some (.pointer u) ∧ X.cell? ⟨cb, j, none⟩ = some (.pointer v)) (with_reducible assumption)
        (first | (go_at_call 92; refine (hhd _).mono ?_; rintro e w4 ⟨rfl, rfl⟩) | (go_at_call 106; refine hcl.mono ?_; rintro e w5 ⟨o, rfl, hJ5, hX5⟩; have hL5 := takesC_ends hT o hJ5 hX5; have hS5 : w5.cell? ⟨ca, j, none⟩ = some (.pointer u) ∧ w5.cell? ⟨cb, j, none⟩ = some (.pointer v) := ⟨by { rw [← hu]; exact hL5.1.1.kid hlt }, by { rw [← hv]; exact hL5.2.1.kid hlt }⟩))
      rw [List.append_assoc, ← hStep.out] at hJ5
      cases o with
      | true =>
        have hJ6 := hJ5 rfl
        clear hJ5 hX5
        go_wp2
        go_roundw
        case rel => exact ⟨j + 1, by omega, by go_num, hJ6⟩
        case measure => simp [intOf]; omega
      | false =>
        obtain ⟨pre, hp5, hX6⟩ := hX5 rfl
        clear hJ5 hX5
        rw [List.append_assoc] at hX6
        have hq1 : difs (.node ca ka) (.node cb kb) n p j ++ pre <+: difs (.node ca ka) (.node cb kb) n p (j + 1) := by rw [hStep.out]; exact (List.prefix_append_right_inj _).2 hp5
        have hE : EndsC J Jx done (difs (.node ca ka) (.node cb kb) n p 16) (.returned (.bool false)) w5 := ⟨false, rfl, fun e => (by cases e), fun _ => ⟨_, List.IsPrefix.trans hq1 (difs_prefix _ _ _ _ (by omega)), hX6⟩⟩
        clear hp5 hX6 hq1
        go_wp2
        go_ret
        exact hE
    · obtain rfl : j = 16 := by omega
      go_wp2
      go_ret
      exact ⟨true, rfl, fun _ => hJ, fun e => (by cases e)⟩

/-- What differ does, at every height. -/
theorem differ_anyD (T : Nat) (B : Nat) (off : Nat → World → Prop) (Q : List Ch → Ch → Prop) (J Jx : List Ch → World → Prop) : ∀ (n l : Nat), l + n = 7 → ∀ (a b : Tr), a.wf n → b.wf n → TakesD T B (fun X => Lies X a ∧ Lies X b) off Q J Jx → ∀ p : Nat, p + 16 ^ (n + 1) ≤ 4294967296 → p % 16 ^ (n + 1) = 0 → ∀ (done : List Ch) (w : World), J done w → (∀ pre c, pre ++ [c] <+: a.dif b n p → Q (done ++ pre) c) →
      Calls Tryz.prog 106 #[a.ptr, b.ptr, .int .i64 (l : Int), .int .u32 (p : Int), yieldVD T] w (EndsC J Jx done (a.dif b n p))
  | 0, l, hl, a, b, hwa, hwb, hT, p, hp, hm, done, w, h, hQ => by
    obtain rfl : l = 7 := by omega
    by_cases he : a.ptr = b.ptr
    · have hL := hT.good _ _ h
      rw [dif_one hwa hwb hL.1 hL.2 he]
      obtain ⟨u, hu⟩ := ptr_pointer b
      rw [he, hu]
      exact differ_same T J Jx u 7 p done w h
    · cases a with
      | node => exact absurd hwa.1 (by omega)
      | nil =>
        cases b with
        | nil => exact absurd rfl he
        | node => exact absurd hwb.1 (by omega)
        | leaf c s th vk vn => exact differ_gain T B off Q J Jx 0 7 hl _ c rfl hwb hT p hp hm done w h hQ
      | leaf c s th vk vn =>
        cases b with
        | nil => exact differ_lose T B off Q J Jx 0 7 hl _ c rfl hwa hT p hp hm done w h hQ
        | node => exact absurd hwb.1 (by omega)
        | leaf c' s' th' vk' vn' => exact differ_down T B off Q J Jx c s th vk vn c' s' th' vk' vn' (fun e => he (by subst e; rfl)) hwa hwb hT p hp hm done w h hQ
  | n + 1, l, hl, a, b, hwa, hwb, hT, p, hp, hm, done, w, h, hQ => by
    by_cases he : a.ptr = b.ptr
    · have hL := hT.good _ _ h
      rw [dif_one hwa hwb hL.1 hL.2 he]
      obtain ⟨u, hu⟩ := ptr_pointer b
      rw [he, hu]
      exact differ_same T J Jx u l p done w h
    · cases a with
      | leaf => exact absurd hwa.1 (by omega)
      | nil =>
        cases b with
        | nil => exact absurd rfl he
        | leaf => exact absurd hwb.1 (by omega)
        | node c kids => exact differ_gain T B off Q J Jx (n + 1) l hl _ c rfl hwb hT p hp hm done w h hQ
      | node c kids =>
        cases b with
        | nil => exact differ_lose T B off Q J Jx (n + 1) l hl _ c rfl hwa hT p hp hm done w h hQ
        | leaf => exact absurd hwb.1 (by omega)
        | node c' kids' => exact differ_up T B off Q J Jx n l hl (fun a b ha hb hT p => differ_anyD T B off Q J Jx n (l + 1) (by omega) a b ha hb hT p) c kids c' kids' (fun e => he (by subst e; rfl)) hwa hwb hT p hp hm done w h hQ

end Go.Proofs.YtblfdjdhikfjhaaGreat

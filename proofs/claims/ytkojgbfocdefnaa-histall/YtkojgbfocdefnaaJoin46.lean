import Derived.Test.YtkojgbfocdefnaaJoin45
import Derived.Deep.RegionHeld3
import Derived.LaidEqlPtr
import Derived.Maps.AppendAt
namespace Go.Proofs.Ytkojgbfocdefnaa
open Go.RowKit

theorem takesC_ends {T : Nat} {B : Nat} {G : World → Prop} {off : Nat → World → Prop} {J Jx : List Ch → World → Prop} (hT : TakesD T B G off J Jx) {d d' L : List Ch} {X : World} (o : Bool) (h1 : o = true → J d X) (h2 : o = false → ∃ pre, pre <+: L ∧ Jx (d' ++ pre) X) : G X := by
  cases o with
  | true => exact hT.good _ _ (h1 rfl)
  | false =>
    obtain ⟨pre, -, h⟩ := h2 rfl
    exact hT.goodx _ _ h

theorem infoNd : (Try.prog.info? 127).map (fun i => i.size) = some 17 := by kernel_rfl
theorem eql_same (w : World) (a : Addr) : (binOp BinOp.eql 103 (.pointer (some a)) (.pointer (some a))).run Try.prog w = .ok (.bool true) w := by
  obtain ⟨j, hj, -⟩ := Option.map_eq_some_iff.1 infoNd
  exact run_eql_ptr_same w a Try.underlying103 hj
theorem eql_other (w : World) (a b : Nat) (hne : ¬ a = b) {ca cb : Array Value} {ta tb : TypeId} (ha : w.heap[a]? = some (.cells ca ta (0, 0))) (hb : w.heap[b]? = some (.cells cb tb (0, 0))) : (binOp BinOp.eql 103 (.pointer (some ⟨a, 0, none⟩)) (.pointer (some ⟨b, 0, none⟩))).run Try.prog w = .ok (.bool false) w := by
  obtain ⟨j, hj, hs⟩ := Option.map_eq_some_iff.1 infoNd
  exact run_eql_ptr_other w Try.underlying103 hj (by rw [hs]; decide) (fun e => hne (congrArg Addr.block e)) ha hb
theorem eql_none (w : World) (a : Addr) : (binOp BinOp.eql 103 (.pointer none) (.pointer (some a))).run Try.prog w = .ok (.bool false) w := by
  have h : ∀ d : Nat, (Op.equalIn (d + 1) 103 (.pointer none) (.pointer (some a))).run Try.prog w = .ok false w := fun d => by
    simp [Op.equalIn, run_underlying Try.underlying103]
  simp only [binOp]
  simp [Op.equal, Op.maxDepth, h 9999]

set_option maxHeartbeats 1000000 in
theorem differ_same (T : Nat) (J Jx : List Ch → World → Prop) (u : Option Addr) (l p : Nat) (done : List Ch) (w : World) (h : J done w) :
    Calls Try.prog 48 #[.pointer u, .pointer u, .int .i64 (l : Int), .int .u32 (p : Int), yieldVD T] w (EndsC J Jx done []) := by
  cases u with
  | none =>
    go_enter Try.func48, Try.ntmps48
    go_wp2
    go_ret
    exact ⟨true, rfl, fun _ => by rw [List.append_nil]; exact h, fun e => (by cases e)⟩
  | some ad =>
  have hq := eql_same w ad
  go_enter Try.func48, Try.ntmps48
  go_wp2
  go_ret
  exact ⟨true, rfl, fun _ => by rw [List.append_nil]; exact h, fun e => (by cases e)⟩

set_option maxHeartbeats 1000000 in
theorem differ_gain (T : Nat) (B : Nat) (off : Nat → World → Prop) (J Jx : List Ch → World → Prop) (n l : Nat) (hl : l + n = 7) (b : Tr) (c : Nat) (hc : b.ptr = .pointer (some ⟨c, 0, none⟩)) (hw : b.wf n) (hT : TakesD T B (fun X => Lies X .nil ∧ Lies X b) off J Jx) (p : Nat) (hp : p + 16 ^ (n + 1) ≤ 4294967296) (hm : p % 16 ^ (n + 1) = 0) (done : List Ch) (w : World) (h : J done w) :
    Calls Try.prog 48 #[.pointer none, .pointer (some ⟨c, 0, none⟩), .int .i64 (l : Int), .int .u32 (p : Int), yieldVD T] w (EndsC J Jx done (Tr.nil.dif b n p)) := by
  rw [dif_gain hw]
  have hfr := from_node b _ hc l p 0 w
  have hq := eql_none w ⟨c, 0, none⟩
  rw [show (((0 : Nat)) : Int) = 0 from rfl] at hfr
  go_enter Try.func48, Try.ntmps48
  go_wp2_with (first | (go_at_call 59; refine hfr.mono ?_; rintro e w1 ⟨rfl, hI, hb1⟩) | (go_at_call 58; refine (gained_anyD T B _ off J Jx hT w.heap.size n l hl b hw (fun X h => h.2) p hp hm done _ hI (hT.step _ _ _ h (stepB_below B hb1))).mono ?_; rintro e w2 ⟨o, rfl, hJ2, hX2⟩))
  go_ret
  exact ⟨o, rfl, hJ2, hX2⟩

set_option maxHeartbeats 1000000 in
theorem differ_lose (T : Nat) (B : Nat) (off : Nat → World → Prop) (J Jx : List Ch → World → Prop) (n l : Nat) (hl : l + n = 7) (a : Tr) (c : Nat) (hc : a.ptr = .pointer (some ⟨c, 0, none⟩)) (hw : a.wf n) (hT : TakesD T B (fun X => Lies X a ∧ Lies X .nil) off J Jx) (p : Nat) (hp : p + 16 ^ (n + 1) ≤ 4294967296) (hm : p % 16 ^ (n + 1) = 0) (done : List Ch) (w : World) (h : J done w) :
    Calls Try.prog 48 #[.pointer (some ⟨c, 0, none⟩), .pointer none, .int .i64 (l : Int), .int .u32 (p : Int), yieldVD T] w (EndsC J Jx done (a.dif .nil n p)) := by
  rw [dif_lose hw]
  have hfr := from_node a _ hc l p 0 w
  rw [show (((0 : Nat)) : Int) = 0 from rfl] at hfr
  go_enter Try.func48, Try.ntmps48
  go_wp2_with (first | (go_at_call 59; refine hfr.mono ?_; rintro e w1 ⟨rfl, hI, hb1⟩) | (go_at_call 60; refine (lost_anyD T B _ off J Jx hT w.heap.size n l hl a hw (fun X h => h.1) p hp hm done _ hI (hT.step _ _ _ h (stepB_below B hb1))).mono ?_; rintro e w2 ⟨o, rfl, hJ2, hX2⟩))
  go_ret
  exact ⟨o, rfl, hJ2, hX2⟩

set_option maxRecDepth 4000 in
set_option maxHeartbeats 1000000 in
theorem differ_down (T : Nat) (B : Nat) (off : Nat → World → Prop) (J Jx : List Ch → World → Prop) (ba sa : Nat) (tha : Nat → Bool) (vka vna : Nat → Int) (bb sb : Nat) (thb : Nat → Bool) (vkb vnb : Nat → Int) (hne : ¬ ba = bb) (hwa : (Tr.leaf ba sa tha vka vna).wf 0) (hwb : (Tr.leaf bb sb thb vkb vnb).wf 0)
    (hT : TakesD T B (fun X => Lies X (.leaf ba sa tha vka vna) ∧ Lies X (.leaf bb sb thb vkb vnb)) off J Jx) (p : Nat) (hp : p + 16 ≤ 4294967296) (hm : p % 16 = 0) (done : List Ch) (w : World) (h : J done w) :
    Calls Try.prog 48 #[.pointer (some ⟨ba, 0, none⟩), .pointer (some ⟨bb, 0, none⟩), .int .i64 7, .int .u32 (p : Int), yieldVD T] w (EndsC J Jx done ((Tr.leaf ba sa tha vka vna).dif (.leaf bb sb thb vkb vnb) 0 p)) := by
  rw [dif_leaf hwa hwb]
  have hJd := hT.step _ _ w.drew h (stepB_below B (Below.refl w.heap.size w).drew)
  have hLd := hT.good _ _ hJd
  have c0 := hLd.1.1.shelf
  have c1 := hLd.2.1.shelf
  have hq := eql_other w ba bb hne (hT.good _ _ h).1.1 (hT.good _ _ h).2.1
  have hsh := shelves_anyD T B off J Jx ba sa tha vka vna bb sb thb vkb vnb hwa hwb hT p hp hm done w.drew hJd
  go_enter Try.func48, Try.ntmps48
  go_wp2
  have hS : w.drew.cell? ⟨ba, 16, none⟩ = some (.pointer (some ⟨sa, 0, none⟩)) ∧ w.drew.cell? ⟨bb, 16, none⟩ = some (.pointer (some ⟨sb, 0, none⟩)) := ⟨c0, c1⟩
  go_region_held3 (fun X => X.cell? ⟨ba, 16, none⟩ = some (.pointer (some ⟨sa, 0, none⟩)) ∧ X.cell? ⟨bb, 16, none⟩ = some (.pointer (some ⟨sb, 0, none⟩))) (with_reducible assumption)
    (first | (go_at_call 61; refine hsh.mono ?_; rintro e w5 ⟨o, rfl, hJ5, hX5⟩; have hL5 := takesC_ends hT o hJ5 hX5; have hS5 : w5.cell? ⟨ba, 16, none⟩ = some (.pointer (some ⟨sa, 0, none⟩)) ∧ w5.cell? ⟨bb, 16, none⟩ = some (.pointer (some ⟨sb, 0, none⟩)) := ⟨hL5.1.1.shelf, hL5.2.1.shelf⟩))
  have hE : EndsC J Jx done (difl (.leaf ba sa tha vka vna) (.leaf bb sb thb vkb vnb) p 16) (.returned (.bool o)) w5 := ⟨o, rfl, hJ5, hX5⟩
  clear hJ5 hX5
  go_wp2
  go_ret
  exact hE

set_option maxRecDepth 4000 in
set_option maxHeartbeats 1000000 in
theorem differ_up (T : Nat) (B : Nat) (off : Nat → World → Prop) (J Jx : List Ch → World → Prop) (n l : Nat) (hn : l + (n + 1) = 7)
    (ih : ∀ (a b : Tr), a.wf n → b.wf n → TakesD T B (fun X => Lies X a ∧ Lies X b) off J Jx → ∀ p : Nat, p + 16 ^ (n + 1) ≤ 4294967296 → p % 16 ^ (n + 1) = 0 → ∀ (done : List Ch) (w : World), J done w →
      Calls Try.prog 48 #[a.ptr, b.ptr, .int .i64 ((l + 1 : Nat) : Int), .int .u32 (p : Int), yieldVD T] w (EndsC J Jx done (a.dif b n p)))
    (ca : Nat) (ka : Nat → Tr) (cb : Nat) (kb : Nat → Tr) (hne : ¬ ca = cb) (hwa : (Tr.node ca ka).wf (n + 1)) (hwb : (Tr.node cb kb).wf (n + 1)) (hT : TakesD T B (fun X => Lies X (.node ca ka) ∧ Lies X (.node cb kb)) off J Jx) (p : Nat) (hp : p + 16 ^ (n + 1 + 1) ≤ 4294967296) (hm : p % 16 ^ (n + 1 + 1) = 0) (done : List Ch) (w : World) (h : J done w) :
    Calls Try.prog 48 #[.pointer (some ⟨ca, 0, none⟩), .pointer (some ⟨cb, 0, none⟩), .int .i64 (l : Int), .int .u32 (p : Int), yieldVD T] w (EndsC J Jx done ((Tr.node ca ka).dif (.node cb kb) (n + 1) p)) := by
  rw [dif_node hwa hwb]
  have hl7 : ((l : Int) == 7) = false := by simp; omega
  have hq := eql_other w ca cb hne (hT.good _ _ h).1.1 (hT.good _ _ h).2.1
  go_enter Try.func48, Try.ntmps48
  go_wp2
  go_loopw [48] (fun x wr => ∃ j : Nat, j ≤ 16 ∧ x = .int .i64 j ∧ J (done ++ difs (.node ca ka) (.node cb kb) n p j) wr) (fun x _ => 16 - (intOf x).toNat)
  case atStart => exact ⟨0, by omega, rfl, by rw [difs_zero, List.append_nil]; exact h⟩
  case round =>
    obtain ⟨j, hj, rfl, hJ⟩ := hrel
    clear h
    by_cases hlt : j < 16
    · have hlt' : (j : Int) < 16 := by omega
      have hj0 : (0 : Int) ≤ (j : Int) := by omega
      have hJ1 := hT.step _ _ wr.drew hJ (stepB_below B (Below.refl wr.heap.size wr).drew)
      have hLd := hT.good _ _ hJ1
      have c0 := hLd.1.1.kid hlt
      have c1 := hLd.2.1.kid hlt
      obtain ⟨u, hu⟩ := ptr_pointer (ka j)
      obtain ⟨v, hv⟩ := ptr_pointer (kb j)
      rw [hu] at c0
      rw [hv] at c1
      obtain ⟨k, hk⟩ : ∃ k, p + j * 16 ^ (n + 1) = k := ⟨_, rfl⟩
      have h16 : 16 ^ (n + 1 + 1) = 16 ^ (n + 1) * 16 := Nat.pow_succ 16 (n + 1)
      have hjm : j * 16 ^ (n + 1) ≤ 15 * 16 ^ (n + 1) := Nat.mul_le_mul_right _ (by omega)
      have hkb : k + 16 ^ (n + 1) ≤ 4294967296 := by omega
      have hkm : k % 16 ^ (n + 1) = 0 := by
        rw [← hk, Nat.add_mul_mod_self_right, ← Nat.mod_mod_of_dvd p ⟨16, h16⟩, hm, Nat.zero_mod]
      have hhd := head_at n l hn p j k hk (by omega) hm hlt
      have hstep := difs_succ (.node ca ka) (.node cb kb) n p j
      rw [hk] at hstep
      have hwr : IntKind.i64.wrap ((l : Int) + 1) = (l : Int) + 1 := by rw [IntKind.wrap_i64]; omega
      have hcl := ih (ka j) (kb j) (hwa.2.1 j hlt) (hwb.2.1 j hlt) (hT.weak (fun X hX => ⟨hX.1.2 j hlt, hX.2.2 j hlt⟩)) k hkb hkm _ _ hJ1
      rw [hu, hv, show (((l + 1 : Nat)) : Int) = (l : Int) + 1 from by omega] at hcl
      have hStep : Hid (difs (.node ca ka) (.node cb kb) n p (j + 1) = difs (.node ca ka) (.node cb kb) n p j ++ (ka j).dif (kb j) n k) := hstep
      have hS : wr.drew.cell? ⟨ca, j, none⟩ = some (.pointer u) ∧ wr.drew.cell? ⟨cb, j, none⟩ = some (.pointer v) := ⟨c0, c1⟩
      clear hstep hk hkm hkb hjm h16 hLd c0 c1
      go_wp2
      go_region_held3 (fun X => X.cell? ⟨ca, j, none⟩ = some (.pointer u) ∧ X.cell? ⟨cb, j, none⟩ = some (.pointer v)) (with_reducible assumption)
        (first | (go_at_call 62; refine (hhd _).mono ?_; rintro e w4 ⟨rfl, rfl⟩) | (go_at_call 48; refine hcl.mono ?_; rintro e w5 ⟨o, rfl, hJ5, hX5⟩; have hL5 := takesC_ends hT o hJ5 hX5; have hS5 : w5.cell? ⟨ca, j, none⟩ = some (.pointer u) ∧ w5.cell? ⟨cb, j, none⟩ = some (.pointer v) := ⟨by { rw [← hu]; exact hL5.1.1.kid hlt }, by { rw [← hv]; exact hL5.2.1.kid hlt }⟩))
      rw [List.append_assoc, ← hStep.out] at hJ5
      cases o with
      | true =>
        have hJ6 := hJ5 rfl
        clear hJ5 hX5
        go_wp2
        go_roundw
        case rel => exact ⟨j + 1, by omega, by go_num, hJ6⟩
        case measure => simp [intOf]; omega
      | false =>
        obtain ⟨pre, hp5, hX6⟩ := hX5 rfl
        clear hJ5 hX5
        rw [List.append_assoc] at hX6
        have hq1 : difs (.node ca ka) (.node cb kb) n p j ++ pre <+: difs (.node ca ka) (.node cb kb) n p (j + 1) := by rw [hStep.out]; exact (List.prefix_append_right_inj _).2 hp5
        have hE : EndsC J Jx done (difs (.node ca ka) (.node cb kb) n p 16) (.returned (.bool false)) w5 := ⟨false, rfl, fun e => (by cases e), fun _ => ⟨_, List.IsPrefix.trans hq1 (difs_prefix _ _ _ _ (by omega)), hX6⟩⟩
        clear hp5 hX6 hq1
        go_wp2
        go_ret
        exact hE
    · obtain rfl : j = 16 := by omega
      go_wp2
      go_ret
      exact ⟨true, rfl, fun _ => hJ, fun e => (by cases e)⟩

/-- What differ does, at every height. -/
theorem differ_anyD (T : Nat) (B : Nat) (off : Nat → World → Prop) (J Jx : List Ch → World → Prop) : ∀ (n l : Nat), l + n = 7 → ∀ (a b : Tr), a.wf n → b.wf n → TakesD T B (fun X => Lies X a ∧ Lies X b) off J Jx → ∀ p : Nat, p + 16 ^ (n + 1) ≤ 4294967296 → p % 16 ^ (n + 1) = 0 → ∀ (done : List Ch) (w : World), J done w →
      Calls Try.prog 48 #[a.ptr, b.ptr, .int .i64 (l : Int), .int .u32 (p : Int), yieldVD T] w (EndsC J Jx done (a.dif b n p))
  | 0, l, hl, a, b, hwa, hwb, hT, p, hp, hm, done, w, h => by
    obtain rfl : l = 7 := by omega
    by_cases he : a.ptr = b.ptr
    · have hL := hT.good _ _ h
      rw [dif_one hwa hwb hL.1 hL.2 he]
      obtain ⟨u, hu⟩ := ptr_pointer b
      rw [he, hu]
      exact differ_same T J Jx u 7 p done w h
    · cases a with
      | node => exact absurd hwa.1 (by omega)
      | nil =>
        cases b with
        | nil => exact absurd rfl he
        | node => exact absurd hwb.1 (by omega)
        | leaf c s th vk vn => exact differ_gain T B off J Jx 0 7 hl _ c rfl hwb hT p hp hm done w h
      | leaf c s th vk vn =>
        cases b with
        | nil => exact differ_lose T B off J Jx 0 7 hl _ c rfl hwa hT p hp hm done w h
        | node => exact absurd hwb.1 (by omega)
        | leaf c' s' th' vk' vn' => exact differ_down T B off J Jx c s th vk vn c' s' th' vk' vn' (fun e => he (by subst e; rfl)) hwa hwb hT p hp hm done w h
  | n + 1, l, hl, a, b, hwa, hwb, hT, p, hp, hm, done, w, h => by
    by_cases he : a.ptr = b.ptr
    · have hL := hT.good _ _ h
      rw [dif_one hwa hwb hL.1 hL.2 he]
      obtain ⟨u, hu⟩ := ptr_pointer b
      rw [he, hu]
      exact differ_same T J Jx u l p done w h
    · cases a with
      | leaf => exact absurd hwa.1 (by omega)
      | nil =>
        cases b with
        | nil => exact absurd rfl he
        | leaf => exact absurd hwb.1 (by omega)
        | node c kids => exact differ_gain T B off J Jx (n + 1) l hl _ c rfl hwb hT p hp hm done w h
      | node c kids =>
        cases b with
        | nil => exact differ_lose T B off J Jx (n + 1) l hl _ c rfl hwa hT p hp hm done w h
        | leaf => exact absurd hwb.1 (by omega)
        | node c' kids' => exact differ_up T B off J Jx n l hl (fun a b ha hb hT p => differ_anyD T B off J Jx n (l + 1) (by omega) a b ha hb hT p) c kids c' kids' (fun e => he (by subst e; rfl)) hwa hwb hT p hp hm done w h

end Go.Proofs.Ytkojgbfocdefnaa


namespace Go.Proofs.Ytkojgbfocdefnaa
open Go.RowKit Go.Shelf

def diffV (b : Nat) : Value := .func (.func 47) #[] #[.pointer (some ⟨b, 0, none⟩), .pointer (some ⟨b + 1, 0, none⟩)]
def DiffAt (W : World) (b ma mb : Nat) : Prop := b + 1 < W.heap.size ∧ W.cell? ⟨b, 0, none⟩ = some (.pointer (some ⟨ma, 0, none⟩)) ∧ W.cell? ⟨b + 1, 0, none⟩ = some (.pointer (some ⟨mb, 0, none⟩))
theorem DiffAt.later {W W' : World} {b ma mb : Nat} (h : DiffAt W b ma mb) (hb : Below W.heap.size W W') : DiffAt W' b ma mb := by
  obtain ⟨h0, h1, h2⟩ := h
  exact ⟨Nat.lt_of_lt_of_le h0 hb.size, (hb.cell (p := ⟨b, 0, none⟩) (by simp; omega)).trans h1, (hb.cell (p := ⟨b + 1, 0, none⟩) (by simp; omega)).trans h2⟩

theorem diff_iter (ma mb : Nat) (w : World) : Calls Try.prog 21 #[.pointer (some ⟨ma, 0, none⟩), .pointer (some ⟨mb, 0, none⟩)] w fun e w' => e = .returned (diffV w.heap.size) ∧ DiffAt w' w.heap.size ma mb ∧ Below w.heap.size w w' := by
  go_enter Try.func21, Try.ntmps21
  go_wp2
  go_ret
  refine ⟨rfl, ⟨by simp, by simp, by simp⟩, ((Below.refl _ _).alloc (Nat.le_refl _) _).alloc (by simp) _⟩

set_option maxRecDepth 4000 in
set_option maxHeartbeats 1000000 in
theorem diff1_anyD (T : Nat) (B : Nat) (off : Nat → World → Prop) (J Jx : List Ch → World → Prop) (b ma mb : Nat) (a c : Tr) (D : List Ch) (hDD : a.dif c 7 0 = D) (hT : TakesD T B (fun X => Lies X a ∧ Lies X c) off J Jx) (w : World) (hD : DiffAt w b ma mb) (hA : MapT w ma a) (hC : MapT w mb c) (h : J [] w) :
    Calls Try.prog 47 #[yieldVD T, .pointer (some ⟨b, 0, none⟩), .pointer (some ⟨b + 1, 0, none⟩)] w fun e w' => e = .returned (.tuple #[]) ∧ (J D w' ∨ ∃ pre, pre <+: D ∧ Jx pre w') := by
  obtain ⟨-, d0, d1⟩ := hD
  obtain ⟨u, hu⟩ := ptr_pointer a
  obtain ⟨v, hv⟩ := ptr_pointer c
  have m0 := hA.2.1
  have m1 := hC.2.1
  rw [hu] at m0
  rw [hv] at m1
  have hJd := hT.step _ _ w.drew h (stepB_below B (Below.refl w.heap.size w).drew)
  have hdf := differ_anyD T B off J Jx 7 0 rfl a c hA.2.2.2.2 hC.2.2.2.2 hT 0 (by decide) (by decide) [] w.drew hJd
  rw [hu, hv, hDD, show (((0 : Nat)) : Int) = 0 from rfl] at hdf
  clear hDD
  go_enter Try.func47, Try.ntmps47
  go_wp2_with fail
  go_region_with (go_at_call 48; refine hdf.mono ?_; rintro e w5 ⟨o, rfl, hJ5, hX5⟩)
  all_goals
    have hE : J D w5 ∨ ∃ pre, pre <+: D ∧ Jx pre w5 := by
      cases o with
      | true => exact .inl (by simpa using hJ5)
      | false =>
        obtain ⟨pre, hp, hx⟩ := hX5 (by first | rfl | trivial)
        exact .inr ⟨pre, hp, by simpa using hx⟩
    clear hJ5 hX5
    go_wp2
    go_end0
    exact ⟨rfl, hE⟩

/-- How a round is left: it goes on, or the function is left. -/
def chPost (B : Nat) (I Ix : List Ch → World → Prop) (xs : List Ch) (W : World) : Exit → Act → World → Prop
  | .normal, _, W' => KeepsFrom B W W' ∧ I xs W'
  | .ret, _, W' => KeepsFrom B W W' ∧ Ix xs W'
  | _, _, _ => False


end Go.Proofs.Ytkojgbfocdefnaa


namespace Go.Proofs.Ytkojgbfocdefnaa
open Go.RowKit Go.Shelf

def chV (c : Ch) : Value := .agg #[.int .u32 (c.1 : Int), .bool c.2.1.isSome, .bool c.2.2.isSome, .int .i64 (c.2.1.getD (0, 0)).1, .int .i64 (c.2.1.getD (0, 0)).2, .int .i64 (c.2.2.getD (0, 0)).1, .int .i64 (c.2.2.getD (0, 0)).2]
/-- How a round is left: it goes on, or the function is left; what is not the body's stays. -/
def chPostO (off : Nat → World → Prop) (B : Nat) (I Ix : List Ch → World → Prop) (xs : List Ch) (W : World) : Exit → Act → World → Prop
  | .normal, _, W' => KeepsFrom B W W' ∧ (∀ k, off k W → k < W.heap.size → W'.heap[k]? = W.heap[k]? ∧ off k W') ∧ I xs W'
  | .ret, _, W' => KeepsFrom B W W' ∧ (∀ k, off k W → k < W.heap.size → W'.heap[k]? = W.heap[k]? ∧ off k W') ∧ Ix xs W'
  | _, _, _ => False

set_option maxHeartbeats 2000000 in
/-- The statement 'for c := range trie.Diff(a, b)'; its body may leave the function. -/
theorem range_diff {n : Nat} {g : Operand} {ps : Array Tmp} {assign body : Code} {Q : Exit → Act → World → Prop} {a : Act} {w : World} (b ma mb : Nat) (ta tb : Tr) (D : List Ch) (hDD : ta.dif tb 7 0 = D)
    (hg : a.eval g = diffV b) (hps : ps.size = 1) (I Ix : List Ch → World → Prop) (off : Nat → World → Prop)
    (hI : ∀ pre X Y, I pre X → StepB w.heap.size X Y → I pre Y) (hIx : ∀ pre X Y, Ix pre X → StepB w.heap.size X Y → Ix pre Y) (hset : ∀ pre X k o v, I pre X → off k X → w.heap.size ≤ k → I pre (X.setCell ⟨k, o, none⟩ v)) (hsetx : ∀ pre X k o v, Ix pre X → off k X → w.heap.size ≤ k → Ix pre (X.setCell ⟨k, o, none⟩ v))
    (hoN : ∀ pre X k, I pre X → X.heap.size ≤ k → off k X) (hoS : ∀ pre X Y k, I pre X → off k X → StepB w.heap.size X Y → off k Y) (hoX : ∀ pre X Y k, Ix pre X → off k X → StepB w.heap.size X Y → off k Y)
    (hLi : ∀ pre X, I pre X → Lies X ta ∧ Lies X tb) (hLx : ∀ pre X, Ix pre X → Lies X ta ∧ Lies X tb)
    (hG : DiffAt w b ma mb) (hA : MapT w ma ta) (hC : MapT w mb tb) (h0 : I [] w) (Ax : Ch → Act → World → Prop) (hAx : ∀ x a' X Y, Ax x a' X → StepB w.heap.size X Y → Ax x a' Y)
    (hassign : ∀ (l : Nat) (pre : List Ch) (x : Ch) (W : World) (K : Act → World → Prop), I pre W → (∀ a' W', Below W.heap.size W W' → Ax x a' W' → K a' W') → assign.wpIn (Fence.wide.inRound l) 3 Try.prog (Exit.then K (fun _ _ _ => False)) { tmps := (ps.zip #[chV x]).foldl (fun t (p, v) => t.setIfInBounds p v) a.tmps, defers := [] } W)
    (hbody : ∀ (l : Nat) (pre : List Ch) (x : Ch) (a' : Act) (W : World), I pre W → Ax x a' W → body.wpIn (Fence.wide.inRound l) 3 Try.prog (chPostO off w.heap.size I Ix (pre ++ [x]) W) a' W)
    (hdone : ∀ (R : Nat) (W : World), w.heap.size ≤ R → I D W → W.heap[R]? = some (.deferred (some [])) → Q .normal { a with defers := { target := .collected R, args := #[] } :: a.defers } W)
    (hstop : ∀ (R : Nat) (pre : List Ch) (W : World), w.heap.size ≤ R → pre <+: D → Ix pre W → W.heap[R]? = some (.deferred (some [])) → Code.ret.wpIn Fence.wide n Try.prog Q { a with defers := { target := .collected R, args := #[] } :: a.defers } W) :
    (Code.rangeFunc g ps assign body).wpIn Fence.wide n Try.prog Q a w := by
  refine wpIn_rangeFunc fun fn hfn => ?_
  obtain ⟨L, hL⟩ : ∃ L : LoopState → Option Code → Loop, L = fun st pe => { state := st, pending := pe, fn := fn, tmps := a.tmps, params := ps, assign := assign, body := body, defers := w.heap.size } := ⟨_, rfl⟩
  obtain ⟨V, hV⟩ : ∃ V, (w.alloc (.deferred (some []))).alloc (.loop (L .ready none)) = V := ⟨_, rfl⟩
  have hV1 : V.heap[w.heap.size + 1]? = some (.loop (L .ready none)) := by
    rw [← hV]
    have := World.alloc_heap_new (w.alloc (.deferred (some []))) (.loop (L .ready none))
    rwa [World.size_alloc] at this
  have hV0 : V.heap[w.heap.size]? = some (.deferred (some [])) := by
    rw [← hV]
    exact (Below.heap_alloc _ _ _ (by simp)).trans (World.alloc_heap_new w _)
  have hVs : V.heap.size = w.heap.size + 2 := by rw [← hV]; simp
  have hbV : Below w.heap.size w V := by rw [← hV]; exact ((Below.refl _ _).alloc (Nat.le_refl _) _).alloc (by simp) _
  have hIV : I [] V := hI _ _ _ h0 (stepB_below _ hbV)
  have hup : ∀ {X Y : World}, StepB V.heap.size X Y → StepB w.heap.size X Y := fun h => h.mono (by omega)
  have keepLow : ∀ {X Y : World} {k : Nat} {o : Obj}, StepB V.heap.size X Y → X.heap[k]? = some o → k < V.heap.size → Y.heap[k]? = some o := fun {X Y k o} hs hk hl => by
    obtain ⟨row, hg', hr⟩ := hs
    refine (hg'.block k (Array.getElem?_eq_some_iff.1 hk).1 (fun e => ?_)).trans hk
    have := (hr k e.symm).1
    omega
  have setLow : ∀ {X : World} {k j o : Nat} {v : Value} {ob : Obj}, X.heap[j]? = some ob → V.heap.size ≤ k → j < V.heap.size → (X.setCell ⟨k, o, none⟩ v).heap[j]? = some ob := fun {X k j o v ob} hj hk hl => (Below.heap_setCell _ _ _ j (by simp; omega)).trans hj
  have hT : TakesD (w.heap.size + 1) V.heap.size (fun X => Lies X ta ∧ Lies X tb) (fun k X => off k X ∧ k ≠ w.heap.size + 1) (fun pre W => I pre W ∧ W.heap[w.heap.size + 1]? = some (.loop (L .ready none)) ∧ W.heap[w.heap.size]? = some (.deferred (some [])) ∧ V.heap.size ≤ W.heap.size)
      (fun pre W => Ix pre W ∧ W.heap[w.heap.size + 1]? = some (.loop (L .done (some .ret))) ∧ W.heap[w.heap.size]? = some (.deferred (some []))) := by
    refine ⟨fun pre W h => hLi _ _ h.1, fun pre W h => hLx _ _ h.1, fun pre W h => h.2.2.2, by omega, fun pre X Y h hs => ⟨hI _ _ _ h.1 (hup hs), keepLow hs h.2.1 (by omega), keepLow hs h.2.2.1 (by omega), ?_⟩, fun pre X Y h hs => ⟨hIx _ _ _ h.1 (hup hs), keepLow hs h.2.1 (by omega), keepLow hs h.2.2 (by omega)⟩,
      fun pre X k o v h hk hB => ⟨hset _ _ _ _ _ h.1 hk.1 (by omega), setLow h.2.1 hB (by omega), setLow h.2.2.1 hB (by omega), by simpa using h.2.2.2⟩, fun pre X k o v h hk hB => ⟨hsetx _ _ _ _ _ h.1 hk.1 (by omega), setLow h.2.1 hB (by omega), setLow h.2.2 hB (by omega)⟩,
      fun pre X k h hk => ⟨hoN _ _ _ h.1 hk, by have := h.2.2.2; omega⟩, fun pre X Y k h hk hs => ⟨hoS _ _ _ _ h.1 hk.1 (hup hs), hk.2⟩, ?_⟩
    · obtain ⟨row, hg', hr⟩ := hs
      exact Nat.le_trans h.2.2.2 hg'.size
    · rintro pre Wr c k p q x y x' y' m hch ⟨hi0, h10, h20, hVW⟩
      have hcv : chV c = .agg #[.int .u32 (k : Int), .bool p, .bool q, .int .i64 x, .int .i64 y, .int .i64 x', .int .i64 y'] := by
        simp only [chL, List.cons.injEq, and_true] at hch
        obtain ⟨e1, e2, e3, e4, e5, e6, e7⟩ := hch
        unfold chV
        rw [e1, e2, e3, e4, e5, e6, e7]
      have hy := run_yield (P := Try.prog) (args := #[chV c]) h10 (by rw [hL]; exact hps.symm)
      rw [hL] at hy
      rw [← hcv]
      refine ⟨fn, _, assign, body, hy, roundIn_depth (n := 3) (roundIn_of_wpIn hfn (hassign _ pre c Wr _ hi0 fun a' W hbW hax => ?_))⟩
      have hi := hI _ _ _ hi0 (stepB_below _ hbW)
      have h1 := (hbW.block _ (Array.getElem?_eq_some_iff.1 h10).1).trans h10
      have h2 := (hbW.block _ (Array.getElem?_eq_some_iff.1 h20).1).trans h20
      have hlt : w.heap.size + 1 < W.heap.size := (Array.getElem?_eq_some_iff.1 h1).1
      refine ⟨_, run_beginRound h1 (by rw [hL]), ?_⟩
      have s1 := stepB_put (B := w.heap.size) (.loop { L .ready none with state := .busy }) (Nat.le_succ _) h1 rfl
      have k1 : (W.putObj (w.heap.size + 1) (.loop { L .ready none with state := .busy })).heap[w.heap.size + 1]? = some (.loop { L .ready none with state := .busy }) := World.putObj_heap_same hlt
      have k0 : (W.putObj (w.heap.size + 1) (.loop { L .ready none with state := .busy })).heap[w.heap.size]? = some (.deferred (some [])) := (World.putObj_heap_other (by omega)).trans h2
      refine wpIn_mono (hbody _ pre c _ _ (hI _ _ _ hi s1) (hAx _ _ _ _ hax s1)) ?_
      -- what one round leaves
      have fin : ∀ (jump : Option Code) (X : World), KeepsFrom w.heap.size (W.putObj (w.heap.size + 1) (.loop { L .ready none with state := .busy })) X → (∀ k, off k (W.putObj (w.heap.size + 1) (.loop { L .ready none with state := .busy })) → k < (W.putObj (w.heap.size + 1) (.loop { L .ready none with state := .busy })).heap.size → X.heap[k]? = (W.putObj (w.heap.size + 1) (.loop { L .ready none with state := .busy })).heap[k]? ∧ off k X) → (∀ k Y, off k X → StepB w.heap.size X Y → off k Y) →
          (Instr.endRound (w.heap.size + 1) jump).run Try.prog X = .ok (.bool jump.isNone) (X.putObj (w.heap.size + 1) (.loop (L (if jump.isNone then .ready else .done) jump))) ∧ StepB w.heap.size X (X.putObj (w.heap.size + 1) (.loop (L (if jump.isNone then .ready else .done) jump))) ∧
          (X.putObj (w.heap.size + 1) (.loop (L (if jump.isNone then .ready else .done) jump))).heap[w.heap.size + 1]? = some (.loop (L (if jump.isNone then .ready else .done) jump)) ∧
          (X.putObj (w.heap.size + 1) (.loop (L (if jump.isNone then .ready else .done) jump))).heap[w.heap.size]? = some (.deferred (some [])) ∧
          KeepsFrom (w.heap.size + 1 + 1) Wr (X.putObj (w.heap.size + 1) (.loop (L (if jump.isNone then .ready else .done) jump))) ∧
          (∀ k, off k Wr ∧ k ≠ w.heap.size + 1 → k < Wr.heap.size → (X.putObj (w.heap.size + 1) (.loop (L (if jump.isNone then .ready else .done) jump))).heap[k]? = Wr.heap[k]? ∧ off k (X.putObj (w.heap.size + 1) (.loop (L (if jump.isNone then .ready else .done) jump))) ∧ k ≠ w.heap.size + 1) := fun jump X hX hO hOs => by
        have e1 := hX.same _ _ (Nat.le_succ _) k1 rfl
        have e0 := hX.same _ _ (Nat.le_refl _) k0 rfl
        have e2 := run_endRound (P := Try.prog) jump e1
        have hsE := stepB_put (B := w.heap.size) (.loop (L (if jump.isNone then .ready else .done) jump)) (Nat.le_succ _) e1 rfl
        refine ⟨by rw [hL] at e2 ⊢; exact e2, hsE, World.putObj_heap_same (Array.getElem?_eq_some_iff.1 e1).1, (World.putObj_heap_other (by omega)).trans e0, ⟨?_, fun k o hk hko ho => ?_⟩, fun k hk hkl => ?_⟩
        · have z1 := hbW.size
          have z2 := hX.size
          have z3 : (W.putObj (w.heap.size + 1) (.loop { L .ready none with state := .busy })).heap.size = W.heap.size := by simp [World.putObj]
          have z4 : (X.putObj (w.heap.size + 1) (.loop (L (if jump.isNone then .ready else .done) jump))).heap.size = X.heap.size := by simp [World.putObj]
          omega
        · have y1 := (hbW.block k (Array.getElem?_eq_some_iff.1 hko).1).trans hko
          have y2 : (W.putObj (w.heap.size + 1) (.loop { L .ready none with state := .busy })).heap[k]? = some o := (World.putObj_heap_other (by omega)).trans y1
          have y3 := hX.same k o (by omega) y2 ho
          exact (World.putObj_heap_other (by omega)).trans y3
        · have o1 := hoS _ _ _ k hi0 hk.1 (stepB_below _ hbW)
          have o2 := hoS _ _ _ k hi o1 s1
          have z3 : (W.putObj (w.heap.size + 1) (.loop { L .ready none with state := .busy })).heap.size = W.heap.size := by simp [World.putObj]
          obtain ⟨y3, o3⟩ := hO k o2 (by have := hbW.size; omega)
          have y2 : (W.putObj (w.heap.size + 1) (.loop { L .ready none with state := .busy })).heap[k]? = W.heap[k]? := World.putObj_heap_other (by omega)
          exact ⟨(World.putObj_heap_other (by omega)).trans (y3.trans (y2.trans (hbW.block k hkl))), hOs k _ o3 hsE, hk.2⟩
      rintro e a3 X hp
      cases e with
      | normal =>
        obtain ⟨hX, hO, hi3⟩ := hp
        obtain ⟨hr, hs, e1, e0, eK, eO⟩ := fin none X hX hO (fun k Y hk hs => hoS _ _ _ _ hi3 hk hs)
        refine ⟨_, _, hr, true, rfl, eK, eO, fun _ => ⟨hI _ _ _ hi3 hs, e1, e0, ?_⟩, fun e => (by cases e)⟩
        exact Nat.le_trans hVW eK.size
      | ret =>
        obtain ⟨hX, hO, hi3⟩ := hp
        obtain ⟨hr, hs, e1, e0, eK, eO⟩ := fin (some .ret) X hX hO (fun k Y hk hs => hoX _ _ _ _ hi3 hk hs)
        exact ⟨_, _, hr, false, rfl, eK, eO, fun e => (by cases e), fun _ => ⟨hIx _ _ _ hi3 hs, e1, e0⟩⟩
      | exit i => exact hp.elim
      | goto t => exact hp.elim
      | panic ch => exact hp.elim
      | outgrown => exact hp.elim
  refine ⟨w.heap.size + 1, [{ target := .collected w.heap.size, args := #[] }], V, { target := .fn (.func 47) #[.pointer (some ⟨b, 0, none⟩), .pointer (some ⟨b + 1, 0, none⟩)], args := #[.func (.yield (w.heap.size + 1)) #[] #[]] }, V, 47,
    #[.func (.yield (w.heap.size + 1)) #[] #[], .pointer (some ⟨b, 0, none⟩), .pointer (some ⟨b + 1, 0, none⟩)], V, ?_, ?_, ?_, ?_, fun e => by simp [Fence.wide] at e, ?_⟩
  · rw [← hV, hL]; exact run_enterLoop_outer _ _ _ _ _
  · simp only [resolve, hg, diffV]
    simp [go_sem]
  · intro f' _; trivial
  · simp [invoke, go_sem]
  · refine (callsIn_wide.2 (diff1_anyD (w.heap.size + 1) V.heap.size _ _ _ b ma mb ta tb D hDD hT V (hG.later hbV) (hA.later hbV) (hC.later hbV) ⟨hIV, hV1, hV0, Nat.le_refl _⟩)).mono ?_
    rintro e X ⟨rfl, ⟨hi, e1, e0, -⟩ | ⟨pre, hpre, hi, e1, e0⟩⟩
    · have hs := stepB_put (B := w.heap.size) (.loop { L .ready none with state := .exhausted }) (Nat.le_succ _) e1 rfl
      refine ⟨none, _, by have := run_endLoop (P := Try.prog) e1 (by rw [hL]; simp); rw [hL] at this ⊢; exact this, hdone _ _ (Nat.le_refl _) (hI _ _ _ hi hs) ((World.putObj_heap_other (by omega)).trans e0)⟩
    · have hs := stepB_put (B := w.heap.size) (.loop { L .done (some .ret) with state := .exhausted }) (Nat.le_succ _) e1 rfl
      refine ⟨some .ret, _, by have := run_endLoop (P := Try.prog) e1 (by rw [hL]; simp); rw [hL] at this ⊢; exact this, hstop _ pre _ (Nat.le_refl _) hpre (hIx _ _ _ hi hs) ((World.putObj_heap_other (by omega)).trans e0)⟩

end Go.Proofs.Ytkojgbfocdefnaa


namespace Go.Proofs.Ytkojgbfocdefnaa
open Go.RowKit Go.Shelf

theorem infoU : (Try.prog.info? 56).map (fun i => (i.zero, i.size, i.bytes)) = some (some (.int .u32 0), 1, 4) := by kernel_rfl
def keysV (ks : List Nat) : List Value := ks.map fun (k : Nat) => Value.int .u32 (k : Int)
theorem keysV_snoc (ks : List Nat) (k : Nat) : keysV (ks ++ [k]) = keysV ks ++ [.int .u32 (k : Int)] := by simp [keysV]
/-- The four cells of keyList's closure, and the keys up to here. -/
def KAt (X : World) (n : Nat) (done : List Nat) : Prop := X.heap[n]? = some (.cells #[.int .i64 0] 3 (0, 0)) ∧ (∃ uv, X.heap[n + 1]? = some (.cells #[uv] 90 (0, 0)) ∧ X.ownsRow (n + 4) 56 1 uv done.length (keysV done)) ∧ X.heap[n + 2]? = some (.cells #[.bool false] 4 (0, 0)) ∧ X.heap[n + 3]? = some (.cells #[.bool true] 4 (0, 0))
def offK (n k : Nat) (X : World) : Prop := k ≠ n ∧ k ≠ n + 1 ∧ k ≠ n + 2 ∧ k ≠ n + 3 ∧ ∀ uv : Value, X.cell? ⟨n + 1, 0, none⟩ = some uv → uv.ownBlock ≠ some k
def klV (n : Nat) : Value := .func (.func 54) #[] #[.pointer (some ⟨n + 2, 0, none⟩), .pointer (some ⟨n + 3, 0, none⟩), .pointer (some ⟨n + 1, 0, none⟩), .pointer (some ⟨n, 0, none⟩)]

set_option maxRecDepth 4000 in
set_option maxHeartbeats 2000000 in
theorem keyList1_any (n : Nat) (done : List Nat) (hd : done.length < 3999) (k : Nat) (w : World) (h : KAt w n done) :
    Calls Try.prog 54 #[.int .u32 (k : Int), .pointer (some ⟨n + 2, 0, none⟩), .pointer (some ⟨n + 3, 0, none⟩), .pointer (some ⟨n + 1, 0, none⟩), .pointer (some ⟨n, 0, none⟩)] w fun e w' => e = .returned (.bool true) ∧ KAt w' n (done ++ [k]) ∧ Below n w w' ∧ KeepsOthers w w' ∧ (∀ j, offK n j w → j < w.heap.size → w'.heap[j]? = w.heap[j]? ∧ offK n j w') := by
  obtain ⟨h0, ⟨uv, h1, hown⟩, h2, h3⟩ := h
  obtain ⟨ea, el, ec, rfl⟩ := own_slice hown
  have l3 : n + 3 < w.heap.size := (Array.getElem?_eq_some_iff.1 h3).1
  have hb1 := (Below.refl w.heap.size w).alloc (Nat.le_refl _) (.cells #[.int .u32 (k : Int)] 56)
  have c00 : w.cell? ⟨n + 1, 0, none⟩ = some (.slice ea el ec) := cell_of_row _ _ 0 _ _ _ h1
  have c2 : w.cell? ⟨n + 2, 0, none⟩ = some (.bool false) := cell_of_row _ _ 0 _ _ _ h2
  have hownA := own_laterB hown hb1
  have r0 := (hb1.block n (by omega)).trans h0
  have r1 := (hb1.block (n + 1) (by omega)).trans h1
  have r2 := (hb1.block (n + 2) (by omega)).trans h2
  have r3 := (hb1.block (n + 3) (by omega)).trans h3
  have hlo : ∀ j, (Value.slice ea el ec).ownBlock = some j → n + 4 ≤ j := fun j e => (hown.lt j e).1
  obtain ⟨i0, hi, hz0, hz1, hz2⟩ := info_parts infoU
  have hnm : ((done.length : Int) + 1 == 0) = false := by rw [beq_eq_false_iff_ne]; omega
  have hn4 : ¬ (4000 : Int) ≤ (done.length : Int) + 1 := by omega
  have tok1 : True := trivial
  go_enter Try.func54, Try.ntmps54
  go_wp2_with (at_builtin; have _u := tok1; clear tok1; refine wpList_append_own_at (P := Try.prog) _ rfl _ _ 90 rfl (n + 4) 56 i0 _ 1 4 Try.underlying90 hi hz0 hz1 hz2 rfl (by decide) _ done.length (keysV done) rfl hownA ⟨w.heap.size, 0, none⟩ 1 1 [.int .u32 (k : Int)] rfl rfl (cell_one_new _ _ _) (fun u hu => by rw [List.mem_singleton.1 hu]; rfl) (by unfold maxLen; omega) (by omega) (by have := hb1.size; omega) ?_; intro v2 w2 hown2 hgrow2 _hnil hloc; obtain ⟨g2, cap2, rfl⟩ := own_some hown2 (by omega); have b0 := (hgrow2.block n (by have := hb1.size; omega) (fun e => by have := hlo _ e.symm; omega)).trans r0; have b1 := (hgrow2.block (n + 1) (by have := hb1.size; omega) (fun e => by have := hlo _ e.symm; omega)).trans r1; have b2 := (hgrow2.block (n + 2) (by have := hb1.size; omega) (fun e => by have := hlo _ e.symm; omega)).trans r2; have b3 := (hgrow2.block (n + 3) (by have := hb1.size; omega) (fun e => by have := hlo _ e.symm; omega)).trans r3; have f1 := frozen_of_row b1 0; have d1 : w2.cell? ⟨n + 1, 0, none⟩ = some (.slice ea el ec) := cell_of_row _ _ 0 _ _ _ b1; have e1 := heap_setCell_same w2 (n + 1) 0 _ _ (.slice (some ⟨g2, 0, none⟩) (done.length + 1) cap2) b1; have q1 := grown_set w2 (n + 1) 0 (.slice (some ⟨g2, 0, none⟩) (done.length + 1) cap2); obtain ⟨Y1, E1⟩ : ∃ Z, w2.setCell ⟨n + 1, 0, none⟩ (.slice (some ⟨g2, 0, none⟩) (done.length + 1) cap2) = Z := ⟨_, rfl⟩; rw [E1] at e1 q1; have s0 := (q1.block n (Array.getElem?_eq_some_iff.1 b0).1 (by simp)).trans b0; have s2 := (q1.block (n + 2) (Array.getElem?_eq_some_iff.1 b2).1 (by simp)).trans b2; have s3 := (q1.block (n + 3) (Array.getElem?_eq_some_iff.1 b3).1 (by simp)).trans b3; have y0 : Y1.cell? ⟨n, 0, none⟩ = some (.int .i64 0) := cell_of_row _ _ 0 _ _ _ s0; have y1 : Y1.cell? ⟨n + 1, 0, none⟩ = some (.slice (some ⟨g2, 0, none⟩) (done.length + 1) cap2) := cell_of_row _ _ 0 _ _ _ e1; have y2 : Y1.cell? ⟨n + 2, 0, none⟩ = some (.bool false) := cell_of_row _ _ 0 _ _ _ s2; have y2f := frozen_of_row s2 0; have e2 := heap_setCell_same Y1 (n + 2) 0 _ _ (.bool false) s2; have q2 := grown_set Y1 (n + 2) 0 (.bool false); obtain ⟨Y2, E2⟩ : ∃ Z, Y1.setCell ⟨n + 2, 0, none⟩ (.bool false) = Z := ⟨_, rfl⟩; rw [E2] at e2 q2; have x2 : Y2.cell? ⟨n + 2, 0, none⟩ = some (.bool false) := cell_of_row _ _ 0 _ _ _ e2)
  go_ret
  have hg2l := (hown2.lt g2 rfl).1
  have t0 := (q2.block n (Array.getElem?_eq_some_iff.1 s0).1 (by simp)).trans s0
  have t1 := (q2.block (n + 1) (Array.getElem?_eq_some_iff.1 e1).1 (by simp)).trans e1
  have t3 := (q2.block (n + 3) (Array.getElem?_eq_some_iff.1 s3).1 (by simp)).trans s3
  have hownY := (hown2.kept q1 (.inr (fun e => by have := Option.some.inj e; simp at this; omega))).kept q2 (.inr (fun e => by have := Option.some.inj e; simp at this; omega))
  have hB2 : Below n w w2 := (hb1.mono (show n ≤ w.heap.size by omega)).grown hgrow2 (by have := hb1.size; omega) (fun k hk => by have := hlo k hk; omega)
  have hB3 := hB2.grown q1 (Nat.le_trans (show n ≤ w.heap.size by omega) hB2.size) (fun k hk => by cases hk; omega)
  have hB4 := hB3.grown q2 (Nat.le_trans (show n ≤ w.heap.size by omega) hB3.size) (fun k hk => by cases hk; omega)
  have hK := (((KeepsOthers.alloc w (.cells #[.int .u32 (k : Int)] 56)).trans (KeepsOthers.of_grownBy hgrow2 (fun j o hj ho => own_cells hownA j o hj ho))).trans (KeepsOthers.of_grownBy q1 (fun j o hj ho => by cases hj; rw [b1] at ho; cases ho; rfl))).trans (KeepsOthers.of_grownBy q2 (fun j o hj ho => by cases hj; rw [s2] at ho; cases ho; rfl))
  refine ⟨rfl, ⟨t0, ⟨_, t1, by rw [List.length_append, keysV_snoc]; exact hownY⟩, e2, t3⟩, hB4, hK, ?_⟩
  rintro j ⟨j0, j1, j2, j3, j4⟩ hj
  have j5 := j4 _ c00
  have z1 := hb1.size
  have z2 := hgrow2.size
  have z3 := q1.size
  refine ⟨(q2.block j (by omega) (fun e => j2 (Option.some.inj e))).trans ((q1.block j (by omega) (fun e => j1 (Option.some.inj e))).trans ((hgrow2.block j (by omega) (fun e => j5 e.symm)).trans (hb1.block j hj))), j0, j1, j2, j3, fun uv huv => ?_⟩
  have hu2 : Y2.cell? ⟨n + 1, 0, none⟩ = some (.slice (some ⟨g2, 0, none⟩) (done.length + 1) cap2) := cell_of_row _ _ 0 _ _ _ t1
  rw [hu2] at huv
  rw [← Option.some.inj huv]
  intro e
  rcases hloc with hl | hl
  · exact j5 (hl ▸ e)
  · rw [hl] at e
    have := Option.some.inj e
    omega

end Go.Proofs.Ytkojgbfocdefnaa

import Derived.Test.YthmjkmdbggfiiaaGreatDoorJoin24
import Derived.Laws.AppendOwnNone
namespace Go.Proofs.YthmjkmdbggfiiaaGreatDoor.CF
open Go.RowKit
attribute [local go_sem] run_store_float

theorem infoD : (Tryz.prog.info? 77).map (fun i => (i.zero, i.size, i.bytes)) = some (some (.agg #[.int .i64 0, .int .u32 0]), 2, 16) := by kernel_rfl
theorem rtV_len (D : Dots) : (rtV D).length = D.length * 2 := by
  unfold rtV
  induction D with
  | nil => rfl
  | cons d D ih => rw [List.flatMap_cons, List.length_append, ih, List.length_cons, List.length_cons, List.length_cons, List.length_nil]; omega
theorem rtV_one (D : Dots) : ∀ u ∈ rtV D, u.oneCell' = true := by
  intro u hu
  unfold rtV at hu
  obtain ⟨d, -, hd⟩ := List.mem_flatMap.1 hu
  rcases List.mem_cons.1 hd with rfl | hd
  · rfl
  · rw [List.mem_singleton.1 hd]; rfl
theorem own_len {w : World} {base n size : Nat} {e : TypeId} {v : Value} {xs : List Value} (h : w.ownsRow base e size v n xs) : ∃ p cap, v = .slice p n cap := by
  obtain ⟨_, ⟨rfl, rfl⟩ | ⟨g, cap, cur, rfl, _⟩⟩ := h
  · exact ⟨_, _, rfl⟩
  · exact ⟨_, _, rfl⟩
/-- 'append(nil, l...)': a copy. -/
theorem wpList_copyD (w : World) {ops : Array Oper} {rest : List Oper} {o : Oper} {a : Act} {Q : Exit → Act → World → Prop} (hgd : o.guard = none) (s x : Operand)
    (ho : o.op = .call { callee := .builtin .append, args := #[s, x], argTypes := #[22, 22] }) (hs : a.eval s = .slice none 0 0) (ad : Option Addr) (cap : Nat) (D : Dots) (hx : a.eval x = .slice ad D.length cap) (hcap : ad = none → cap = 0) (hN : RtAt w ad D) (hlen : D.length ≤ 8796093021952)
    (h : ∀ a' cap' w', w'.ownsRow w.heap.size 77 2 (.slice a' D.length cap') D.length (rtV D) → Below w.heap.size w w' → wpList Tryz.prog ops Q rest (a.put o.dst (.slice a' D.length cap')) w') : wpList Tryz.prog ops Q (o :: rest) a w := by
  obtain ⟨i0, hi, hz0, hz1, hz2⟩ := info_parts infoD
  have hv0 : w.ownsRow w.heap.size 77 2 (.slice none 0 0) 0 [] := World.ownsRow_nil _ _ _ _
  cases ad with
  | none =>
    obtain rfl := hcap rfl
    rcases hN with h1 | ⟨b, off, h1, _⟩
    · subst h1
      refine wpList_plain hgd fun K hK => ?_
      have hr := run_append_owned_none (P := Tryz.prog) (w := w) w.heap.size 22 o.type 77 i0 2 Tryz.underlying22 hi (.slice none 0 0) 0 [] hv0
      unfold Oper.wp execOp
      simp only [List.length_nil] at hx
      simp only [ho, resolve, invoke, builtin, Sem.run_bind, Sem.run_pure, Result.andThen_ok, List.map_toArray, List.map_cons, List.map_nil, hs, hx, hr]
      exact hK _ _ (h none 0 w hv0 (Below.refl _ _))
    · cases h1
  | some ad =>
    refine wpList_append_own (P := Tryz.prog) w hgd s x 22 ho w.heap.size 77 i0 _ 2 16 Tryz.underlying22 hi hz0 hz1 hz2 rfl (by decide) _ 0 [] hs hv0 ad D.length cap (rtV D) hx (rtV_len D) (fun j u hj => ?_) (rtV_one D) (by unfold maxLen; omega) (by omega) (Nat.le_refl _) ?_
    · rcases hN with h1 | ⟨b, off, h1, hlt, hc⟩
      · subst h1; simp [rtV] at hj
      · obtain rfl := Option.some.inj h1
        have hjl : j < D.length * 2 := by
          have := (List.getElem?_eq_some_iff.1 hj).1
          rw [rtV_len] at this
          exact this
        obtain ⟨g1, g2⟩ := rtV_get D (j / 2) (by omega)
        obtain ⟨c1, c2⟩ := hc (j / 2) (by omega)
        rw [Go.WideShapes.add_plain]
        rcases (by omega : j = j / 2 * 2 ∨ j = j / 2 * 2 + 1) with e | e
        · rw [e] at hj ⊢
          rw [g1] at hj
          rw [← hj]
          exact c1
        · rw [e] at hj ⊢
          rw [g2] at hj
          rw [← hj, ← Nat.add_assoc]
          exact c2
    · intro v' w' hown hgrow _
      simp only [Nat.zero_add, List.nil_append] at hown
      obtain ⟨p, c, rfl⟩ := own_len hown
      exact h p c w' hown ((Below.refl _ _).grown hgrow (Nat.le_refl _) (fun j hj => (hv0.lt j hj).1))
/-- One height is another one. -/
def setY (D : Dots) (i y : Nat) : Dots := D.set i ((D.getD i (0, 0)).1, y)
theorem setY_len (D : Dots) (i y : Nat) : (setY D i y).length = D.length := List.length_set ..
theorem ptV_set : ∀ (D : Dots) (i y : Nat), i < D.length → (ptV D).set (i * 2 + 1) (.float .f32 y) = ptV (setY D i y)
  | d :: D, 0, y, _ => rfl
  | d :: D, i + 1, y, h => by
    have ih := ptV_set D i y (by simpa using h)
    have e1 : ptV (d :: D) = .int .i64 d.1 :: .float .f32 d.2 :: ptV D := rfl
    have e2 : setY (d :: D) (i + 1) y = d :: setY D i y := rfl
    have e3 : ptV (d :: setY D i y) = .int .i64 d.1 :: .float .f32 d.2 :: ptV (setY D i y) := rfl
    rw [e2, e3, e1, ← ih, show (i + 1) * 2 + 1 = i * 2 + 1 + 1 + 1 by omega]
    rfl
theorem rtV_set : ∀ (D : Dots) (i y : Nat), i < D.length → (rtV D).set (i * 2 + 1) (.int .u32 (y : Int)) = rtV (setY D i y)
  | d :: D, 0, y, _ => rfl
  | d :: D, i + 1, y, h => by
    have ih := rtV_set D i y (by simpa using h)
    have e1 : rtV (d :: D) = .int .i64 d.1 :: .int .u32 (d.2 : Int) :: rtV D := rfl
    have e2 : setY (d :: D) (i + 1) y = d :: setY D i y := rfl
    have e3 : rtV (d :: setY D i y) = .int .i64 d.1 :: .int .u32 (d.2 : Int) :: rtV (setY D i y) := rfl
    rw [e2, e3, e1, ← ih, show (i + 1) * 2 + 1 = i * 2 + 1 + 1 + 1 by omega]
    rfl
theorem Ok.setY {D : Dots} (h : Ok D) {i y : Nat} (hy : y < 4294967296) : Ok (setY D i y) := fun d hd => by
  rcases List.mem_or_eq_of_mem_set hd with h1 | h1
  · exact h d h1
  · rw [h1]
    exact ⟨(h.getD i).1, hy⟩
theorem InP.setY {w : World} {base g cap : Nat} {D : Dots} (h : InP w base g cap D) {i : Nat} (hi : i < D.length) (y : Nat) : InP (w.setCell ⟨g, i * 2 + 1, none⟩ (.float .f32 y)) base g cap (setY D i y) := by
  refine ⟨by rw [setY_len]; exact h.1, ?_⟩
  have hs := (h.2.stored (i * 2 + 1) (.float .f32 y)).1
  rw [List.set_append_left _ _ (by rw [ptV_len]; omega), ptV_set D i y hi] at hs
  rw [setY_len]
  exact hs
end Go.Proofs.YthmjkmdbggfiiaaGreatDoor.CF


namespace Go.Proofs.YthmjkmdbggfiiaaGreatDoor.CF
open Go.RowKit
attribute [local go_sem] run_store_float

theorem own_nil {w : World} {base n size : Nat} {e : TypeId} {a : Option Addr} {c : Nat} {xs : List Value} (h : w.ownsRow base e size (.slice a n c) n xs) : a = none → c = 0 := fun ha => by
  subst ha
  obtain ⟨_, ⟨e, _⟩ | ⟨g, cap, cur, e, _⟩⟩ := h
  · injection e
  · injection e with e1; cases e1
/-- The first and the last height become others. -/
def turnD (D : Dots) : Dots := if D.length = 0 then D else setY (setY D 0 1077936128) (D.length - 1) 3221225472
theorem turnD_len (D : Dots) : (turnD D).length = D.length := by unfold turnD; split <;> simp [setY_len]
theorem Ok.turnD {D : Dots} (h : Ok D) : Ok (turnD D) := by
  unfold CF.turnD
  split
  · exact h
  · exact (h.setY (by decide)).setY (by decide)
def TurnP (D : Dots) (base g cap : Nat) (w : World) (e : Ending) (w' : World) : Prop := ∃ a' c', e = .returned (.slice a' D.length c') ∧ RtAt w' a' (turnD D) ∧ InP w' base g cap (turnD D) ∧ Below base w w' ∧ (a' = none → c' = 0)
end Go.Proofs.YthmjkmdbggfiiaaGreatDoor.CF


namespace Go.Proofs.YthmjkmdbggfiiaaGreatDoor.CF
open Go.RowKit

theorem XsAt.later {w w' : World} {a : Option Addr} {xs : List Int} (h : XsAt w a xs) {n : Nat} (hb : Below n w w') (hn : w.heap.size ≤ n) : XsAt w' a xs := by
  rcases h with h | ⟨b, off, ha, hlt, hc⟩
  · exact .inl h
  · exact .inr ⟨b, off, ha, Nat.lt_of_lt_of_le hlt hb.size, fun i hi => (hb.cell (p := ⟨b, off + i, none⟩) (Nat.lt_of_lt_of_le hlt hn)).trans (hc i hi)⟩
end Go.Proofs.YthmjkmdbggfiiaaGreatDoor.CF


namespace Go.Proofs.YthmjkmdbggfiiaaGreatDoor.CF
open Go.RowKit
attribute [local go_sem] run_store_float

theorem grown_below' {W X : World} {r : Option Nat} (hb : Below W.heap.size W X) : W.grownBy X r := ⟨hb.os, hb.tape, hb.output, hb.size, fun k hk _ => hb.block k hk⟩
theorem own_bel {W W' : World} {base n k : Nat} {T : TypeId} {v : Value} {xs : List Value} (ho : W.ownsRow base T k v n xs) (h : Below W.heap.size W W') : W'.ownsRow base T k v n xs := ho.kept (grown_below' (r := none) h) (by cases v.ownBlock <;> simp)
theorem pt_of_own {w : World} {base n : Nat} {e : TypeId} {v : Value} {D : Dots} (h : w.ownsRow base e 2 v n (ptV D)) (hn : n = D.length) : ∃ a c, v = .slice a D.length c ∧ PtAt w a D := by
  subst hn
  have h0 := h
  obtain ⟨_, ⟨rfl, hn⟩ | ⟨g, cap, cur, rfl, hb, hc, _⟩⟩ := h0
  · have : D = [] := List.eq_nil_of_length_eq_zero hn
    subst this
    exact ⟨none, 0, rfl, .inl rfl⟩
  · refine ⟨_, _, rfl, .inr ⟨g, 0, rfl, (h.lt g rfl).2, fun i hi => ?_⟩⟩
    obtain ⟨h1, h2⟩ := ptV_get D i hi
    have hl : (ptV D).length = D.length * 2 := h.1
    rw [Nat.zero_add]
    exact ⟨(h.cellAt (i * 2) (by omega)).trans h1, (h.cellAt (i * 2 + 1) (by omega)).trans h2⟩
set_option maxRecDepth 8000 in
set_option maxHeartbeats 2000000 in
theorem rateP_any (D : Dots) (hD : Ok D) (hl : D.length ≤ 8796093021952) (a : Option Addr) (c : Nat) (w : World) (h : PtAt w a D) : Calls Tryz.prog 18 #[.slice a D.length c] w fun e w' => ∃ a' c', e = .returned (.slice a' (rateN D D.length).length c') ∧ PtAt w' a' (rateN D D.length) ∧ Below w.heap.size w w' := by
  obtain ⟨i0, hi, hz0, hz1, hz2⟩ := info_parts infoP
  go_enter Tryz.func18, Tryz.ntmps18
  go_wp2
  go_loopw [3, 8] (fun v x wr => ∃ k : Nat, k ≤ D.length ∧ x = .int .i64 (k : Int) ∧ wr.ownsRow w.heap.size 64 2 v (rateN D k).length (ptV (rateN D k)) ∧ Below w.heap.size w wr) (fun _ x _ => D.length - (intOf x).toNat)
  case atStart => exact ⟨0, by omega, rfl, World.ownsRow_nil _ _ _ _, Below.refl _ _⟩
  case round =>
    obtain ⟨k, hk, rfl, ho, hB⟩ := hrel
    by_cases hlt : k < D.length
    · have hlt' : (k : Int) < (D.length : Int) := by omega
      have hk0 : (0 : Int) ≤ (k : Int) := by omega
      obtain ⟨b, off, rfl, hc⟩ := (h.later hB).cells hlt
      obtain ⟨p0, p1⟩ := hc k hlt
      obtain ⟨hx, hy⟩ := hD.getD k
      have hln := rateN_len D k
      have hrd : Hid (rateN D (k + 1) = rateN D k ++ if (D.getD k (0, 0)).1 ≠ 0 ∧ (D.getD k (0, 0)).2 % 2147483648 < 2139095040 then [((D.getD k (0, 0)).1, divN (D.getD k (0, 0)).2 (wholeN (D.getD k (0, 0)).1))] else []) := ⟨rfl⟩
      generalize (D.getD k (0, 0)).1 = x at *
      generalize (D.getD k (0, 0)).2 = y at *
      have hfi := fun W => finP_any y hy W
      obtain ⟨X, hX⟩ : ∃ X, wr.alloc (.cells #[.int .i64 x, .float .f32 y] 64) = X := ⟨_, rfl⟩
      have t0 : X.cell? ⟨wr.heap.size, 0, none⟩ = some (.int .i64 x) := by rw [← hX]; simp
      have t1 : X.cell? ⟨wr.heap.size, 1, none⟩ = some (.float .f32 y) := by rw [← hX]; simp
      have hBX : Below w.heap.size w X := by rw [← hX]; exact hB.alloc hB.size _
      have hoX := ho.alloc (.cells #[.int .i64 x, .float .f32 y] 64)
      rw [hX] at hoX
      replace hX := Hid.mk hX
      by_cases hx0 : x = 0
      · have hxe : (x != 0) = false := by rw [hx0]; rfl
        have hre : Hid (rateN D (k + 1) = rateN D k) := ⟨by rw [hrd.out, if_neg (fun h => h.1 hx0), List.append_nil]⟩
        clear hc hD h hrd hx0 hx
        go_upto_region 5 with fail
        rw [hX.out]
        go_wp2
        go_roundw
        case rel => exact ⟨k + 1, by omega, by go_num, by rw [hre.out]; exact hoX, hBX⟩
        case measure => simp [intOf]; omega
      · have hxe : (x != 0) = true := bne_iff_ne.2 hx0
        by_cases hf : y % 2147483648 < 2139095040
        · have hbf : bf y = true := decide_eq_true hf
          have hre : Hid (rateN D (k + 1) = rateN D k ++ [(x, divN y (wholeN x))]) := ⟨by rw [hrd.out, if_pos ⟨hx0, hf⟩]⟩
          obtain ⟨q1, q2, q3⟩ := whole_some hx0 hx.1 hx.2
          have o1 := conv_f32 x
          have o2 := quo_f32 (div_some hy q1 hf q2 q3)
          rw [hbf] at hfi
          generalize wholeN x = U at *
          generalize divN y U = V at *
          have hoA := hoX.alloc (.cells #[.int .i64 x, .float .f32 V] 64)
          have hBA : Below w.heap.size w (X.alloc (.cells #[.int .i64 x, .float .f32 V] 64)) := hBX.alloc hBX.size _
          have hlv := Hid.mk (fun (j : Nat) hj => (hoX.lt j hj).1)
          clear hc hD h hrd hx0 hx hbf hf q1 q2 q3 hy ho hB
          go_upto_region 5 with fail
          rw [hX.out]
          go_wp2_with (first | (go_at_call 53; refine (hfi _).mono ?_; rintro _ w1 ⟨rfl, hw1⟩; subst w1) | (at_builtin; refine wpList_append_own _ rfl _ _ 24 rfl w.heap.size 64 i0 _ 2 16 Tryz.underlying24 hi hz0 hz1 hz2 rfl (by decide) _ (rateN D k).length (ptV (rateN D k)) rfl hoA ⟨X.heap.size, 0, none⟩ 1 1 [.int .i64 x, .float .f32 V] rfl rfl (lit_at X _ _) (by simp [Value.oneCell']) (by unfold maxLen; omega) (by omega) hBA.size ?_; intro v4 w4 hown4 hgrow4 _; have hB4 := hBA.grown hgrow4 hBA.size hlv.out))
          go_roundw
          case rel => exact ⟨k + 1, by omega, by go_num, by rw [hre.out, List.length_append, ptV_snoc]; exact hown4, hB4⟩
          case measure => simp [intOf]; omega
        · have hbf : bf y = false := decide_eq_false hf
          have hre : Hid (rateN D (k + 1) = rateN D k) := ⟨by rw [hrd.out, if_neg (fun h => hf h.2), List.append_nil]⟩
          rw [hbf] at hfi
          clear hc hD h hrd hx0 hx hbf hf
          go_upto_region 5 with fail
          rw [hX.out]
          go_wp2_with (go_at_call 53; refine (hfi _).mono ?_; rintro _ w1 ⟨rfl, hw1⟩; subst w1)
          go_roundw
          case rel => exact ⟨k + 1, by omega, by go_num, by rw [hre.out]; exact hoX, hBX⟩
          case measure => simp [intOf]; omega
    · obtain rfl : k = D.length := by omega
      obtain ⟨a', c', rfl, hP⟩ := pt_of_own ho rfl
      go_wp2
      go_ret
      exact ⟨a', c', rfl, hP, hB⟩
end Go.Proofs.YthmjkmdbggfiiaaGreatDoor.CF


namespace Go.Proofs.YthmjkmdbggfiiaaGreatDoor.CF
open Go.RowKit
attribute [local go_sem] run_store_float

/-- A list of points and an error are told. -/
def OutP (w : World) (D : Dots) (en : Int) (e : Ending) (w' : World) : Prop := ∃ a' c', e = .returned (.tuple #[.slice a' D.length c', .int .i64 en]) ∧ PtAt w' a' D ∧ Below w.heap.size w w'
def OutR (w : World) (D : Dots) (en : Int) (e : Ending) (w' : World) : Prop := ∃ a' c', e = .returned (.tuple #[.slice a' D.length c', .int .i64 en]) ∧ RtAt w' a' D ∧ Below w.heap.size w w'
set_option maxHeartbeats 1000000 in
theorem rise_any (a b : Int × Nat) (ha : a.2 < 4294967296) (hb : b.2 < 4294967296) (fa : a.2 % 2147483648 < 2139095040) (fb : b.2 % 2147483648 < 2139095040) (h1 : a.1 < b.1) (h4 : -9999999999999 ≤ a.1) (h5 : b.1 ≤ 9999999999999) (w : World) : Calls Tryz.prog 50 #[.agg #[.int .i64 a.1, .float .f32 a.2], .agg #[.int .i64 b.1, .float .f32 b.2]] w fun e w' => e = .returned (.float .f32 (riseN a b)) ∧ Below w.heap.size w w' := by
  have q1 := subN_le (a := b.2) (b := a.2) ha fb fa
  obtain ⟨q2, q3, q4⟩ := whole_some (z := b.1 - a.1) (by omega) (by omega) (by omega)
  have c2 := conv_f32 (b.1 - a.1)
  have o2 := sub_f32 (sub_some hb ha fb fa)
  have o3 := quo_f32 (div_le q1.2 q2 q1.1 q3 q4)
  have hR : divN (subN b.2 a.2) (wholeN (b.1 - a.1)) = riseN a b := rfl
  rw [hR] at o3
  have hB : Below w.heap.size w ((w.alloc (.cells #[.int .i64 a.1, .float .f32 a.2] 64)).alloc (.cells #[.int .i64 b.1, .float .f32 b.2] 64)) := ((Below.refl _ _).alloc (Nat.le_refl _) _).alloc (by simp) _
  clear q1 q2 q3 q4 ha hb fa fb hR
  generalize riseN a b = R at *
  generalize wholeN (b.1 - a.1) = V at *
  generalize subN b.2 a.2 = S at *
  generalize a.1 = a1 at *
  generalize a.2 = a2 at *
  generalize b.1 = b1 at *
  generalize b.2 = b2 at *
  go_enter Tryz.func50, Tryz.ntmps50
  go_wp2
  go_ret
  exact ⟨rfl, hB⟩
theorem riseN_lt {a b : Int × Nat} (ha : a.2 < 4294967296) (fa : a.2 % 2147483648 < 2139095040) (fb : b.2 % 2147483648 < 2139095040) (h1 : a.1 < b.1) (h4 : -9999999999999 ≤ a.1) (h5 : b.1 ≤ 9999999999999) : riseN a b < 4294967296 := by
  have q1 := subN_le (a := b.2) (b := a.2) ha fb fa
  obtain ⟨q2, q3, q4⟩ := whole_some (z := b.1 - a.1) (by omega) (by omega) (by omega)
  exact divN_lt q1.2 q2 q3 q4
/-- What Slope tells. -/
def slopeD (D : Dots) : Dots := if inO D = true then slopeN D (D.length - 1) else []
def slopeE (D : Dots) : Int := if inO D = true then 0 else 172
theorem nbr {D : Dots} (h : inO D = true) {k : Nat} (hk : k + 1 < D.length) : (D.getD k (0, 0)).1 < (D.getD (k + 1) (0, 0)).1 ∧ -9999999999999 ≤ (D.getD k (0, 0)).1 ∧ (D.getD (k + 1) (0, 0)).1 ≤ 9999999999999 ∧ (D.getD k (0, 0)).2 % 2147483648 < 2139095040 ∧ (D.getD (k + 1) (0, 0)).2 % 2147483648 < 2139095040 := by
  have h1 := gB_parts (inO_true.1 h k (by omega))
  have h2 := gB_parts (inO_true.1 h (k + 1) hk)
  have h3 := h2.2.resolve_left (by omega)
  rw [Nat.add_sub_cancel] at h3
  exact ⟨h3, h1.1.1.1, h2.1.1.2, h1.1.2, h2.1.2⟩
set_option maxRecDepth 8000 in
set_option maxHeartbeats 2000000 in
theorem slopeP_any (D : Dots) (hD : Ok D) (hl : D.length ≤ 8796093021952) (a : Option Addr) (c : Nat) (w : World) (h : PtAt w a D) : Calls Tryz.prog 14 #[.slice a D.length c] w (OutP w (slopeD D) (slopeE D)) := by
  obtain ⟨i0, hi, hz0, hz1, hz2⟩ := info_parts infoP
  have hio := inOrder_any D hD (by omega) a c w h
  cases hO : inO D with
  | false =>
    have e1 : slopeD D = [] := if_neg (by rw [hO]; decide)
    have e2 : slopeE D = 172 := if_neg (by rw [hO]; decide)
    rw [e1, e2]
    rw [hO] at hio
    go_enter Tryz.func14, Tryz.ntmps14
    go_wp2_with (go_at_call 49; refine hio.mono ?_; rintro _ w1 ⟨rfl, hB1⟩)
    exact bodyPost_ret (v := .tuple #[.slice none 0 0, .int .i64 172]) (by simp [results, Tryz.results14, go_sem]) rfl ⟨none, 0, rfl, .inl rfl, hB1⟩
  | true =>
    have e1 : slopeD D = slopeN D (D.length - 1) := if_pos hO
    have e2 : slopeE D = 0 := if_pos hO
    rw [e1, e2]
    rw [hO] at hio
    have hnb := Hid.mk (fun k hk => nbr hO (k := k) hk)
    clear e1 e2 hO
    go_enter Tryz.func14, Tryz.ntmps14
    go_wp2_with (go_at_call 49; refine hio.mono ?_; clear hio; rintro _ w1 ⟨rfl, hB1⟩)
    go_loopw [4, 5] (fun v x wr => ∃ k : Nat, k ≤ D.length - 1 ∧ x = .int .i64 ((k + 1 : Nat) : Int) ∧ wr.ownsRow w.heap.size 64 2 v k (ptV (slopeN D k)) ∧ Below w.heap.size w wr) (fun _ x _ => D.length - (intOf x).toNat)
    case atStart => exact ⟨0, by omega, rfl, World.ownsRow_nil _ _ _ _, hB1⟩
    case round =>
      clear hB1
      obtain ⟨k, hk, rfl, ho, hB⟩ := hrel
      by_cases hlt : k + 1 < D.length
      · have hlt' : ((k + 1 : Nat) : Int) < (D.length : Int) := by omega
        obtain ⟨b, off, rfl, hc⟩ := h.cells hlt
        obtain ⟨s0, s1⟩ := hc k (by omega)
        obtain ⟨q0, q1⟩ := hc (k + 1) hlt
        have hbl : b < w.heap.size := World.block_lt_of_cell? _ _ s0
        obtain ⟨n1, n2, n3, n4, n5⟩ := hnb.out k hlt
        have hri := fun W => rise_any (D.getD k (0, 0)) (D.getD (k + 1) (0, 0)) (hD.getD k).2 (hD.getD (k + 1)).2 n4 n5 n1 n2 n3 W
        have hsd : Hid (slopeN D (k + 1) = slopeN D k ++ [((D.getD k (0, 0)).1, riseN (D.getD k (0, 0)) (D.getD (k + 1) (0, 0)))]) := ⟨rfl⟩
        generalize riseN (D.getD k (0, 0)) (D.getD (k + 1) (0, 0)) = R at *
        generalize (D.getD (k + 1) (0, 0)).1 = v1 at *
        generalize (D.getD (k + 1) (0, 0)).2 = v2 at *
        generalize (D.getD k (0, 0)).1 = u1 at *
        generalize (D.getD k (0, 0)).2 = u2 at *
        have hS0 : ∀ X, Below w.heap.size w X → X.cell? ⟨b, off + k * 2, none⟩ = some (.int .i64 u1) ∧ X.cell? ⟨b, off + k * 2 + 1, none⟩ = some (.float .f32 u2) ∧ X.cell? ⟨b, off + (k + 1) * 2, none⟩ = some (.int .i64 v1) ∧ X.cell? ⟨b, off + (k + 1) * 2 + 1, none⟩ = some (.float .f32 v2) := fun X hX => ⟨(hX.cell (p := ⟨b, off + k * 2, none⟩) hbl).trans s0, (hX.cell (p := ⟨b, off + k * 2 + 1, none⟩) hbl).trans s1, (hX.cell (p := ⟨b, off + (k + 1) * 2, none⟩) hbl).trans q0, (hX.cell (p := ⟨b, off + (k + 1) * 2 + 1, none⟩) hbl).trans q1⟩
        have hBD : Below w.heap.size w wr.drew := hB.drew
        have hS1 := hS0 _ hBD
        have hoD := ho.drew
        clear hc s0 s1 q0 q1 n1 n2 n3 n4 n5 hD h hnb
        go_upto_region 7 with fail
        have e1 : IntKind.i64.wrap (((k + 1 : Nat) : Int) - 1) = (k : Int) := by rw [IntKind.wrap_i64]; omega
        have e1' : IntKind.i64.wrap ((k : Int) + 1 - 1) = (k : Int) := by rw [IntKind.wrap_i64]; omega
        have e2 : (0 : Int) ≤ (k : Int) := by omega
        have e3 : (k : Int) < (D.length : Int) := by omega
        have e4 : (0 : Int) ≤ ((k + 1 : Nat) : Int) := by omega
        have e5' : (k : Int) + 1 < (D.length : Int) := by omega
        have e6 : IntKind.i64.wrap (k : Int) = (k : Int) := by rw [IntKind.wrap_i64]; omega
        have e8 : ((k : Int) + 1).toNat = k + 1 := by omega
        have e9 : (0 : Int) ≤ (k : Int) + 1 := by omega
        have e11 : k < D.length := by omega
        go_region_held3 (fun X => X.cell? ⟨b, off + k * 2, none⟩ = some (.int .i64 u1) ∧ X.cell? ⟨b, off + k * 2 + 1, none⟩ = some (.float .f32 u2) ∧ X.cell? ⟨b, off + (k + 1) * 2, none⟩ = some (.int .i64 v1) ∧ X.cell? ⟨b, off + (k + 1) * 2 + 1, none⟩ = some (.float .f32 v2)) (first | (with_reducible assumption) | (exact hS0 _ (Below.alloc hBX hBX.size _))) (first | (go_at_call 50; refine (hri _).mono ?_; rintro _ X ⟨rfl, hBX0⟩; have hoX := own_bel hoD hBX0; have hBX : Below w.heap.size w X := hBD.trans (hBX0.mono hBD.size); have hSX := hS0 _ hBX; have hoA := hoX.alloc (.cells #[.int .i64 u1, .float .f32 R] 64); have hBA : Below w.heap.size w (X.alloc (.cells #[.int .i64 u1, .float .f32 R] 64)) := hBX.alloc hBX.size _; have hlv := Hid.mk (fun (j : Nat) hj => (hoX.lt j hj).1)) | ((refine step_append_own (P := Tryz.prog) _ rfl _ _ 24 rfl w.heap.size 64 i0 _ 2 16 Tryz.underlying24 hi hz0 hz1 hz2 rfl (by decide) _ k (ptV (slopeN D k)) rfl hoA ⟨X.heap.size, 0, none⟩ 1 1 [.int .i64 u1, .float .f32 R] rfl rfl (lit_at X _ _) (by simp [Value.oneCell']) (by unfold maxLen; omega) (by omega) hBA.size ?_; intro v4 w4 hown4 hgrow4; have hB4 := hBA.grown hgrow4 hBA.size hlv.out; have hS4 := hS0 _ hB4)))
        go_wp2
        go_roundw
        case rel => exact ⟨k + 1, by omega, by go_num, by rw [hsd.out, ptV_snoc]; exact hown4, hB4⟩
        case measure => simp [intOf]; omega
      · obtain rfl : k = D.length - 1 := by omega
        have hlt' : ¬ ((D.length - 1 + 1 : Nat) : Int) < (D.length : Int) := by omega
        obtain ⟨a', c', rfl, hP⟩ := pt_of_own ho (slopeN_len D _).symm
        go_wp2
        exact bodyPost_ret (v := .tuple #[.slice a' (slopeN D (D.length - 1)).length c', .int .i64 0]) (by simp [results, Tryz.results14, go_sem]) rfl ⟨a', c', rfl, hP, hB⟩
end Go.Proofs.YthmjkmdbggfiiaaGreatDoor.CF

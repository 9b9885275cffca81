import Derived.Test.YteefieidfgpijaaCwC
import Derived.Laws.AppendOwnNone
namespace Go.Proofs.Yteefieidfgpijaa.CF
open Go.RowKit
attribute [local go_sem] run_store_float

theorem infoD : (Try.prog.info? 62).map (fun i => (i.zero, i.size, i.bytes)) = some (some (.agg #[.int .i64 0, .int .u32 0]), 2, 16) := by kernel_rfl
theorem rtV_len (D : Dots) : (rtV D).length = D.length * 2 := by
  unfold rtV
  induction D with
  | nil => rfl
  | cons d D ih => rw [List.flatMap_cons, List.length_append, ih, List.length_cons, List.length_cons, List.length_cons, List.length_nil]; omega
theorem rtV_one (D : Dots) : ∀ u ∈ rtV D, u.oneCell' = true := by
  intro u hu
  unfold rtV at hu
  obtain ⟨d, -, hd⟩ := List.mem_flatMap.1 hu
  rcases List.mem_cons.1 hd with rfl | hd
  · rfl
  · rw [List.mem_singleton.1 hd]; rfl
theorem own_len {w : World} {base n size : Nat} {e : TypeId} {v : Value} {xs : List Value} (h : w.ownsRow base e size v n xs) : ∃ p cap, v = .slice p n cap := by
  obtain ⟨_, ⟨rfl, rfl⟩ | ⟨g, cap, cur, rfl, _⟩⟩ := h
  · exact ⟨_, _, rfl⟩
  · exact ⟨_, _, rfl⟩
/-- 'append(nil, l...)': a copy. -/
theorem wpList_copyD (w : World) {ops : Array Oper} {rest : List Oper} {o : Oper} {a : Act} {Q : Exit → Act → World → Prop} (hgd : o.guard = none) (s x : Operand)
    (ho : o.op = .call { callee := .builtin .append, args := #[s, x], argTypes := #[41, 41] }) (hs : a.eval s = .slice none 0 0) (ad : Option Addr) (cap : Nat) (D : Dots) (hx : a.eval x = .slice ad D.length cap) (hcap : ad = none → cap = 0) (hN : RtAt w ad D) (hlen : D.length ≤ 8796093021952)
    (h : ∀ a' cap' w', w'.ownsRow w.heap.size 62 2 (.slice a' D.length cap') D.length (rtV D) → Below w.heap.size w w' → wpList Try.prog ops Q rest (a.put o.dst (.slice a' D.length cap')) w') : wpList Try.prog ops Q (o :: rest) a w := by
  obtain ⟨i0, hi, hz0, hz1, hz2⟩ := info_parts infoD
  have hv0 : w.ownsRow w.heap.size 62 2 (.slice none 0 0) 0 [] := World.ownsRow_nil _ _ _ _
  cases ad with
  | none =>
    obtain rfl := hcap rfl
    rcases hN with h1 | ⟨b, off, h1, _⟩
    · subst h1
      refine wpList_plain hgd fun K hK => ?_
      have hr := run_append_owned_none (P := Try.prog) (w := w) w.heap.size 41 o.type 62 i0 2 Try.underlying41 hi (.slice none 0 0) 0 [] hv0
      unfold Oper.wp execOp
      simp only [List.length_nil] at hx
      simp only [ho, resolve, invoke, builtin, Sem.run_bind, Sem.run_pure, Result.andThen_ok, List.map_toArray, List.map_cons, List.map_nil, hs, hx, hr]
      exact hK _ _ (h none 0 w hv0 (Below.refl _ _))
    · cases h1
  | some ad =>
    refine wpList_append_own (P := Try.prog) w hgd s x 41 ho w.heap.size 62 i0 _ 2 16 Try.underlying41 hi hz0 hz1 hz2 rfl (by decide) _ 0 [] hs hv0 ad D.length cap (rtV D) hx (rtV_len D) (fun j u hj => ?_) (rtV_one D) (by unfold maxLen; omega) (by omega) (Nat.le_refl _) ?_
    · rcases hN with h1 | ⟨b, off, h1, hlt, hc⟩
      · subst h1; simp [rtV] at hj
      · obtain rfl := Option.some.inj h1
        have hjl : j < D.length * 2 := by
          have := (List.getElem?_eq_some_iff.1 hj).1
          rw [rtV_len] at this
          exact this
        obtain ⟨g1, g2⟩ := rtV_get D (j / 2) (by omega)
        obtain ⟨c1, c2⟩ := hc (j / 2) (by omega)
        rw [Go.WideShapes.add_plain]
        rcases (by omega : j = j / 2 * 2 ∨ j = j / 2 * 2 + 1) with e | e
        · rw [e] at hj ⊢
          rw [g1] at hj
          rw [← hj]
          exact c1
        · rw [e] at hj ⊢
          rw [g2] at hj
          rw [← hj, ← Nat.add_assoc]
          exact c2
    · intro v' w' hown hgrow _
      simp only [Nat.zero_add, List.nil_append] at hown
      obtain ⟨p, c, rfl⟩ := own_len hown
      exact h p c w' hown ((Below.refl _ _).grown hgrow (Nat.le_refl _) (fun j hj => (hv0.lt j hj).1))
/-- One height is another one. -/
def setY (D : Dots) (i y : Nat) : Dots := D.set i ((D.getD i (0, 0)).1, y)
theorem setY_len (D : Dots) (i y : Nat) : (setY D i y).length = D.length := List.length_set ..
theorem ptV_set : ∀ (D : Dots) (i y : Nat), i < D.length → (ptV D).set (i * 2 + 1) (.float .f32 y) = ptV (setY D i y)
  | d :: D, 0, y, _ => rfl
  | d :: D, i + 1, y, h => by
    have ih := ptV_set D i y (by simpa using h)
    have e1 : ptV (d :: D) = .int .i64 d.1 :: .float .f32 d.2 :: ptV D := rfl
    have e2 : setY (d :: D) (i + 1) y = d :: setY D i y := rfl
    have e3 : ptV (d :: setY D i y) = .int .i64 d.1 :: .float .f32 d.2 :: ptV (setY D i y) := rfl
    rw [e2, e3, e1, ← ih, show (i + 1) * 2 + 1 = i * 2 + 1 + 1 + 1 by omega]
    rfl
theorem rtV_set : ∀ (D : Dots) (i y : Nat), i < D.length → (rtV D).set (i * 2 + 1) (.int .u32 (y : Int)) = rtV (setY D i y)
  | d :: D, 0, y, _ => rfl
  | d :: D, i + 1, y, h => by
    have ih := rtV_set D i y (by simpa using h)
    have e1 : rtV (d :: D) = .int .i64 d.1 :: .int .u32 (d.2 : Int) :: rtV D := rfl
    have e2 : setY (d :: D) (i + 1) y = d :: setY D i y := rfl
    have e3 : rtV (d :: setY D i y) = .int .i64 d.1 :: .int .u32 (d.2 : Int) :: rtV (setY D i y) := rfl
    rw [e2, e3, e1, ← ih, show (i + 1) * 2 + 1 = i * 2 + 1 + 1 + 1 by omega]
    rfl
theorem Ok.setY {D : Dots} (h : Ok D) {i y : Nat} (hy : y < 4294967296) : Ok (setY D i y) := fun d hd => by
  rcases List.mem_or_eq_of_mem_set hd with h1 | h1
  · exact h d h1
  · rw [h1]
    exact ⟨(h.getD i).1, hy⟩
theorem InP.setY {w : World} {base g cap : Nat} {D : Dots} (h : InP w base g cap D) {i : Nat} (hi : i < D.length) (y : Nat) : InP (w.setCell ⟨g, i * 2 + 1, none⟩ (.float .f32 y)) base g cap (setY D i y) := by
  refine ⟨by rw [setY_len]; exact h.1, ?_⟩
  have hs := (h.2.stored (i * 2 + 1) (.float .f32 y)).1
  rw [List.set_append_left _ _ (by rw [ptV_len]; omega), ptV_set D i y hi] at hs
  rw [setY_len]
  exact hs
end Go.Proofs.Yteefieidfgpijaa.CF

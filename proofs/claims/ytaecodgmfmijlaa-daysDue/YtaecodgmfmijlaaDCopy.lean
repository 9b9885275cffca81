import Derived.Test.YtaecodgmfmijlaaDDue
namespace Go.Proofs.Ytaecodgmfmijlaa
open Go.RowKit Go.Maps

theorem infoI : (Try.prog.info? 3).map (fun i => (i.zero, i.size, i.bytes)) = some (some (.int .i64 0), 1, 8) := by kernel_rfl

theorem nums_of_owns {w : World} {base : Nat} {v : Value} {zs : List Int} (hz : zs.length * 8 ≤ 140737488351232 ∧ ∀ n ∈ zs, (Lit.int .i64 n).wf = true) (h : w.ownsRow base 3 1 v zs.length (zs.map (Value.int .i64))) : ∃ a cap, v = .slice a zs.length cap ∧ Nums w a zs := by
  obtain ⟨hl, h | ⟨g, cap, cur, rfl, hg, hh, hn, hm, hs, ht⟩⟩ := h
  · exact ⟨none, 0, by rw [h.2]; exact h.1, hz, .inl (List.eq_nil_of_length_eq_zero h.2)⟩
  · refine ⟨_, cap, rfl, hz, .inr ⟨g, 0, rfl, (Array.getElem?_eq_some_iff.1 hh).1, fun i hi => ?_⟩⟩
    have e : cur.toList[i]? = some (.int .i64 (zs.getD i 0)) := by
      have h1 : (cur.toList.take (zs.length * 1))[i]? = cur.toList[i]? := by rw [List.getElem?_take, if_pos (by omega)]
      rw [← h1, ht, List.getElem?_map, List.getD_eq_getElem?_getD, List.getElem?_eq_getElem hi]
      rfl
    simp only [World.cell?, hh]
    simpa using e

/-- 'append([]int(nil), l...)': a copy, in new memory. -/
theorem wpList_copy_own (w : World) {ops : Array Oper} {rest : List Oper} {o : Oper} {a : Act} {Q : Exit → Act → World → Prop} (hgd : o.guard = none) (s x : Operand)
    (ho : o.op = .call { callee := .builtin .append, args := #[s, x], argTypes := #[22, 22] }) (hs : a.eval s = .slice none 0 0) (ad : Option Addr) (cap : Nat) (zs : List Int) (hx : a.eval x = .slice ad zs.length cap) (hcap : ad = none → cap = 0) (hN : Nums w ad zs)
    (h : ∀ a' cap' w', (a' = none → cap' = 0) → Nums w' a' zs → Below w.heap.size w w' → w'.ownsRow w.heap.size 3 1 (.slice a' zs.length cap') zs.length (zs.map (Value.int .i64)) → wpList Try.prog ops Q rest (a.put o.dst (.slice a' zs.length cap')) w') : wpList Try.prog ops Q (o :: rest) a w := by
  obtain ⟨i0, hi, hz0, hz1, hz2⟩ := info_parts infoI
  cases ad with
  | none =>
    obtain rfl := hcap rfl
    obtain ⟨h0, h1 | ⟨b, off, h1, _⟩⟩ := hN
    · subst h1
      refine wpList_plain hgd fun K hK => ?_
      have hr := run_append_owned_none (P := Try.prog) (w := w) w.heap.size 22 o.type 3 i0 1 Try.underlying22 hi (.slice none 0 0) 0 [] (World.ownsRow_nil _ _ _ _)
      unfold Oper.wp execOp
      simp only [List.length_nil] at hx
      simp only [ho, resolve, invoke, builtin, Sem.run_bind, Sem.run_pure, Result.andThen_ok, List.map_toArray, List.map_cons, List.map_nil, hs, hx, hr]
      exact hK _ _ (h none 0 w (fun _ => rfl) ⟨h0, .inl rfl⟩ (Below.refl _ _) (World.ownsRow_nil _ _ _ _))
    · cases h1
  | some ad =>
    refine wpList_append_own (P := Try.prog) w hgd s x 22 ho w.heap.size 3 i0 (.int .i64 0) 1 8 Try.underlying22 hi hz0 hz1 hz2 rfl (by decide) _ 0 [] hs (World.ownsRow_nil _ _ _ _) ad zs.length cap (zs.map (Value.int .i64)) hx (by simp) (fun j u hj => ?_) (ints_oneCell .i64 zs) (by unfold maxLen; have := hN.1.1; omega) (by have := hN.1.1; omega) (Nat.le_refl _) ?_
    · obtain ⟨h0, rfl | ⟨b, off, h1, hlt, hc⟩⟩ := hN
      · simp at hj
      · obtain rfl := Option.some.inj h1
        have hjl : j < zs.length := by
          have := (List.getElem?_eq_some_iff.1 hj).1
          simpa using this
        rw [List.getElem?_map, List.getElem?_eq_getElem hjl] at hj
        have := hc j hjl
        rw [List.getD_eq_getElem?_getD, List.getElem?_eq_getElem hjl] at this
        simp only [Option.map_some, Option.some.injEq] at hj
        rw [← hj]
        simp only [Addr.add]
        split
        · rename_i h0
          subst h0
          simpa using this
        · simpa using this
    · intro v' w' hown hgrow _
      simp only [Nat.zero_add, List.nil_append] at hown
      obtain ⟨a', cap', rfl, hN'⟩ := nums_of_owns hN.1 hown
      refine h a' cap' w' (fun hn => ?_) hN' ((Below.refl _ _).grown hgrow (Nat.le_refl _) (by simp [Value.ownBlock])) hown
      subst hn
      obtain ⟨_, h1 | ⟨_, _, _, h1, _⟩⟩ := hown
      · exact (show zs = [] ∧ cap' = 0 by simpa using h1.1).2
      · simp at h1

theorem wpList_copy (w : World) {ops : Array Oper} {rest : List Oper} {o : Oper} {a : Act} {Q : Exit → Act → World → Prop} (hgd : o.guard = none) (s x : Operand)
    (ho : o.op = .call { callee := .builtin .append, args := #[s, x], argTypes := #[22, 22] }) (hs : a.eval s = .slice none 0 0) (ad : Option Addr) (cap : Nat) (zs : List Int) (hx : a.eval x = .slice ad zs.length cap) (hcap : ad = none → cap = 0) (hN : Nums w ad zs)
    (h : ∀ a' cap' w', (a' = none → cap' = 0) → Nums w' a' zs → Below w.heap.size w w' → wpList Try.prog ops Q rest (a.put o.dst (.slice a' zs.length cap')) w') : wpList Try.prog ops Q (o :: rest) a w :=
  wpList_copy_own w hgd s x ho hs ad cap zs hx hcap hN (fun a' cap' w' h1 h2 h3 _ => h a' cap' w' h1 h2 h3)

end Go.Proofs.Ytaecodgmfmijlaa

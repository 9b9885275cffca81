import Derived.Test.YthbojlbgjmecoaaGreatPSum
import Derived.Laws.AppendOwnNone
import Derived.Lib.SmallJoins
namespace Go.Proofs.YthbojlbgjmecoaaGreat
open Go.RowKit

theorem infoB : (Tryz.prog.info? 5).map (fun i => (i.zero, i.size, i.bytes)) = some (some (.int .u8 0), 1, 1) := by kernel_rfl
def bysV (bs : List Nat) : List Value := bs.map (fun (n : Nat) => Value.int .u8 (n : Int))
theorem bysV_one (bs : List Nat) : ∀ u ∈ bysV bs, u.oneCell' = true := by
  intro u hu
  simp only [bysV, List.mem_map] at hu
  obtain ⟨n, -, rfl⟩ := hu
  rfl
theorem own_lenB {w : World} {base n size : Nat} {e : TypeId} {v : Value} {xs : List Value} (h : w.ownsRow base e size v n xs) : ∃ p cap, v = .slice p n cap := by
  obtain ⟨_, ⟨rfl, rfl⟩ | ⟨g, cap, cur, rfl, _⟩⟩ := h
  · exact ⟨_, _, rfl⟩
  · exact ⟨_, _, rfl⟩
theorem byts_of_own {W : World} {base n : Nat} {a : Option Addr} {cap : Nat} {bs : List Nat} (hb : ∀ n ∈ bs, n < 256) (h : W.ownsRow base 5 1 (.slice a n cap) bs.length (bysV bs)) : Byts W a bs := by
  refine ⟨hb, ?_⟩
  by_cases h0 : bs = []
  · exact .inl h0
  · obtain ⟨hl, ⟨e, h1⟩ | ⟨g, c, cur, e, h1⟩⟩ := h
    · exact absurd (List.eq_nil_of_length_eq_zero h1) h0
    · injection e with e1 e2 e3
      subst e1 e2 e3
      refine .inr ⟨g, 0, rfl, (World.ownsRow.lt ⟨hl, .inr ⟨g, _, cur, rfl, h1⟩⟩ g rfl).2, fun i hi => ?_⟩
      rw [Nat.zero_add]
      refine (World.ownsRow.cellAt ⟨hl, .inr ⟨g, _, cur, rfl, h1⟩⟩ i (by omega)).trans ?_
      simp [bysV, hi]

/-- 'append(v, b...)' where v is an empty list of the function's own: a copy. -/
theorem wpList_copyB (w : World) {ops : Array Oper} {rest : List Oper} {o : Oper} {a : Act} {Q : Exit → Act → World → Prop} (hgd : o.guard = none) (s x : Operand)
    (ho : o.op = .call { callee := .builtin .append, args := #[s, x], argTypes := #[34, 34] }) (base : Nat) (hbase : base ≤ w.heap.size) (v0 : Value) (hs : a.eval s = v0) (hv0 : w.ownsRow base 5 1 v0 0 []) (ad : Option Addr) (cap : Nat) (bs : List Nat) (hx : a.eval x = .slice ad bs.length cap) (hcap : ad = none → cap = 0) (hN : Byts w ad bs) (hlen : bs.length ≤ 262144)
    (h : ∀ a' cap' w', w'.ownsRow base 5 1 (.slice a' bs.length cap') bs.length (bysV bs) → Byts w' a' bs → Below base w w' → wpList Tryz.prog ops Q rest (a.put o.dst (.slice a' bs.length cap')) w') : wpList Tryz.prog ops Q (o :: rest) a w := by
  obtain ⟨i0, hi, hz0, hz1, hz2⟩ := info_parts infoB
  cases ad with
  | none =>
    obtain rfl := hcap rfl
    obtain ⟨h0, h1 | ⟨b, off, h1, _⟩⟩ := hN
    · subst h1
      refine wpList_plain hgd fun K hK => ?_
      have hr := run_append_owned_none (P := Tryz.prog) (w := w) base 34 o.type 5 i0 1 Tryz.underlying34 hi v0 0 [] hv0
      unfold Oper.wp execOp
      simp only [List.length_nil] at hx
      simp only [ho, resolve, invoke, builtin, Sem.run_bind, Sem.run_pure, Result.andThen_ok, List.map_toArray, List.map_cons, List.map_nil, hs, hx, hr]
      obtain ⟨p, c, rfl⟩ := (own_lenB hv0)
      exact hK _ _ (h p c w hv0 ⟨h0, .inl rfl⟩ (Below.refl _ _))
    · cases h1
  | some ad =>
    refine wpList_append_own (P := Tryz.prog) w hgd s x 34 ho base 5 i0 (.int .u8 0) 1 1 Tryz.underlying34 hi hz0 hz1 hz2 rfl (by decide) _ 0 [] hs hv0 ad bs.length cap (bysV bs) hx (by simp [bysV]) (fun j u hj => ?_) (bysV_one bs) (by unfold maxLen; omega) (by omega) hbase ?_
    · obtain ⟨h0, rfl | ⟨b, off, h1, hlt, hc⟩⟩ := hN
      · simp [bysV] at hj
      · obtain rfl := Option.some.inj h1
        have hjl : j < bs.length := by
          have := (List.getElem?_eq_some_iff.1 hj).1
          simpa [bysV] using this
        have := hc j hjl
        simp only [bysV, List.getElem?_map, List.getElem?_eq_getElem hjl, Option.map_some, Option.some.injEq] at hj
        rw [← hj]
        simp only [Addr.add]
        split
        · rename_i h0
          subst h0
          simpa using this
        · simpa using this
    · intro v' w' hown hgrow _
      simp only [Nat.zero_add, List.nil_append] at hown
      obtain ⟨p, c, rfl⟩ := own_lenB hown
      exact h p c w' hown (byts_of_own hN.1 hown) ((Below.refl _ _).grown hgrow hbase (fun j hj => (hv0.lt j hj).1))

end Go.Proofs.YthbojlbgjmecoaaGreat

import Derived.Test.YthbojlbgjmecoaaGreatPSumsW
import Derived.Test.YthbojlbgjmecoaaGreatDlB
import Derived.Laws.Rows
import Derived.Deep.Onto
import Derived.Handy
import Derived.Laws.IdiomStrings
/- COPIES OF BYTES; record. -/
namespace Go.Proofs.YthbojlbgjmecoaaGreat.DJ
open Go.RowKit

/-- 'append(v, b...)' where v is an empty list of the function's own: a copy. -/
theorem wpList_copyN (w : World) {ops : Array Oper} {rest : List Oper} {o : Oper} {a : Act} {Q : Exit → Act → World → Prop} (hgd : o.guard = none) (s x : Operand)
    (ho : o.op = .call { callee := .builtin .append, args := #[s, x], argTypes := #[34, 34] }) (base : Nat) (hbase : base ≤ w.heap.size) (v0 : Value) (hs : a.eval s = v0) (hv0 : w.ownsRow base 5 1 v0 0 []) (ad : Option Addr) (cap : Nat) (bs : List Nat) (hx : a.eval x = .slice ad bs.length cap) (hcap : ad = none → cap = 0) (hN : Byts w ad bs) (hlen : bs.length ≤ 140737488355328)
    (h : ∀ a' cap' w', w'.ownsRow base 5 1 (.slice a' bs.length cap') bs.length (bysV bs) → Byts w' a' bs → Below base w w' → wpList Tryz.prog ops Q rest (a.put o.dst (.slice a' bs.length cap')) w') : wpList Tryz.prog ops Q (o :: rest) a w := by
  obtain ⟨i0, hi, hz0, hz1, hz2⟩ := info_parts infoB
  cases ad with
  | none =>
    obtain rfl := hcap rfl
    obtain ⟨h0, h1 | ⟨b, off, h1, _⟩⟩ := hN
    · subst h1
      refine wpList_plain hgd fun K hK => ?_
      have hr := run_append_owned_none (P := Tryz.prog) (w := w) base 34 o.type 5 i0 1 Tryz.underlying34 hi v0 0 [] hv0
      unfold Oper.wp execOp
      simp only [List.length_nil] at hx
      simp only [ho, resolve, invoke, builtin, Sem.run_bind, Sem.run_pure, Result.andThen_ok, List.map_toArray, List.map_cons, List.map_nil, hs, hx, hr]
      obtain ⟨p, c, rfl⟩ := (own_lenB hv0)
      exact hK _ _ (h p c w hv0 ⟨h0, .inl rfl⟩ (Below.refl _ _))
    · cases h1
  | some ad =>
    refine wpList_append_own (P := Tryz.prog) w hgd s x 34 ho base 5 i0 (.int .u8 0) 1 1 Tryz.underlying34 hi hz0 hz1 hz2 rfl (by decide) _ 0 [] hs hv0 ad bs.length cap (bysV bs) hx (by simp [bysV]) (fun j u hj => ?_) (bysV_one bs) (by unfold maxLen; omega) (by omega) hbase ?_
    · obtain ⟨h0, rfl | ⟨b, off, h1, hlt, hc⟩⟩ := hN
      · simp [bysV] at hj
      · obtain rfl := Option.some.inj h1
        have hjl : j < bs.length := by
          have := (List.getElem?_eq_some_iff.1 hj).1
          simpa [bysV] using this
        have := hc j hjl
        simp only [bysV, List.getElem?_map, List.getElem?_eq_getElem hjl, Option.map_some, Option.some.injEq] at hj
        rw [← hj]
        simp only [Addr.add]
        split
        · rename_i h0
          subst h0
          simpa using this
        · simpa using this
    · intro v' w' hown hgrow _
      simp only [Nat.zero_add, List.nil_append] at hown
      obtain ⟨p, c, rfl⟩ := own_lenB hown
      exact h p c w' hown (byts_of_own hN.1 hown) ((Below.refl _ _).grown hgrow hbase (fun j hj => (hv0.lt j hj).1))


theorem own_none {w : World} {base n : Nat} {e : TypeId} {p : Option Addr} {m c : Nat} {xs : List Value} (h : w.ownsRow base e 1 (.slice p m c) n xs) : p = none → c = 0 := by
  intro hp
  obtain ⟨_, ⟨e, _⟩ | ⟨g, cap, cur, e, _⟩⟩ := h
  · injection e with _ _ e3
  · injection e with e1 _ _
    rw [hp] at e1; cases e1

theorem own_setRow {w : World} {base n size g : Nat} {e : TypeId} {v : Value} {xs : List Value} (h : w.ownsRow base e size v n xs) (hg : g < base) (cs : Array Value) : (w.setRow g cs).ownsRow base e size v n xs :=
  ⟨h.1, h.2.imp id fun ⟨b, cap, cur, h1, h2, h3, h4⟩ => ⟨b, cap, cur, h1, h2, (setRow_other w g b cs (by omega)).trans h3, h4⟩⟩
theorem below_setRow {B : Nat} {a w : World} (h : Below B a w) {g : Nat} (hg : B ≤ g) (cs : Array Value) : Below B a (w.setRow g cs) := ⟨h.os, h.tape, h.output, by rw [size_setRow]; exact h.size, fun k hk => (setRow_other w g k cs (by omega)).trans (h.block k hk)⟩
theorem info_rec : (Tryz.prog.info? 150).map (·.size) = some 2 := by kernel_rfl
theorem rec_one (k : Int) (p : Option Addr) (n c : Nat) : (#[Value.int .u8 k, .slice p n c]).all (·.oneCell') = true := by simp [Value.oneCell']

end Go.Proofs.YthbojlbgjmecoaaGreat.DJ

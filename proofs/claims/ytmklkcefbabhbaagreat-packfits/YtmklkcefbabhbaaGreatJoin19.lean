import Derived.Test.YtmklkcefbabhbaaGreatTurnPkQj
/- WHAT IS READ IS WHAT STANDS THERE. No program. -/
namespace Go.Proofs.YtmklkcefbabhbaaGreat

/-- What is read is the bytes that stand there. -/
def Sr (l : List UInt8) (E : List UInt8) (a a2 : Nat) : Prop := l.drop a = E ++ l.drop a2 ∧ a2 = a + E.length ∧ a2 ≤ l.length
theorem Sr.trans {l : List UInt8} {x y : List UInt8} {a b c : Nat} (h : Sr l x a b) (k : Sr l y b c) : Sr l (x ++ y) a c := by
  obtain ⟨h1, h2, h3⟩ := h
  obtain ⟨k1, k2, k3⟩ := k
  exact ⟨by rw [h1, k1, List.append_assoc], by rw [k2, h2, List.length_append]; omega, k3⟩
theorem Sr.nil {l : List UInt8} {a : Nat} (h : a ≤ l.length) : Sr l [] a a := ⟨rfl, rfl, h⟩
end Go.Proofs.YtmklkcefbabhbaaGreat


/- WHAT IS WRITTEN IS READ. No program. -/
namespace Go.Proofs.YtmklkcefbabhbaaGreat

def RgF : Fo → Prop
  | .nil => True
  | .cons op num den mode args rest => (Rg op ∧ Rg num ∧ Rg den ∧ Rg mode) ∧ RgF args ∧ RgF rest
def RgE (e : Ex) : Prop := Rg4 e ∧ RgF e.args
theorem toL_ok {n : Nat} : ∀ f : Fo, RgF f → deepF f ≤ n → ∀ x ∈ toL f, deepE x ≤ n ∧ RgE x
  | .nil, _, _, x, hx => by cases hx
  | .cons a b c d y r, h, hd, x, hx => by
    have hd : max (1 + deepF y) (deepF r) ≤ n := hd
    rcases List.mem_cons.1 hx with rfl | hx
    · exact ⟨by show 1 + deepF y ≤ n; omega, h.1, h.2.1⟩
    · exact toL_ok r h.2.2 (by omega) x hx
def RgC (c : Cl) : Prop := Rg c.pri ∧ RgE c.guard ∧ RgE c.body
def RgL (l : Ln) : Prop := (Rg l.type ∧ Rg l.opts ∧ Rg l.group) ∧ ∀ c ∈ l.cls, RgC c
def RgK (c : Ck) : Prop := Rg c.group ∧ RgE c.when_
structure RgP (p : Pk) : Prop where
  year : Rg p.year
  tabs : ∀ x ∈ p.tabs, ∀ b ∈ x.2, Rg b.1 ∧ Rg b.2
  grps : ∀ x ∈ p.grps, Rg x.2
  lns : ∀ x ∈ p.lns, RgL x
  cks : ∀ x ∈ p.cks, RgK x
end Go.Proofs.YtmklkcefbabhbaaGreat


namespace Go.Proofs.YtmklkcefbabhbaaGreat
open Go.RowKit

theorem conv_in {X : World} {a : Option Addr} {cap : Nat} {l : List UInt8} (h : InB X a cap l) : (convert 36 9 (.slice a l.length cap)).run Tryz.prog X = .ok (.string ⟨l.toArray⟩) X := by
  obtain ⟨h1, h2, h3⟩ := h
  cases a with
  | none =>
    have hc := h2 rfl
    subst hc
    have hl : l = [] := List.eq_nil_of_length_eq_zero (by omega)
    subst hl
    exact run_convert_bytes_nil X 36 5 Tryz.underlying36 Tryz.underlying5 0 0 9 Tryz.underlying9
  | some p =>
    refine conv_at X p cap l (fun j hj => ?_)
    rcases h1 with rfl | ⟨b, off, ha, _, hc⟩
    · simp at hj
    · cases ha
      rw [Go.WideShapes.add_plain]
      exact hc j hj
set_option maxHeartbeats 1000000 in
theorem same_any (a a2 : Option Addr) (cap cap2 : Nat) (l l2 : List UInt8) (W : World) (h : InB W a cap l) (h2 : InB W a2 cap2 l2) : Calls Tryz.prog 9 #[.slice a l.length cap, .slice a2 l2.length cap2] W fun e W' => e = .returned (.bool (l == l2)) ∧ W' = W := by
  have k1 := conv_in h
  have k2 := conv_in h2
  clear h h2
  go_enter Tryz.func9, Tryz.ntmps9
  go_wp2
  go_ret
  exact ⟨rfl, rfl⟩
set_option maxHeartbeats 1000000 in
theorem num_any (n : Int) (W : World) : Calls Tryz.prog 8 #[.int .i64 n] W fun e W' => e = .returned (.int .i64 n) ∧ W = W' := by
  go_enter Tryz.func8, Tryz.ntmps8
  go_wp2
  go_ret
  exact ⟨rfl, rfl⟩

end Go.Proofs.YtmklkcefbabhbaaGreat


namespace Go.Proofs.YtmklkcefbabhbaaGreat
open Go.RowKit

theorem bel_cell {n : Nat} {W W' : World} (h : Below n W W') {b : Nat} (hb : b < n) (i : Nat) : W'.cell? ⟨b, i, none⟩ = W.cell? ⟨b, i, none⟩ := World.cell?_of_block (h.block b hb)
set_option maxRecDepth 8000 in
set_option maxHeartbeats 1000000 in
theorem sameHeads0 (a3 a4 a5 a6 a7 : Option Addr) (c3 c4 c5 c6 c7 : Nat) (W : World) : Calls Tryz.prog 20 #[.agg #[.string ⟨#[]⟩, .int .i64 0, .slice a3 0 c3, .slice a4 0 c4, .slice a5 0 c5, .slice a6 0 c6, .slice a7 0 c7], .agg #[.string ⟨#[]⟩, .int .i64 0, .slice none 0 0, .slice none 0 0, .slice none 0 0, .slice none 0 0, .slice none 0 0]] W fun e W' => e = .returned (.bool true) ∧ Below W.heap.size W W' := by
  have hfin : Below W.heap.size W ((W.alloc (.cells #[.string ⟨#[]⟩, .int .i64 0, .slice a3 0 c3, .slice a4 0 c4, .slice a5 0 c5, .slice a6 0 c6, .slice a7 0 c7] 28)).alloc (.cells #[.string ⟨#[]⟩, .int .i64 0, .slice none 0 0, .slice none 0 0, .slice none 0 0, .slice none 0 0, .slice none 0 0] 28)) := ((Below.refl _ _).alloc (Nat.le_refl _) _).alloc (by simp) _
  go_enter Tryz.func20, Tryz.ntmps20
  go_wp2
  refine wp_loop_rounds 1 ?_
  rw [rounds_succ]
  go_wp2
  refine wp_loop_rounds 1 ?_
  rw [rounds_succ]
  go_wp2
  refine wp_loop_rounds 1 ?_
  rw [rounds_succ]
  go_wp2
  go_ret
  exact ⟨rfl, hfin⟩
set_option maxRecDepth 8000 in
set_option maxHeartbeats 1000000 in
theorem samePack0 (a3 a4 a5 a6 a7 : Option Addr) (c3 c4 c5 c6 c7 : Nat) (W : World) : Calls Tryz.prog 11 #[.agg #[.string ⟨#[]⟩, .int .i64 0, .slice a3 0 c3, .slice a4 0 c4, .slice a5 0 c5, .slice a6 0 c6, .slice a7 0 c7], .agg #[.string ⟨#[]⟩, .int .i64 0, .slice none 0 0, .slice none 0 0, .slice none 0 0, .slice none 0 0, .slice none 0 0]] W fun e W' => e = .returned (.bool true) ∧ Below W.heap.size W W' := by
  have hB : Below W.heap.size W ((W.alloc (.cells #[.string ⟨#[]⟩, .int .i64 0, .slice a3 0 c3, .slice a4 0 c4, .slice a5 0 c5, .slice a6 0 c6, .slice a7 0 c7] 28)).alloc (.cells #[.string ⟨#[]⟩, .int .i64 0, .slice none 0 0, .slice none 0 0, .slice none 0 0, .slice none 0 0, .slice none 0 0] 28)) := ((Below.refl _ _).alloc (Nat.le_refl _) _).alloc (by simp) _
  have hk := sameHeads0 a3 a4 a5 a6 a7 c3 c4 c5 c6 c7 ((W.alloc (.cells #[.string ⟨#[]⟩, .int .i64 0, .slice a3 0 c3, .slice a4 0 c4, .slice a5 0 c5, .slice a6 0 c6, .slice a7 0 c7] 28)).alloc (.cells #[.string ⟨#[]⟩, .int .i64 0, .slice none 0 0, .slice none 0 0, .slice none 0 0, .slice none 0 0, .slice none 0 0] 28))
  have hs1 : (W.alloc (.cells #[.string ⟨#[]⟩, .int .i64 0, .slice a3 0 c3, .slice a4 0 c4, .slice a5 0 c5, .slice a6 0 c6, .slice a7 0 c7] 28)).heap.size = W.heap.size + 1 := by simp
  have hx1 := (bx_new W #[.string ⟨#[]⟩, .int .i64 0, .slice a3 0 c3, .slice a4 0 c4, .slice a5 0 c5, .slice a6 0 c6, .slice a7 0 c7] 28).kept (World.grownBy_alloc (W.alloc (.cells #[.string ⟨#[]⟩, .int .i64 0, .slice a3 0 c3, .slice a4 0 c4, .slice a5 0 c5, .slice a6 0 c6, .slice a7 0 c7] 28)) (.cells #[.string ⟨#[]⟩, .int .i64 0, .slice none 0 0, .slice none 0 0, .slice none 0 0, .slice none 0 0, .slice none 0 0] 28) none) (by simp)
  have hx2 := bx_new (W.alloc (.cells #[.string ⟨#[]⟩, .int .i64 0, .slice a3 0 c3, .slice a4 0 c4, .slice a5 0 c5, .slice a6 0 c6, .slice a7 0 c7] 28)) #[.string ⟨#[]⟩, .int .i64 0, .slice none 0 0, .slice none 0 0, .slice none 0 0, .slice none 0 0, .slice none 0 0] 28
  rw [hs1] at hx2
  have e0 : ((W.alloc (.cells #[.string ⟨#[]⟩, .int .i64 0, .slice a3 0 c3, .slice a4 0 c4, .slice a5 0 c5, .slice a6 0 c6, .slice a7 0 c7] 28)).alloc (.cells #[.string ⟨#[]⟩, .int .i64 0, .slice none 0 0, .slice none 0 0, .slice none 0 0, .slice none 0 0, .slice none 0 0] 28)).cell? ⟨W.heap.size, 0, none⟩ = some (.string ⟨#[]⟩) := hx1.2.1 0 (by simp)
  have g0 : ((W.alloc (.cells #[.string ⟨#[]⟩, .int .i64 0, .slice a3 0 c3, .slice a4 0 c4, .slice a5 0 c5, .slice a6 0 c6, .slice a7 0 c7] 28)).alloc (.cells #[.string ⟨#[]⟩, .int .i64 0, .slice none 0 0, .slice none 0 0, .slice none 0 0, .slice none 0 0, .slice none 0 0] 28)).cell? ⟨W.heap.size + 1, 0, none⟩ = some (.string ⟨#[]⟩) := hx2.2.1 0 (by simp)
  have e1 : ((W.alloc (.cells #[.string ⟨#[]⟩, .int .i64 0, .slice a3 0 c3, .slice a4 0 c4, .slice a5 0 c5, .slice a6 0 c6, .slice a7 0 c7] 28)).alloc (.cells #[.string ⟨#[]⟩, .int .i64 0, .slice none 0 0, .slice none 0 0, .slice none 0 0, .slice none 0 0, .slice none 0 0] 28)).cell? ⟨W.heap.size, 1, none⟩ = some (.int .i64 0) := hx1.2.1 1 (by simp)
  have g1 : ((W.alloc (.cells #[.string ⟨#[]⟩, .int .i64 0, .slice a3 0 c3, .slice a4 0 c4, .slice a5 0 c5, .slice a6 0 c6, .slice a7 0 c7] 28)).alloc (.cells #[.string ⟨#[]⟩, .int .i64 0, .slice none 0 0, .slice none 0 0, .slice none 0 0, .slice none 0 0, .slice none 0 0] 28)).cell? ⟨W.heap.size + 1, 1, none⟩ = some (.int .i64 0) := hx2.2.1 1 (by simp)
  have e2 : ((W.alloc (.cells #[.string ⟨#[]⟩, .int .i64 0, .slice a3 0 c3, .slice a4 0 c4, .slice a5 0 c5, .slice a6 0 c6, .slice a7 0 c7] 28)).alloc (.cells #[.string ⟨#[]⟩, .int .i64 0, .slice none 0 0, .slice none 0 0, .slice none 0 0, .slice none 0 0, .slice none 0 0] 28)).cell? ⟨W.heap.size, 2, none⟩ = some (.slice a3 0 c3) := hx1.2.1 2 (by simp)
  have g2 : ((W.alloc (.cells #[.string ⟨#[]⟩, .int .i64 0, .slice a3 0 c3, .slice a4 0 c4, .slice a5 0 c5, .slice a6 0 c6, .slice a7 0 c7] 28)).alloc (.cells #[.string ⟨#[]⟩, .int .i64 0, .slice none 0 0, .slice none 0 0, .slice none 0 0, .slice none 0 0, .slice none 0 0] 28)).cell? ⟨W.heap.size + 1, 2, none⟩ = some (.slice none 0 0) := hx2.2.1 2 (by simp)
  have e3 : ((W.alloc (.cells #[.string ⟨#[]⟩, .int .i64 0, .slice a3 0 c3, .slice a4 0 c4, .slice a5 0 c5, .slice a6 0 c6, .slice a7 0 c7] 28)).alloc (.cells #[.string ⟨#[]⟩, .int .i64 0, .slice none 0 0, .slice none 0 0, .slice none 0 0, .slice none 0 0, .slice none 0 0] 28)).cell? ⟨W.heap.size, 3, none⟩ = some (.slice a4 0 c4) := hx1.2.1 3 (by simp)
  have g3 : ((W.alloc (.cells #[.string ⟨#[]⟩, .int .i64 0, .slice a3 0 c3, .slice a4 0 c4, .slice a5 0 c5, .slice a6 0 c6, .slice a7 0 c7] 28)).alloc (.cells #[.string ⟨#[]⟩, .int .i64 0, .slice none 0 0, .slice none 0 0, .slice none 0 0, .slice none 0 0, .slice none 0 0] 28)).cell? ⟨W.heap.size + 1, 3, none⟩ = some (.slice none 0 0) := hx2.2.1 3 (by simp)
  have e4 : ((W.alloc (.cells #[.string ⟨#[]⟩, .int .i64 0, .slice a3 0 c3, .slice a4 0 c4, .slice a5 0 c5, .slice a6 0 c6, .slice a7 0 c7] 28)).alloc (.cells #[.string ⟨#[]⟩, .int .i64 0, .slice none 0 0, .slice none 0 0, .slice none 0 0, .slice none 0 0, .slice none 0 0] 28)).cell? ⟨W.heap.size, 4, none⟩ = some (.slice a5 0 c5) := hx1.2.1 4 (by simp)
  have g4 : ((W.alloc (.cells #[.string ⟨#[]⟩, .int .i64 0, .slice a3 0 c3, .slice a4 0 c4, .slice a5 0 c5, .slice a6 0 c6, .slice a7 0 c7] 28)).alloc (.cells #[.string ⟨#[]⟩, .int .i64 0, .slice none 0 0, .slice none 0 0, .slice none 0 0, .slice none 0 0, .slice none 0 0] 28)).cell? ⟨W.heap.size + 1, 4, none⟩ = some (.slice none 0 0) := hx2.2.1 4 (by simp)
  have e5 : ((W.alloc (.cells #[.string ⟨#[]⟩, .int .i64 0, .slice a3 0 c3, .slice a4 0 c4, .slice a5 0 c5, .slice a6 0 c6, .slice a7 0 c7] 28)).alloc (.cells #[.string ⟨#[]⟩, .int .i64 0, .slice none 0 0, .slice none 0 0, .slice none 0 0, .slice none 0 0, .slice none 0 0] 28)).cell? ⟨W.heap.size, 5, none⟩ = some (.slice a6 0 c6) := hx1.2.1 5 (by simp)
  have g5 : ((W.alloc (.cells #[.string ⟨#[]⟩, .int .i64 0, .slice a3 0 c3, .slice a4 0 c4, .slice a5 0 c5, .slice a6 0 c6, .slice a7 0 c7] 28)).alloc (.cells #[.string ⟨#[]⟩, .int .i64 0, .slice none 0 0, .slice none 0 0, .slice none 0 0, .slice none 0 0, .slice none 0 0] 28)).cell? ⟨W.heap.size + 1, 5, none⟩ = some (.slice none 0 0) := hx2.2.1 5 (by simp)
  have e6 : ((W.alloc (.cells #[.string ⟨#[]⟩, .int .i64 0, .slice a3 0 c3, .slice a4 0 c4, .slice a5 0 c5, .slice a6 0 c6, .slice a7 0 c7] 28)).alloc (.cells #[.string ⟨#[]⟩, .int .i64 0, .slice none 0 0, .slice none 0 0, .slice none 0 0, .slice none 0 0, .slice none 0 0] 28)).cell? ⟨W.heap.size, 6, none⟩ = some (.slice a7 0 c7) := hx1.2.1 6 (by simp)
  have g6 : ((W.alloc (.cells #[.string ⟨#[]⟩, .int .i64 0, .slice a3 0 c3, .slice a4 0 c4, .slice a5 0 c5, .slice a6 0 c6, .slice a7 0 c7] 28)).alloc (.cells #[.string ⟨#[]⟩, .int .i64 0, .slice none 0 0, .slice none 0 0, .slice none 0 0, .slice none 0 0, .slice none 0 0] 28)).cell? ⟨W.heap.size + 1, 6, none⟩ = some (.slice none 0 0) := hx2.2.1 6 (by simp)
  have hsz : ((W.alloc (.cells #[.string ⟨#[]⟩, .int .i64 0, .slice a3 0 c3, .slice a4 0 c4, .slice a5 0 c5, .slice a6 0 c6, .slice a7 0 c7] 28)).alloc (.cells #[.string ⟨#[]⟩, .int .i64 0, .slice none 0 0, .slice none 0 0, .slice none 0 0, .slice none 0 0, .slice none 0 0] 28)).heap.size = W.heap.size + 1 + 1 := by simp
  clear hx1 hx2 hs1
  go_enter Tryz.func11, Tryz.ntmps11
  go_wp2_with (go_at_call 20; go_loud (refine hk.mono ?_; clear hk; rintro e w1 ⟨rfl, hB1⟩; have q0 := (bel_cell hB1 (show W.heap.size < ((W.alloc (.cells #[.string ⟨#[]⟩, .int .i64 0, .slice a3 0 c3, .slice a4 0 c4, .slice a5 0 c5, .slice a6 0 c6, .slice a7 0 c7] 28)).alloc (.cells #[.string ⟨#[]⟩, .int .i64 0, .slice none 0 0, .slice none 0 0, .slice none 0 0, .slice none 0 0, .slice none 0 0] 28)).heap.size by rw [hsz]; omega) 0).trans e0; have r0 := (bel_cell hB1 (show W.heap.size + 1 < ((W.alloc (.cells #[.string ⟨#[]⟩, .int .i64 0, .slice a3 0 c3, .slice a4 0 c4, .slice a5 0 c5, .slice a6 0 c6, .slice a7 0 c7] 28)).alloc (.cells #[.string ⟨#[]⟩, .int .i64 0, .slice none 0 0, .slice none 0 0, .slice none 0 0, .slice none 0 0, .slice none 0 0] 28)).heap.size by rw [hsz]; omega) 0).trans g0; have q1 := (bel_cell hB1 (show W.heap.size < ((W.alloc (.cells #[.string ⟨#[]⟩, .int .i64 0, .slice a3 0 c3, .slice a4 0 c4, .slice a5 0 c5, .slice a6 0 c6, .slice a7 0 c7] 28)).alloc (.cells #[.string ⟨#[]⟩, .int .i64 0, .slice none 0 0, .slice none 0 0, .slice none 0 0, .slice none 0 0, .slice none 0 0] 28)).heap.size by rw [hsz]; omega) 1).trans e1; have r1 := (bel_cell hB1 (show W.heap.size + 1 < ((W.alloc (.cells #[.string ⟨#[]⟩, .int .i64 0, .slice a3 0 c3, .slice a4 0 c4, .slice a5 0 c5, .slice a6 0 c6, .slice a7 0 c7] 28)).alloc (.cells #[.string ⟨#[]⟩, .int .i64 0, .slice none 0 0, .slice none 0 0, .slice none 0 0, .slice none 0 0, .slice none 0 0] 28)).heap.size by rw [hsz]; omega) 1).trans g1; have q2 := (bel_cell hB1 (show W.heap.size < ((W.alloc (.cells #[.string ⟨#[]⟩, .int .i64 0, .slice a3 0 c3, .slice a4 0 c4, .slice a5 0 c5, .slice a6 0 c6, .slice a7 0 c7] 28)).alloc (.cells #[.string ⟨#[]⟩, .int .i64 0, .slice none 0 0, .slice none 0 0, .slice none 0 0, .slice none 0 0, .slice none 0 0] 28)).heap.size by rw [hsz]; omega) 2).trans e2; have r2 := (bel_cell hB1 (show W.heap.size + 1 < ((W.alloc (.cells #[.string ⟨#[]⟩, .int .i64 0, .slice a3 0 c3, .slice a4 0 c4, .slice a5 0 c5, .slice a6 0 c6, .slice a7 0 c7] 28)).alloc (.cells #[.string ⟨#[]⟩, .int .i64 0, .slice none 0 0, .slice none 0 0, .slice none 0 0, .slice none 0 0, .slice none 0 0] 28)).heap.size by rw [hsz]; omega) 2).trans g2; have q3 := (bel_cell hB1 (show W.heap.size < ((W.alloc (.cells #[.string ⟨#[]⟩, .int .i64 0, .slice a3 0 c3, .slice a4 0 c4, .slice a5 0 c5, .slice a6 0 c6, .slice a7 0 c7] 28)).alloc (.cells #[.string ⟨#[]⟩, .int .i64 0, .slice none 0 0, .slice none 0 0, .slice none 0 0, .slice none 0 0, .slice none 0 0] 28)).heap.size by rw [hsz]; omega) 3).trans e3; have r3 := (bel_cell hB1 (show W.heap.size + 1 < ((W.alloc (.cells #[.string ⟨#[]⟩, .int .i64 0, .slice a3 0 c3, .slice a4 0 c4, .slice a5 0 c5, .slice a6 0 c6, .slice a7 0 c7] 28)).alloc (.cells #[.string ⟨#[]⟩, .int .i64 0, .slice none 0 0, .slice none 0 0, .slice none 0 0, .slice none 0 0, .slice none 0 0] 28)).heap.size by rw [hsz]; omega) 3).trans g3; have q4 := (bel_cell hB1 (show W.heap.size < ((W.alloc (.cells #[.string ⟨#[]⟩, .int .i64 0, .slice a3 0 c3, .slice a4 0 c4, .slice a5 0 c5, .slice a6 0 c6, .slice a7 0 c7] 28)).alloc (.cells #[.string ⟨#[]⟩, .int .i64 0, .slice none 0 0, .slice none 0 0, .slice none 0 0, .slice none 0 0, .slice none 0 0] 28)).heap.size by rw [hsz]; omega) 4).trans e4; have r4 := (bel_cell hB1 (show W.heap.size + 1 < ((W.alloc (.cells #[.string ⟨#[]⟩, .int .i64 0, .slice a3 0 c3, .slice a4 0 c4, .slice a5 0 c5, .slice a6 0 c6, .slice a7 0 c7] 28)).alloc (.cells #[.string ⟨#[]⟩, .int .i64 0, .slice none 0 0, .slice none 0 0, .slice none 0 0, .slice none 0 0, .slice none 0 0] 28)).heap.size by rw [hsz]; omega) 4).trans g4; have q5 := (bel_cell hB1 (show W.heap.size < ((W.alloc (.cells #[.string ⟨#[]⟩, .int .i64 0, .slice a3 0 c3, .slice a4 0 c4, .slice a5 0 c5, .slice a6 0 c6, .slice a7 0 c7] 28)).alloc (.cells #[.string ⟨#[]⟩, .int .i64 0, .slice none 0 0, .slice none 0 0, .slice none 0 0, .slice none 0 0, .slice none 0 0] 28)).heap.size by rw [hsz]; omega) 5).trans e5; have r5 := (bel_cell hB1 (show W.heap.size + 1 < ((W.alloc (.cells #[.string ⟨#[]⟩, .int .i64 0, .slice a3 0 c3, .slice a4 0 c4, .slice a5 0 c5, .slice a6 0 c6, .slice a7 0 c7] 28)).alloc (.cells #[.string ⟨#[]⟩, .int .i64 0, .slice none 0 0, .slice none 0 0, .slice none 0 0, .slice none 0 0, .slice none 0 0] 28)).heap.size by rw [hsz]; omega) 5).trans g5; have q6 := (bel_cell hB1 (show W.heap.size < ((W.alloc (.cells #[.string ⟨#[]⟩, .int .i64 0, .slice a3 0 c3, .slice a4 0 c4, .slice a5 0 c5, .slice a6 0 c6, .slice a7 0 c7] 28)).alloc (.cells #[.string ⟨#[]⟩, .int .i64 0, .slice none 0 0, .slice none 0 0, .slice none 0 0, .slice none 0 0, .slice none 0 0] 28)).heap.size by rw [hsz]; omega) 6).trans e6; have r6 := (bel_cell hB1 (show W.heap.size + 1 < ((W.alloc (.cells #[.string ⟨#[]⟩, .int .i64 0, .slice a3 0 c3, .slice a4 0 c4, .slice a5 0 c5, .slice a6 0 c6, .slice a7 0 c7] 28)).alloc (.cells #[.string ⟨#[]⟩, .int .i64 0, .slice none 0 0, .slice none 0 0, .slice none 0 0, .slice none 0 0, .slice none 0 0] 28)).heap.size by rw [hsz]; omega) 6).trans g6; clear e0 g0 e1 g1 e2 g2 e3 g3 e4 g4 e5 g5 e6 g6))
  refine wp_loop_rounds 1 ?_
  rw [rounds_succ]
  go_wp2
  refine wp_loop_rounds 1 ?_
  rw [rounds_succ]
  go_wp2
  go_ret
  exact ⟨rfl, hB.trans ⟨hB1.os, hB1.tape, hB1.output, hB1.size, fun k hk => hB1.block k (by omega)⟩⟩
end Go.Proofs.YtmklkcefbabhbaaGreat


namespace Go.Proofs.YtmklkcefbabhbaaGreat
open Go.RowKit

def pk0 : Pk := ⟨[], 0, [], [], [], [], []⟩
theorem enc0 : encP pk0 = [76, 86, 89, 49, 0, 0, 0, 0, 0, 0, 0] := by
  simp [encP, pk0, encS, encI, encL, zig, encN_small]
theorem z15_eq : encP pk0 ++ sum4 (fnvB (encP pk0)) = [76, 86, 89, 49, 0, 0, 0, 0, 0, 0, 0, 107, 221, 142, 116] := by
  rw [enc0]
  kernel_rfl
theorem z15_read : rPack [76, 86, 89, 49, 0, 0, 0, 0, 0, 0, 0, 107, 221, 142, 116] 0 = .ok (pk0, 15) := by kernel_rfl
theorem z6_read : rPack [76, 86, 89, 49, 128, 0] 0 = .error (4, 71) := by kernel_rfl
theorem InB.of_own {W : World} {base n : Nat} {a : Option Addr} {cap : Nat} {l : List UInt8} (h : W.ownsRow base 5 1 (.slice a n cap) l.length (Go.Lib.byteCells l)) : InB W a cap l := by
  have h0 := h
  obtain ⟨_, ⟨e, hn⟩ | ⟨g, cp, cur, e, hb, hc, hle, _⟩⟩ := h0
  · injection e with e1 e2 e3
    subst e1 e3
    exact ⟨.inl (List.eq_nil_of_length_eq_zero hn), fun _ => rfl, by omega⟩
  · injection e with e1 e2 e3
    subst e1 e2 e3
    refine ⟨.inr ⟨g, 0, rfl, heap_lt hc, fun i hi => ?_⟩, fun h => by (cases h), by omega⟩
    rw [Nat.zero_add, h.cellAt i (by omega)]
    unfold Go.Lib.byteCells
    rw [List.getElem?_map, List.getElem?_eq_getElem hi]
    rfl
theorem InB.pre {W : World} {a : Option Addr} {cap : Nat} {l : List UInt8} (h : InB W a cap l) (n : Nat) : InB W a cap (l.take n) := by
  obtain ⟨h1, h2, h3⟩ := h
  refine ⟨?_, h2, by rw [List.length_take]; omega⟩
  rcases h1 with rfl | ⟨b, off, ha, hb, hc⟩
  · left; simp
  · right
    refine ⟨b, off, ha, hb, fun i hi => ?_⟩
    rw [List.length_take] at hi
    rw [hc i (by omega), List.getElem_take]
theorem InB.bel {W W' : World} {a : Option Addr} {cap n : Nat} {l : List UInt8} (h : InB W a cap l) (hB : Below n W W') (hn : W.heap.size ≤ n) : InB W' a cap l := by
  obtain ⟨h1, h2, h3⟩ := h
  refine ⟨?_, h2, h3⟩
  rcases h1 with rfl | ⟨b, off, ha, hb, hc⟩
  · exact .inl rfl
  · exact .inr ⟨b, off, ha, Nat.lt_of_lt_of_le hb hB.size, fun i hi => (bel_cell hB (Nat.lt_of_lt_of_le hb hn) _).trans (hc i hi)⟩
theorem InB.lit (W : World) (l : List UInt8) (cs : Array Value) (h : cs.toList = Go.Lib.byteCells l) : InB (W.alloc (.cells cs 5)) (some ⟨W.heap.size, 0, none⟩) l.length l := by
  refine ⟨.inr ⟨W.heap.size, 0, rfl, by simp, fun i hi => ?_⟩, fun h => by (cases h), Nat.le_refl _⟩
  have hb := (bx_new W cs 5).2.1 i (by rw [h]; unfold Go.Lib.byteCells; rw [List.length_map]; exact hi)
  rw [Nat.zero_add, hb, h]
  unfold Go.Lib.byteCells
  rw [List.getElem?_map, List.getElem?_eq_getElem hi]
  rfl
theorem Below.tr {n m : Nat} {W X Y : World} (h : Below n W X) (k : Below m X Y) (hm : n ≤ m) : Below n W Y := h.trans ⟨k.os, k.tape, k.output, k.size, fun b hb => k.block b (Nat.lt_of_lt_of_le hb hm)⟩
/-- The empty pack is written. -/
theorem put0 (W : World) : Calls Tryz.prog 7 #[.agg #[.string ⟨#[]⟩, .int .i64 0, .slice none 0 0, .slice none 0 0, .slice none 0 0, .slice none 0 0, .slice none 0 0]] W fun e W' => Below W.heap.size W W' ∧ ∃ g cap, e = .returned (.tuple #[.slice (some ⟨g, 0, none⟩) 15 cap, .int .i64 0]) ∧ InB W' (some ⟨g, 0, none⟩) cap [76, 86, 89, 49, 0, 0, 0, 0, 0, 0, 0, 107, 221, 142, 116] ∧ 15 ≤ cap := by
  refine (put_any pk0 [.string ⟨#[]⟩, .int .i64 0, .slice none 0 0, .slice none 0 0, .slice none 0 0, .slice none 0 0, .slice none 0 0] ⟨by decide, ⟨by decide, fun o h => by cases h⟩, ⟨by decide, fun o h => by cases h⟩, ⟨by decide, fun o h => by cases h⟩, ⟨by decide, fun o h => by cases h⟩, ⟨by decide, fun o h => by cases h⟩⟩ W ⟨none, 0, none, 0, none, 0, none, 0, none, 0, rfl, ⟨by decide, by decide⟩, .inl rfl, .inl rfl, .inl rfl, .inl rfl, .inl rfl⟩).mono ?_
  rintro e W' ⟨hB, acc, b, hr, h⟩
  rw [z15_eq] at hr
  have hb : b = false := hr.2 rfl (by decide) ⟨fun l hl => by simp [pk0] at hl, fun l hl => by simp [pk0] at hl⟩
  obtain ⟨-, hacc, -⟩ := hr.1 hb
  rw [List.nil_append] at hacc
  rcases h with ⟨h, -⟩ | ⟨-, pa, cap, rfl, ho, -⟩
  · rw [hb] at h; cases h
  · subst hacc
    have hi := InB.of_own ho
    obtain ⟨h1, h2, h3⟩ := hi
    rcases h1 with h1 | ⟨g, off, ha, hg, hc⟩
    · cases h1
    · have ho0 := ho
      obtain ⟨_, ⟨e, hn⟩ | ⟨g2, cp, cur, e, _⟩⟩ := ho0
      · cases hn
      · injection e with e1 e2 e3
        subst e1
        exact ⟨hB, g2, cap, rfl, InB.of_own ho, h3⟩
/-- What is written of it is read. -/
theorem get15 (a : Option Addr) (cap : Nat) (W : World) (h : InB W a cap [76, 86, 89, 49, 0, 0, 0, 0, 0, 0, 0, 107, 221, 142, 116]) : Calls Tryz.prog 10 #[.slice a 15 cap] W fun e W' => Below W.heap.size W W' ∧ ∃ a3 c3 a4 c4 a5 c5 a6 c6 a7 c7, e = .returned (.tuple #[.agg #[.string ⟨#[]⟩, .int .i64 0, .slice a3 0 c3, .slice a4 0 c4, .slice a5 0 c5, .slice a6 0 c6, .slice a7 0 c7], .int .i64 0, .int .i64 0]) := by
  refine (get_any a cap [76, 86, 89, 49, 0, 0, 0, 0, 0, 0, 0, 107, 221, 142, 116] W h).mono ?_
  rintro e W' ⟨hB, ⟨h1, -⟩ | ⟨-, ft, er, h1, -⟩ | ⟨-, p, a2, cs, h1, rfl, a3, c3, a4, c4, a5, c5, a6, c6, a7, c7, rfl, -⟩⟩
  · exact absurd h1 (by decide)
  · rw [z15_read] at h1; cases h1
  · rw [z15_read] at h1
    cases h1
    exact ⟨hB, a3, c3, a4, c4, a5, c5, a6, c6, a7, c7, rfl⟩
theorem get6 (a : Option Addr) (cap : Nat) (W : World) (h : InB W a cap [76, 86, 89, 49, 128, 0]) : Calls Tryz.prog 10 #[.slice a 6 cap] W fun e W' => Below W.heap.size W W' ∧ e = .returned (.tuple #[.agg #[.string ⟨#[]⟩, .int .i64 0, .slice none 0 0, .slice none 0 0, .slice none 0 0, .slice none 0 0, .slice none 0 0], .int .i64 4, .int .i64 71]) := by
  refine (get_any a cap [76, 86, 89, 49, 128, 0] W h).mono ?_
  rintro e W' ⟨hB, ⟨h1, -⟩ | ⟨-, ft, er, h1, -, -, rfl⟩ | ⟨-, p, a2, cs, h1, rfl, -⟩⟩
  · exact absurd h1 (by decide)
  · rw [z6_read] at h1
    cases h1
    exact ⟨hB, rfl⟩
  · rw [z6_read] at h1; cases h1
theorem sum0 (W : World) : Calls Tryz.prog 12 #[.slice none 0 0] W fun e W' => e = .returned (.int .u32 2166136261) ∧ W = W' := by
  have := sum_any none 0 [] (by decide) W ⟨fun n hn => by simp at hn, .inl rfl⟩
  rw [show ((fnv [] : Nat) : Int) = 2166136261 from by kernel_rfl] at this
  refine this.mono ?_
  rintro e W' ⟨rfl, rfl⟩
  exact ⟨rfl, rfl⟩
set_option maxRecDepth 8000 in
set_option maxHeartbeats 1000000 in
theorem known_any (W : World) : Calls Tryz.prog 4 #[] W fun e W' => e = .returned (.bool true) ∧ Below W.heap.size W W' := by
  have hput := put0 W
  go_enter Tryz.func4, Tryz.ntmps4
  go_wp2_with (first | (go_at_call 7; go_loud (refine hput.mono ?_; clear hput; rintro e w1 ⟨hB1, g, cap, rfl, hI1, hcap⟩; have hc11 : (11 : Int) ≤ (cap : Int) := (by omega); have hBa : Below w1.heap.size w1 (w1.alloc (.cells #[.int .u8 76, .int .u8 86, .int .u8 89, .int .u8 49, .int .u8 0, .int .u8 0, .int .u8 0, .int .u8 0, .int .u8 0, .int .u8 0, .int .u8 0] 5)) := (Below.refl _ _).alloc (Nat.le_refl _) _; have hIa := hI1.bel hBa (Nat.le_refl _); have hB1a := Below.tr hB1 hBa hB1.size; have hs : Calls Tryz.prog 9 #[.slice (some ⟨g, 0, none⟩) 11 cap, .slice (some ⟨w1.heap.size, 0, none⟩) 11 11] (w1.alloc (.cells #[.int .u8 76, .int .u8 86, .int .u8 89, .int .u8 49, .int .u8 0, .int .u8 0, .int .u8 0, .int .u8 0, .int .u8 0, .int .u8 0, .int .u8 0] 5)) fun e W' => e = .returned (.bool true) ∧ W' = (w1.alloc (.cells #[.int .u8 76, .int .u8 86, .int .u8 89, .int .u8 49, .int .u8 0, .int .u8 0, .int .u8 0, .int .u8 0, .int .u8 0, .int .u8 0, .int .u8 0] 5)) := same_any (some ⟨g, 0, none⟩) (some ⟨w1.heap.size, 0, none⟩) cap 11 [76, 86, 89, 49, 0, 0, 0, 0, 0, 0, 0] [76, 86, 89, 49, 0, 0, 0, 0, 0, 0, 0] _ (hIa.pre 11) (InB.lit w1 [76, 86, 89, 49, 0, 0, 0, 0, 0, 0, 0] #[.int .u8 76, .int .u8 86, .int .u8 89, .int .u8 49, .int .u8 0, .int .u8 0, .int .u8 0, .int .u8 0, .int .u8 0, .int .u8 0, .int .u8 0] rfl); have hget := get15 _ _ _ hIa)) | (go_at_call 9; go_loud (refine hs.mono ?_; clear hs; rintro e w2 ⟨rfl, rfl⟩)) | (go_at_call 10; go_loud (refine hget.mono ?_; clear hget; rintro e w3 ⟨hB3, a3, c3, a4, c4, a5, c5, a6, c6, a7, c7, rfl⟩; have hB13 := Below.tr hB1a hB3 hB1a.size; have hBb : Below w3.heap.size w3 ((w3.alloc (.cells #[.string ⟨#[]⟩, .int .i64 0, .slice a3 0 c3, .slice a4 0 c4, .slice a5 0 c5, .slice a6 0 c6, .slice a7 0 c7] 28)).alloc (.cells #[.int .u8 76, .int .u8 86, .int .u8 89, .int .u8 49, .int .u8 128, .int .u8 0] 5)) := ((Below.refl _ _).alloc (Nat.le_refl _) _).alloc (by simp) _; have hB13b := Below.tr hB13 hBb hB13.size; have hbp := (bx_new w3 #[.string ⟨#[]⟩, .int .i64 0, .slice a3 0 c3, .slice a4 0 c4, .slice a5 0 c5, .slice a6 0 c6, .slice a7 0 c7] 28).kept (World.grownBy_alloc (w3.alloc (.cells #[.string ⟨#[]⟩, .int .i64 0, .slice a3 0 c3, .slice a4 0 c4, .slice a5 0 c5, .slice a6 0 c6, .slice a7 0 c7] 28)) (.cells #[.int .u8 76, .int .u8 86, .int .u8 89, .int .u8 49, .int .u8 128, .int .u8 0] 5) none) (by simp); have hs3 : (w3.alloc (.cells #[.string ⟨#[]⟩, .int .i64 0, .slice a3 0 c3, .slice a4 0 c4, .slice a5 0 c5, .slice a6 0 c6, .slice a7 0 c7] 28)).heap.size = w3.heap.size + 1 := (by simp); have hl3 := InB.lit (w3.alloc (.cells #[.string ⟨#[]⟩, .int .i64 0, .slice a3 0 c3, .slice a4 0 c4, .slice a5 0 c5, .slice a6 0 c6, .slice a7 0 c7] 28)) [76, 86, 89, 49, 128, 0] #[.int .u8 76, .int .u8 86, .int .u8 89, .int .u8 49, .int .u8 128, .int .u8 0] rfl; rw [hs3] at hl3; have hget2 : Calls Tryz.prog 10 #[.slice (some ⟨w3.heap.size + 1, 0, none⟩) 6 6] ((w3.alloc (.cells #[.string ⟨#[]⟩, .int .i64 0, .slice a3 0 c3, .slice a4 0 c4, .slice a5 0 c5, .slice a6 0 c6, .slice a7 0 c7] 28)).alloc (.cells #[.int .u8 76, .int .u8 86, .int .u8 89, .int .u8 49, .int .u8 128, .int .u8 0] 5)) _ := get6 (some ⟨w3.heap.size + 1, 0, none⟩) 6 _ hl3; clear hI1 hBa hIa hl3)) | (go_at_call 10; go_loud (refine hget2.mono ?_; clear hget2; rintro e w4 ⟨hB4, rfl⟩; have hB14 := Below.tr hB13b hB4 hB13b.size; have hB14q : Below W.heap.size W (w4.alloc (.cells #[.string ⟨#[]⟩, .int .i64 0, .slice none 0 0, .slice none 0 0, .slice none 0 0, .slice none 0 0, .slice none 0 0] 28)) := hB14.alloc hB14.size _; have hg4 : ((w3.alloc (.cells #[.string ⟨#[]⟩, .int .i64 0, .slice a3 0 c3, .slice a4 0 c4, .slice a5 0 c5, .slice a6 0 c6, .slice a7 0 c7] 28)).alloc (.cells #[.int .u8 76, .int .u8 86, .int .u8 89, .int .u8 49, .int .u8 128, .int .u8 0] 5)).grownBy w4 none := ⟨hB4.os, hB4.tape, hB4.output, hB4.size, fun k hk _ => hB4.block k hk⟩; have hbq := (hbp.kept hg4 (by simp)).kept (World.grownBy_alloc w4 (.cells #[.string ⟨#[]⟩, .int .i64 0, .slice none 0 0, .slice none 0 0, .slice none 0 0, .slice none 0 0, .slice none 0 0] 28) none) (by simp); have y0 : (w4.alloc (.cells #[.string ⟨#[]⟩, .int .i64 0, .slice none 0 0, .slice none 0 0, .slice none 0 0, .slice none 0 0, .slice none 0 0] 28)).cell? ⟨w3.heap.size, 0, none⟩ = some (.string ⟨#[]⟩) := hbq.2.1 0 (by simp); have y1 : (w4.alloc (.cells #[.string ⟨#[]⟩, .int .i64 0, .slice none 0 0, .slice none 0 0, .slice none 0 0, .slice none 0 0, .slice none 0 0] 28)).cell? ⟨w3.heap.size, 1, none⟩ = some (.int .i64 0) := hbq.2.1 1 (by simp); have y2 : (w4.alloc (.cells #[.string ⟨#[]⟩, .int .i64 0, .slice none 0 0, .slice none 0 0, .slice none 0 0, .slice none 0 0, .slice none 0 0] 28)).cell? ⟨w3.heap.size, 2, none⟩ = some (.slice a3 0 c3) := hbq.2.1 2 (by simp); have y3 : (w4.alloc (.cells #[.string ⟨#[]⟩, .int .i64 0, .slice none 0 0, .slice none 0 0, .slice none 0 0, .slice none 0 0, .slice none 0 0] 28)).cell? ⟨w3.heap.size, 3, none⟩ = some (.slice a4 0 c4) := hbq.2.1 3 (by simp); have y4 : (w4.alloc (.cells #[.string ⟨#[]⟩, .int .i64 0, .slice none 0 0, .slice none 0 0, .slice none 0 0, .slice none 0 0, .slice none 0 0] 28)).cell? ⟨w3.heap.size, 4, none⟩ = some (.slice a5 0 c5) := hbq.2.1 4 (by simp); have y5 : (w4.alloc (.cells #[.string ⟨#[]⟩, .int .i64 0, .slice none 0 0, .slice none 0 0, .slice none 0 0, .slice none 0 0, .slice none 0 0] 28)).cell? ⟨w3.heap.size, 5, none⟩ = some (.slice a6 0 c6) := hbq.2.1 5 (by simp); have y6 : (w4.alloc (.cells #[.string ⟨#[]⟩, .int .i64 0, .slice none 0 0, .slice none 0 0, .slice none 0 0, .slice none 0 0, .slice none 0 0] 28)).cell? ⟨w3.heap.size, 6, none⟩ = some (.slice a7 0 c7) := hbq.2.1 6 (by simp); have hbz := bx_new w4 #[.string ⟨#[]⟩, .int .i64 0, .slice none 0 0, .slice none 0 0, .slice none 0 0, .slice none 0 0, .slice none 0 0] 28; have hsp := samePack0 a3 a4 a5 a6 a7 c3 c4 c5 c6 c7 (w4.alloc (.cells #[.string ⟨#[]⟩, .int .i64 0, .slice none 0 0, .slice none 0 0, .slice none 0 0, .slice none 0 0, .slice none 0 0] 28)); clear hbp hg4)) | (go_at_call 11; go_loud (refine hsp.mono ?_; clear hsp; rintro e w5 ⟨rfl, hB5⟩; have hB15 := Below.tr hB14q hB5 hB14q.size; have z0 : w5.cell? ⟨w4.heap.size, 0, none⟩ = some (.string ⟨#[]⟩) := (bel_cell hB5 (by simp) 0).trans (hbz.2.1 0 (by simp)); have z1 : w5.cell? ⟨w4.heap.size, 1, none⟩ = some (.int .i64 0) := (bel_cell hB5 (by simp) 1).trans (hbz.2.1 1 (by simp)); have z2 : w5.cell? ⟨w4.heap.size, 2, none⟩ = some (.slice none 0 0) := (bel_cell hB5 (by simp) 2).trans (hbz.2.1 2 (by simp)); have z3 : w5.cell? ⟨w4.heap.size, 3, none⟩ = some (.slice none 0 0) := (bel_cell hB5 (by simp) 3).trans (hbz.2.1 3 (by simp)); have z4 : w5.cell? ⟨w4.heap.size, 4, none⟩ = some (.slice none 0 0) := (bel_cell hB5 (by simp) 4).trans (hbz.2.1 4 (by simp)); have z5 : w5.cell? ⟨w4.heap.size, 5, none⟩ = some (.slice none 0 0) := (bel_cell hB5 (by simp) 5).trans (hbz.2.1 5 (by simp)); have z6 : w5.cell? ⟨w4.heap.size, 6, none⟩ = some (.slice none 0 0) := (bel_cell hB5 (by simp) 6).trans (hbz.2.1 6 (by simp)); have hsp2 := samePack0 none none none none none 0 0 0 0 0 w5)) | (go_at_call 11; go_loud (refine hsp2.mono ?_; clear hsp2; rintro e w6 ⟨rfl, hB6⟩; have hB16 := Below.tr hB15 hB6 hB15.size; have hsm := sum0 w6)) | (go_at_call 12; go_loud (refine hsm.mono ?_; clear hsm; rintro e w7 ⟨rfl, rfl⟩)) | (go_at_call 8; refine (num_any _ _).mono ?_; rintro e w ⟨rfl, rfl⟩))
  go_ret
  exact ⟨rfl, hB16⟩
end Go.Proofs.YtmklkcefbabhbaaGreat

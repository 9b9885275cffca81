import Derived.Test.YthnmjafoplfikaaGreatDoorTurnRmExprs
import Derived.Test.YthnmjafoplfikaaGreatDoorTurnRmTexts
import Derived.Test.YthnmjafoplfikaaGreatDoorTurnRmBands
import Derived.Deep.RegionHeldLaw
namespace Go.Proofs.YthnmjafoplfikaaGreatDoor
open Go.RowKit

theorem step_append_rm {P : Program} {ops : Array Oper} {o : Oper} {a : Act} (w : World) {K : Act → World → Prop} {Q : Exit → Act → World → Prop} {E : Prop}
    (hg : o.guard = none) (s x : Operand) (t : TypeId) (ho : o.op = .call { callee := .builtin .append, args := #[s, x], argTypes := #[t, t] })
    (base : Nat) (e : TypeId) (i : TypeInfo) (z : Value) (size bytes : Nat) (ht : P.underlying t = some (.slice e)) (hi : P.info? e = some i) (hz : i.zero = some z)
    (hsize : i.size = size) (hby : i.bytes = bytes) (hzs : z.cells.size = size) (hsz : 0 < size)
    (v : Value) (n : Nat) (xs : List Value) (hs : a.eval s = v) (hown : w.ownsRow base e size v n xs)
    (ad : Addr) (m c : Nat) (news : List Value) (hx : a.eval x = .slice (some ad) m c) (hl : news.length = m * size) (hnews : ∀ j u, news[j]? = some u → w.cell? (ad.add j) = some u) (h1 : ∀ u ∈ news, u.oneCell' = true)
    (h63 : n + m ≤ maxLen) (hbytes : (n + m) * bytes ≤ 140737488355328) (hbase : base ≤ w.heap.size)
    (h : ∀ v' w', w'.ownsRow base e size v' (n + m) (xs ++ news) → w.grownBy w' v.ownBlock → (v'.ownBlock = v.ownBlock ∨ v'.ownBlock = some w.heap.size) → K (a.put o.dst v') w') : if Region.wanted o (yielded ops a.tmps) = true then Oper.wp P o a w K Q else E := by
  rw [if_pos (by simp [Region.wanted, hg])]
  obtain ⟨v', w', hr, h2, h3, -, h5⟩ := run_append_own_at (P := P) w base t o.type e i z size bytes ht hi hz hsize hby hzs hsz v n xs hown ad m c news hl hnews h1 h63 hbytes hbase
  unfold Oper.wp execOp
  simp only [ho, resolve, invoke, builtin, Sem.run_bind, Sem.run_pure, Result.andThen_ok, List.map_toArray, List.map_cons, List.map_nil, hs, hx, hr]
  exact h v' w' h2 h3 h5
theorem sn_step {n R : Nat} {K K' : Nat → Value} {V V' : Nat → List Value} {W W' : World} {b : Nat} (h : SnR n R K W b) (hs : RmStep R K V K' V' W W') : SnR n R K' W' b := ⟨h.1, Nat.lt_of_lt_of_le h.2.1 hs.fm.size, h.2.2.1, fun i hi e => by
  rcases hs.ks i hi with e' | ⟨g, e', hg⟩
  · exact h.2.2.2 i hi (e'.symm.trans e)
  · rw [e'] at e
    have := Option.some.inj e
    have := h.2.1
    omega⟩
theorem bel_drew (W : World) : Below W.heap.size W W.drew := (Below.refl W.heap.size W).drew
theorem gr_drew1 (W : World) : W.grownBy W.drew none := ⟨rfl, rfl, rfl, Nat.le_refl _, fun _ _ _ => rfl⟩
/-- How many lists the copies of options, tables, clauses, lines, checks make. -/
def cO {α : Type} (xs : List α) : Nat := xs.length
theorem cO_snoc {α : Type} (xs : List α) (x : α) : cO (xs ++ [x]) = cO xs + 1 := by simp [cO]
theorem cO_take {α : Type} (xs : List α) (k : Nat) : cO (xs.take k) ≤ cO xs := by unfold cO; rw [List.length_take]; omega
def cSum {α : Type} (f : α → Nat) (xs : List α) : Nat := (xs.map f).sum
theorem cSum_snoc {α : Type} (f : α → Nat) (xs : List α) (x : α) : cSum f (xs ++ [x]) = cSum f xs + f x := by simp [cSum]
theorem cSum_take {α : Type} (f : α → Nat) (xs : List α) (k : Nat) : cSum f (xs.take k) ≤ cSum f xs := by
  conv => rhs; rw [← List.take_append_drop k xs]
  unfold cSum
  rw [List.map_append, List.sum_append]
  omega
def wC (c : Cl) : Nat := cNf c.guard.args + cNf c.body.args + 2
def wK (c : Ck) : Nat := cNf c.when_.args + 1
def cC (xs : List Cl) : Nat := cSum wC xs
def cK (xs : List Ck) : Nat := cSum wK xs
def wL (l : Ln) : Nat := cC l.cls + 1
def cLn (xs : List Ln) : Nat := cSum wL xs
theorem cC_snoc (xs : List Cl) (x : Cl) : cC (xs ++ [x]) = cC xs + (cNf x.guard.args + cNf x.body.args + 2) := cSum_snoc wC xs x
theorem cC_take (xs : List Cl) (k : Nat) : cC (xs.take k) ≤ cC xs := cSum_take wC xs k
theorem cK_snoc (xs : List Ck) (x : Ck) : cK (xs ++ [x]) = cK xs + (cNf x.when_.args + 1) := cSum_snoc wK xs x
theorem cK_take (xs : List Ck) (k : Nat) : cK (xs.take k) ≤ cK xs := cSum_take wK xs k
theorem cLn_snoc (xs : List Ln) (x : Ln) : cLn (xs ++ [x]) = cLn xs + (cC x.cls + 1) := cSum_snoc wL xs x
theorem cLn_take (xs : List Ln) (k : Nat) : cLn (xs.take k) ≤ cLn xs := cSum_take wL xs k

end Go.Proofs.YthnmjafoplfikaaGreatDoor

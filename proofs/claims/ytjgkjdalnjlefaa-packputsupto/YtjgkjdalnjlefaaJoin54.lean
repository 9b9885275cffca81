import Derived.Test.YtjgkjdalnjlefaaJoin53
import Derived.Test.YtjgkjdalnjlefaaJoin52
import Derived.Test.YtjgkjdalnjlefaaPzC
import Derived.Test.YtjgkjdalnjlefaaRows
import Derived.Test.YtjgkjdalnjlefaaProg
import Derived.WalkKit
import Derived.WalkSpells
import Derived.WalkLawsBesides
import Derived.Deep.QuietTactic
import Derived.BigQuiet
import Derived.Laws.StructEq
/- HOW GREAT A PACK IS, and that its pieces' bytes are its bytes. No program. -/
namespace Go.Proofs.Ytjgkjdalnjlefaa.V
open Go.RowKit

theorem cNf_pn : ∀ f : Fo, cNf f = pn f
  | .nil => rfl
  | .cons a b c d x r => by
    show 1 + cNf x + cNf r = 1 + pn x + pn r
    rw [cNf_pn x, cNf_pn r]
def bkO (o : List UInt8 × List (List UInt8)) : Nat := 1 + o.1.length + (o.2.map (fun s => 1 + s.length)).sum
def bkT (t : List UInt8 × List (Int × Int)) : Nat := 1 + t.1.length + t.2.length
def bkG (g : List UInt8 × Int) : Nat := 1 + g.1.length
def bkC (c : Cl) : Nat := 2 + 2 * pn c.guard.args + 2 * pn c.body.args
def bkL (l : Ln) : Nat := 1 + l.name.length + (l.cls.map bkC).sum
def bkK (c : Ck) : Nat := 1 + c.name.length + c.text.length + 2 * pn c.when_.args
/-- How much a pack holds. -/
def BK (p : Pk) : Nat := p.name.length + (p.opts.map bkO).sum + (p.tabs.map bkT).sum + (p.grps.map bkG).sum + (p.lns.map bkL).sum + (p.cks.map bkK).sum
theorem sum_mem {α : Type} (f : α → Nat) : ∀ (xs : List α) (x : α), x ∈ xs → f x ≤ (xs.map f).sum := fun xs x h => cSum_mem f xs x h
theorem sum_len {α : Type} (f : α → Nat) (h : ∀ x, 1 ≤ f x) : ∀ xs : List α, xs.length ≤ (xs.map f).sum
  | [] => Nat.le_refl _
  | x :: xs => by
    have h1 := sum_len f h xs
    have h2 := h x
    rw [List.map_cons, List.sum_cons, List.length_cons]
    omega
theorem sum_le {α : Type} (f g : α → Nat) (c : Nat) : ∀ (xs : List α), (∀ x ∈ xs, f x ≤ c * g x) → (xs.map f).sum ≤ c * (xs.map g).sum
  | [], _ => Nat.zero_le _
  | x :: xs, h => by
    have h1 := sum_le f g c xs (fun y hy => h y (List.mem_cons_of_mem _ hy))
    have h2 := h x (List.mem_cons_self ..)
    rw [List.map_cons, List.sum_cons, List.map_cons, List.sum_cons, Nat.mul_add]
    omega
theorem nO_le (o : List UInt8 × List (List UInt8)) : nO o ≤ 10 * bkO o := by
  have := sum_len (fun s : List UInt8 => 1 + s.length) (fun s => Nat.le_add_right _ _) o.2
  unfold nO bkO
  omega
theorem nT_le (o : List UInt8 × List (Int × Int)) : nT o ≤ 10 * bkT o := by unfold nT bkT; omega
theorem nCl_le (c : Cl) : nCl c ≤ 10 * bkC c := by unfold nCl bkC nE; omega
theorem nLn_le (l : Ln) : nLn l ≤ 10 * bkL l := by
  have := sum_le nCl bkC 10 l.cls (fun c _ => nCl_le c)
  unfold nLn bkL
  omega
theorem nCk_le (c : Ck) : nCk c ≤ 10 * bkK c := by unfold nCk bkK nE; omega
theorem nP_le (p : Pk) : nP p ≤ 10 * BK p + 7 := by
  have h1 := sum_le nO bkO 10 p.opts (fun c _ => nO_le c)
  have h2 := sum_le nT bkT 10 p.tabs (fun c _ => nT_le c)
  have h3 := sum_le (fun _ : List UInt8 × Int => 2) bkG 10 p.grps (fun c _ => by unfold bkG; omega)
  have h4 := sum_le nLn bkL 10 p.lns (fun c _ => nLn_le c)
  have h5 := sum_le nCk bkK 10 p.cks (fun c _ => nCk_le c)
  unfold nP nH BK
  omega
/-- The sizes that follow. -/
structure BkS (p : Pk) : Prop where
  name : p.name.length ≤ 1048576
  o1 : p.opts.length ≤ 1048576
  o2 : ∀ o ∈ p.opts, o.1.length ≤ 1048576 ∧ o.2.length ≤ 1048576 ∧ ∀ s ∈ o.2, s.length ≤ 1048576
  t1 : p.tabs.length ≤ 1048576
  t2 : ∀ o ∈ p.tabs, o.1.length ≤ 1048576 ∧ o.2.length ≤ 1048576
  g1 : p.grps.length ≤ 1048576
  g2 : ∀ o ∈ p.grps, o.1.length ≤ 1048576
  l1 : p.lns.length ≤ 1048576
  l2 : ∀ l ∈ p.lns, l.name.length ≤ 1048576 ∧ l.cls.length ≤ 1048576 ∧ ∀ c ∈ l.cls, pn c.guard.args ≤ 524288 ∧ pn c.body.args ≤ 524288
  k1 : p.cks.length ≤ 1048576
  k2 : ∀ c ∈ p.cks, c.name.length ≤ 1048576 ∧ c.text.length ≤ 1048576 ∧ pn c.when_.args ≤ 524288
theorem bk_sizes {p : Pk} (h : BK p ≤ 1048576) : BkS p := by
  unfold BK at h
  have o1 := sum_len bkO (fun o => by unfold bkO; omega) p.opts
  have t1 := sum_len bkT (fun o => by unfold bkT; omega) p.tabs
  have g1 := sum_len bkG (fun o => by unfold bkG; omega) p.grps
  have l1 := sum_len bkL (fun o => by unfold bkL; omega) p.lns
  have k1 := sum_len bkK (fun o => by unfold bkK; omega) p.cks
  refine ⟨by omega, by omega, fun o ho => ?_, by omega, fun o ho => ?_, by omega, fun o ho => ?_, by omega, fun o ho => ?_, by omega, fun o ho => ?_⟩
  · have h1 := sum_mem bkO _ _ ho
    have h2 := sum_len (fun s : List UInt8 => 1 + s.length) (fun s => Nat.le_add_right _ _) o.2
    have e1 : bkO o = 1 + o.1.length + (o.2.map (fun s => 1 + s.length)).sum := rfl
    refine ⟨by omega, by omega, fun s hs => ?_⟩
    have h3 := sum_mem (fun s : List UInt8 => 1 + s.length) _ _ hs
    omega
  · have h1 := sum_mem bkT _ _ ho
    have e1 : bkT o = 1 + o.1.length + o.2.length := rfl
    exact ⟨by omega, by omega⟩
  · have h1 := sum_mem bkG _ _ ho
    have e1 : bkG o = 1 + o.1.length := rfl
    omega
  · have h1 := sum_mem bkL _ _ ho
    have h2 := sum_len bkC (fun s => by unfold bkC; omega) o.cls
    have e1 : bkL o = 1 + o.name.length + (o.cls.map bkC).sum := rfl
    refine ⟨by omega, by omega, fun c hc => ?_⟩
    have h3 := sum_mem bkC _ _ hc
    have e3 : bkC c = 2 + 2 * pn c.guard.args + 2 * pn c.body.args := rfl
    exact ⟨by omega, by omega⟩
  · have h1 := sum_mem bkK _ _ ho
    have e1 : bkK o = 1 + o.name.length + o.text.length + 2 * pn o.when_.args := rfl
    exact ⟨by omega, by omega, by omega⟩
theorem szF_of : ∀ f : Fo, pn f ≤ 524288 → SzF f
  | .nil, _ => trivial
  | .cons a b c d x r, h => by
    have h : 1 + pn x + pn r ≤ 524288 := h
    have h1 := pn_len x
    exact ⟨by omega, szF_of x (by omega), szF_of r (by omega)⟩
theorem szE_of {x : Ex} (h : pn x.args ≤ 524288) : SzE x := ⟨by have := pn_len x.args; omega, szF_of _ h⟩
theorem szP_of {p : Pk} (h : BK p ≤ 1048576) : SzP p := by
  have b := bk_sizes h
  refine ⟨by have := b.name; omega, ⟨by have := b.o1; omega, fun o ho => ?_⟩, ⟨by have := b.t1; omega, fun o ho => ?_⟩, ⟨by have := b.g1; omega, fun o ho => ?_⟩, ⟨by have := b.l1; omega, fun o ho => ?_⟩, ⟨by have := b.k1; omega, fun o ho => ?_⟩⟩
  · have h := b.o2 o ho
    exact ⟨by omega, by omega, fun s hs => by have := h.2.2 s hs; omega⟩
  · have h := b.t2 o ho
    exact ⟨by omega, by omega⟩
  · have h := b.g2 o ho
    omega
  · have h := b.l2 o ho
    exact ⟨by omega, by omega, fun c hc => ⟨szE_of (h.2.2 c hc).1, szE_of (h.2.2 c hc).2⟩⟩
  · have h := b.k2 o ho
    exact ⟨by omega, by omega, szE_of h.2.2⟩

theorem okB {α : Type} (f : α → List Pc) (l : List α) (h : ∀ x ∈ l, ∀ y ∈ f x, OkPc y) : ∀ y ∈ l.flatMap f, OkPc y := fun y hy => by
  obtain ⟨x, hx, h2⟩ := List.mem_flatMap.1 hy
  exact h x hx y h2
theorem ok_num {n : Nat} (h : n ≤ 1048576) : OkPc ⟨1, (n : Int), []⟩ := .inl ⟨rfl, by simp, by simp only []; omega⟩
theorem ok_int {z : Int} (h : Rg z) : OkPc ⟨2, z, []⟩ := .inr (.inl ⟨rfl, h⟩)
theorem ok_text {s : List UInt8} (h : s.length ≤ 1048576) : OkPc ⟨3, 0, s⟩ := .inr (.inr (.inl ⟨rfl, by simp only []; omega⟩))
theorem ok_fl (b : Bool) : OkPc (fl b) := .inr (.inr (.inr ⟨rfl, by unfold fl; cases b <;> simp, by unfold fl; cases b <;> simp⟩))
theorem ok_m (a b c : Int) (n : Nat) : OkPc ⟨4, mF a b c n, []⟩ := .inr (.inr (.inr ⟨rfl, by unfold mF; simp only []; split <;> split <;> split <;> split <;> omega, by unfold mF; simp only []; split <;> split <;> split <;> split <;> omega⟩))
theorem ok_z {z : Int} (h : Rg z) : ∀ y ∈ pcZ z, OkPc y := fun y hy => by
  unfold pcZ at hy
  split at hy
  · cases hy
  · rw [List.mem_singleton.1 hy]; exact ok_int h
theorem ok_app {a b : List Pc} (ha : ∀ y ∈ a, OkPc y) (hb : ∀ y ∈ b, OkPc y) : ∀ y ∈ a ++ b, OkPc y := fun y hy => by
  rcases List.mem_append.1 hy with h | h
  · exact ha y h
  · exact hb y h
theorem ok_one {x : Pc} (h : OkPc x) : ∀ y ∈ [x], OkPc y := fun y hy => by rw [List.mem_singleton.1 hy]; exact h
theorem ok_F : ∀ f : Fo, RgF f → pn f ≤ 524288 → ∀ y ∈ pcF f, OkPc y
  | .nil, _, _ => fun y hy => by cases hy
  | .cons op num den mode args rest, h, hp => by
    have hp : 1 + pn args + pn rest ≤ 524288 := hp
    obtain ⟨⟨h1, h2, h3, h4⟩, h5, h6⟩ := h
    have hl := pn_len args
    refine ok_app (ok_app (ok_app (ok_app (ok_app (ok_app (ok_one (ok_int h1)) (ok_one (ok_m ..))) (ok_z h2)) (ok_z h3)) (ok_z h4)) ?_) (ok_F rest h6 (by omega))
    split
    · exact fun y hy => by cases hy
    · exact ok_app (ok_one (ok_num (by omega))) (ok_F args h5 (by omega))
theorem ok_E {x : Ex} (h : RgE x) (hp : pn x.args ≤ 524288) : ∀ y ∈ pcE x, OkPc y := by
  have hl := pn_len x.args
  refine ok_app (ok_app (ok_app (ok_app (ok_app (ok_one (ok_int h.1.1)) (ok_one (ok_m ..))) (ok_z h.1.2.1)) (ok_z h.1.2.2.1)) (ok_z h.1.2.2.2)) ?_
  split
  · exact fun y hy => by cases hy
  · exact ok_app (ok_one (ok_num (by omega))) (ok_F x.args h.2 hp)
theorem ok_P {p : Pk} (h : BK p ≤ 1048576) (hr : RgP p) : ∀ y ∈ pcP p, OkPc y := by
  have b := bk_sizes h
  refine ok_app (ok_app (ok_app (ok_app (ok_app (ok_app (ok_app (ok_app (ok_app (ok_app (ok_app (ok_one (ok_text b.name)) (ok_one (ok_int hr.year))) (ok_one (ok_num b.o1))) (okB _ _ fun o ho => ?_)) (ok_one (ok_num b.t1))) (okB _ _ fun o ho => ?_)) (ok_one (ok_num b.g1))) (okB _ _ fun o ho => ?_)) (ok_one (ok_num b.l1))) (okB _ _ fun l hl => ?_)) (ok_one (ok_num b.k1))) (okB _ _ fun c hc => ?_)
  · have q := b.o2 o ho
    exact ok_app (ok_app (ok_one (ok_text q.1)) (ok_one (ok_num q.2.1))) (okB _ _ fun s hs => ok_one (ok_text (q.2.2 s hs)))
  · have q := b.t2 o ho
    exact ok_app (ok_app (ok_one (ok_text q.1)) (ok_one (ok_num q.2))) (okB _ _ fun s hs => ok_app (ok_one (ok_int (hr.tabs o ho s hs).1)) (ok_one (ok_int (hr.tabs o ho s hs).2)))
  · exact ok_app (ok_one (ok_text (b.g2 o ho))) (ok_one (ok_int (hr.grps o ho)))
  · have q := b.l2 l hl
    have r := hr.lns l hl
    refine ok_app (ok_app (ok_app (ok_app (ok_app (ok_app (ok_app (ok_one (ok_text q.1)) (ok_one (ok_fl _))) (ok_one (ok_fl _))) (ok_one (ok_int r.1.1))) (ok_one (ok_int r.1.2.1))) (ok_one (ok_int r.1.2.2))) (ok_one (ok_num q.2.1))) (okB _ _ fun c hc => ?_)
    have r2 := r.2 c hc
    have q2 := q.2.2 c hc
    exact ok_app (ok_app (ok_app (ok_one (ok_int r2.1)) (ok_one (ok_fl _))) (ok_E r2.2.1 q2.1)) (ok_E r2.2.2 q2.2)
  · have q := b.k2 c hc
    have r := hr.cks c hc
    exact ok_app (ok_app (ok_app (ok_app (ok_one (ok_text q.1)) (ok_one (ok_fl _))) (ok_one (ok_int r.1))) (ok_E r.2 q.2.2)) (ok_one (ok_text q.2.1))

theorem bp_num (n : Nat) : bp ⟨1, (n : Int), []⟩ = encN n := by simp [bp]
theorem bp_int (z : Int) : bp ⟨2, z, []⟩ = encI z := rfl
theorem bp_text (s : List UInt8) : bp ⟨3, 0, s⟩ = encS s := rfl
theorem bp_fl (b : Bool) : bp (fl b) = encB b := by cases b <;> rfl
theorem mF_hasB (a b c : Int) (n : Nat) : (mF a b c n).toNat = hasB a b c n := by
  unfold mF hasB
  split <;> split <;> split <;> split <;> rfl
theorem bp_m (a b c : Int) (n : Nat) : bp ⟨4, mF a b c n, []⟩ = [UInt8.ofNat (hasB a b c n)] := by
  rw [← mF_hasB]
  rfl
theorem bp_z (z : Int) : (pcZ z).flatMap bp = encZ z := by
  unfold pcZ encZ
  split
  · rfl
  · simp [bp_int]
theorem bp_F : ∀ f : Fo, (pcF f).flatMap bp = encF f
  | .nil => rfl
  | .cons op num den mode args rest => by
    have h1 := bp_F args
    have h2 := bp_F rest
    simp only [pcF, encF, List.flatMap_append, List.flatMap_cons, List.flatMap_nil, List.append_nil, bp_int, bp_m, bp_z, h2, List.append_assoc]
    congr 2
    split
    · rfl
    · simp only [List.flatMap_append, List.flatMap_cons, List.flatMap_nil, List.append_nil, bp_num, h1]
theorem bp_E (x : Ex) : (pcE x).flatMap bp = encE x := by
  have h1 := bp_F x.args
  simp only [pcE, encE, List.flatMap_append, List.flatMap_cons, List.flatMap_nil, List.append_nil, bp_int, bp_m, bp_z, List.append_assoc]
  split
  · rfl
  · simp only [List.flatMap_append, List.flatMap_cons, List.flatMap_nil, List.append_nil, bp_num, h1]
theorem bp_list {α : Type} (f : α → List Pc) (g : α → List UInt8) (h : ∀ x, (f x).flatMap bp = g x) : ∀ l : List α, (l.flatMap f).flatMap bp = l.flatMap g
  | [] => rfl
  | x :: l => by rw [List.flatMap_cons, List.flatMap_append, h, bp_list f g h l, List.flatMap_cons]
theorem bpP_enc (p : Pk) : bpP p = encP p := by
  have hO : ∀ o, (pcO o).flatMap bp = encO o := fun o => by
    simp only [pcO, encO, encL, List.flatMap_append, List.flatMap_cons, List.flatMap_nil, List.append_nil, bp_text, bp_num, List.append_assoc]
    rw [bp_list _ encS (fun s => by simp [bp_text])]
  have hT : ∀ o, (pcT o).flatMap bp = encT o := fun o => by
    simp only [pcT, encT, encL, List.flatMap_append, List.flatMap_cons, List.flatMap_nil, List.append_nil, bp_text, bp_num, List.append_assoc]
    rw [bp_list _ encBd (fun s => by simp [bp_int, encBd])]
  have hG : ∀ o, (pcG o).flatMap bp = encG o := fun o => by
    simp only [pcG, encG, List.flatMap_append, List.flatMap_cons, List.flatMap_nil, List.append_nil, bp_text, bp_int]
  have hC : ∀ o, (pcCl o).flatMap bp = encC o := fun o => by
    simp only [pcCl, encC, List.flatMap_append, List.flatMap_cons, List.flatMap_nil, List.append_nil, bp_fl, bp_int, bp_E]
  have hL : ∀ o, (pcLn o).flatMap bp = encLn o := fun o => by
    simp only [pcLn, encLn, encL, List.flatMap_append, List.flatMap_cons, List.flatMap_nil, List.append_nil, bp_fl, bp_int, bp_text, bp_num, bp_list _ _ hC, List.append_assoc]
  have hK : ∀ o, (pcCk o).flatMap bp = encK o := fun o => by
    simp only [pcCk, encK, List.flatMap_append, List.flatMap_cons, List.flatMap_nil, List.append_nil, bp_fl, bp_int, bp_text, bp_E]
  unfold bpP pcP pcH encP encL
  simp only [List.flatMap_append, List.flatMap_cons, List.flatMap_nil, List.append_nil, bp_int, bp_text, bp_num, bp_list _ _ hO, bp_list _ _ hT, bp_list _ _ hG, bp_list _ _ hL, bp_list _ _ hK, List.append_assoc]

theorem szW_of {p : Pk} (h : BK p ≤ 1048576) (hr : RgP p) : SzW p := by
  have b := bk_sizes h
  have hn := nP_le p
  exact ⟨⟨by have := b.o1; omega, fun y hy => by have := (b.o2 y hy).2.1; omega, by have := b.t1; omega, fun y hy => by have := (b.t2 y hy).2; omega, by have := b.g1; omega⟩, by have := b.l1; omega, fun l hl => ⟨by have := (b.l2 l hl).2.1; omega, fun c hc => ⟨by have := ((b.l2 l hl).2.2 c hc).1; omega, by have := ((b.l2 l hl).2.2 c hc).2; omega⟩⟩, by have := b.k1; omega, fun c hc => by have := (b.k2 c hc).2.2; omega, by omega, ok_P h hr⟩

end Go.Proofs.Ytjgkjdalnjlefaa.V


/- One int of a pack's lists is turned: then a pack lies there again, of the same size. No program. -/
namespace Go.Proofs.Ytjgkjdalnjlefaa.V
open Go.RowKit

/-- Cells of which ints may have been turned into z. -/
def Pok (z : Int) (cs cs' : List Value) : Prop := cs'.length = cs.length ∧ ∀ j : Nat, cs'[j]? = cs[j]? ∨ ((∃ n : Int, cs[j]? = some (Value.int .i64 n)) ∧ cs'[j]? = some (Value.int .i64 z))
/-- The same of a whole world. -/
structure PokW (z : Int) (W W' : World) : Prop where
  size : W.heap.size ≤ W'.heap.size
  cell : ∀ a, W'.cell? a = W.cell? a ∨ ((∃ n, W.cell? a = some (.int .i64 n)) ∧ W'.cell? a = some (.int .i64 z))
theorem Pok.nil {z : Int} {cs : List Value} (h : Pok z [] cs) : cs = [] := List.eq_nil_of_length_eq_zero (by simpa using h.1)
theorem Pok.cons {z : Int} {v : Value} {cs cs' : List Value} (h : Pok z (v :: cs) cs') : ∃ v' cs'', cs' = v' :: cs'' ∧ (v' = v ∨ ((∃ n, v = .int .i64 n) ∧ v' = .int .i64 z)) ∧ Pok z cs cs'' := by
  cases cs' with
  | nil => have := h.1; simp at this
  | cons v' cs'' =>
    refine ⟨v', cs'', rfl, ?_, ⟨by have := h.1; simpa using this, fun j => ?_⟩⟩
    · rcases h.2 0 with h0 | ⟨⟨n, h0⟩, h1⟩
      · left; simpa using h0
      · right; exact ⟨⟨n, by simpa using h0⟩, by simpa using h1⟩
    · simpa using h.2 (j + 1)
theorem Pok.int {z n : Int} {cs cs' : List Value} (hz : Rg z) (hn : Rg n) (h : Pok z (.int .i64 n :: cs) cs') : ∃ n' cs'', cs' = .int .i64 n' :: cs'' ∧ Rg n' ∧ Pok z cs cs'' := by
  obtain ⟨v', cs'', rfl, h1 | ⟨-, h1⟩, h2⟩ := h.cons
  · exact ⟨n, cs'', by rw [h1], hn, h2⟩
  · exact ⟨z, cs'', by rw [h1], hz, h2⟩
theorem Pok.other {z : Int} {v : Value} {cs cs' : List Value} (hv : ∀ n, v ≠ .int .i64 n) (h : Pok z (v :: cs) cs') : ∃ cs'', cs' = v :: cs'' ∧ Pok z cs cs'' := by
  obtain ⟨v', cs'', rfl, h1 | ⟨⟨n, h1⟩, -⟩, h2⟩ := h.cons
  · exact ⟨cs'', by rw [h1], h2⟩
  · exact absurd h1 (hv n)
theorem Pok.take {z : Int} {cs cs' : List Value} (h : Pok z cs cs') (k : Nat) : Pok z (cs.take k) (cs'.take k) := by
  refine ⟨by simp [h.1], fun j => ?_⟩
  simp only [List.getElem?_take]
  by_cases hj : j < k
  · simp only [hj, if_true]; exact h.2 j
  · simp [hj]
theorem Pok.drop {z : Int} {cs cs' : List Value} (h : Pok z cs cs') (k : Nat) : Pok z (cs.drop k) (cs'.drop k) := by
  refine ⟨by simp [h.1], fun j => ?_⟩
  simp only [List.getElem?_drop]
  exact h.2 (k + j)
theorem PokW.int {z n : Int} {W W' : World} {a : Addr} (h : PokW z W W') (hz : Rg z) (hn : Rg n) (hc : W.cell? a = some (.int .i64 n)) : ∃ n', W'.cell? a = some (.int .i64 n') ∧ Rg n' := by
  rcases h.cell a with h1 | ⟨-, h1⟩
  · exact ⟨n, by rw [h1, hc], hn⟩
  · exact ⟨z, h1, hz⟩
theorem PokW.other {z : Int} {W W' : World} {a : Addr} {v : Value} (h : PokW z W W') (hv : ∀ n, v ≠ .int .i64 n) (hc : W.cell? a = some v) : W'.cell? a = some v := by
  rcases h.cell a with h1 | ⟨⟨n, h1⟩, -⟩
  · rw [h1, hc]
  · rw [hc] at h1; exact absurd (Option.some.inj h1) (hv n)
/-- A thing that keeps its weight when an int of it is turned. -/
def Pkd {α : Type} (D : Elt α) (w : α → Nat) : Prop := ∀ (z : Int) (W W' : World) (S : Nat → Prop) (x : α) (cs cs' : List Value), Rg z → PokW z W W' → D.E W S x cs → Pok z cs cs' → ∃ x', D.E W' S x' cs' ∧ w x' = w x
theorem Elems.cons_mk {α : Type} {D : Elt α} {W : World} {S : Nat → Prop} {x : α} {xs : List α} {c1 c2 : List Value} (h1 : D.E W S x c1) (h2 : Elems D W S xs c2) : Elems D W S (x :: xs) (c1 ++ c2) := by
  have hl := D.len h1
  refine ⟨by rw [List.length_append, hl, h2.1, List.length_cons, Nat.add_mul]; omega, fun i hi => ?_⟩
  cases i with
  | zero =>
    rw [Nat.zero_mul, List.drop_zero, ← hl, List.take_left]
    exact h1
  | succ i =>
    have e : (i + 1) * D.k = c1.length + i * D.k := by rw [hl, Nat.add_mul]; omega
    have e2 : List.drop ((i + 1) * D.k) (c1 ++ c2) = List.drop (i * D.k) c2 := by rw [e, ← List.drop_drop, List.drop_left]
    rw [e2]
    exact h2.2 i (by simpa using hi)
theorem elems_pok {α : Type} {D : Elt α} {w : α → Nat} (hD : Pkd D w) {z : Int} {W W' : World} {S : Nat → Prop} (hz : Rg z) (hW : PokW z W W') : ∀ (xs : List α) (cs cs' : List Value), Elems D W S xs cs → Pok z cs cs' → ∃ xs', Elems D W' S xs' cs' ∧ xs'.length = xs.length ∧ xs'.map w = xs.map w
  | [], cs, cs', h, hp => by
    have hc : cs = [] := List.eq_nil_of_length_eq_zero (by simpa using h.1)
    subst hc
    rw [hp.nil]
    exact ⟨[], Elems.nil _ _ _, rfl, rfl⟩
  | x :: xs, cs, cs', h, hp => by
    obtain ⟨h1, h2⟩ := h.cons
    obtain ⟨x', h3, h4⟩ := hD z W W' S x _ _ hz hW h1 (hp.take D.k)
    obtain ⟨xs', h5, h6, h7⟩ := elems_pok hD hz hW xs _ _ h2 (hp.drop D.k)
    refine ⟨x' :: xs', ?_, by simp [h6], by simp [h4, h7]⟩
    have := Elems.cons_mk h3 h5
    rwa [List.take_append_drop] at this
theorem row_pok {α : Type} {D : Elt α} {w : α → Nat} (hD : Pkd D w) {z : Int} {W W' : World} {S : Nat → Prop} (hz : Rg z) (hW : PokW z W W') {xs : List α} {a : Option Addr} (h : RowR D W S xs a) : ∃ xs', RowR D W' S xs' a ∧ xs'.length = xs.length ∧ xs'.map w = xs.map w := by
  rcases h with h | ⟨g, o, cs, h1, h2, h3, h4, h5⟩
  · exact ⟨xs, .inl h, rfl, rfl⟩
  · have key : ∀ m, m ≤ cs.length → ∃ cs' : List Value, cs'.length = m ∧ ∀ j, j < m → W'.cell? ⟨g, o + j, none⟩ = cs'[j]? := fun m => by
      induction m with
      | zero => exact fun _ => ⟨[], rfl, fun j hj => absurd hj (Nat.not_lt_zero _)⟩
      | succ m ih =>
        intro hm
        obtain ⟨cs', k1, k2⟩ := ih (by omega)
        have hc : W.cell? ⟨g, o + m, none⟩ = some (cs[m]'(by omega)) := by rw [h4 m (by omega), List.getElem?_eq_getElem (by omega)]
        obtain ⟨v, hv⟩ : ∃ v, W'.cell? ⟨g, o + m, none⟩ = some v := by
          rcases hW.cell ⟨g, o + m, none⟩ with q | ⟨-, q⟩
          · exact ⟨_, by rw [q, hc]⟩
          · exact ⟨_, q⟩
        refine ⟨cs' ++ [v], by simp [k1], fun j hj => ?_⟩
        by_cases hjm : j < m
        · rw [k2 j hjm, List.getElem?_append_left (by omega)]
        · obtain rfl : j = m := by omega
          rw [hv, List.getElem?_append_right (by omega)]
          simp [k1]
    obtain ⟨cs', k1, k2⟩ := key cs.length (Nat.le_refl _)
    have hp : Pok z cs cs' := ⟨k1, fun j => by
      by_cases hj : j < cs.length
      · rw [← k2 j hj, ← h4 j hj]
        exact hW.cell _
      · left
        rw [List.getElem?_eq_none (by omega), List.getElem?_eq_none (by omega)]⟩
    obtain ⟨xs', q1, q2, q3⟩ := elems_pok hD hz hW xs cs cs' h5 hp
    exact ⟨xs', .inr ⟨g, o, cs', h1, h2, Nat.lt_of_lt_of_le h3 hW.size, fun j hj => k2 j (by omega), q1⟩, q2, q3⟩
theorem fo_pok {z : Int} {W W' : World} {S : Nat → Prop} (hz : Rg z) (hW : PokW z W W') : ∀ (f : Fo) (a : Option Addr), FoAt W S f a → ∃ f', FoAt W' S f' a ∧ f'.len = f.len ∧ pn f' = pn f
  | .nil, a, _ => ⟨.nil, trivial, rfl, rfl⟩
  | .cons op num den mode args rest, a, h => by
    obtain ⟨g, o, a2, cap2, ha, hS, hg, ⟨h0, h1, h2, h3, h4⟩, ⟨r0, r1, r2, r3⟩, hA, hR⟩ := h
    obtain ⟨op', c0, q0⟩ := hW.int hz r0 h0
    obtain ⟨num', c1, q1⟩ := hW.int hz r1 h1
    obtain ⟨den', c2, q2⟩ := hW.int hz r2 h2
    obtain ⟨mode', c3, q3⟩ := hW.int hz r3 h3
    have c4 := hW.other (fun n e => by cases e) h4
    obtain ⟨args', k1, k2, k3⟩ := fo_pok hz hW args a2 hA
    obtain ⟨rest', m1, m2, m3⟩ := fo_pok hz hW rest _ hR
    refine ⟨.cons op' num' den' mode' args' rest', ⟨g, o, a2, cap2, ha, hS, Nat.lt_of_lt_of_le hg hW.size, ⟨c0, c1, c2, c3, by rw [k2]; exact c4⟩, ⟨q0, q1, q2, q3⟩, k1, m1⟩, ?_, ?_⟩
    · show rest'.len + 1 = rest.len + 1
      rw [m2]
    · show 1 + pn args' + pn rest' = 1 + pn args + pn rest
      rw [k3, m3]
theorem pk_S : Pkd eS (fun s => 1 + s.length) := fun z W W' S x cs cs' hz hW h hp => by
  have h : cs = [.string ⟨x.toArray⟩] := h
  subst h
  obtain ⟨c1, rfl, p1⟩ := hp.other (fun n e => by cases e)
  rw [p1.nil]
  exact ⟨x, rfl, rfl⟩
theorem pk_Bd : Pkd eBd (fun _ => 1) := fun z W W' S x cs cs' hz hW h hp => by
  obtain ⟨rfl, r1, r2⟩ := h
  obtain ⟨n1, c1, rfl, q1, p1⟩ := hp.int hz r1
  obtain ⟨n2, c2, rfl, q2, p2⟩ := p1.int hz r2
  rw [p2.nil]
  exact ⟨(n1, n2), ⟨rfl, q1, q2⟩, rfl⟩
theorem pk_G : Pkd eG bkG := fun z W W' S x cs cs' hz hW h hp => by
  obtain ⟨rfl, r1⟩ := h
  obtain ⟨c1, rfl, p1⟩ := hp.other (fun n e => by cases e)
  obtain ⟨n2, c2, rfl, q2, p2⟩ := p1.int hz r1
  rw [p2.nil]
  exact ⟨(x.1, n2), ⟨rfl, q2⟩, rfl⟩
theorem pk_O : Pkd eO bkO := fun z W W' S x cs cs' hz hW h hp => by
  obtain ⟨a, cap, rfl, hR⟩ := h
  obtain ⟨c1, rfl, p1⟩ := hp.other (fun n e => by cases e)
  obtain ⟨c2, rfl, p2⟩ := p1.other (fun n e => by cases e)
  rw [p2.nil]
  obtain ⟨xs', k1, k2, k3⟩ := row_pok pk_S hz hW hR
  exact ⟨(x.1, xs'), ⟨a, cap, by rw [k2], k1⟩, by unfold bkO; rw [k3]⟩
theorem pk_T : Pkd eT bkT := fun z W W' S x cs cs' hz hW h hp => by
  obtain ⟨a, cap, rfl, hR⟩ := h
  obtain ⟨c1, rfl, p1⟩ := hp.other (fun n e => by cases e)
  obtain ⟨c2, rfl, p2⟩ := p1.other (fun n e => by cases e)
  rw [p2.nil]
  obtain ⟨xs', k1, k2, k3⟩ := row_pok pk_Bd hz hW hR
  exact ⟨(x.1, xs'), ⟨a, cap, by rw [k2], k1⟩, by unfold bkT; rw [k2]⟩
theorem pk_C : Pkd eC bkC := fun z W W' S x cs cs' hz hW h hp => by
  obtain ⟨a1, c1, a2, c2, rfl, r0, ⟨⟨r1, r2, r3, r4⟩, r5, r6, r7, r8⟩, hF1, hF2⟩ := h
  obtain ⟨n0, _, rfl, q0, p0⟩ := hp.int hz r0
  obtain ⟨_, rfl, p1⟩ := p0.other (fun n e => by cases e)
  obtain ⟨n1, _, rfl, q1, p2⟩ := p1.int hz r1
  obtain ⟨n2, _, rfl, q2, p3⟩ := p2.int hz r2
  obtain ⟨n3, _, rfl, q3, p4⟩ := p3.int hz r3
  obtain ⟨n4, _, rfl, q4, p5⟩ := p4.int hz r4
  obtain ⟨_, rfl, p6⟩ := p5.other (fun n e => by cases e)
  obtain ⟨n5, _, rfl, q5, p7⟩ := p6.int hz r5
  obtain ⟨n6, _, rfl, q6, p8⟩ := p7.int hz r6
  obtain ⟨n7, _, rfl, q7, p9⟩ := p8.int hz r7
  obtain ⟨n8, _, rfl, q8, p10⟩ := p9.int hz r8
  obtain ⟨_, rfl, p11⟩ := p10.other (fun n e => by cases e)
  rw [p11.nil]
  obtain ⟨f1, k1, k2, k3⟩ := fo_pok hz hW _ _ hF1
  obtain ⟨f2, m1, m2, m3⟩ := fo_pok hz hW _ _ hF2
  exact ⟨⟨n0, x.guarded, ⟨n1, n2, n3, n4, f1⟩, ⟨n5, n6, n7, n8, f2⟩⟩, ⟨a1, c1, a2, c2, by rw [k2, m2], q0, ⟨⟨q1, q2, q3, q4⟩, q5, q6, q7, q8⟩, k1, m1⟩, by unfold bkC; simp only []; rw [k3, m3]⟩
theorem pk_L : Pkd eL bkL := fun z W W' S x cs cs' hz hW h hp => by
  obtain ⟨a, c, rfl, ⟨r1, r2, r3⟩, hR⟩ := h
  obtain ⟨_, rfl, p0⟩ := hp.other (fun n e => by cases e)
  obtain ⟨_, rfl, p1⟩ := p0.other (fun n e => by cases e)
  obtain ⟨_, rfl, p2⟩ := p1.other (fun n e => by cases e)
  obtain ⟨n1, _, rfl, q1, p3⟩ := p2.int hz r1
  obtain ⟨n2, _, rfl, q2, p4⟩ := p3.int hz r2
  obtain ⟨n3, _, rfl, q3, p5⟩ := p4.int hz r3
  obtain ⟨_, rfl, p6⟩ := p5.other (fun n e => by cases e)
  rw [p6.nil]
  obtain ⟨xs', k1, k2, k3⟩ := row_pok pk_C hz hW hR
  exact ⟨⟨x.name, x.input, x.must, n1, n2, n3, xs'⟩, ⟨a, c, by rw [k2], ⟨q1, q2, q3⟩, k1⟩, by unfold bkL; simp only []; rw [k3]⟩
theorem pk_K : Pkd eK bkK := fun z W W' S x cs cs' hz hW h hp => by
  obtain ⟨a, c, rfl, r0, ⟨r1, r2, r3, r4⟩, hF⟩ := h
  obtain ⟨_, rfl, p0⟩ := hp.other (fun n e => by cases e)
  obtain ⟨_, rfl, p1⟩ := p0.other (fun n e => by cases e)
  obtain ⟨n0, _, rfl, q0, p2⟩ := p1.int hz r0
  obtain ⟨n1, _, rfl, q1, p3⟩ := p2.int hz r1
  obtain ⟨n2, _, rfl, q2, p4⟩ := p3.int hz r2
  obtain ⟨n3, _, rfl, q3, p5⟩ := p4.int hz r3
  obtain ⟨n4, _, rfl, q4, p6⟩ := p5.int hz r4
  obtain ⟨_, rfl, p7⟩ := p6.other (fun n e => by cases e)
  obtain ⟨_, rfl, p8⟩ := p7.other (fun n e => by cases e)
  rw [p8.nil]
  obtain ⟨f1, k1, k2, k3⟩ := fo_pok hz hW _ _ hF
  exact ⟨⟨x.name, x.hard, n0, ⟨n1, n2, n3, n4, f1⟩, x.text⟩, ⟨a, c, by rw [k2], q0, ⟨q1, q2, q3, q4⟩, k1⟩, by unfold bkK; simp only []; rw [k3]⟩
/-- The ints of what lies in memory are in their bounds. -/
theorem rgF_of {W : World} {S : Nat → Prop} : ∀ (f : Fo) (a : Option Addr), FoAt W S f a → RgF f
  | .nil, _, _ => trivial
  | .cons op num den mode args rest, a, h => by
    obtain ⟨g, o, a2, cap2, -, -, -, -, r, hA, hR⟩ := h
    exact ⟨r, rgF_of args a2 hA, rgF_of rest _ hR⟩
theorem row_each {α : Type} {D : Elt α} {W : World} {S : Nat → Prop} {xs : List α} {a : Option Addr} (h : RowR D W S xs a) {x : α} (hx : x ∈ xs) : ∃ cs, D.E W S x cs := by
  rcases h with h | ⟨g, o, cs, -, -, -, -, h5⟩
  · rw [h] at hx; cases hx
  · obtain ⟨i, hi, rfl⟩ := List.getElem_of_mem hx
    exact ⟨_, h5.2 i hi⟩
/-- The lists of a pack in memory. -/
structure Rows (W : World) (S : Nat → Prop) (p : Pk) (a3 a4 a5 a6 a7 : Option Addr) : Prop where
  o : RowR eO W S p.opts a3
  t : RowR eT W S p.tabs a4
  g : RowR eG W S p.grps a5
  l : RowR eL W S p.lns a6
  k : RowR eK W S p.cks a7
theorem Rows.fr {W W' : World} {S : Nat → Prop} {p : Pk} {a3 a4 a5 a6 a7 : Option Addr} (h : Rows W S p a3 a4 a5 a6 a7) (hs : W.heap.size ≤ W'.heap.size) (hb : ∀ b, S b → b < W.heap.size → W'.heap[b]? = W.heap[b]?) : Rows W' S p a3 a4 a5 a6 a7 := ⟨h.o.fr hs hb, h.t.fr hs hb, h.g.fr hs hb, h.l.fr hs hb, h.k.fr hs hb⟩
theorem Rows.mo {W : World} {S S' : Nat → Prop} {p : Pk} {a3 a4 a5 a6 a7 : Option Addr} (h : Rows W S p a3 a4 a5 a6 a7) (hb : ∀ b, b < W.heap.size → S b → S' b) : Rows W S' p a3 a4 a5 a6 a7 := ⟨h.o.mo hb, h.t.mo hb, h.g.mo hb, h.l.mo hb, h.k.mo hb⟩
theorem Rows.rg {W : World} {S : Nat → Prop} {p : Pk} {a3 a4 a5 a6 a7 : Option Addr} (h : Rows W S p a3 a4 a5 a6 a7) (hy : Rg p.year) : RgP p := by
  refine ⟨hy, fun x hx b hb => ?_, fun x hx => ?_, fun x hx => ?_, fun x hx => ?_⟩
  · obtain ⟨cs, a, c, -, hR⟩ := row_each h.t hx
    obtain ⟨cs2, -, h2⟩ := row_each hR hb
    exact h2
  · obtain ⟨cs, -, h2⟩ := row_each h.g hx
    exact h2
  · obtain ⟨cs, a, c, -, h2, hR⟩ := row_each h.l hx
    refine ⟨h2, fun y hy => ?_⟩
    obtain ⟨cs2, a1, c1, a2, c2, -, r0, ⟨r1, r2⟩, hF1, hF2⟩ := row_each hR hy
    exact ⟨r0, ⟨r1, rgF_of _ _ hF1⟩, r2, rgF_of _ _ hF2⟩
  · obtain ⟨cs, a, c, -, h2, h3, hF⟩ := row_each h.k hx
    exact ⟨h2, h3, rgF_of _ _ hF⟩
/-- One int is turned: a pack of the same size lies there. -/
theorem Rows.pok {z : Int} {W W' : World} {S : Nat → Prop} {p : Pk} {a3 a4 a5 a6 a7 : Option Addr} (hz : Rg z) (hW : PokW z W W') (h : Rows W S p a3 a4 a5 a6 a7) : ∃ q : Pk, Rows W' S q a3 a4 a5 a6 a7 ∧ q.name = p.name ∧ q.year = p.year ∧ q.opts.length = p.opts.length ∧ q.tabs.length = p.tabs.length ∧ q.grps.length = p.grps.length ∧ q.lns.length = p.lns.length ∧ q.cks.length = p.cks.length ∧ BK q = BK p := by
  obtain ⟨o', o1, o2, o3⟩ := row_pok pk_O hz hW h.o
  obtain ⟨t', t1, t2, t3⟩ := row_pok pk_T hz hW h.t
  obtain ⟨g', g1, g2, g3⟩ := row_pok pk_G hz hW h.g
  obtain ⟨l', l1, l2, l3⟩ := row_pok pk_L hz hW h.l
  obtain ⟨k', k1, k2, k3⟩ := row_pok pk_K hz hW h.k
  exact ⟨⟨p.name, p.year, o', t', g', l', k'⟩, ⟨o1, t1, g1, l1, k1⟩, rfl, rfl, o2, t2, g2, l2, k2, by unfold BK; simp only []; rw [o3, t3, g3, l3, k3]⟩
theorem pokw_set {z n : Int} {W : World} {a : Addr} (h : W.cell? a = some (.int .i64 n)) : PokW z W (W.setCell a (.int .i64 z)) := by
  refine ⟨by simp [World.setCell], fun b => ?_⟩
  by_cases hb : b = a
  · subst hb
    exact .inr ⟨⟨n, h⟩, World.cell?_setCell_same _ _ _ h⟩
  · exact .inl (World.cell?_setCell_other _ _ _ _ (fun e => hb e.symm))

end Go.Proofs.Ytjgkjdalnjlefaa.V


/- A pack that came in, and its bulk. -/
namespace Go.Proofs.Ytjgkjdalnjlefaa.V
open Go.ChangeShapes Go.WideShapes Go.ChangeAt Go.WideMaps Go.WideElems Go.RowKit

abbrev ub {H : Type} (d : DataW H) : Nat := Rows.uptoBulk d
theorem ub_one {H : Type} (d : DataW H) : 1 ≤ Rows.uptoBulk d := by
  cases d with
  | lit l => cases l <;> simp [Rows.uptoBulk]
  | nil => simp [Rows.uptoBulk]
  | ptr d => simp [Rows.uptoBulk]
  | slice elems spare => simp [Rows.uptoBulk]
  | agg parts => simp [Rows.uptoBulk]
  | iface t d => simp [Rows.uptoBulk]
  | map entries => simp [Rows.uptoBulk]
  | held h => simp [Rows.uptoBulk]
theorem uba_app {H : Type} (l r : List (DataW H)) : Rows.uptoBulkAll (l ++ r) = Rows.uptoBulkAll l + Rows.uptoBulkAll r := by
  induction l with
  | nil => simp [Rows.uptoBulkAll]
  | cons x l ih => simp only [List.cons_append, Rows.uptoBulkAll, ih]; omega
theorem ub_str {H : Type} (s : List UInt8) : Rows.uptoBulk (DataW.lit (H := H) (.string s)) = s.length + 1 := by simp [Rows.uptoBulk]
set_option maxRecDepth 100000 in
/-- A list that came in, whatever its items are. -/
theorem bopen_row {α : Type} (D : Elt α) (f : α → Nat) {t e : TypeId} (ht : Try.prog.underlying t = some (.slice e)) (hk : Try.prog.cellsOf e = D.k) (hp : 0 < D.k) {H : Type} {enc : TypeId × Value → H} {W : World} {fuel : Nat} {cs : List Value} {x : DataW H × List MemPlace} (hf : DataW.trod enc Try.prog W 0 (fun _ => true) true fuel t cs = some x)
    (el : ∀ (n : Nat) (cs' : List Value) (x' : DataW H × List MemPlace), n < fuel → cs'.length = D.k → DataW.trod enc Try.prog W 0 (fun _ => true) true n e cs' = some x' → ∃ o, D.E W AnyB o cs' ∧ f o ≤ Rows.uptoBulk x'.1) : ∃ (l : List α) (a : Option Addr) (cap : Nat), cs = [.slice a l.length cap] ∧ (l.map f).sum + 1 ≤ Rows.uptoBulk x.1 ∧ RowR D W AnyB l a := by
  rcases DataW.trod_slice ht hf with ⟨hcs, hx⟩ | ⟨a, len, cap, elems, rest, n, hfu, hcs, hx, _, hl, hm, hlen, hel, -, -⟩
  · exact ⟨[], none, 0, hcs, by simpa using ub_one _, .inl rfl⟩
  · rw [hk] at hel
    by_cases h0 : len = 0
    · subst h0
      exact ⟨[], some a, cap, hcs, by simpa using ub_one _, .inl rfl⟩
    have key0 : ∀ i (hi : i < len), ∃ cs', W.cells? 0 (a.add (i * D.k)) D.k = some cs' ∧ DataW.trod enc Try.prog W 0 (fun _ => true) true n e cs' = some (elems[i]'(by omega)) := fun i hi => by
      have h := hel i hi
      rw [List.getElem?_eq_getElem (by omega)] at h
      cases hc : W.cells? 0 (a.add (i * D.k)) D.k with
      | none => rw [hc] at h; cases h
      | some cs' =>
        rw [hc] at h
        exact ⟨cs', rfl, h⟩
    obtain ⟨b, off, spot⟩ := a
    have hspot : spot = none := by
      obtain ⟨cs', h1, -⟩ := key0 0 (by omega)
      obtain ⟨_, hlen, hc⟩ := World.cells?_some h1
      have h2 := hc 0 (by omega)
      obtain ⟨c, hcc⟩ : ∃ c, cs'[0]? = some c := ⟨cs'[0]'(by omega), List.getElem?_eq_getElem _⟩
      rw [hcc] at h2
      simpa [Addr.add] using World.cell?_spot h2
    subst hspot
    have key : ∀ i (hi : i < len), ∃ oc : α × List Value, oc.2.length = D.k ∧ D.E W AnyB oc.1 oc.2 ∧ f oc.1 ≤ Rows.uptoBulk (elems[i]'(by omega)).1 ∧ ∀ j, j < D.k → W.cell? ⟨b, off + i * D.k + j, none⟩ = oc.2[j]? := fun i hi => by
      obtain ⟨cs', h1, h2⟩ := key0 i hi
      obtain ⟨_, hlen', hc⟩ := World.cells?_some h1
      obtain ⟨o, ho, hz⟩ := el n cs' _ (by omega) hlen' h2
      refine ⟨(o, cs'), hlen', ho, hz, fun j hj => ?_⟩
      have := hc j hj
      rwa [add_plain, add_plain] at this
    obtain ⟨q, hq⟩ : ∃ q : Nat → α × List Value, ∀ i (hi : i < len), (q i).2.length = D.k ∧ D.E W AnyB (q i).1 (q i).2 ∧ f (q i).1 ≤ Rows.uptoBulk (elems[i]'(by omega)).1 ∧ ∀ j, j < D.k → W.cell? ⟨b, off + i * D.k + j, none⟩ = (q i).2[j]? := by
      obtain ⟨o0, -⟩ := key 0 (by omega)
      refine ⟨fun i => if h : i < len then Classical.choose (key i h) else o0, fun i hi => ?_⟩
      simp only [dif_pos hi]
      exact Classical.choose_spec (key i hi)
    have hb : b < W.heap.size := by
      have h := (hq 0 (by omega)).2.2.2 0 hp
      rw [List.getElem?_eq_getElem (by rw [(hq 0 (by omega)).1]; exact hp)] at h
      exact World.block_lt_of_cell? _ _ h
    have hrow : ∀ m, m ≤ len → ∃ cs2, Elems D W AnyB ((List.range m).map (fun i => (q i).1)) cs2 ∧ (((List.range m).map (fun i => (q i).1)).map f).sum ≤ Rows.uptoBulkAll ((elems.take m).map (·.1)) ∧ ∀ j, j < cs2.length → W.cell? ⟨b, off + j, none⟩ = cs2[j]? := fun m => by
      induction m with
      | zero => exact fun _ => ⟨[], Elems.nil _ _ _, by simp, fun j hj => by simp at hj⟩
      | succ m ih =>
        intro hm1
        obtain ⟨cs2, h1, h3, h2⟩ := ih (by omega)
        obtain ⟨g1, g2, g3, g4⟩ := hq m (by omega)
        have hcl := h1.1
        rw [List.length_map, List.length_range] at hcl
        refine ⟨cs2 ++ (q m).2, by rw [List.range_succ, List.map_append]; exact h1.snoc g2, ?_, fun j hj => ?_⟩
        · rw [List.range_succ, List.take_succ_eq_append_getElem (by omega : m < elems.length)]
          simp only [List.map_append, List.map_cons, List.map_nil, List.sum_append, List.sum_cons, List.sum_nil, uba_app, Rows.uptoBulkAll]
          omega
        by_cases hj2 : j < cs2.length
        · rw [h2 j hj2, List.getElem?_append_left hj2]
        · rw [List.length_append, g1] at hj
          have := g4 (j - cs2.length) (by omega)
          rw [List.getElem?_append_right (by omega), ← this]
          congr 2
          omega
    obtain ⟨cs2, h1, h3, h2⟩ := hrow len (Nat.le_refl _)
    refine ⟨(List.range len).map (fun i => (q i).1), some ⟨b, off, none⟩, cap, by rw [List.length_map, List.length_range]; exact hcs, ?_, .inr ⟨b, off, cs2, rfl, trivial, hb, h2, h1⟩⟩
    rw [← hlen, List.take_length, hlen] at h3
    rw [hx]
    simp only [Rows.uptoBulk]
    omega
theorem pn_ofL : ∀ l : List Ex, pn (ofL l) = (l.map (fun y => 1 + pn y.args)).sum
  | [] => rfl
  | e :: l => by
    show 1 + pn e.args + pn (ofL l) = _
    rw [pn_ofL l, List.map_cons, List.sum_cons]
def bkE (x : Ex) : Nat := 2 + 2 * pn x.args
theorem bkE_sum (l : List Ex) : (l.map bkE).sum = 2 * pn (ofL l) := by
  rw [pn_ofL]
  induction l with
  | nil => rfl
  | cons e l ih =>
    rw [List.map_cons, List.sum_cons, List.map_cons, List.sum_cons, ih]
    unfold bkE
    omega
set_option maxRecDepth 100000 in
set_option maxHeartbeats 1000000 in
theorem bopen_expr {H : Type} {enc : TypeId × Value → H} {W : World} : ∀ (fuel : Nat) (cs : List Value) (x : DataW H × List MemPlace), DataW.trod enc Try.prog W 0 (fun _ => true) true fuel 83 cs = some x → ∃ o, eE.E W AnyB o cs ∧ bkE o ≤ Rows.uptoBulk x.1 := fun fuel => by
  induction fuel using Nat.strongRecOn with
  | _ fuel ih =>
    intro cs x hf
    obtain ⟨xs, n, hfu, hx, hcl, hl, hg⟩ := DataW.trod_struct Try.underlying83 hf
    rw [cellsE] at hcl
    match cs, hcl, xs, hl with
    | [v0, v1, v2, v3, v4], _, [y0, y1, y2, y3, y4], _ =>
      have g0 := hg 0 _ rfl
      have g1 := hg 1 _ rfl
      have g2 := hg 2 _ rfl
      have g3 := hg 3 _ rfl
      have g4 := hg 4 _ rfl
      simp [cellsI, cellsI64, cellsSE] at g0 g1 g2 g3 g4
      obtain ⟨z0, e0, _, w0⟩ := DataW.trod_int Try.underlying3 g0
      obtain ⟨z1, e1, _, w1⟩ := DataW.trod_int Try.underlying2 g1
      obtain ⟨z2, e2, _, w2⟩ := DataW.trod_int Try.underlying2 g2
      obtain ⟨z3, e3, _, w3⟩ := DataW.trod_int Try.underlying3 g3
      obtain ⟨l, a, cap, e4, h4, hR⟩ := bopen_row eE bkE Try.underlying81 cellsE (by decide) g4 (fun m cs' x' hm _ h => ih m (by omega) cs' x' h)
      simp at e0 e1 e2 e3 e4
      subst e0 e1 e2 e3 e4
      refine ⟨⟨z0, z1, z2, z3, ofL l⟩, ⟨a, cap, by simp only [ofL_len], ⟨rg_of w0, rg_of w1, rg_of w2, rg_of w3⟩, fo_of_row hR⟩, by rw [hx]; simp only [List.map_cons, List.map_nil, Rows.uptoBulk, Rows.uptoBulkAll]; have o0 := ub_one y0.1; have o1 := ub_one y1.1; have o2 := ub_one y2.1; have o3 := ub_one y3.1; rw [bkE_sum] at h4; unfold bkE; simp only []; omega⟩

theorem bopen_text {H : Type} {enc : TypeId × Value → H} {W : World} (fuel : Nat) (cs : List Value) (x : DataW H × List MemPlace) (hf : DataW.trod enc Try.prog W 0 (fun _ => true) true fuel 9 cs = some x) : ∃ o : List UInt8, eS.E W AnyB o cs ∧ (1 + o.length ≤ Rows.uptoBulk x.1) := by
  obtain ⟨s, e, r0', _⟩ := DataW.trod_string Try.underlying9 hf
  exact ⟨s.data.toList, by rw [e]; rfl, by rw [r0', ub_str]; omega⟩
set_option maxRecDepth 100000 in
set_option maxHeartbeats 1000000 in
theorem bopen_band {H : Type} {enc : TypeId × Value → H} {W : World} (fuel : Nat) (cs : List Value) (x : DataW H × List MemPlace) (hf : DataW.trod enc Try.prog W 0 (fun _ => true) true fuel 77 cs = some x) : ∃ o : Int × Int, eBd.E W AnyB o cs ∧ (1 ≤ Rows.uptoBulk x.1) := by
  obtain ⟨xs, n, hfu, hx, hcl, hl, hg⟩ := DataW.trod_struct Try.underlying77 hf
  rw [show Try.prog.cellsOf 77 = 2 from by kernel_rfl] at hcl
  match cs, hcl, xs, hl with
  | [v0, v1], _, [y0, y1], _ =>
    have g0 := hg 0 _ rfl
    have g1 := hg 1 _ rfl
    simp [cellsI64] at g0 g1
    obtain ⟨z0, e0, _, w0⟩ := DataW.trod_int Try.underlying2 g0
    obtain ⟨z1, e1, _, w1⟩ := DataW.trod_int Try.underlying2 g1
    simp at e0 e1
    subst e0
    subst e1
    exact ⟨(z0, z1), ⟨rfl, rg_of w0, rg_of w1⟩, ub_one _⟩
set_option maxRecDepth 100000 in
set_option maxHeartbeats 1000000 in
theorem bopen_group {H : Type} {enc : TypeId × Value → H} {W : World} (fuel : Nat) (cs : List Value) (x : DataW H × List MemPlace) (hf : DataW.trod enc Try.prog W 0 (fun _ => true) true fuel 72 cs = some x) : ∃ o : List UInt8 × Int, eG.E W AnyB o cs ∧ (bkG o ≤ Rows.uptoBulk x.1) := by
  obtain ⟨xs, n, hfu, hx, hcl, hl, hg⟩ := DataW.trod_struct Try.underlying72 hf
  rw [show Try.prog.cellsOf 72 = 2 from by kernel_rfl] at hcl
  match cs, hcl, xs, hl with
  | [v0, v1], _, [y0, y1], _ =>
    have g0 := hg 0 _ rfl
    have g1 := hg 1 _ rfl
    simp [cellsI, cellsS] at g0 g1
    obtain ⟨s0, e0, r0', _⟩ := DataW.trod_string Try.underlying9 g0
    obtain ⟨z1, e1, _, w1⟩ := DataW.trod_int Try.underlying3 g1
    simp at e0 e1
    subst e0
    subst e1
    exact ⟨(s0.data.toList, z1), ⟨rfl, rg_of w1⟩, by rw [hx]; simp only [List.map_cons, List.map_nil, Rows.uptoBulk, Rows.uptoBulkAll]; rw [r0', ub_str]; unfold bkG; simp only []; omega⟩
set_option maxRecDepth 100000 in
set_option maxHeartbeats 1000000 in
theorem bopen_options {H : Type} {enc : TypeId × Value → H} {W : World} (fuel : Nat) (cs : List Value) (x : DataW H × List MemPlace) (hf : DataW.trod enc Try.prog W 0 (fun _ => true) true fuel 105 cs = some x) : ∃ o : List UInt8 × List (List UInt8), eO.E W AnyB o cs ∧ (bkO o ≤ Rows.uptoBulk x.1) := by
  obtain ⟨xs, n, hfu, hx, hcl, hl, hg⟩ := DataW.trod_struct Try.underlying105 hf
  rw [show Try.prog.cellsOf 105 = 2 from by kernel_rfl] at hcl
  match cs, hcl, xs, hl with
  | [v0, v1], _, [y0, y1], _ =>
    have g0 := hg 0 _ rfl
    have g1 := hg 1 _ rfl
    simp [cellsS, cellsSS] at g0 g1
    obtain ⟨s0, e0, r0', _⟩ := DataW.trod_string Try.underlying9 g0
    obtain ⟨l1, a1, c1, e1, h1, R1⟩ := bopen_row eS (fun s => 1 + s.length) Try.underlying103 (by kernel_rfl) (by decide) g1 (fun m cs' x' _ _ h => bopen_text m cs' x' h)
    simp at e0 e1
    subst e0
    subst e1
    exact ⟨(s0.data.toList, l1), ⟨a1, c1, rfl, R1⟩, by rw [hx]; simp only [List.map_cons, List.map_nil, Rows.uptoBulk, Rows.uptoBulkAll]; rw [r0', ub_str]; unfold bkO; simp only []; omega⟩
set_option maxRecDepth 100000 in
set_option maxHeartbeats 1000000 in
theorem bopen_table {H : Type} {enc : TypeId × Value → H} {W : World} (fuel : Nat) (cs : List Value) (x : DataW H × List MemPlace) (hf : DataW.trod enc Try.prog W 0 (fun _ => true) true fuel 75 cs = some x) : ∃ o : List UInt8 × List (Int × Int), eT.E W AnyB o cs ∧ (bkT o ≤ Rows.uptoBulk x.1) := by
  obtain ⟨xs, n, hfu, hx, hcl, hl, hg⟩ := DataW.trod_struct Try.underlying75 hf
  rw [show Try.prog.cellsOf 75 = 2 from by kernel_rfl] at hcl
  match cs, hcl, xs, hl with
  | [v0, v1], _, [y0, y1], _ =>
    have g0 := hg 0 _ rfl
    have g1 := hg 1 _ rfl
    simp [cellsS, cellsSB] at g0 g1
    obtain ⟨s0, e0, r0', _⟩ := DataW.trod_string Try.underlying9 g0
    obtain ⟨l1, a1, c1, e1, h1, R1⟩ := bopen_row eBd (fun _ => 1) Try.underlying73 (by kernel_rfl) (by decide) g1 (fun m cs' x' _ _ h => bopen_band m cs' x' h)
    simp at e0 e1
    subst e0
    subst e1
    exact ⟨(s0.data.toList, l1), ⟨a1, c1, rfl, R1⟩, by rw [hx]; simp only [List.map_cons, List.map_nil, Rows.uptoBulk, Rows.uptoBulkAll]; rw [r0', ub_str]; have h := sum_len (fun _ : Int × Int => 1) (fun _ => Nat.le_refl _) l1; unfold bkT; simp only []; omega⟩
set_option maxRecDepth 100000 in
set_option maxHeartbeats 1000000 in
theorem bopen_clause {H : Type} {enc : TypeId × Value → H} {W : World} (fuel : Nat) (cs : List Value) (x : DataW H × List MemPlace) (hf : DataW.trod enc Try.prog W 0 (fun _ => true) true fuel 108 cs = some x) : ∃ o : Cl, eC.E W AnyB o cs ∧ (bkC o ≤ Rows.uptoBulk x.1) := by
  obtain ⟨xs, n, hfu, hx, hcl, hl, hg⟩ := DataW.trod_struct Try.underlying108 hf
  rw [show Try.prog.cellsOf 108 = 12 from by kernel_rfl] at hcl
  match cs, hcl, xs, hl with
  | [v0, v1, v2, v3, v4, v5, v6, v7, v8, v9, v10, v11], _, [y0, y1, y2, y3], _ =>
    have g0 := hg 0 _ rfl
    have g1 := hg 1 _ rfl
    have g2 := hg 2 _ rfl
    have g3 := hg 3 _ rfl
    simp [cellsI, cellsBo, cellsE] at g0 g1 g2 g3
    obtain ⟨z0, e0, _, w0⟩ := DataW.trod_int Try.underlying3 g0
    obtain ⟨z1, e1, _⟩ := DataW.trod_bool Try.underlying4 g1
    obtain ⟨x2, ⟨a2, c2, e2, r2, f2⟩, s2⟩ := bopen_expr _ _ _ g2
    obtain ⟨x3, ⟨a3, c3, e3, r3, f3⟩, s3⟩ := bopen_expr _ _ _ g3
    simp at e0 e1 e2 e3
    subst e0
    subst e1
    obtain ⟨e2_0, e2_1, e2_2, e2_3, e2_4⟩ := e2
    subst e2_0 e2_1 e2_2 e2_3 e2_4
    obtain ⟨e3_0, e3_1, e3_2, e3_3, e3_4⟩ := e3
    subst e3_0 e3_1 e3_2 e3_3 e3_4
    exact ⟨⟨z0, z1, x2, x3⟩, ⟨a2, c2, a3, c3, rfl, rg_of w0, ⟨r2, r3⟩, f2, f3⟩, by rw [hx]; simp only [List.map_cons, List.map_nil, Rows.uptoBulk, Rows.uptoBulkAll]; have o0 := ub_one y0.1; have o1 := ub_one y1.1; unfold bkE at s2 s3; unfold bkC; simp only []; omega⟩
set_option maxRecDepth 100000 in
set_option maxHeartbeats 1000000 in
theorem bopen_line {H : Type} {enc : TypeId × Value → H} {W : World} (fuel : Nat) (cs : List Value) (x : DataW H × List MemPlace) (hf : DataW.trod enc Try.prog W 0 (fun _ => true) true fuel 80 cs = some x) : ∃ o : Ln, eL.E W AnyB o cs ∧ (bkL o ≤ Rows.uptoBulk x.1) := by
  obtain ⟨xs, n, hfu, hx, hcl, hl, hg⟩ := DataW.trod_struct Try.underlying80 hf
  rw [show Try.prog.cellsOf 80 = 7 from by kernel_rfl] at hcl
  match cs, hcl, xs, hl with
  | [v0, v1, v2, v3, v4, v5, v6], _, [y0, y1, y2, y3, y4, y5, y6], _ =>
    have g0 := hg 0 _ rfl
    have g1 := hg 1 _ rfl
    have g2 := hg 2 _ rfl
    have g3 := hg 3 _ rfl
    have g4 := hg 4 _ rfl
    have g5 := hg 5 _ rfl
    have g6 := hg 6 _ rfl
    simp [cellsI, cellsS, cellsBo, cellsSC] at g0 g1 g2 g3 g4 g5 g6
    obtain ⟨s0, e0, r0', _⟩ := DataW.trod_string Try.underlying9 g0
    obtain ⟨z1, e1, _⟩ := DataW.trod_bool Try.underlying4 g1
    obtain ⟨z2, e2, _⟩ := DataW.trod_bool Try.underlying4 g2
    obtain ⟨z3, e3, _, w3⟩ := DataW.trod_int Try.underlying3 g3
    obtain ⟨z4, e4, _, w4⟩ := DataW.trod_int Try.underlying3 g4
    obtain ⟨z5, e5, _, w5⟩ := DataW.trod_int Try.underlying3 g5
    obtain ⟨l6, a6, c6, e6, h6, R6⟩ := bopen_row eC bkC Try.underlying78 (by kernel_rfl) (by decide) g6 (fun m cs' x' _ _ h => bopen_clause m cs' x' h)
    simp at e0 e1 e2 e3 e4 e5 e6
    subst e0
    subst e1
    subst e2
    subst e3
    subst e4
    subst e5
    subst e6
    exact ⟨⟨s0.data.toList, z1, z2, z3, z4, z5, l6⟩, ⟨a6, c6, rfl, ⟨rg_of w3, rg_of w4, rg_of w5⟩, R6⟩, by rw [hx]; simp only [List.map_cons, List.map_nil, Rows.uptoBulk, Rows.uptoBulkAll]; rw [r0', ub_str]; unfold bkL; simp only []; omega⟩
set_option maxRecDepth 100000 in
set_option maxHeartbeats 1000000 in
theorem bopen_check {H : Type} {enc : TypeId × Value → H} {W : World} (fuel : Nat) (cs : List Value) (x : DataW H × List MemPlace) (hf : DataW.trod enc Try.prog W 0 (fun _ => true) true fuel 85 cs = some x) : ∃ o : Ck, eK.E W AnyB o cs ∧ (bkK o ≤ Rows.uptoBulk x.1) := by
  obtain ⟨xs, n, hfu, hx, hcl, hl, hg⟩ := DataW.trod_struct Try.underlying85 hf
  rw [show Try.prog.cellsOf 85 = 9 from by kernel_rfl] at hcl
  match cs, hcl, xs, hl with
  | [v0, v1, v2, v3, v4, v5, v6, v7, v8], _, [y0, y1, y2, y3, y4], _ =>
    have g0 := hg 0 _ rfl
    have g1 := hg 1 _ rfl
    have g2 := hg 2 _ rfl
    have g3 := hg 3 _ rfl
    have g4 := hg 4 _ rfl
    simp [cellsI, cellsS, cellsBo, cellsE] at g0 g1 g2 g3 g4
    obtain ⟨s0, e0, r0', _⟩ := DataW.trod_string Try.underlying9 g0
    obtain ⟨z1, e1, _⟩ := DataW.trod_bool Try.underlying4 g1
    obtain ⟨z2, e2, _, w2⟩ := DataW.trod_int Try.underlying3 g2
    obtain ⟨x3, ⟨a3, c3, e3, r3, f3⟩, s3⟩ := bopen_expr _ _ _ g3
    obtain ⟨s4, e4, r4', _⟩ := DataW.trod_string Try.underlying9 g4
    simp at e0 e1 e2 e3 e4
    subst e0
    subst e1
    subst e2
    obtain ⟨e3_0, e3_1, e3_2, e3_3, e3_4⟩ := e3
    subst e3_0 e3_1 e3_2 e3_3 e3_4
    subst e4
    exact ⟨⟨s0.data.toList, z1, z2, x3, s4.data.toList⟩, ⟨a3, c3, rfl, rg_of w2, r3, f3⟩, by rw [hx]; simp only [List.map_cons, List.map_nil, Rows.uptoBulk, Rows.uptoBulkAll]; rw [r0', r4', ub_str, ub_str]; unfold bkE at s3; unfold bkK; simp only []; omega⟩
set_option maxRecDepth 100000 in
set_option maxHeartbeats 1000000 in
theorem bopen_pack {H : Type} {enc : TypeId × Value → H} {W : World} (fuel : Nat) (cs : List Value) (x : DataW H × List MemPlace) (hf : DataW.trod enc Try.prog W 0 (fun _ => true) true fuel 29 cs = some x) : ∃ o : Pk, PkE W AnyB o cs ∧ (BK o ≤ Rows.uptoBulk x.1) := by
  obtain ⟨xs, n, hfu, hx, hcl, hl, hg⟩ := DataW.trod_struct Try.underlying29 hf
  rw [show Try.prog.cellsOf 29 = 7 from by kernel_rfl] at hcl
  match cs, hcl, xs, hl with
  | [v0, v1, v2, v3, v4, v5, v6], _, [y0, y1, y2, y3, y4, y5, y6], _ =>
    have g0 := hg 0 _ rfl
    have g1 := hg 1 _ rfl
    have g2 := hg 2 _ rfl
    have g3 := hg 3 _ rfl
    have g4 := hg 4 _ rfl
    have g5 := hg 5 _ rfl
    have g6 := hg 6 _ rfl
    simp [cellsI, cellsS, cellsSG, cellsSK, cellsSL, cellsSO, cellsST] at g0 g1 g2 g3 g4 g5 g6
    obtain ⟨s0, e0, r0', _⟩ := DataW.trod_string Try.underlying9 g0
    obtain ⟨z1, e1, _, w1⟩ := DataW.trod_int Try.underlying3 g1
    obtain ⟨l2, a2, c2, e2, h2, R2⟩ := bopen_row eO bkO Try.underlying23 (by kernel_rfl) (by decide) g2 (fun m cs' x' _ _ h => bopen_options m cs' x' h)
    obtain ⟨l3, a3, c3, e3, h3, R3⟩ := bopen_row eT bkT Try.underlying24 (by kernel_rfl) (by decide) g3 (fun m cs' x' _ _ h => bopen_table m cs' x' h)
    obtain ⟨l4, a4, c4, e4, h4, R4⟩ := bopen_row eG bkG Try.underlying25 (by kernel_rfl) (by decide) g4 (fun m cs' x' _ _ h => bopen_group m cs' x' h)
    obtain ⟨l5, a5, c5, e5, h5, R5⟩ := bopen_row eL bkL Try.underlying26 (by kernel_rfl) (by decide) g5 (fun m cs' x' _ _ h => bopen_line m cs' x' h)
    obtain ⟨l6, a6, c6, e6, h6, R6⟩ := bopen_row eK bkK Try.underlying27 (by kernel_rfl) (by decide) g6 (fun m cs' x' _ _ h => bopen_check m cs' x' h)
    simp at e0 e1 e2 e3 e4 e5 e6
    subst e0
    subst e1
    subst e2
    subst e3
    subst e4
    subst e5
    subst e6
    exact ⟨⟨s0.data.toList, z1, l2, l3, l4, l5, l6⟩, ⟨a2, c2, a3, c3, a4, c4, a5, c5, a6, c6, rfl, rg_of w1, R2, R3, R4, R5, R6⟩, by rw [hx]; simp only [List.map_cons, List.map_nil, Rows.uptoBulk, Rows.uptoBulkAll]; rw [r0', ub_str]; unfold BK; simp only []; omega⟩


end Go.Proofs.Ytjgkjdalnjlefaa.V


namespace Go.Proofs.Ytjgkjdalnjlefaa
open Go.RowKit

set_option maxHeartbeats 1000000 in
theorem holdBytes_nil (R : Nat) (W : World) (c : W.cell? ⟨R, 0, none⟩ = some (.slice none 0 0)) : Calls Try.prog 30 #[.pointer (some ⟨R, 0, none⟩)] W fun e W' => e = .returned (.bool true) ∧ Below W.heap.size W W' := by
  go_enter Try.func30, Try.ntmps30
  go_wp2
  refine wp_loop_rounds 1 ?_
  rw [rounds_succ]
  have c2 := fun o => ((Below.refl W.heap.size W).alloc (Nat.le_refl _) o).cell (p := ⟨R, 0, none⟩) (World.block_lt_of_cell? _ _ c)
  simp only [c] at c2
  go_wp2
  go_ret
  exact ⟨rfl, (Below.refl _ _).alloc (Nat.le_refl _) _⟩

set_option maxHeartbeats 1000000 in
theorem holdInts_nil (R : Nat) (W : World) (c : W.cell? ⟨R, 1, none⟩ = some (.slice none 0 0)) : Calls Try.prog 31 #[.pointer (some ⟨R, 0, none⟩)] W fun e W' => e = .returned (.bool true) ∧ Below W.heap.size W W' := by
  go_enter Try.func31, Try.ntmps31
  go_wp2
  refine wp_loop_rounds 1 ?_
  rw [rounds_succ]
  have c2 := fun o => ((Below.refl W.heap.size W).alloc (Nat.le_refl _) o).cell (p := ⟨R, 1, none⟩) (World.block_lt_of_cell? _ _ c)
  simp only [c] at c2
  go_wp2
  go_ret
  exact ⟨rfl, (Below.refl _ _).alloc (Nat.le_refl _) _⟩

set_option maxHeartbeats 1000000 in
theorem holdCells_nil (R : Nat) (W : World) (c : W.cell? ⟨R, 2, none⟩ = some (.slice none 0 0)) : Calls Try.prog 32 #[.pointer (some ⟨R, 0, none⟩)] W fun e W' => e = .returned (.bool true) ∧ Below W.heap.size W W' := by
  go_enter Try.func32, Try.ntmps32
  go_wp2
  refine wp_loop_rounds 1 ?_
  rw [rounds_succ]
  have c2 := fun o => ((Below.refl W.heap.size W).alloc (Nat.le_refl _) o).cell (p := ⟨R, 2, none⟩) (World.block_lt_of_cell? _ _ c)
  simp only [c] at c2
  go_wp2
  go_ret
  exact ⟨rfl, (Below.refl _ _).alloc (Nat.le_refl _) _⟩

set_option maxHeartbeats 1000000 in
theorem holdBools_nil (R : Nat) (W : World) (c : W.cell? ⟨R, 3, none⟩ = some (.slice none 0 0)) : Calls Try.prog 33 #[.pointer (some ⟨R, 0, none⟩)] W fun e W' => e = .returned (.bool true) ∧ Below W.heap.size W W' := by
  go_enter Try.func33, Try.ntmps33
  go_wp2
  refine wp_loop_rounds 1 ?_
  rw [rounds_succ]
  have c2 := fun o => ((Below.refl W.heap.size W).alloc (Nat.le_refl _) o).cell (p := ⟨R, 3, none⟩) (World.block_lt_of_cell? _ _ c)
  simp only [c] at c2
  go_wp2
  go_ret
  exact ⟨rfl, (Below.refl _ _).alloc (Nat.le_refl _) _⟩

set_option maxHeartbeats 1000000 in
theorem holdTexts_nil (R : Nat) (W : World) (c : W.cell? ⟨R, 4, none⟩ = some (.slice none 0 0)) : Calls Try.prog 34 #[.pointer (some ⟨R, 0, none⟩)] W fun e W' => e = .returned (.bool true) ∧ Below W.heap.size W W' := by
  go_enter Try.func34, Try.ntmps34
  go_wp2
  refine wp_loop_rounds 1 ?_
  rw [rounds_succ]
  have c2 := fun o => ((Below.refl W.heap.size W).alloc (Nat.le_refl _) o).cell (p := ⟨R, 4, none⟩) (World.block_lt_of_cell? _ _ c)
  simp only [c] at c2
  go_wp2
  go_ret
  exact ⟨rfl, (Below.refl _ _).alloc (Nat.le_refl _) _⟩

set_option maxHeartbeats 1000000 in
theorem holdValues_nil (R : Nat) (W : World) (c : W.cell? ⟨R, 5, none⟩ = some (.slice none 0 0)) : Calls Try.prog 35 #[.pointer (some ⟨R, 0, none⟩)] W fun e W' => e = .returned (.bool true) ∧ Below W.heap.size W W' := by
  go_enter Try.func35, Try.ntmps35
  go_wp2
  refine wp_loop_rounds 1 ?_
  rw [rounds_succ]
  have c2 := fun o => ((Below.refl W.heap.size W).alloc (Nat.le_refl _) o).cell (p := ⟨R, 5, none⟩) (World.block_lt_of_cell? _ _ c)
  simp only [c] at c2
  go_wp2
  go_ret
  exact ⟨rfl, (Below.refl _ _).alloc (Nat.le_refl _) _⟩

set_option maxHeartbeats 1000000 in
theorem holdBands_nil (R : Nat) (W : World) (c : W.cell? ⟨R, 6, none⟩ = some (.slice none 0 0)) : Calls Try.prog 36 #[.pointer (some ⟨R, 0, none⟩)] W fun e W' => e = .returned (.bool true) ∧ Below W.heap.size W W' := by
  go_enter Try.func36, Try.ntmps36
  go_wp2
  refine wp_loop_rounds 1 ?_
  rw [rounds_succ]
  have c2 := fun o => ((Below.refl W.heap.size W).alloc (Nat.le_refl _) o).cell (p := ⟨R, 6, none⟩) (World.block_lt_of_cell? _ _ c)
  simp only [c] at c2
  go_wp2
  go_ret
  exact ⟨rfl, (Below.refl _ _).alloc (Nat.le_refl _) _⟩

set_option maxHeartbeats 1000000 in
theorem holdTokens_nil (R : Nat) (W : World) (c : W.cell? ⟨R, 7, none⟩ = some (.slice none 0 0)) : Calls Try.prog 37 #[.pointer (some ⟨R, 0, none⟩)] W fun e W' => e = .returned (.bool true) ∧ Below W.heap.size W W' := by
  go_enter Try.func37, Try.ntmps37
  go_wp2
  refine wp_loop_rounds 1 ?_
  rw [rounds_succ]
  have c2 := fun o => ((Below.refl W.heap.size W).alloc (Nat.le_refl _) o).cell (p := ⟨R, 7, none⟩) (World.block_lt_of_cell? _ _ c)
  simp only [c] at c2
  go_wp2
  go_ret
  exact ⟨rfl, (Below.refl _ _).alloc (Nat.le_refl _) _⟩

set_option maxHeartbeats 1000000 in
theorem holdReads_nil (R : Nat) (W : World) (c : W.cell? ⟨R, 8, none⟩ = some (.slice none 0 0)) : Calls Try.prog 38 #[.pointer (some ⟨R, 0, none⟩)] W fun e W' => e = .returned (.bool true) ∧ Below W.heap.size W W' := by
  go_enter Try.func38, Try.ntmps38
  go_wp2
  refine wp_loop_rounds 1 ?_
  rw [rounds_succ]
  have c2 := fun o => ((Below.refl W.heap.size W).alloc (Nat.le_refl _) o).cell (p := ⟨R, 8, none⟩) (World.block_lt_of_cell? _ _ c)
  simp only [c] at c2
  go_wp2
  go_ret
  exact ⟨rfl, (Below.refl _ _).alloc (Nat.le_refl _) _⟩

set_option maxHeartbeats 1000000 in
theorem holdConflicts_nil (R : Nat) (W : World) (c : W.cell? ⟨R, 9, none⟩ = some (.slice none 0 0)) : Calls Try.prog 39 #[.pointer (some ⟨R, 0, none⟩)] W fun e W' => e = .returned (.bool true) ∧ Below W.heap.size W W' := by
  go_enter Try.func39, Try.ntmps39
  go_wp2
  refine wp_loop_rounds 1 ?_
  rw [rounds_succ]
  have c2 := fun o => ((Below.refl W.heap.size W).alloc (Nat.le_refl _) o).cell (p := ⟨R, 9, none⟩) (World.block_lt_of_cell? _ _ c)
  simp only [c] at c2
  go_wp2
  go_ret
  exact ⟨rfl, (Below.refl _ _).alloc (Nat.le_refl _) _⟩

set_option maxHeartbeats 1000000 in
theorem holdPoints_nil (R : Nat) (W : World) (c : W.cell? ⟨R, 10, none⟩ = some (.slice none 0 0)) : Calls Try.prog 40 #[.pointer (some ⟨R, 0, none⟩)] W fun e W' => e = .returned (.bool true) ∧ Below W.heap.size W W' := by
  go_enter Try.func40, Try.ntmps40
  go_wp2
  refine wp_loop_rounds 1 ?_
  rw [rounds_succ]
  have c2 := fun o => ((Below.refl W.heap.size W).alloc (Nat.le_refl _) o).cell (p := ⟨R, 10, none⟩) (World.block_lt_of_cell? _ _ c)
  simp only [c] at c2
  go_wp2
  go_ret
  exact ⟨rfl, (Below.refl _ _).alloc (Nat.le_refl _) _⟩

set_option maxHeartbeats 1000000 in
theorem holdNodes_nil (R : Nat) (W : World) (c : W.cell? ⟨R, 11, none⟩ = some (.slice none 0 0)) : Calls Try.prog 41 #[.pointer (some ⟨R, 0, none⟩)] W fun e W' => e = .returned (.bool true) ∧ Below W.heap.size W W' := by
  go_enter Try.func41, Try.ntmps41
  go_wp2
  refine wp_loop_rounds 1 ?_
  rw [rounds_succ]
  have c2 := fun o => ((Below.refl W.heap.size W).alloc (Nat.le_refl _) o).cell (p := ⟨R, 11, none⟩) (World.block_lt_of_cell? _ _ c)
  simp only [c] at c2
  go_wp2
  go_ret
  exact ⟨rfl, (Below.refl _ _).alloc (Nat.le_refl _) _⟩

set_option maxHeartbeats 1000000 in
theorem holdRecords_nil (R : Nat) (W : World) (c : W.cell? ⟨R, 12, none⟩ = some (.slice none 0 0)) : Calls Try.prog 42 #[.pointer (some ⟨R, 0, none⟩)] W fun e W' => e = .returned (.bool true) ∧ Below W.heap.size W W' := by
  go_enter Try.func42, Try.ntmps42
  go_wp2
  refine wp_loop_rounds 1 ?_
  rw [rounds_succ]
  have c2 := fun o => ((Below.refl W.heap.size W).alloc (Nat.le_refl _) o).cell (p := ⟨R, 12, none⟩) (World.block_lt_of_cell? _ _ c)
  simp only [c] at c2
  go_wp2
  go_ret
  exact ⟨rfl, (Below.refl _ _).alloc (Nat.le_refl _) _⟩

set_option maxHeartbeats 1000000 in
theorem holdFiles_nil (R : Nat) (W : World) (c : W.cell? ⟨R, 13, none⟩ = some (.slice none 0 0)) : Calls Try.prog 43 #[.pointer (some ⟨R, 0, none⟩)] W fun e W' => e = .returned (.bool true) ∧ Below W.heap.size W W' := by
  go_enter Try.func43, Try.ntmps43
  go_wp2
  refine wp_loop_rounds 1 ?_
  rw [rounds_succ]
  have c2 := fun o => ((Below.refl W.heap.size W).alloc (Nat.le_refl _) o).cell (p := ⟨R, 13, none⟩) (World.block_lt_of_cell? _ _ c)
  simp only [c] at c2
  go_wp2
  go_ret
  exact ⟨rfl, (Below.refl _ _).alloc (Nat.le_refl _) _⟩

set_option maxHeartbeats 1000000 in
theorem holdExprs_nil (R : Nat) (W : World) (c : W.cell? ⟨R, 14, none⟩ = some (.slice none 0 0)) : Calls Try.prog 44 #[.pointer (some ⟨R, 0, none⟩)] W fun e W' => e = .returned (.bool true) ∧ Below W.heap.size W W' := by
  go_enter Try.func44, Try.ntmps44
  go_wp2
  refine wp_loop_rounds 1 ?_
  rw [rounds_succ]
  have c2 := fun o => ((Below.refl W.heap.size W).alloc (Nat.le_refl _) o).cell (p := ⟨R, 14, none⟩) (World.block_lt_of_cell? _ _ c)
  simp only [c] at c2
  go_wp2
  go_ret
  exact ⟨rfl, (Below.refl _ _).alloc (Nat.le_refl _) _⟩

set_option maxHeartbeats 1000000 in
theorem holdClauses_nil (R : Nat) (W : World) (c : W.cell? ⟨R, 15, none⟩ = some (.slice none 0 0)) : Calls Try.prog 45 #[.pointer (some ⟨R, 0, none⟩)] W fun e W' => e = .returned (.bool true) ∧ Below W.heap.size W W' := by
  go_enter Try.func45, Try.ntmps45
  go_wp2
  refine wp_loop_rounds 1 ?_
  rw [rounds_succ]
  have c2 := fun o => ((Below.refl W.heap.size W).alloc (Nat.le_refl _) o).cell (p := ⟨R, 15, none⟩) (World.block_lt_of_cell? _ _ c)
  simp only [c] at c2
  go_wp2
  go_ret
  exact ⟨rfl, (Below.refl _ _).alloc (Nat.le_refl _) _⟩

set_option maxHeartbeats 1000000 in
theorem holdLines_nil (R : Nat) (W : World) (c : W.cell? ⟨R, 16, none⟩ = some (.slice none 0 0)) : Calls Try.prog 46 #[.pointer (some ⟨R, 0, none⟩)] W fun e W' => e = .returned (.bool true) ∧ Below W.heap.size W W' := by
  go_enter Try.func46, Try.ntmps46
  go_wp2
  refine wp_loop_rounds 1 ?_
  rw [rounds_succ]
  have c2 := fun o => ((Below.refl W.heap.size W).alloc (Nat.le_refl _) o).cell (p := ⟨R, 16, none⟩) (World.block_lt_of_cell? _ _ c)
  simp only [c] at c2
  go_wp2
  go_ret
  exact ⟨rfl, (Below.refl _ _).alloc (Nat.le_refl _) _⟩

set_option maxHeartbeats 1000000 in
theorem holdChecks_nil (R : Nat) (W : World) (c : W.cell? ⟨R, 17, none⟩ = some (.slice none 0 0)) : Calls Try.prog 47 #[.pointer (some ⟨R, 0, none⟩)] W fun e W' => e = .returned (.bool true) ∧ Below W.heap.size W W' := by
  go_enter Try.func47, Try.ntmps47
  go_wp2
  refine wp_loop_rounds 1 ?_
  rw [rounds_succ]
  have c2 := fun o => ((Below.refl W.heap.size W).alloc (Nat.le_refl _) o).cell (p := ⟨R, 17, none⟩) (World.block_lt_of_cell? _ _ c)
  simp only [c] at c2
  go_wp2
  go_ret
  exact ⟨rfl, (Below.refl _ _).alloc (Nat.le_refl _) _⟩

set_option maxHeartbeats 1000000 in
theorem holdOptions_nil (R : Nat) (W : World) (c : W.cell? ⟨R, 18, none⟩ = some (.slice none 0 0)) : Calls Try.prog 48 #[.pointer (some ⟨R, 0, none⟩)] W fun e W' => e = .returned (.bool true) ∧ Below W.heap.size W W' := by
  go_enter Try.func48, Try.ntmps48
  go_wp2
  refine wp_loop_rounds 1 ?_
  rw [rounds_succ]
  have c2 := fun o => ((Below.refl W.heap.size W).alloc (Nat.le_refl _) o).cell (p := ⟨R, 18, none⟩) (World.block_lt_of_cell? _ _ c)
  simp only [c] at c2
  go_wp2
  go_ret
  exact ⟨rfl, (Below.refl _ _).alloc (Nat.le_refl _) _⟩

set_option maxHeartbeats 1000000 in
theorem holdTables_nil (R : Nat) (W : World) (c : W.cell? ⟨R, 19, none⟩ = some (.slice none 0 0)) : Calls Try.prog 49 #[.pointer (some ⟨R, 0, none⟩)] W fun e W' => e = .returned (.bool true) ∧ Below W.heap.size W W' := by
  go_enter Try.func49, Try.ntmps49
  go_wp2
  refine wp_loop_rounds 1 ?_
  rw [rounds_succ]
  have c2 := fun o => ((Below.refl W.heap.size W).alloc (Nat.le_refl _) o).cell (p := ⟨R, 19, none⟩) (World.block_lt_of_cell? _ _ c)
  simp only [c] at c2
  go_wp2
  go_ret
  exact ⟨rfl, (Below.refl _ _).alloc (Nat.le_refl _) _⟩

set_option maxHeartbeats 1000000 in
theorem holdGroups_nil (R : Nat) (W : World) (c : W.cell? ⟨R, 20, none⟩ = some (.slice none 0 0)) : Calls Try.prog 50 #[.pointer (some ⟨R, 0, none⟩)] W fun e W' => e = .returned (.bool true) ∧ Below W.heap.size W W' := by
  go_enter Try.func50, Try.ntmps50
  go_wp2
  refine wp_loop_rounds 1 ?_
  rw [rounds_succ]
  have c2 := fun o => ((Below.refl W.heap.size W).alloc (Nat.le_refl _) o).cell (p := ⟨R, 20, none⟩) (World.block_lt_of_cell? _ _ c)
  simp only [c] at c2
  go_wp2
  go_ret
  exact ⟨rfl, (Below.refl _ _).alloc (Nat.le_refl _) _⟩

end Go.Proofs.Ytjgkjdalnjlefaa


namespace Go.Proofs.Ytjgkjdalnjlefaa
open Go.RowKit

theorem below_of2 {W A B : World} (h : Below W.heap.size W A) (k : Below A.heap.size A B) : Below W.heap.size W B := h.trans (k.mono h.size)

end Go.Proofs.Ytjgkjdalnjlefaa


namespace Go.Proofs.Ytjgkjdalnjlefaa
open Go.RowKit

set_option maxRecDepth 100000 in
set_option maxHeartbeats 4000000 in
theorem holdGroups_rm (R lo N : Nat) (K : Nat → Value) (V : Nat → List Value) (W : World) (hN : N ≤ 2000000000) (hR : RmAt W R lo K V N) :
    Calls Try.prog 50 #[.pointer (some ⟨R, 0, none⟩)] W fun e W' => e = .returned (.bool true) ∧ Below W.heap.size W W' := by
  have hbX := bel_alloc W (.cells #[.string ⟨#[]⟩, .int .i64 (-7701), .string ⟨#[]⟩, .int .i64 (-7702)] 72)
  have hMx := Hid.mk (heap_alloc_new W (.cells #[.string ⟨#[]⟩, .int .i64 (-7701), .string ⟨#[]⟩, .int .i64 (-7702)] 72))
  have hXs : W.heap.size < (W.alloc (.cells #[.string ⟨#[]⟩, .int .i64 (-7701), .string ⟨#[]⟩, .int .i64 (-7702)] 72)).heap.size := by simp
  obtain ⟨ka, kc, hK⟩ := own_shape (hR.own 20 (by decide))
  have hRX := hR.new hbX
  have hc := (hRX.cell (j := 20) (by decide)).1
  have hcl := Hid.mk (hR.few 20 (by decide))
  have hown := hR.own 20 (by decide)
  have hmks := Hid.mk (hR.mks 20 (by decide))
  rw [hK] at hc hown
  have e1 : ∀ w : World, (binOp .neq 72 (.agg #[.string ⟨#[]⟩, .int .i64 (-7701)]) (.agg #[.string ⟨#[]⟩, .int .i64 (-7701)])).run Try.prog w = .ok (.bool false) w := fun _ => by kernel_rfl
  have e2 : ∀ w : World, (binOp .neq 72 (.agg #[.string ⟨#[]⟩, .int .i64 (-7702)]) (.agg #[.string ⟨#[]⟩, .int .i64 (-7702)])).run Try.prog w = .ok (.bool false) w := fun _ => by kernel_rfl
  have hRlt := hRX.lt
  clear hR hRX hK
  go_enter Try.func50, Try.ntmps50
  go_wp2
  generalize W.alloc (.cells #[.string ⟨#[]⟩, .int .i64 (-7701), .string ⟨#[]⟩, .int .i64 (-7702)] 72) = X at *
  generalize V 20 = vs at *
  go_loopw [4] (fun v wr => ∃ i : Nat, i ≤ vs.length ∧ v = .int .i64 (i : Int) ∧ Below X.heap.size X wr) (fun v _ => vs.length - (intOf v).toNat)
  case atStart => exact ⟨0, Nat.zero_le _, rfl, Below.refl _ _⟩
  case round =>
    obtain ⟨i, hi, rfl, hb⟩ := hrel
    have hc1 := (hb.cell (p := ⟨R, 20, none⟩) hRlt).trans hc
    by_cases hlt : i < vs.length
    · have hlt' : (i : Int) < (vs.length : Int) := by omega
      have hi0 : (0 : Int) ≤ (i : Int) := by omega
      have hlth := Hid.mk hlt
      obtain ⟨gr, cap2, hg, -⟩ := own_lit2 hown (by omega)
      injection hg with hg1 _ hg2
      subst hg1 hg2
      obtain ⟨g, n, cap, cs, f, hv, hgh, hsp, hn, hmk⟩ := hmks.out _ (List.getElem_mem hlt)
      obtain ⟨N0, rfl⟩ : ∃ N0, n = N0 + 40 := ⟨n - 40, by have : rmSp 20 = 40 := rfl; omega⟩
      have hrow : W.cell? ⟨gr, i, none⟩ = some (.slice (some ⟨g, 0, none⟩) (N0 + 40) cap) := by rw [hown.cellAt i (by omega), List.getElem?_eq_getElem hlt, hv]
      have hgrl := (hown.lt gr rfl).2
      have hgl : g < W.heap.size := (Array.getElem?_eq_some_iff.1 hgh).1
      have hr1 : Hid (∀ X', Below W.heap.size W X' → X'.cell? ⟨gr, i, none⟩ = some (.slice (some ⟨g, 0, none⟩) (N0 + 40) cap)) := ⟨fun X' h => (h.cell (p := ⟨gr, i, none⟩) hgrl).trans hrow⟩
      have hmk : Hid (∀ X', Below W.heap.size W X' → ∀ k, k < 40 → (k % 2 = 0 → X'.cell? ⟨g, (N0 + k) * 2, none⟩ = some (.string ⟨#[]⟩) ∧ X'.cell? ⟨g, (N0 + k) * 2 + 1, none⟩ = some (.int .i64 (-7701))) ∧ (k % 2 = 1 → X'.cell? ⟨g, (N0 + k) * 2, none⟩ = some (.string ⟨#[]⟩) ∧ X'.cell? ⟨g, (N0 + k) * 2 + 1, none⟩ = some (.int .i64 (-7702)))) := ⟨fun X' h k hk => by
        have hcell : ∀ k, k < 40 → ∀ i u, (rmMk 20 k)[i]? = some u → X'.cell? ⟨g, (N0 + k) * rmS 20 + i, none⟩ = some u := fun k hk i u hu => by
          rw [h.cell (p := ⟨g, (N0 + k) * rmS 20 + i, none⟩) hgl, cell_of_row _ _ _ _ _ _ hgh]
          have := hmk k hk i u hu
          rwa [show N0 + 40 - rmSp 20 = N0 from Nat.add_sub_cancel _ _] at this
        exact ⟨fun hp => ⟨(hcell k hk 0 _ (by unfold rmMk; rw [if_pos (hp)]; rfl)), (hcell k hk 1 _ (by unfold rmMk; rw [if_pos (hp)]; rfl))⟩, fun hp => ⟨(hcell k hk 0 _ (by unfold rmMk; rw [if_neg (by omega)]; rfl)), (hcell k hk 1 _ (by unfold rmMk; rw [if_neg (by omega)]; rfl))⟩⟩⟩
      have hd1 := hr1.out wr (below_of2 hbX hb)
      have hN0 : N0 ≤ 2000000 := by omega
      clear hrow hgrl hgh hv hsp hn
      go_wp2
      obtain ⟨wz, hwz⟩ : ∃ wz, wz = wr := ⟨_, rfl⟩
      rw [← hwz] at hb hc1 hd1 ⊢
      go_loopw [6] (fun v wq => ∃ k : Nat, k ≤ 40 ∧ v = .int .i64 (k : Int) ∧ Below X.heap.size X wq) (fun v _ => (41 - intOf v).toNat)
      case atStart => exact ⟨0, by omega, rfl, hb⟩
      case round =>
        clear hc1 hd1 hb hwz
        obtain ⟨k, hk, rfl, hq⟩ := hrel
        have hc1 := (hq.cell (p := ⟨R, 20, none⟩) hRlt).trans hc
        have hd1 := hr1.out _ (below_of2 hbX hq)
        have hlX : W.heap.size < X.heap.size := hXs
        by_cases hk2 : k < 40
        · have hkk : (k : Int) < 40 := by omega
          have hk0 : (0 : Int) ≤ (k : Int) := by omega
          rcases (show k % 2 = 0 ∨ k % 2 = 1 by omega) with hp | hp
          · obtain ⟨q0, q1⟩ := (hmk.out wr (below_of2 hbX hq) k hk2).1 hp
            have hp' : (k : Int) % 2 = 0 := by omega
            have n0 : ∀ o, (wr.alloc o).cell? ⟨W.heap.size, 0, none⟩ = some (.string ⟨#[]⟩) := fun o => ((hq.alloc hq.size o).cell (p := ⟨W.heap.size, 0, none⟩) hlX).trans (cell_of_row _ _ 0 _ _ _ hMx.out)
            have n1 : ∀ o, (wr.alloc o).cell? ⟨W.heap.size, 1, none⟩ = some (.int .i64 (-7701)) := fun o => ((hq.alloc hq.size o).cell (p := ⟨W.heap.size, 1, none⟩) hlX).trans (cell_of_row _ _ 1 _ _ _ hMx.out)
            clear hmk
            go_wp2
            go_roundw
            case rel => exact ⟨k + 1, by omega, by go_num, (hq.alloc hq.size _).alloc (by simp; have := hq.size; omega) _⟩
            case measure => simp [intOf]; omega
          · obtain ⟨q0, q1⟩ := (hmk.out wr (below_of2 hbX hq) k hk2).2 hp
            have hp' : (k : Int) % 2 = 1 := by omega
            have n0 : ∀ o, (wr.alloc o).cell? ⟨W.heap.size, 2, none⟩ = some (.string ⟨#[]⟩) := fun o => ((hq.alloc hq.size o).cell (p := ⟨W.heap.size, 2, none⟩) hlX).trans (cell_of_row _ _ 2 _ _ _ hMx.out)
            have n1 : ∀ o, (wr.alloc o).cell? ⟨W.heap.size, 3, none⟩ = some (.int .i64 (-7702)) := fun o => ((hq.alloc hq.size o).cell (p := ⟨W.heap.size, 3, none⟩) hlX).trans (cell_of_row _ _ 3 _ _ _ hMx.out)
            clear hmk
            go_wp2
            go_roundw
            case rel => exact ⟨k + 1, by omega, by go_num, (hq.alloc hq.size _).alloc (by simp; have := hq.size; omega) _⟩
            case measure => simp [intOf]; omega
        · obtain rfl : k = 40 := by omega
          have h1 := hlth.out
          have h2 := hcl.out
          have h3 : (i : Int) < 2000000000 := by omega
          have h4 : (0 : Int) ≤ (i : Int) := by omega
          go_wp2
          go_roundw
          case rel =>
            have h1 := hlth.out
            have h2 := hcl.out
            exact ⟨i + 1, by omega, by go_num, hq⟩
          case measure =>
            have h1 := hlth.out
            have h2 := hcl.out
            simp [intOf]
            omega
    · obtain rfl : i = vs.length := by omega
      go_wp2
      go_ret
      exact ⟨rfl, below_of2 hbX hb⟩

end Go.Proofs.Ytjgkjdalnjlefaa


namespace Go.Proofs.Ytjgkjdalnjlefaa
open Go.RowKit

set_option maxRecDepth 100000 in
set_option maxHeartbeats 4000000 in
theorem holdTables_rm (R lo N : Nat) (K : Nat → Value) (V : Nat → List Value) (W : World) (hN : N ≤ 2000000000) (hR : RmAt W R lo K V N) :
    Calls Try.prog 49 #[.pointer (some ⟨R, 0, none⟩)] W fun e W' => e = .returned (.bool true) ∧ Below W.heap.size W W' := by
  have hbX := bel_alloc W (.cells #[.string ⟨#[60, 111, 110, 101, 62]⟩, .slice none 0 0, .string ⟨#[60, 116, 119, 111, 62]⟩, .slice none 0 0] 75)
  have hMx := Hid.mk (heap_alloc_new W (.cells #[.string ⟨#[60, 111, 110, 101, 62]⟩, .slice none 0 0, .string ⟨#[60, 116, 119, 111, 62]⟩, .slice none 0 0] 75))
  have hXs : W.heap.size < (W.alloc (.cells #[.string ⟨#[60, 111, 110, 101, 62]⟩, .slice none 0 0, .string ⟨#[60, 116, 119, 111, 62]⟩, .slice none 0 0] 75)).heap.size := by simp
  obtain ⟨ka, kc, hK⟩ := own_shape (hR.own 19 (by decide))
  have hRX := hR.new hbX
  have hc := (hRX.cell (j := 19) (by decide)).1
  have hcl := Hid.mk (hR.few 19 (by decide))
  have hown := hR.own 19 (by decide)
  have hmks := Hid.mk (hR.mks 19 (by decide))
  rw [hK] at hc hown
  have e1 : ∀ w : World, (binOp .neq 9 (.string ⟨#[60, 111, 110, 101, 62]⟩) (.string ⟨#[60, 111, 110, 101, 62]⟩)).run Try.prog w = .ok (.bool false) w := fun _ => by kernel_rfl
  have e2 : ∀ w : World, (binOp .neq 9 (.string ⟨#[60, 116, 119, 111, 62]⟩) (.string ⟨#[60, 116, 119, 111, 62]⟩)).run Try.prog w = .ok (.bool false) w := fun _ => by kernel_rfl
  have hRlt := hRX.lt
  clear hR hRX hK
  go_enter Try.func49, Try.ntmps49
  go_wp2
  generalize W.alloc (.cells #[.string ⟨#[60, 111, 110, 101, 62]⟩, .slice none 0 0, .string ⟨#[60, 116, 119, 111, 62]⟩, .slice none 0 0] 75) = X at *
  generalize V 19 = vs at *
  go_loopw [4] (fun v wr => ∃ i : Nat, i ≤ vs.length ∧ v = .int .i64 (i : Int) ∧ Below X.heap.size X wr) (fun v _ => vs.length - (intOf v).toNat)
  case atStart => exact ⟨0, Nat.zero_le _, rfl, Below.refl _ _⟩
  case round =>
    obtain ⟨i, hi, rfl, hb⟩ := hrel
    have hc1 := (hb.cell (p := ⟨R, 19, none⟩) hRlt).trans hc
    by_cases hlt : i < vs.length
    · have hlt' : (i : Int) < (vs.length : Int) := by omega
      have hi0 : (0 : Int) ≤ (i : Int) := by omega
      have hlth := Hid.mk hlt
      obtain ⟨gr, cap2, hg, -⟩ := own_lit2 hown (by omega)
      injection hg with hg1 _ hg2
      subst hg1 hg2
      obtain ⟨g, n, cap, cs, f, hv, hgh, hsp, hn, hmk⟩ := hmks.out _ (List.getElem_mem hlt)
      obtain ⟨N0, rfl⟩ : ∃ N0, n = N0 + 40 := ⟨n - 40, by have : rmSp 19 = 40 := rfl; omega⟩
      have hrow : W.cell? ⟨gr, i, none⟩ = some (.slice (some ⟨g, 0, none⟩) (N0 + 40) cap) := by rw [hown.cellAt i (by omega), List.getElem?_eq_getElem hlt, hv]
      have hgrl := (hown.lt gr rfl).2
      have hgl : g < W.heap.size := (Array.getElem?_eq_some_iff.1 hgh).1
      have hr1 : Hid (∀ X', Below W.heap.size W X' → X'.cell? ⟨gr, i, none⟩ = some (.slice (some ⟨g, 0, none⟩) (N0 + 40) cap)) := ⟨fun X' h => (h.cell (p := ⟨gr, i, none⟩) hgrl).trans hrow⟩
      have hmk : Hid (∀ X', Below W.heap.size W X' → ∀ k, k < 40 → (k % 2 = 0 → X'.cell? ⟨g, (N0 + k) * 2, none⟩ = some (.string ⟨#[60, 111, 110, 101, 62]⟩) ∧ X'.cell? ⟨g, (N0 + k) * 2 + 1, none⟩ = some (.slice none 0 0)) ∧ (k % 2 = 1 → X'.cell? ⟨g, (N0 + k) * 2, none⟩ = some (.string ⟨#[60, 116, 119, 111, 62]⟩) ∧ X'.cell? ⟨g, (N0 + k) * 2 + 1, none⟩ = some (.slice none 0 0))) := ⟨fun X' h k hk => by
        have hcell : ∀ k, k < 40 → ∀ i u, (rmMk 19 k)[i]? = some u → X'.cell? ⟨g, (N0 + k) * rmS 19 + i, none⟩ = some u := fun k hk i u hu => by
          rw [h.cell (p := ⟨g, (N0 + k) * rmS 19 + i, none⟩) hgl, cell_of_row _ _ _ _ _ _ hgh]
          have := hmk k hk i u hu
          rwa [show N0 + 40 - rmSp 19 = N0 from Nat.add_sub_cancel _ _] at this
        exact ⟨fun hp => ⟨(hcell k hk 0 _ (by unfold rmMk; rw [if_pos (hp)]; rfl)), (hcell k hk 1 _ (by unfold rmMk; rw [if_pos (hp)]; rfl))⟩, fun hp => ⟨(hcell k hk 0 _ (by unfold rmMk; rw [if_neg (by omega)]; rfl)), (hcell k hk 1 _ (by unfold rmMk; rw [if_neg (by omega)]; rfl))⟩⟩⟩
      have hd1 := hr1.out wr (below_of2 hbX hb)
      have hN0 : N0 ≤ 2000000 := by omega
      clear hrow hgrl hgh hv hsp hn
      go_wp2
      obtain ⟨wz, hwz⟩ : ∃ wz, wz = wr := ⟨_, rfl⟩
      rw [← hwz] at hb hc1 hd1 ⊢
      go_loopw [6] (fun v wq => ∃ k : Nat, k ≤ 40 ∧ v = .int .i64 (k : Int) ∧ Below X.heap.size X wq) (fun v _ => (41 - intOf v).toNat)
      case atStart => exact ⟨0, by omega, rfl, hb⟩
      case round =>
        clear hc1 hd1 hb hwz
        obtain ⟨k, hk, rfl, hq⟩ := hrel
        have hc1 := (hq.cell (p := ⟨R, 19, none⟩) hRlt).trans hc
        have hd1 := hr1.out _ (below_of2 hbX hq)
        have hlX : W.heap.size < X.heap.size := hXs
        by_cases hk2 : k < 40
        · have hkk : (k : Int) < 40 := by omega
          have hk0 : (0 : Int) ≤ (k : Int) := by omega
          rcases (show k % 2 = 0 ∨ k % 2 = 1 by omega) with hp | hp
          · obtain ⟨q0, q1⟩ := (hmk.out wr (below_of2 hbX hq) k hk2).1 hp
            have hp' : (k : Int) % 2 = 0 := by omega
            have n0 : ∀ o, (wr.alloc o).cell? ⟨W.heap.size, 0, none⟩ = some (.string ⟨#[60, 111, 110, 101, 62]⟩) := fun o => ((hq.alloc hq.size o).cell (p := ⟨W.heap.size, 0, none⟩) hlX).trans (cell_of_row _ _ 0 _ _ _ hMx.out)
            have n1 : ∀ o, (wr.alloc o).cell? ⟨W.heap.size, 1, none⟩ = some (.slice none 0 0) := fun o => ((hq.alloc hq.size o).cell (p := ⟨W.heap.size, 1, none⟩) hlX).trans (cell_of_row _ _ 1 _ _ _ hMx.out)
            clear hmk
            go_wp2
            go_roundw
            case rel => exact ⟨k + 1, by omega, by go_num, (hq.alloc hq.size _).alloc (by simp; have := hq.size; omega) _⟩
            case measure => simp [intOf]; omega
          · obtain ⟨q0, q1⟩ := (hmk.out wr (below_of2 hbX hq) k hk2).2 hp
            have hp' : (k : Int) % 2 = 1 := by omega
            have n0 : ∀ o, (wr.alloc o).cell? ⟨W.heap.size, 2, none⟩ = some (.string ⟨#[60, 116, 119, 111, 62]⟩) := fun o => ((hq.alloc hq.size o).cell (p := ⟨W.heap.size, 2, none⟩) hlX).trans (cell_of_row _ _ 2 _ _ _ hMx.out)
            have n1 : ∀ o, (wr.alloc o).cell? ⟨W.heap.size, 3, none⟩ = some (.slice none 0 0) := fun o => ((hq.alloc hq.size o).cell (p := ⟨W.heap.size, 3, none⟩) hlX).trans (cell_of_row _ _ 3 _ _ _ hMx.out)
            clear hmk
            go_wp2
            go_roundw
            case rel => exact ⟨k + 1, by omega, by go_num, (hq.alloc hq.size _).alloc (by simp; have := hq.size; omega) _⟩
            case measure => simp [intOf]; omega
        · obtain rfl : k = 40 := by omega
          have h1 := hlth.out
          have h2 := hcl.out
          have h3 : (i : Int) < 2000000000 := by omega
          have h4 : (0 : Int) ≤ (i : Int) := by omega
          go_wp2
          go_roundw
          case rel =>
            have h1 := hlth.out
            have h2 := hcl.out
            exact ⟨i + 1, by omega, by go_num, hq⟩
          case measure =>
            have h1 := hlth.out
            have h2 := hcl.out
            simp [intOf]
            omega
    · obtain rfl : i = vs.length := by omega
      go_wp2
      go_ret
      exact ⟨rfl, below_of2 hbX hb⟩

end Go.Proofs.Ytjgkjdalnjlefaa


namespace Go.Proofs.Ytjgkjdalnjlefaa
open Go.RowKit

set_option maxRecDepth 100000 in
set_option maxHeartbeats 4000000 in
theorem holdOptions_rm (R lo N : Nat) (K : Nat → Value) (V : Nat → List Value) (W : World) (hN : N ≤ 2000000000) (hR : RmAt W R lo K V N) :
    Calls Try.prog 48 #[.pointer (some ⟨R, 0, none⟩)] W fun e W' => e = .returned (.bool true) ∧ Below W.heap.size W W' := by
  have hbX := bel_alloc W (.cells #[.string ⟨#[60, 111, 110, 101, 62]⟩, .slice none 0 0, .string ⟨#[60, 116, 119, 111, 62]⟩, .slice none 0 0] 105)
  have hMx := Hid.mk (heap_alloc_new W (.cells #[.string ⟨#[60, 111, 110, 101, 62]⟩, .slice none 0 0, .string ⟨#[60, 116, 119, 111, 62]⟩, .slice none 0 0] 105))
  have hXs : W.heap.size < (W.alloc (.cells #[.string ⟨#[60, 111, 110, 101, 62]⟩, .slice none 0 0, .string ⟨#[60, 116, 119, 111, 62]⟩, .slice none 0 0] 105)).heap.size := by simp
  obtain ⟨ka, kc, hK⟩ := own_shape (hR.own 18 (by decide))
  have hRX := hR.new hbX
  have hc := (hRX.cell (j := 18) (by decide)).1
  have hcl := Hid.mk (hR.few 18 (by decide))
  have hown := hR.own 18 (by decide)
  have hmks := Hid.mk (hR.mks 18 (by decide))
  rw [hK] at hc hown
  have e1 : ∀ w : World, (binOp .neq 9 (.string ⟨#[60, 111, 110, 101, 62]⟩) (.string ⟨#[60, 111, 110, 101, 62]⟩)).run Try.prog w = .ok (.bool false) w := fun _ => by kernel_rfl
  have e2 : ∀ w : World, (binOp .neq 9 (.string ⟨#[60, 116, 119, 111, 62]⟩) (.string ⟨#[60, 116, 119, 111, 62]⟩)).run Try.prog w = .ok (.bool false) w := fun _ => by kernel_rfl
  have hRlt := hRX.lt
  clear hR hRX hK
  go_enter Try.func48, Try.ntmps48
  go_wp2
  generalize W.alloc (.cells #[.string ⟨#[60, 111, 110, 101, 62]⟩, .slice none 0 0, .string ⟨#[60, 116, 119, 111, 62]⟩, .slice none 0 0] 105) = X at *
  generalize V 18 = vs at *
  go_loopw [4] (fun v wr => ∃ i : Nat, i ≤ vs.length ∧ v = .int .i64 (i : Int) ∧ Below X.heap.size X wr) (fun v _ => vs.length - (intOf v).toNat)
  case atStart => exact ⟨0, Nat.zero_le _, rfl, Below.refl _ _⟩
  case round =>
    obtain ⟨i, hi, rfl, hb⟩ := hrel
    have hc1 := (hb.cell (p := ⟨R, 18, none⟩) hRlt).trans hc
    by_cases hlt : i < vs.length
    · have hlt' : (i : Int) < (vs.length : Int) := by omega
      have hi0 : (0 : Int) ≤ (i : Int) := by omega
      have hlth := Hid.mk hlt
      obtain ⟨gr, cap2, hg, -⟩ := own_lit2 hown (by omega)
      injection hg with hg1 _ hg2
      subst hg1 hg2
      obtain ⟨g, n, cap, cs, f, hv, hgh, hsp, hn, hmk⟩ := hmks.out _ (List.getElem_mem hlt)
      obtain ⟨N0, rfl⟩ : ∃ N0, n = N0 + 40 := ⟨n - 40, by have : rmSp 18 = 40 := rfl; omega⟩
      have hrow : W.cell? ⟨gr, i, none⟩ = some (.slice (some ⟨g, 0, none⟩) (N0 + 40) cap) := by rw [hown.cellAt i (by omega), List.getElem?_eq_getElem hlt, hv]
      have hgrl := (hown.lt gr rfl).2
      have hgl : g < W.heap.size := (Array.getElem?_eq_some_iff.1 hgh).1
      have hr1 : Hid (∀ X', Below W.heap.size W X' → X'.cell? ⟨gr, i, none⟩ = some (.slice (some ⟨g, 0, none⟩) (N0 + 40) cap)) := ⟨fun X' h => (h.cell (p := ⟨gr, i, none⟩) hgrl).trans hrow⟩
      have hmk : Hid (∀ X', Below W.heap.size W X' → ∀ k, k < 40 → (k % 2 = 0 → X'.cell? ⟨g, (N0 + k) * 2, none⟩ = some (.string ⟨#[60, 111, 110, 101, 62]⟩) ∧ X'.cell? ⟨g, (N0 + k) * 2 + 1, none⟩ = some (.slice none 0 0)) ∧ (k % 2 = 1 → X'.cell? ⟨g, (N0 + k) * 2, none⟩ = some (.string ⟨#[60, 116, 119, 111, 62]⟩) ∧ X'.cell? ⟨g, (N0 + k) * 2 + 1, none⟩ = some (.slice none 0 0))) := ⟨fun X' h k hk => by
        have hcell : ∀ k, k < 40 → ∀ i u, (rmMk 18 k)[i]? = some u → X'.cell? ⟨g, (N0 + k) * rmS 18 + i, none⟩ = some u := fun k hk i u hu => by
          rw [h.cell (p := ⟨g, (N0 + k) * rmS 18 + i, none⟩) hgl, cell_of_row _ _ _ _ _ _ hgh]
          have := hmk k hk i u hu
          rwa [show N0 + 40 - rmSp 18 = N0 from Nat.add_sub_cancel _ _] at this
        exact ⟨fun hp => ⟨(hcell k hk 0 _ (by unfold rmMk; rw [if_pos (hp)]; rfl)), (hcell k hk 1 _ (by unfold rmMk; rw [if_pos (hp)]; rfl))⟩, fun hp => ⟨(hcell k hk 0 _ (by unfold rmMk; rw [if_neg (by omega)]; rfl)), (hcell k hk 1 _ (by unfold rmMk; rw [if_neg (by omega)]; rfl))⟩⟩⟩
      have hd1 := hr1.out wr (below_of2 hbX hb)
      have hN0 : N0 ≤ 2000000 := by omega
      clear hrow hgrl hgh hv hsp hn
      go_wp2
      obtain ⟨wz, hwz⟩ : ∃ wz, wz = wr := ⟨_, rfl⟩
      rw [← hwz] at hb hc1 hd1 ⊢
      go_loopw [6] (fun v wq => ∃ k : Nat, k ≤ 40 ∧ v = .int .i64 (k : Int) ∧ Below X.heap.size X wq) (fun v _ => (41 - intOf v).toNat)
      case atStart => exact ⟨0, by omega, rfl, hb⟩
      case round =>
        clear hc1 hd1 hb hwz
        obtain ⟨k, hk, rfl, hq⟩ := hrel
        have hc1 := (hq.cell (p := ⟨R, 18, none⟩) hRlt).trans hc
        have hd1 := hr1.out _ (below_of2 hbX hq)
        have hlX : W.heap.size < X.heap.size := hXs
        by_cases hk2 : k < 40
        · have hkk : (k : Int) < 40 := by omega
          have hk0 : (0 : Int) ≤ (k : Int) := by omega
          rcases (show k % 2 = 0 ∨ k % 2 = 1 by omega) with hp | hp
          · obtain ⟨q0, q1⟩ := (hmk.out wr (below_of2 hbX hq) k hk2).1 hp
            have hp' : (k : Int) % 2 = 0 := by omega
            have n0 : ∀ o, (wr.alloc o).cell? ⟨W.heap.size, 0, none⟩ = some (.string ⟨#[60, 111, 110, 101, 62]⟩) := fun o => ((hq.alloc hq.size o).cell (p := ⟨W.heap.size, 0, none⟩) hlX).trans (cell_of_row _ _ 0 _ _ _ hMx.out)
            have n1 : ∀ o, (wr.alloc o).cell? ⟨W.heap.size, 1, none⟩ = some (.slice none 0 0) := fun o => ((hq.alloc hq.size o).cell (p := ⟨W.heap.size, 1, none⟩) hlX).trans (cell_of_row _ _ 1 _ _ _ hMx.out)
            clear hmk
            go_wp2
            go_roundw
            case rel => exact ⟨k + 1, by omega, by go_num, (hq.alloc hq.size _).alloc (by simp; have := hq.size; omega) _⟩
            case measure => simp [intOf]; omega
          · obtain ⟨q0, q1⟩ := (hmk.out wr (below_of2 hbX hq) k hk2).2 hp
            have hp' : (k : Int) % 2 = 1 := by omega
            have n0 : ∀ o, (wr.alloc o).cell? ⟨W.heap.size, 2, none⟩ = some (.string ⟨#[60, 116, 119, 111, 62]⟩) := fun o => ((hq.alloc hq.size o).cell (p := ⟨W.heap.size, 2, none⟩) hlX).trans (cell_of_row _ _ 2 _ _ _ hMx.out)
            have n1 : ∀ o, (wr.alloc o).cell? ⟨W.heap.size, 3, none⟩ = some (.slice none 0 0) := fun o => ((hq.alloc hq.size o).cell (p := ⟨W.heap.size, 3, none⟩) hlX).trans (cell_of_row _ _ 3 _ _ _ hMx.out)
            clear hmk
            go_wp2
            go_roundw
            case rel => exact ⟨k + 1, by omega, by go_num, (hq.alloc hq.size _).alloc (by simp; have := hq.size; omega) _⟩
            case measure => simp [intOf]; omega
        · obtain rfl : k = 40 := by omega
          have h1 := hlth.out
          have h2 := hcl.out
          have h3 : (i : Int) < 2000000000 := by omega
          have h4 : (0 : Int) ≤ (i : Int) := by omega
          go_wp2
          go_roundw
          case rel =>
            have h1 := hlth.out
            have h2 := hcl.out
            exact ⟨i + 1, by omega, by go_num, hq⟩
          case measure =>
            have h1 := hlth.out
            have h2 := hcl.out
            simp [intOf]
            omega
    · obtain rfl : i = vs.length := by omega
      go_wp2
      go_ret
      exact ⟨rfl, below_of2 hbX hb⟩

end Go.Proofs.Ytjgkjdalnjlefaa


namespace Go.Proofs.Ytjgkjdalnjlefaa
open Go.RowKit

set_option maxRecDepth 100000 in
set_option maxHeartbeats 4000000 in
theorem holdChecks_rm (R lo N : Nat) (K : Nat → Value) (V : Nat → List Value) (W : World) (hN : N ≤ 2000000000) (hR : RmAt W R lo K V N) :
    Calls Try.prog 47 #[.pointer (some ⟨R, 0, none⟩)] W fun e W' => e = .returned (.bool true) ∧ Below W.heap.size W W' := by
  have hbX := bel_alloc W (.cells #[.string ⟨#[]⟩, .bool false, .int .i64 (-7701), .int .i64 (0), .int .i64 (0), .int .i64 (0), .int .i64 (0), .slice none 0 0, .string ⟨#[]⟩, .string ⟨#[]⟩, .bool false, .int .i64 (-7702), .int .i64 (0), .int .i64 (0), .int .i64 (0), .int .i64 (0), .slice none 0 0, .string ⟨#[]⟩] 85)
  have hMx := Hid.mk (heap_alloc_new W (.cells #[.string ⟨#[]⟩, .bool false, .int .i64 (-7701), .int .i64 (0), .int .i64 (0), .int .i64 (0), .int .i64 (0), .slice none 0 0, .string ⟨#[]⟩, .string ⟨#[]⟩, .bool false, .int .i64 (-7702), .int .i64 (0), .int .i64 (0), .int .i64 (0), .int .i64 (0), .slice none 0 0, .string ⟨#[]⟩] 85))
  have hXs : W.heap.size < (W.alloc (.cells #[.string ⟨#[]⟩, .bool false, .int .i64 (-7701), .int .i64 (0), .int .i64 (0), .int .i64 (0), .int .i64 (0), .slice none 0 0, .string ⟨#[]⟩, .string ⟨#[]⟩, .bool false, .int .i64 (-7702), .int .i64 (0), .int .i64 (0), .int .i64 (0), .int .i64 (0), .slice none 0 0, .string ⟨#[]⟩] 85)).heap.size := by simp
  obtain ⟨ka, kc, hK⟩ := own_shape (hR.own 17 (by decide))
  have hRX := hR.new hbX
  have hc := (hRX.cell (j := 17) (by decide)).1
  have hcl := Hid.mk (hR.few 17 (by decide))
  have hown := hR.own 17 (by decide)
  have hmks := Hid.mk (hR.mks 17 (by decide))
  rw [hK] at hc hown
  have e1 : ∀ w : World, (binOp .neq 9 (.string ⟨#[]⟩) (.string ⟨#[]⟩)).run Try.prog w = .ok (.bool false) w := fun _ => by kernel_rfl
  have hRlt := hRX.lt
  clear hR hRX hK
  go_enter Try.func47, Try.ntmps47
  go_wp2
  generalize W.alloc (.cells #[.string ⟨#[]⟩, .bool false, .int .i64 (-7701), .int .i64 (0), .int .i64 (0), .int .i64 (0), .int .i64 (0), .slice none 0 0, .string ⟨#[]⟩, .string ⟨#[]⟩, .bool false, .int .i64 (-7702), .int .i64 (0), .int .i64 (0), .int .i64 (0), .int .i64 (0), .slice none 0 0, .string ⟨#[]⟩] 85) = X at *
  generalize V 17 = vs at *
  go_loopw [4] (fun v wr => ∃ i : Nat, i ≤ vs.length ∧ v = .int .i64 (i : Int) ∧ Below X.heap.size X wr) (fun v _ => vs.length - (intOf v).toNat)
  case atStart => exact ⟨0, Nat.zero_le _, rfl, Below.refl _ _⟩
  case round =>
    obtain ⟨i, hi, rfl, hb⟩ := hrel
    have hc1 := (hb.cell (p := ⟨R, 17, none⟩) hRlt).trans hc
    by_cases hlt : i < vs.length
    · have hlt' : (i : Int) < (vs.length : Int) := by omega
      have hi0 : (0 : Int) ≤ (i : Int) := by omega
      have hlth := Hid.mk hlt
      obtain ⟨gr, cap2, hg, -⟩ := own_lit2 hown (by omega)
      injection hg with hg1 _ hg2
      subst hg1 hg2
      obtain ⟨g, n, cap, cs, f, hv, hgh, hsp, hn, hmk⟩ := hmks.out _ (List.getElem_mem hlt)
      obtain ⟨N0, rfl⟩ : ∃ N0, n = N0 + 40 := ⟨n - 40, by have : rmSp 17 = 40 := rfl; omega⟩
      have hrow : W.cell? ⟨gr, i, none⟩ = some (.slice (some ⟨g, 0, none⟩) (N0 + 40) cap) := by rw [hown.cellAt i (by omega), List.getElem?_eq_getElem hlt, hv]
      have hgrl := (hown.lt gr rfl).2
      have hgl : g < W.heap.size := (Array.getElem?_eq_some_iff.1 hgh).1
      have hr1 : Hid (∀ X', Below W.heap.size W X' → X'.cell? ⟨gr, i, none⟩ = some (.slice (some ⟨g, 0, none⟩) (N0 + 40) cap)) := ⟨fun X' h => (h.cell (p := ⟨gr, i, none⟩) hgrl).trans hrow⟩
      have hmk : Hid (∀ X', Below W.heap.size W X' → ∀ k, k < 40 → (k % 2 = 0 → X'.cell? ⟨g, (N0 + k) * 9, none⟩ = some (.string ⟨#[]⟩) ∧ X'.cell? ⟨g, (N0 + k) * 9 + 1, none⟩ = some (.bool false) ∧ X'.cell? ⟨g, (N0 + k) * 9 + 2, none⟩ = some (.int .i64 (-7701)) ∧ X'.cell? ⟨g, (N0 + k) * 9 + 3, none⟩ = some (.int .i64 (0)) ∧ X'.cell? ⟨g, (N0 + k) * 9 + 4, none⟩ = some (.int .i64 (0)) ∧ X'.cell? ⟨g, (N0 + k) * 9 + 5, none⟩ = some (.int .i64 (0)) ∧ X'.cell? ⟨g, (N0 + k) * 9 + 6, none⟩ = some (.int .i64 (0)) ∧ X'.cell? ⟨g, (N0 + k) * 9 + 7, none⟩ = some (.slice none 0 0) ∧ X'.cell? ⟨g, (N0 + k) * 9 + 8, none⟩ = some (.string ⟨#[]⟩)) ∧ (k % 2 = 1 → X'.cell? ⟨g, (N0 + k) * 9, none⟩ = some (.string ⟨#[]⟩) ∧ X'.cell? ⟨g, (N0 + k) * 9 + 1, none⟩ = some (.bool false) ∧ X'.cell? ⟨g, (N0 + k) * 9 + 2, none⟩ = some (.int .i64 (-7702)) ∧ X'.cell? ⟨g, (N0 + k) * 9 + 3, none⟩ = some (.int .i64 (0)) ∧ X'.cell? ⟨g, (N0 + k) * 9 + 4, none⟩ = some (.int .i64 (0)) ∧ X'.cell? ⟨g, (N0 + k) * 9 + 5, none⟩ = some (.int .i64 (0)) ∧ X'.cell? ⟨g, (N0 + k) * 9 + 6, none⟩ = some (.int .i64 (0)) ∧ X'.cell? ⟨g, (N0 + k) * 9 + 7, none⟩ = some (.slice none 0 0) ∧ X'.cell? ⟨g, (N0 + k) * 9 + 8, none⟩ = some (.string ⟨#[]⟩))) := ⟨fun X' h k hk => by
        have hcell : ∀ k, k < 40 → ∀ i u, (rmMk 17 k)[i]? = some u → X'.cell? ⟨g, (N0 + k) * rmS 17 + i, none⟩ = some u := fun k hk i u hu => by
          rw [h.cell (p := ⟨g, (N0 + k) * rmS 17 + i, none⟩) hgl, cell_of_row _ _ _ _ _ _ hgh]
          have := hmk k hk i u hu
          rwa [show N0 + 40 - rmSp 17 = N0 from Nat.add_sub_cancel _ _] at this
        exact ⟨fun hp => ⟨(hcell k hk 0 _ (by unfold rmMk; rw [if_pos (hp)]; rfl)), (hcell k hk 1 _ (by unfold rmMk; rw [if_pos (hp)]; rfl)), (hcell k hk 2 _ (by unfold rmMk; rw [if_pos (hp)]; rfl)), (hcell k hk 3 _ (by unfold rmMk; rw [if_pos (hp)]; rfl)), (hcell k hk 4 _ (by unfold rmMk; rw [if_pos (hp)]; rfl)), (hcell k hk 5 _ (by unfold rmMk; rw [if_pos (hp)]; rfl)), (hcell k hk 6 _ (by unfold rmMk; rw [if_pos (hp)]; rfl)), (hcell k hk 7 _ (by unfold rmMk; rw [if_pos (hp)]; rfl)), (hcell k hk 8 _ (by unfold rmMk; rw [if_pos (hp)]; rfl))⟩, fun hp => ⟨(hcell k hk 0 _ (by unfold rmMk; rw [if_neg (by omega)]; rfl)), (hcell k hk 1 _ (by unfold rmMk; rw [if_neg (by omega)]; rfl)), (hcell k hk 2 _ (by unfold rmMk; rw [if_neg (by omega)]; rfl)), (hcell k hk 3 _ (by unfold rmMk; rw [if_neg (by omega)]; rfl)), (hcell k hk 4 _ (by unfold rmMk; rw [if_neg (by omega)]; rfl)), (hcell k hk 5 _ (by unfold rmMk; rw [if_neg (by omega)]; rfl)), (hcell k hk 6 _ (by unfold rmMk; rw [if_neg (by omega)]; rfl)), (hcell k hk 7 _ (by unfold rmMk; rw [if_neg (by omega)]; rfl)), (hcell k hk 8 _ (by unfold rmMk; rw [if_neg (by omega)]; rfl))⟩⟩⟩
      have hd1 := hr1.out wr (below_of2 hbX hb)
      have hN0 : N0 ≤ 2000000 := by omega
      clear hrow hgrl hgh hv hsp hn
      go_wp2
      obtain ⟨wz, hwz⟩ : ∃ wz, wz = wr := ⟨_, rfl⟩
      rw [← hwz] at hb hc1 hd1 ⊢
      go_loopw [6] (fun v wq => ∃ k : Nat, k ≤ 40 ∧ v = .int .i64 (k : Int) ∧ Below X.heap.size X wq) (fun v _ => (41 - intOf v).toNat)
      case atStart => exact ⟨0, by omega, rfl, hb⟩
      case round =>
        clear hc1 hd1 hb hwz
        obtain ⟨k, hk, rfl, hq⟩ := hrel
        have hc1 := (hq.cell (p := ⟨R, 17, none⟩) hRlt).trans hc
        have hd1 := hr1.out _ (below_of2 hbX hq)
        have hlX : W.heap.size < X.heap.size := hXs
        by_cases hk2 : k < 40
        · have hkk : (k : Int) < 40 := by omega
          have hk0 : (0 : Int) ≤ (k : Int) := by omega
          rcases (show k % 2 = 0 ∨ k % 2 = 1 by omega) with hp | hp
          · obtain ⟨q0, q1, q2, q3, q4, q5, q6, q7, q8⟩ := (hmk.out wr (below_of2 hbX hq) k hk2).1 hp
            have hp' : (k : Int) % 2 = 0 := by omega
            have n0 : ∀ o, (wr.alloc o).cell? ⟨W.heap.size, 0, none⟩ = some (.string ⟨#[]⟩) := fun o => ((hq.alloc hq.size o).cell (p := ⟨W.heap.size, 0, none⟩) hlX).trans (cell_of_row _ _ 0 _ _ _ hMx.out)
            have n1 : ∀ o, (wr.alloc o).cell? ⟨W.heap.size, 1, none⟩ = some (.bool false) := fun o => ((hq.alloc hq.size o).cell (p := ⟨W.heap.size, 1, none⟩) hlX).trans (cell_of_row _ _ 1 _ _ _ hMx.out)
            have n2 : ∀ o, (wr.alloc o).cell? ⟨W.heap.size, 2, none⟩ = some (.int .i64 (-7701)) := fun o => ((hq.alloc hq.size o).cell (p := ⟨W.heap.size, 2, none⟩) hlX).trans (cell_of_row _ _ 2 _ _ _ hMx.out)
            have n3 : ∀ o, (wr.alloc o).cell? ⟨W.heap.size, 3, none⟩ = some (.int .i64 (0)) := fun o => ((hq.alloc hq.size o).cell (p := ⟨W.heap.size, 3, none⟩) hlX).trans (cell_of_row _ _ 3 _ _ _ hMx.out)
            have n4 : ∀ o, (wr.alloc o).cell? ⟨W.heap.size, 4, none⟩ = some (.int .i64 (0)) := fun o => ((hq.alloc hq.size o).cell (p := ⟨W.heap.size, 4, none⟩) hlX).trans (cell_of_row _ _ 4 _ _ _ hMx.out)
            have n5 : ∀ o, (wr.alloc o).cell? ⟨W.heap.size, 5, none⟩ = some (.int .i64 (0)) := fun o => ((hq.alloc hq.size o).cell (p := ⟨W.heap.size, 5, none⟩) hlX).trans (cell_of_row _ _ 5 _ _ _ hMx.out)
            have n6 : ∀ o, (wr.alloc o).cell? ⟨W.heap.size, 6, none⟩ = some (.int .i64 (0)) := fun o => ((hq.alloc hq.size o).cell (p := ⟨W.heap.size, 6, none⟩) hlX).trans (cell_of_row _ _ 6 _ _ _ hMx.out)
            have n7 : ∀ o, (wr.alloc o).cell? ⟨W.heap.size, 7, none⟩ = some (.slice none 0 0) := fun o => ((hq.alloc hq.size o).cell (p := ⟨W.heap.size, 7, none⟩) hlX).trans (cell_of_row _ _ 7 _ _ _ hMx.out)
            have n8 : ∀ o, (wr.alloc o).cell? ⟨W.heap.size, 8, none⟩ = some (.string ⟨#[]⟩) := fun o => ((hq.alloc hq.size o).cell (p := ⟨W.heap.size, 8, none⟩) hlX).trans (cell_of_row _ _ 8 _ _ _ hMx.out)
            clear hmk
            go_wp2
            go_roundw
            case rel => exact ⟨k + 1, by omega, by go_num, (hq.alloc hq.size _).alloc (by simp; have := hq.size; omega) _⟩
            case measure => simp [intOf]; omega
          · obtain ⟨q0, q1, q2, q3, q4, q5, q6, q7, q8⟩ := (hmk.out wr (below_of2 hbX hq) k hk2).2 hp
            have hp' : (k : Int) % 2 = 1 := by omega
            have n0 : ∀ o, (wr.alloc o).cell? ⟨W.heap.size, 9, none⟩ = some (.string ⟨#[]⟩) := fun o => ((hq.alloc hq.size o).cell (p := ⟨W.heap.size, 9, none⟩) hlX).trans (cell_of_row _ _ 9 _ _ _ hMx.out)
            have n1 : ∀ o, (wr.alloc o).cell? ⟨W.heap.size, 10, none⟩ = some (.bool false) := fun o => ((hq.alloc hq.size o).cell (p := ⟨W.heap.size, 10, none⟩) hlX).trans (cell_of_row _ _ 10 _ _ _ hMx.out)
            have n2 : ∀ o, (wr.alloc o).cell? ⟨W.heap.size, 11, none⟩ = some (.int .i64 (-7702)) := fun o => ((hq.alloc hq.size o).cell (p := ⟨W.heap.size, 11, none⟩) hlX).trans (cell_of_row _ _ 11 _ _ _ hMx.out)
            have n3 : ∀ o, (wr.alloc o).cell? ⟨W.heap.size, 12, none⟩ = some (.int .i64 (0)) := fun o => ((hq.alloc hq.size o).cell (p := ⟨W.heap.size, 12, none⟩) hlX).trans (cell_of_row _ _ 12 _ _ _ hMx.out)
            have n4 : ∀ o, (wr.alloc o).cell? ⟨W.heap.size, 13, none⟩ = some (.int .i64 (0)) := fun o => ((hq.alloc hq.size o).cell (p := ⟨W.heap.size, 13, none⟩) hlX).trans (cell_of_row _ _ 13 _ _ _ hMx.out)
            have n5 : ∀ o, (wr.alloc o).cell? ⟨W.heap.size, 14, none⟩ = some (.int .i64 (0)) := fun o => ((hq.alloc hq.size o).cell (p := ⟨W.heap.size, 14, none⟩) hlX).trans (cell_of_row _ _ 14 _ _ _ hMx.out)
            have n6 : ∀ o, (wr.alloc o).cell? ⟨W.heap.size, 15, none⟩ = some (.int .i64 (0)) := fun o => ((hq.alloc hq.size o).cell (p := ⟨W.heap.size, 15, none⟩) hlX).trans (cell_of_row _ _ 15 _ _ _ hMx.out)
            have n7 : ∀ o, (wr.alloc o).cell? ⟨W.heap.size, 16, none⟩ = some (.slice none 0 0) := fun o => ((hq.alloc hq.size o).cell (p := ⟨W.heap.size, 16, none⟩) hlX).trans (cell_of_row _ _ 16 _ _ _ hMx.out)
            have n8 : ∀ o, (wr.alloc o).cell? ⟨W.heap.size, 17, none⟩ = some (.string ⟨#[]⟩) := fun o => ((hq.alloc hq.size o).cell (p := ⟨W.heap.size, 17, none⟩) hlX).trans (cell_of_row _ _ 17 _ _ _ hMx.out)
            clear hmk
            go_wp2
            go_roundw
            case rel => exact ⟨k + 1, by omega, by go_num, (hq.alloc hq.size _).alloc (by simp; have := hq.size; omega) _⟩
            case measure => simp [intOf]; omega
        · obtain rfl : k = 40 := by omega
          have h1 := hlth.out
          have h2 := hcl.out
          have h3 : (i : Int) < 2000000000 := by omega
          have h4 : (0 : Int) ≤ (i : Int) := by omega
          go_wp2
          go_roundw
          case rel =>
            have h1 := hlth.out
            have h2 := hcl.out
            exact ⟨i + 1, by omega, by go_num, hq⟩
          case measure =>
            have h1 := hlth.out
            have h2 := hcl.out
            simp [intOf]
            omega
    · obtain rfl : i = vs.length := by omega
      go_wp2
      go_ret
      exact ⟨rfl, below_of2 hbX hb⟩

end Go.Proofs.Ytjgkjdalnjlefaa


namespace Go.Proofs.Ytjgkjdalnjlefaa
open Go.RowKit

set_option maxRecDepth 100000 in
set_option maxHeartbeats 4000000 in
theorem holdLines_rm (R lo N : Nat) (K : Nat → Value) (V : Nat → List Value) (W : World) (hN : N ≤ 2000000000) (hR : RmAt W R lo K V N) :
    Calls Try.prog 46 #[.pointer (some ⟨R, 0, none⟩)] W fun e W' => e = .returned (.bool true) ∧ Below W.heap.size W W' := by
  have hbX := bel_alloc W (.cells #[.string ⟨#[]⟩, .bool false, .bool false, .int .i64 (-7701), .int .i64 (0), .int .i64 (0), .slice none 0 0, .string ⟨#[]⟩, .bool false, .bool false, .int .i64 (-7702), .int .i64 (0), .int .i64 (0), .slice none 0 0] 80)
  have hMx := Hid.mk (heap_alloc_new W (.cells #[.string ⟨#[]⟩, .bool false, .bool false, .int .i64 (-7701), .int .i64 (0), .int .i64 (0), .slice none 0 0, .string ⟨#[]⟩, .bool false, .bool false, .int .i64 (-7702), .int .i64 (0), .int .i64 (0), .slice none 0 0] 80))
  have hXs : W.heap.size < (W.alloc (.cells #[.string ⟨#[]⟩, .bool false, .bool false, .int .i64 (-7701), .int .i64 (0), .int .i64 (0), .slice none 0 0, .string ⟨#[]⟩, .bool false, .bool false, .int .i64 (-7702), .int .i64 (0), .int .i64 (0), .slice none 0 0] 80)).heap.size := by simp
  obtain ⟨ka, kc, hK⟩ := own_shape (hR.own 16 (by decide))
  have hRX := hR.new hbX
  have hc := (hRX.cell (j := 16) (by decide)).1
  have hcl := Hid.mk (hR.few 16 (by decide))
  have hown := hR.own 16 (by decide)
  have hmks := Hid.mk (hR.mks 16 (by decide))
  rw [hK] at hc hown

  have hRlt := hRX.lt
  clear hR hRX hK
  go_enter Try.func46, Try.ntmps46
  go_wp2
  generalize W.alloc (.cells #[.string ⟨#[]⟩, .bool false, .bool false, .int .i64 (-7701), .int .i64 (0), .int .i64 (0), .slice none 0 0, .string ⟨#[]⟩, .bool false, .bool false, .int .i64 (-7702), .int .i64 (0), .int .i64 (0), .slice none 0 0] 80) = X at *
  generalize V 16 = vs at *
  go_loopw [4] (fun v wr => ∃ i : Nat, i ≤ vs.length ∧ v = .int .i64 (i : Int) ∧ Below X.heap.size X wr) (fun v _ => vs.length - (intOf v).toNat)
  case atStart => exact ⟨0, Nat.zero_le _, rfl, Below.refl _ _⟩
  case round =>
    obtain ⟨i, hi, rfl, hb⟩ := hrel
    have hc1 := (hb.cell (p := ⟨R, 16, none⟩) hRlt).trans hc
    by_cases hlt : i < vs.length
    · have hlt' : (i : Int) < (vs.length : Int) := by omega
      have hi0 : (0 : Int) ≤ (i : Int) := by omega
      have hlth := Hid.mk hlt
      obtain ⟨gr, cap2, hg, -⟩ := own_lit2 hown (by omega)
      injection hg with hg1 _ hg2
      subst hg1 hg2
      obtain ⟨g, n, cap, cs, f, hv, hgh, hsp, hn, hmk⟩ := hmks.out _ (List.getElem_mem hlt)
      obtain ⟨N0, rfl⟩ : ∃ N0, n = N0 + 40 := ⟨n - 40, by have : rmSp 16 = 40 := rfl; omega⟩
      have hrow : W.cell? ⟨gr, i, none⟩ = some (.slice (some ⟨g, 0, none⟩) (N0 + 40) cap) := by rw [hown.cellAt i (by omega), List.getElem?_eq_getElem hlt, hv]
      have hgrl := (hown.lt gr rfl).2
      have hgl : g < W.heap.size := (Array.getElem?_eq_some_iff.1 hgh).1
      have hr1 : Hid (∀ X', Below W.heap.size W X' → X'.cell? ⟨gr, i, none⟩ = some (.slice (some ⟨g, 0, none⟩) (N0 + 40) cap)) := ⟨fun X' h => (h.cell (p := ⟨gr, i, none⟩) hgrl).trans hrow⟩
      have hmk : Hid (∀ X', Below W.heap.size W X' → ∀ k, k < 40 → (k % 2 = 0 → X'.cell? ⟨g, (N0 + k) * 7, none⟩ = some (.string ⟨#[]⟩) ∧ X'.cell? ⟨g, (N0 + k) * 7 + 1, none⟩ = some (.bool false) ∧ X'.cell? ⟨g, (N0 + k) * 7 + 2, none⟩ = some (.bool false) ∧ X'.cell? ⟨g, (N0 + k) * 7 + 3, none⟩ = some (.int .i64 (-7701)) ∧ X'.cell? ⟨g, (N0 + k) * 7 + 4, none⟩ = some (.int .i64 (0)) ∧ X'.cell? ⟨g, (N0 + k) * 7 + 5, none⟩ = some (.int .i64 (0)) ∧ X'.cell? ⟨g, (N0 + k) * 7 + 6, none⟩ = some (.slice none 0 0)) ∧ (k % 2 = 1 → X'.cell? ⟨g, (N0 + k) * 7, none⟩ = some (.string ⟨#[]⟩) ∧ X'.cell? ⟨g, (N0 + k) * 7 + 1, none⟩ = some (.bool false) ∧ X'.cell? ⟨g, (N0 + k) * 7 + 2, none⟩ = some (.bool false) ∧ X'.cell? ⟨g, (N0 + k) * 7 + 3, none⟩ = some (.int .i64 (-7702)) ∧ X'.cell? ⟨g, (N0 + k) * 7 + 4, none⟩ = some (.int .i64 (0)) ∧ X'.cell? ⟨g, (N0 + k) * 7 + 5, none⟩ = some (.int .i64 (0)) ∧ X'.cell? ⟨g, (N0 + k) * 7 + 6, none⟩ = some (.slice none 0 0))) := ⟨fun X' h k hk => by
        have hcell : ∀ k, k < 40 → ∀ i u, (rmMk 16 k)[i]? = some u → X'.cell? ⟨g, (N0 + k) * rmS 16 + i, none⟩ = some u := fun k hk i u hu => by
          rw [h.cell (p := ⟨g, (N0 + k) * rmS 16 + i, none⟩) hgl, cell_of_row _ _ _ _ _ _ hgh]
          have := hmk k hk i u hu
          rwa [show N0 + 40 - rmSp 16 = N0 from Nat.add_sub_cancel _ _] at this
        exact ⟨fun hp => ⟨(hcell k hk 0 _ (by unfold rmMk; rw [if_pos (hp)]; rfl)), (hcell k hk 1 _ (by unfold rmMk; rw [if_pos (hp)]; rfl)), (hcell k hk 2 _ (by unfold rmMk; rw [if_pos (hp)]; rfl)), (hcell k hk 3 _ (by unfold rmMk; rw [if_pos (hp)]; rfl)), (hcell k hk 4 _ (by unfold rmMk; rw [if_pos (hp)]; rfl)), (hcell k hk 5 _ (by unfold rmMk; rw [if_pos (hp)]; rfl)), (hcell k hk 6 _ (by unfold rmMk; rw [if_pos (hp)]; rfl))⟩, fun hp => ⟨(hcell k hk 0 _ (by unfold rmMk; rw [if_neg (by omega)]; rfl)), (hcell k hk 1 _ (by unfold rmMk; rw [if_neg (by omega)]; rfl)), (hcell k hk 2 _ (by unfold rmMk; rw [if_neg (by omega)]; rfl)), (hcell k hk 3 _ (by unfold rmMk; rw [if_neg (by omega)]; rfl)), (hcell k hk 4 _ (by unfold rmMk; rw [if_neg (by omega)]; rfl)), (hcell k hk 5 _ (by unfold rmMk; rw [if_neg (by omega)]; rfl)), (hcell k hk 6 _ (by unfold rmMk; rw [if_neg (by omega)]; rfl))⟩⟩⟩
      have hd1 := hr1.out wr (below_of2 hbX hb)
      have hN0 : N0 ≤ 2000000 := by omega
      clear hrow hgrl hgh hv hsp hn
      go_wp2
      obtain ⟨wz, hwz⟩ : ∃ wz, wz = wr := ⟨_, rfl⟩
      rw [← hwz] at hb hc1 hd1 ⊢
      go_loopw [6] (fun v wq => ∃ k : Nat, k ≤ 40 ∧ v = .int .i64 (k : Int) ∧ Below X.heap.size X wq) (fun v _ => (41 - intOf v).toNat)
      case atStart => exact ⟨0, by omega, rfl, hb⟩
      case round =>
        clear hc1 hd1 hb hwz
        obtain ⟨k, hk, rfl, hq⟩ := hrel
        have hc1 := (hq.cell (p := ⟨R, 16, none⟩) hRlt).trans hc
        have hd1 := hr1.out _ (below_of2 hbX hq)
        have hlX : W.heap.size < X.heap.size := hXs
        by_cases hk2 : k < 40
        · have hkk : (k : Int) < 40 := by omega
          have hk0 : (0 : Int) ≤ (k : Int) := by omega
          rcases (show k % 2 = 0 ∨ k % 2 = 1 by omega) with hp | hp
          · obtain ⟨q0, q1, q2, q3, q4, q5, q6⟩ := (hmk.out wr (below_of2 hbX hq) k hk2).1 hp
            have hp' : (k : Int) % 2 = 0 := by omega
            have n0 : ∀ o, (wr.alloc o).cell? ⟨W.heap.size, 0, none⟩ = some (.string ⟨#[]⟩) := fun o => ((hq.alloc hq.size o).cell (p := ⟨W.heap.size, 0, none⟩) hlX).trans (cell_of_row _ _ 0 _ _ _ hMx.out)
            have n1 : ∀ o, (wr.alloc o).cell? ⟨W.heap.size, 1, none⟩ = some (.bool false) := fun o => ((hq.alloc hq.size o).cell (p := ⟨W.heap.size, 1, none⟩) hlX).trans (cell_of_row _ _ 1 _ _ _ hMx.out)
            have n2 : ∀ o, (wr.alloc o).cell? ⟨W.heap.size, 2, none⟩ = some (.bool false) := fun o => ((hq.alloc hq.size o).cell (p := ⟨W.heap.size, 2, none⟩) hlX).trans (cell_of_row _ _ 2 _ _ _ hMx.out)
            have n3 : ∀ o, (wr.alloc o).cell? ⟨W.heap.size, 3, none⟩ = some (.int .i64 (-7701)) := fun o => ((hq.alloc hq.size o).cell (p := ⟨W.heap.size, 3, none⟩) hlX).trans (cell_of_row _ _ 3 _ _ _ hMx.out)
            have n4 : ∀ o, (wr.alloc o).cell? ⟨W.heap.size, 4, none⟩ = some (.int .i64 (0)) := fun o => ((hq.alloc hq.size o).cell (p := ⟨W.heap.size, 4, none⟩) hlX).trans (cell_of_row _ _ 4 _ _ _ hMx.out)
            have n5 : ∀ o, (wr.alloc o).cell? ⟨W.heap.size, 5, none⟩ = some (.int .i64 (0)) := fun o => ((hq.alloc hq.size o).cell (p := ⟨W.heap.size, 5, none⟩) hlX).trans (cell_of_row _ _ 5 _ _ _ hMx.out)
            have n6 : ∀ o, (wr.alloc o).cell? ⟨W.heap.size, 6, none⟩ = some (.slice none 0 0) := fun o => ((hq.alloc hq.size o).cell (p := ⟨W.heap.size, 6, none⟩) hlX).trans (cell_of_row _ _ 6 _ _ _ hMx.out)
            clear hmk
            go_wp2
            go_roundw
            case rel => exact ⟨k + 1, by omega, by go_num, (hq.alloc hq.size _).alloc (by simp; have := hq.size; omega) _⟩
            case measure => simp [intOf]; omega
          · obtain ⟨q0, q1, q2, q3, q4, q5, q6⟩ := (hmk.out wr (below_of2 hbX hq) k hk2).2 hp
            have hp' : (k : Int) % 2 = 1 := by omega
            have n0 : ∀ o, (wr.alloc o).cell? ⟨W.heap.size, 7, none⟩ = some (.string ⟨#[]⟩) := fun o => ((hq.alloc hq.size o).cell (p := ⟨W.heap.size, 7, none⟩) hlX).trans (cell_of_row _ _ 7 _ _ _ hMx.out)
            have n1 : ∀ o, (wr.alloc o).cell? ⟨W.heap.size, 8, none⟩ = some (.bool false) := fun o => ((hq.alloc hq.size o).cell (p := ⟨W.heap.size, 8, none⟩) hlX).trans (cell_of_row _ _ 8 _ _ _ hMx.out)
            have n2 : ∀ o, (wr.alloc o).cell? ⟨W.heap.size, 9, none⟩ = some (.bool false) := fun o => ((hq.alloc hq.size o).cell (p := ⟨W.heap.size, 9, none⟩) hlX).trans (cell_of_row _ _ 9 _ _ _ hMx.out)
            have n3 : ∀ o, (wr.alloc o).cell? ⟨W.heap.size, 10, none⟩ = some (.int .i64 (-7702)) := fun o => ((hq.alloc hq.size o).cell (p := ⟨W.heap.size, 10, none⟩) hlX).trans (cell_of_row _ _ 10 _ _ _ hMx.out)
            have n4 : ∀ o, (wr.alloc o).cell? ⟨W.heap.size, 11, none⟩ = some (.int .i64 (0)) := fun o => ((hq.alloc hq.size o).cell (p := ⟨W.heap.size, 11, none⟩) hlX).trans (cell_of_row _ _ 11 _ _ _ hMx.out)
            have n5 : ∀ o, (wr.alloc o).cell? ⟨W.heap.size, 12, none⟩ = some (.int .i64 (0)) := fun o => ((hq.alloc hq.size o).cell (p := ⟨W.heap.size, 12, none⟩) hlX).trans (cell_of_row _ _ 12 _ _ _ hMx.out)
            have n6 : ∀ o, (wr.alloc o).cell? ⟨W.heap.size, 13, none⟩ = some (.slice none 0 0) := fun o => ((hq.alloc hq.size o).cell (p := ⟨W.heap.size, 13, none⟩) hlX).trans (cell_of_row _ _ 13 _ _ _ hMx.out)
            clear hmk
            go_wp2
            go_roundw
            case rel => exact ⟨k + 1, by omega, by go_num, (hq.alloc hq.size _).alloc (by simp; have := hq.size; omega) _⟩
            case measure => simp [intOf]; omega
        · obtain rfl : k = 40 := by omega
          have h1 := hlth.out
          have h2 := hcl.out
          have h3 : (i : Int) < 2000000000 := by omega
          have h4 : (0 : Int) ≤ (i : Int) := by omega
          go_wp2
          go_roundw
          case rel =>
            have h1 := hlth.out
            have h2 := hcl.out
            exact ⟨i + 1, by omega, by go_num, hq⟩
          case measure =>
            have h1 := hlth.out
            have h2 := hcl.out
            simp [intOf]
            omega
    · obtain rfl : i = vs.length := by omega
      go_wp2
      go_ret
      exact ⟨rfl, below_of2 hbX hb⟩

end Go.Proofs.Ytjgkjdalnjlefaa


namespace Go.Proofs.Ytjgkjdalnjlefaa
open Go.RowKit

set_option maxRecDepth 100000 in
set_option maxHeartbeats 4000000 in
theorem holdClauses_rm (R lo N : Nat) (K : Nat → Value) (V : Nat → List Value) (W : World) (hN : N ≤ 2000000000) (hR : RmAt W R lo K V N) :
    Calls Try.prog 45 #[.pointer (some ⟨R, 0, none⟩)] W fun e W' => e = .returned (.bool true) ∧ Below W.heap.size W W' := by
  have hbX := bel_alloc W (.cells #[.int .i64 (-7701), .bool false, .int .i64 (0), .int .i64 (0), .int .i64 (0), .int .i64 (0), .slice none 0 0, .int .i64 (0), .int .i64 (0), .int .i64 (0), .int .i64 (0), .slice none 0 0, .int .i64 (-7702), .bool false, .int .i64 (0), .int .i64 (0), .int .i64 (0), .int .i64 (0), .slice none 0 0, .int .i64 (0), .int .i64 (0), .int .i64 (0), .int .i64 (0), .slice none 0 0] 108)
  have hMx := Hid.mk (heap_alloc_new W (.cells #[.int .i64 (-7701), .bool false, .int .i64 (0), .int .i64 (0), .int .i64 (0), .int .i64 (0), .slice none 0 0, .int .i64 (0), .int .i64 (0), .int .i64 (0), .int .i64 (0), .slice none 0 0, .int .i64 (-7702), .bool false, .int .i64 (0), .int .i64 (0), .int .i64 (0), .int .i64 (0), .slice none 0 0, .int .i64 (0), .int .i64 (0), .int .i64 (0), .int .i64 (0), .slice none 0 0] 108))
  have hXs : W.heap.size < (W.alloc (.cells #[.int .i64 (-7701), .bool false, .int .i64 (0), .int .i64 (0), .int .i64 (0), .int .i64 (0), .slice none 0 0, .int .i64 (0), .int .i64 (0), .int .i64 (0), .int .i64 (0), .slice none 0 0, .int .i64 (-7702), .bool false, .int .i64 (0), .int .i64 (0), .int .i64 (0), .int .i64 (0), .slice none 0 0, .int .i64 (0), .int .i64 (0), .int .i64 (0), .int .i64 (0), .slice none 0 0] 108)).heap.size := by simp
  obtain ⟨ka, kc, hK⟩ := own_shape (hR.own 15 (by decide))
  have hRX := hR.new hbX
  have hc := (hRX.cell (j := 15) (by decide)).1
  have hcl := Hid.mk (hR.few 15 (by decide))
  have hown := hR.own 15 (by decide)
  have hmks := Hid.mk (hR.mks 15 (by decide))
  rw [hK] at hc hown

  have hRlt := hRX.lt
  clear hR hRX hK
  go_enter Try.func45, Try.ntmps45
  go_wp2
  generalize W.alloc (.cells #[.int .i64 (-7701), .bool false, .int .i64 (0), .int .i64 (0), .int .i64 (0), .int .i64 (0), .slice none 0 0, .int .i64 (0), .int .i64 (0), .int .i64 (0), .int .i64 (0), .slice none 0 0, .int .i64 (-7702), .bool false, .int .i64 (0), .int .i64 (0), .int .i64 (0), .int .i64 (0), .slice none 0 0, .int .i64 (0), .int .i64 (0), .int .i64 (0), .int .i64 (0), .slice none 0 0] 108) = X at *
  generalize V 15 = vs at *
  go_loopw [4] (fun v wr => ∃ i : Nat, i ≤ vs.length ∧ v = .int .i64 (i : Int) ∧ Below X.heap.size X wr) (fun v _ => vs.length - (intOf v).toNat)
  case atStart => exact ⟨0, Nat.zero_le _, rfl, Below.refl _ _⟩
  case round =>
    obtain ⟨i, hi, rfl, hb⟩ := hrel
    have hc1 := (hb.cell (p := ⟨R, 15, none⟩) hRlt).trans hc
    by_cases hlt : i < vs.length
    · have hlt' : (i : Int) < (vs.length : Int) := by omega
      have hi0 : (0 : Int) ≤ (i : Int) := by omega
      have hlth := Hid.mk hlt
      obtain ⟨gr, cap2, hg, -⟩ := own_lit2 hown (by omega)
      injection hg with hg1 _ hg2
      subst hg1 hg2
      obtain ⟨g, n, cap, cs, f, hv, hgh, hsp, hn, hmk⟩ := hmks.out _ (List.getElem_mem hlt)
      obtain ⟨N0, rfl⟩ : ∃ N0, n = N0 + 40 := ⟨n - 40, by have : rmSp 15 = 40 := rfl; omega⟩
      have hrow : W.cell? ⟨gr, i, none⟩ = some (.slice (some ⟨g, 0, none⟩) (N0 + 40) cap) := by rw [hown.cellAt i (by omega), List.getElem?_eq_getElem hlt, hv]
      have hgrl := (hown.lt gr rfl).2
      have hgl : g < W.heap.size := (Array.getElem?_eq_some_iff.1 hgh).1
      have hr1 : Hid (∀ X', Below W.heap.size W X' → X'.cell? ⟨gr, i, none⟩ = some (.slice (some ⟨g, 0, none⟩) (N0 + 40) cap)) := ⟨fun X' h => (h.cell (p := ⟨gr, i, none⟩) hgrl).trans hrow⟩
      have hmk : Hid (∀ X', Below W.heap.size W X' → ∀ k, k < 40 → (k % 2 = 0 → X'.cell? ⟨g, (N0 + k) * 12, none⟩ = some (.int .i64 (-7701)) ∧ X'.cell? ⟨g, (N0 + k) * 12 + 1, none⟩ = some (.bool false) ∧ X'.cell? ⟨g, (N0 + k) * 12 + 2, none⟩ = some (.int .i64 (0)) ∧ X'.cell? ⟨g, (N0 + k) * 12 + 3, none⟩ = some (.int .i64 (0)) ∧ X'.cell? ⟨g, (N0 + k) * 12 + 4, none⟩ = some (.int .i64 (0)) ∧ X'.cell? ⟨g, (N0 + k) * 12 + 5, none⟩ = some (.int .i64 (0)) ∧ X'.cell? ⟨g, (N0 + k) * 12 + 6, none⟩ = some (.slice none 0 0) ∧ X'.cell? ⟨g, (N0 + k) * 12 + 7, none⟩ = some (.int .i64 (0)) ∧ X'.cell? ⟨g, (N0 + k) * 12 + 8, none⟩ = some (.int .i64 (0)) ∧ X'.cell? ⟨g, (N0 + k) * 12 + 9, none⟩ = some (.int .i64 (0)) ∧ X'.cell? ⟨g, (N0 + k) * 12 + 10, none⟩ = some (.int .i64 (0)) ∧ X'.cell? ⟨g, (N0 + k) * 12 + 11, none⟩ = some (.slice none 0 0)) ∧ (k % 2 = 1 → X'.cell? ⟨g, (N0 + k) * 12, none⟩ = some (.int .i64 (-7702)) ∧ X'.cell? ⟨g, (N0 + k) * 12 + 1, none⟩ = some (.bool false) ∧ X'.cell? ⟨g, (N0 + k) * 12 + 2, none⟩ = some (.int .i64 (0)) ∧ X'.cell? ⟨g, (N0 + k) * 12 + 3, none⟩ = some (.int .i64 (0)) ∧ X'.cell? ⟨g, (N0 + k) * 12 + 4, none⟩ = some (.int .i64 (0)) ∧ X'.cell? ⟨g, (N0 + k) * 12 + 5, none⟩ = some (.int .i64 (0)) ∧ X'.cell? ⟨g, (N0 + k) * 12 + 6, none⟩ = some (.slice none 0 0) ∧ X'.cell? ⟨g, (N0 + k) * 12 + 7, none⟩ = some (.int .i64 (0)) ∧ X'.cell? ⟨g, (N0 + k) * 12 + 8, none⟩ = some (.int .i64 (0)) ∧ X'.cell? ⟨g, (N0 + k) * 12 + 9, none⟩ = some (.int .i64 (0)) ∧ X'.cell? ⟨g, (N0 + k) * 12 + 10, none⟩ = some (.int .i64 (0)) ∧ X'.cell? ⟨g, (N0 + k) * 12 + 11, none⟩ = some (.slice none 0 0))) := ⟨fun X' h k hk => by
        have hcell : ∀ k, k < 40 → ∀ i u, (rmMk 15 k)[i]? = some u → X'.cell? ⟨g, (N0 + k) * rmS 15 + i, none⟩ = some u := fun k hk i u hu => by
          rw [h.cell (p := ⟨g, (N0 + k) * rmS 15 + i, none⟩) hgl, cell_of_row _ _ _ _ _ _ hgh]
          have := hmk k hk i u hu
          rwa [show N0 + 40 - rmSp 15 = N0 from Nat.add_sub_cancel _ _] at this
        exact ⟨fun hp => ⟨(hcell k hk 0 _ (by unfold rmMk; rw [if_pos (hp)]; rfl)), (hcell k hk 1 _ (by unfold rmMk; rw [if_pos (hp)]; rfl)), (hcell k hk 2 _ (by unfold rmMk; rw [if_pos (hp)]; rfl)), (hcell k hk 3 _ (by unfold rmMk; rw [if_pos (hp)]; rfl)), (hcell k hk 4 _ (by unfold rmMk; rw [if_pos (hp)]; rfl)), (hcell k hk 5 _ (by unfold rmMk; rw [if_pos (hp)]; rfl)), (hcell k hk 6 _ (by unfold rmMk; rw [if_pos (hp)]; rfl)), (hcell k hk 7 _ (by unfold rmMk; rw [if_pos (hp)]; rfl)), (hcell k hk 8 _ (by unfold rmMk; rw [if_pos (hp)]; rfl)), (hcell k hk 9 _ (by unfold rmMk; rw [if_pos (hp)]; rfl)), (hcell k hk 10 _ (by unfold rmMk; rw [if_pos (hp)]; rfl)), (hcell k hk 11 _ (by unfold rmMk; rw [if_pos (hp)]; rfl))⟩, fun hp => ⟨(hcell k hk 0 _ (by unfold rmMk; rw [if_neg (by omega)]; rfl)), (hcell k hk 1 _ (by unfold rmMk; rw [if_neg (by omega)]; rfl)), (hcell k hk 2 _ (by unfold rmMk; rw [if_neg (by omega)]; rfl)), (hcell k hk 3 _ (by unfold rmMk; rw [if_neg (by omega)]; rfl)), (hcell k hk 4 _ (by unfold rmMk; rw [if_neg (by omega)]; rfl)), (hcell k hk 5 _ (by unfold rmMk; rw [if_neg (by omega)]; rfl)), (hcell k hk 6 _ (by unfold rmMk; rw [if_neg (by omega)]; rfl)), (hcell k hk 7 _ (by unfold rmMk; rw [if_neg (by omega)]; rfl)), (hcell k hk 8 _ (by unfold rmMk; rw [if_neg (by omega)]; rfl)), (hcell k hk 9 _ (by unfold rmMk; rw [if_neg (by omega)]; rfl)), (hcell k hk 10 _ (by unfold rmMk; rw [if_neg (by omega)]; rfl)), (hcell k hk 11 _ (by unfold rmMk; rw [if_neg (by omega)]; rfl))⟩⟩⟩
      have hd1 := hr1.out wr (below_of2 hbX hb)
      have hN0 : N0 ≤ 2000000 := by omega
      clear hrow hgrl hgh hv hsp hn
      go_wp2
      obtain ⟨wz, hwz⟩ : ∃ wz, wz = wr := ⟨_, rfl⟩
      rw [← hwz] at hb hc1 hd1 ⊢
      go_loopw [6] (fun v wq => ∃ k : Nat, k ≤ 40 ∧ v = .int .i64 (k : Int) ∧ Below X.heap.size X wq) (fun v _ => (41 - intOf v).toNat)
      case atStart => exact ⟨0, by omega, rfl, hb⟩
      case round =>
        clear hc1 hd1 hb hwz
        obtain ⟨k, hk, rfl, hq⟩ := hrel
        have hc1 := (hq.cell (p := ⟨R, 15, none⟩) hRlt).trans hc
        have hd1 := hr1.out _ (below_of2 hbX hq)
        have hlX : W.heap.size < X.heap.size := hXs
        by_cases hk2 : k < 40
        · have hkk : (k : Int) < 40 := by omega
          have hk0 : (0 : Int) ≤ (k : Int) := by omega
          rcases (show k % 2 = 0 ∨ k % 2 = 1 by omega) with hp | hp
          · obtain ⟨q0, q1, q2, q3, q4, q5, q6, q7, q8, q9, q10, q11⟩ := (hmk.out wr (below_of2 hbX hq) k hk2).1 hp
            have hp' : (k : Int) % 2 = 0 := by omega
            have n0 : ∀ o, (wr.alloc o).cell? ⟨W.heap.size, 0, none⟩ = some (.int .i64 (-7701)) := fun o => ((hq.alloc hq.size o).cell (p := ⟨W.heap.size, 0, none⟩) hlX).trans (cell_of_row _ _ 0 _ _ _ hMx.out)
            have n1 : ∀ o, (wr.alloc o).cell? ⟨W.heap.size, 1, none⟩ = some (.bool false) := fun o => ((hq.alloc hq.size o).cell (p := ⟨W.heap.size, 1, none⟩) hlX).trans (cell_of_row _ _ 1 _ _ _ hMx.out)
            have n2 : ∀ o, (wr.alloc o).cell? ⟨W.heap.size, 2, none⟩ = some (.int .i64 (0)) := fun o => ((hq.alloc hq.size o).cell (p := ⟨W.heap.size, 2, none⟩) hlX).trans (cell_of_row _ _ 2 _ _ _ hMx.out)
            have n3 : ∀ o, (wr.alloc o).cell? ⟨W.heap.size, 3, none⟩ = some (.int .i64 (0)) := fun o => ((hq.alloc hq.size o).cell (p := ⟨W.heap.size, 3, none⟩) hlX).trans (cell_of_row _ _ 3 _ _ _ hMx.out)
            have n4 : ∀ o, (wr.alloc o).cell? ⟨W.heap.size, 4, none⟩ = some (.int .i64 (0)) := fun o => ((hq.alloc hq.size o).cell (p := ⟨W.heap.size, 4, none⟩) hlX).trans (cell_of_row _ _ 4 _ _ _ hMx.out)
            have n5 : ∀ o, (wr.alloc o).cell? ⟨W.heap.size, 5, none⟩ = some (.int .i64 (0)) := fun o => ((hq.alloc hq.size o).cell (p := ⟨W.heap.size, 5, none⟩) hlX).trans (cell_of_row _ _ 5 _ _ _ hMx.out)
            have n6 : ∀ o, (wr.alloc o).cell? ⟨W.heap.size, 6, none⟩ = some (.slice none 0 0) := fun o => ((hq.alloc hq.size o).cell (p := ⟨W.heap.size, 6, none⟩) hlX).trans (cell_of_row _ _ 6 _ _ _ hMx.out)
            have n7 : ∀ o, (wr.alloc o).cell? ⟨W.heap.size, 7, none⟩ = some (.int .i64 (0)) := fun o => ((hq.alloc hq.size o).cell (p := ⟨W.heap.size, 7, none⟩) hlX).trans (cell_of_row _ _ 7 _ _ _ hMx.out)
            have n8 : ∀ o, (wr.alloc o).cell? ⟨W.heap.size, 8, none⟩ = some (.int .i64 (0)) := fun o => ((hq.alloc hq.size o).cell (p := ⟨W.heap.size, 8, none⟩) hlX).trans (cell_of_row _ _ 8 _ _ _ hMx.out)
            have n9 : ∀ o, (wr.alloc o).cell? ⟨W.heap.size, 9, none⟩ = some (.int .i64 (0)) := fun o => ((hq.alloc hq.size o).cell (p := ⟨W.heap.size, 9, none⟩) hlX).trans (cell_of_row _ _ 9 _ _ _ hMx.out)
            have n10 : ∀ o, (wr.alloc o).cell? ⟨W.heap.size, 10, none⟩ = some (.int .i64 (0)) := fun o => ((hq.alloc hq.size o).cell (p := ⟨W.heap.size, 10, none⟩) hlX).trans (cell_of_row _ _ 10 _ _ _ hMx.out)
            have n11 : ∀ o, (wr.alloc o).cell? ⟨W.heap.size, 11, none⟩ = some (.slice none 0 0) := fun o => ((hq.alloc hq.size o).cell (p := ⟨W.heap.size, 11, none⟩) hlX).trans (cell_of_row _ _ 11 _ _ _ hMx.out)
            clear hmk
            go_wp2
            go_roundw
            case rel => exact ⟨k + 1, by omega, by go_num, (hq.alloc hq.size _).alloc (by simp; have := hq.size; omega) _⟩
            case measure => simp [intOf]; omega
          · obtain ⟨q0, q1, q2, q3, q4, q5, q6, q7, q8, q9, q10, q11⟩ := (hmk.out wr (below_of2 hbX hq) k hk2).2 hp
            have hp' : (k : Int) % 2 = 1 := by omega
            have n0 : ∀ o, (wr.alloc o).cell? ⟨W.heap.size, 12, none⟩ = some (.int .i64 (-7702)) := fun o => ((hq.alloc hq.size o).cell (p := ⟨W.heap.size, 12, none⟩) hlX).trans (cell_of_row _ _ 12 _ _ _ hMx.out)
            have n1 : ∀ o, (wr.alloc o).cell? ⟨W.heap.size, 13, none⟩ = some (.bool false) := fun o => ((hq.alloc hq.size o).cell (p := ⟨W.heap.size, 13, none⟩) hlX).trans (cell_of_row _ _ 13 _ _ _ hMx.out)
            have n2 : ∀ o, (wr.alloc o).cell? ⟨W.heap.size, 14, none⟩ = some (.int .i64 (0)) := fun o => ((hq.alloc hq.size o).cell (p := ⟨W.heap.size, 14, none⟩) hlX).trans (cell_of_row _ _ 14 _ _ _ hMx.out)
            have n3 : ∀ o, (wr.alloc o).cell? ⟨W.heap.size, 15, none⟩ = some (.int .i64 (0)) := fun o => ((hq.alloc hq.size o).cell (p := ⟨W.heap.size, 15, none⟩) hlX).trans (cell_of_row _ _ 15 _ _ _ hMx.out)
            have n4 : ∀ o, (wr.alloc o).cell? ⟨W.heap.size, 16, none⟩ = some (.int .i64 (0)) := fun o => ((hq.alloc hq.size o).cell (p := ⟨W.heap.size, 16, none⟩) hlX).trans (cell_of_row _ _ 16 _ _ _ hMx.out)
            have n5 : ∀ o, (wr.alloc o).cell? ⟨W.heap.size, 17, none⟩ = some (.int .i64 (0)) := fun o => ((hq.alloc hq.size o).cell (p := ⟨W.heap.size, 17, none⟩) hlX).trans (cell_of_row _ _ 17 _ _ _ hMx.out)
            have n6 : ∀ o, (wr.alloc o).cell? ⟨W.heap.size, 18, none⟩ = some (.slice none 0 0) := fun o => ((hq.alloc hq.size o).cell (p := ⟨W.heap.size, 18, none⟩) hlX).trans (cell_of_row _ _ 18 _ _ _ hMx.out)
            have n7 : ∀ o, (wr.alloc o).cell? ⟨W.heap.size, 19, none⟩ = some (.int .i64 (0)) := fun o => ((hq.alloc hq.size o).cell (p := ⟨W.heap.size, 19, none⟩) hlX).trans (cell_of_row _ _ 19 _ _ _ hMx.out)
            have n8 : ∀ o, (wr.alloc o).cell? ⟨W.heap.size, 20, none⟩ = some (.int .i64 (0)) := fun o => ((hq.alloc hq.size o).cell (p := ⟨W.heap.size, 20, none⟩) hlX).trans (cell_of_row _ _ 20 _ _ _ hMx.out)
            have n9 : ∀ o, (wr.alloc o).cell? ⟨W.heap.size, 21, none⟩ = some (.int .i64 (0)) := fun o => ((hq.alloc hq.size o).cell (p := ⟨W.heap.size, 21, none⟩) hlX).trans (cell_of_row _ _ 21 _ _ _ hMx.out)
            have n10 : ∀ o, (wr.alloc o).cell? ⟨W.heap.size, 22, none⟩ = some (.int .i64 (0)) := fun o => ((hq.alloc hq.size o).cell (p := ⟨W.heap.size, 22, none⟩) hlX).trans (cell_of_row _ _ 22 _ _ _ hMx.out)
            have n11 : ∀ o, (wr.alloc o).cell? ⟨W.heap.size, 23, none⟩ = some (.slice none 0 0) := fun o => ((hq.alloc hq.size o).cell (p := ⟨W.heap.size, 23, none⟩) hlX).trans (cell_of_row _ _ 23 _ _ _ hMx.out)
            clear hmk
            go_wp2
            go_roundw
            case rel => exact ⟨k + 1, by omega, by go_num, (hq.alloc hq.size _).alloc (by simp; have := hq.size; omega) _⟩
            case measure => simp [intOf]; omega
        · obtain rfl : k = 40 := by omega
          have h1 := hlth.out
          have h2 := hcl.out
          have h3 : (i : Int) < 2000000000 := by omega
          have h4 : (0 : Int) ≤ (i : Int) := by omega
          go_wp2
          go_roundw
          case rel =>
            have h1 := hlth.out
            have h2 := hcl.out
            exact ⟨i + 1, by omega, by go_num, hq⟩
          case measure =>
            have h1 := hlth.out
            have h2 := hcl.out
            simp [intOf]
            omega
    · obtain rfl : i = vs.length := by omega
      go_wp2
      go_ret
      exact ⟨rfl, below_of2 hbX hb⟩

end Go.Proofs.Ytjgkjdalnjlefaa


namespace Go.Proofs.Ytjgkjdalnjlefaa
open Go.RowKit

set_option maxRecDepth 100000 in
set_option maxHeartbeats 4000000 in
theorem holdExprs_rm (R lo N : Nat) (K : Nat → Value) (V : Nat → List Value) (W : World) (hN : N ≤ 2000000000) (hR : RmAt W R lo K V N) :
    Calls Try.prog 44 #[.pointer (some ⟨R, 0, none⟩)] W fun e W' => e = .returned (.bool true) ∧ Below W.heap.size W W' := by
  have hbX := bel_alloc W (.cells #[.int .i64 (-7701), .int .i64 (0), .int .i64 (0), .int .i64 (0), .slice none 0 0, .int .i64 (-7702), .int .i64 (0), .int .i64 (0), .int .i64 (0), .slice none 0 0] 83)
  have hMx := Hid.mk (heap_alloc_new W (.cells #[.int .i64 (-7701), .int .i64 (0), .int .i64 (0), .int .i64 (0), .slice none 0 0, .int .i64 (-7702), .int .i64 (0), .int .i64 (0), .int .i64 (0), .slice none 0 0] 83))
  have hXs : W.heap.size < (W.alloc (.cells #[.int .i64 (-7701), .int .i64 (0), .int .i64 (0), .int .i64 (0), .slice none 0 0, .int .i64 (-7702), .int .i64 (0), .int .i64 (0), .int .i64 (0), .slice none 0 0] 83)).heap.size := by simp
  obtain ⟨ka, kc, hK⟩ := own_shape (hR.own 14 (by decide))
  have hRX := hR.new hbX
  have hc := (hRX.cell (j := 14) (by decide)).1
  have hcl := Hid.mk (hR.few 14 (by decide))
  have hown := hR.own 14 (by decide)
  have hmks := Hid.mk (hR.mks 14 (by decide))
  rw [hK] at hc hown

  have hRlt := hRX.lt
  clear hR hRX hK
  go_enter Try.func44, Try.ntmps44
  go_wp2
  generalize W.alloc (.cells #[.int .i64 (-7701), .int .i64 (0), .int .i64 (0), .int .i64 (0), .slice none 0 0, .int .i64 (-7702), .int .i64 (0), .int .i64 (0), .int .i64 (0), .slice none 0 0] 83) = X at *
  generalize V 14 = vs at *
  go_loopw [4] (fun v wr => ∃ i : Nat, i ≤ vs.length ∧ v = .int .i64 (i : Int) ∧ Below X.heap.size X wr) (fun v _ => vs.length - (intOf v).toNat)
  case atStart => exact ⟨0, Nat.zero_le _, rfl, Below.refl _ _⟩
  case round =>
    obtain ⟨i, hi, rfl, hb⟩ := hrel
    have hc1 := (hb.cell (p := ⟨R, 14, none⟩) hRlt).trans hc
    by_cases hlt : i < vs.length
    · have hlt' : (i : Int) < (vs.length : Int) := by omega
      have hi0 : (0 : Int) ≤ (i : Int) := by omega
      have hlth := Hid.mk hlt
      obtain ⟨gr, cap2, hg, -⟩ := own_lit2 hown (by omega)
      injection hg with hg1 _ hg2
      subst hg1 hg2
      obtain ⟨g, n, cap, cs, f, hv, hgh, hsp, hn, hmk⟩ := hmks.out _ (List.getElem_mem hlt)
      obtain ⟨N0, rfl⟩ : ∃ N0, n = N0 + 8 := ⟨n - 8, by have : rmSp 14 = 8 := rfl; omega⟩
      have hrow : W.cell? ⟨gr, i, none⟩ = some (.slice (some ⟨g, 0, none⟩) (N0 + 8) cap) := by rw [hown.cellAt i (by omega), List.getElem?_eq_getElem hlt, hv]
      have hgrl := (hown.lt gr rfl).2
      have hgl : g < W.heap.size := (Array.getElem?_eq_some_iff.1 hgh).1
      have hr1 : Hid (∀ X', Below W.heap.size W X' → X'.cell? ⟨gr, i, none⟩ = some (.slice (some ⟨g, 0, none⟩) (N0 + 8) cap)) := ⟨fun X' h => (h.cell (p := ⟨gr, i, none⟩) hgrl).trans hrow⟩
      have hmk : Hid (∀ X', Below W.heap.size W X' → ∀ k, k < 8 → (k % 2 = 0 → X'.cell? ⟨g, (N0 + k) * 5, none⟩ = some (.int .i64 (-7701)) ∧ X'.cell? ⟨g, (N0 + k) * 5 + 1, none⟩ = some (.int .i64 (0)) ∧ X'.cell? ⟨g, (N0 + k) * 5 + 2, none⟩ = some (.int .i64 (0)) ∧ X'.cell? ⟨g, (N0 + k) * 5 + 3, none⟩ = some (.int .i64 (0)) ∧ X'.cell? ⟨g, (N0 + k) * 5 + 4, none⟩ = some (.slice none 0 0)) ∧ (k % 2 = 1 → X'.cell? ⟨g, (N0 + k) * 5, none⟩ = some (.int .i64 (-7702)) ∧ X'.cell? ⟨g, (N0 + k) * 5 + 1, none⟩ = some (.int .i64 (0)) ∧ X'.cell? ⟨g, (N0 + k) * 5 + 2, none⟩ = some (.int .i64 (0)) ∧ X'.cell? ⟨g, (N0 + k) * 5 + 3, none⟩ = some (.int .i64 (0)) ∧ X'.cell? ⟨g, (N0 + k) * 5 + 4, none⟩ = some (.slice none 0 0))) := ⟨fun X' h k hk => by
        have hcell : ∀ k, k < 8 → ∀ i u, (rmMk 14 k)[i]? = some u → X'.cell? ⟨g, (N0 + k) * rmS 14 + i, none⟩ = some u := fun k hk i u hu => by
          rw [h.cell (p := ⟨g, (N0 + k) * rmS 14 + i, none⟩) hgl, cell_of_row _ _ _ _ _ _ hgh]
          have := hmk k hk i u hu
          rwa [show N0 + 8 - rmSp 14 = N0 from Nat.add_sub_cancel _ _] at this
        exact ⟨fun hp => ⟨(hcell k hk 0 _ (by unfold rmMk; rw [if_pos (hp)]; rfl)), (hcell k hk 1 _ (by unfold rmMk; rw [if_pos (hp)]; rfl)), (hcell k hk 2 _ (by unfold rmMk; rw [if_pos (hp)]; rfl)), (hcell k hk 3 _ (by unfold rmMk; rw [if_pos (hp)]; rfl)), (hcell k hk 4 _ (by unfold rmMk; rw [if_pos (hp)]; rfl))⟩, fun hp => ⟨(hcell k hk 0 _ (by unfold rmMk; rw [if_neg (by omega)]; rfl)), (hcell k hk 1 _ (by unfold rmMk; rw [if_neg (by omega)]; rfl)), (hcell k hk 2 _ (by unfold rmMk; rw [if_neg (by omega)]; rfl)), (hcell k hk 3 _ (by unfold rmMk; rw [if_neg (by omega)]; rfl)), (hcell k hk 4 _ (by unfold rmMk; rw [if_neg (by omega)]; rfl))⟩⟩⟩
      have hd1 := hr1.out wr (below_of2 hbX hb)
      have hN0 : N0 ≤ 2000000 := by omega
      clear hrow hgrl hgh hv hsp hn
      go_wp2
      obtain ⟨wz, hwz⟩ : ∃ wz, wz = wr := ⟨_, rfl⟩
      rw [← hwz] at hb hc1 hd1 ⊢
      go_loopw [6] (fun v wq => ∃ k : Nat, k ≤ 8 ∧ v = .int .i64 (k : Int) ∧ Below X.heap.size X wq) (fun v _ => (9 - intOf v).toNat)
      case atStart => exact ⟨0, by omega, rfl, hb⟩
      case round =>
        clear hc1 hd1 hb hwz
        obtain ⟨k, hk, rfl, hq⟩ := hrel
        have hc1 := (hq.cell (p := ⟨R, 14, none⟩) hRlt).trans hc
        have hd1 := hr1.out _ (below_of2 hbX hq)
        have hlX : W.heap.size < X.heap.size := hXs
        by_cases hk2 : k < 8
        · have hkk : (k : Int) < 8 := by omega
          have hk0 : (0 : Int) ≤ (k : Int) := by omega
          rcases (show k % 2 = 0 ∨ k % 2 = 1 by omega) with hp | hp
          · obtain ⟨q0, q1, q2, q3, q4⟩ := (hmk.out wr (below_of2 hbX hq) k hk2).1 hp
            have hp' : (k : Int) % 2 = 0 := by omega
            have n0 : ∀ o, (wr.alloc o).cell? ⟨W.heap.size, 0, none⟩ = some (.int .i64 (-7701)) := fun o => ((hq.alloc hq.size o).cell (p := ⟨W.heap.size, 0, none⟩) hlX).trans (cell_of_row _ _ 0 _ _ _ hMx.out)
            have n1 : ∀ o, (wr.alloc o).cell? ⟨W.heap.size, 1, none⟩ = some (.int .i64 (0)) := fun o => ((hq.alloc hq.size o).cell (p := ⟨W.heap.size, 1, none⟩) hlX).trans (cell_of_row _ _ 1 _ _ _ hMx.out)
            have n2 : ∀ o, (wr.alloc o).cell? ⟨W.heap.size, 2, none⟩ = some (.int .i64 (0)) := fun o => ((hq.alloc hq.size o).cell (p := ⟨W.heap.size, 2, none⟩) hlX).trans (cell_of_row _ _ 2 _ _ _ hMx.out)
            have n3 : ∀ o, (wr.alloc o).cell? ⟨W.heap.size, 3, none⟩ = some (.int .i64 (0)) := fun o => ((hq.alloc hq.size o).cell (p := ⟨W.heap.size, 3, none⟩) hlX).trans (cell_of_row _ _ 3 _ _ _ hMx.out)
            have n4 : ∀ o, (wr.alloc o).cell? ⟨W.heap.size, 4, none⟩ = some (.slice none 0 0) := fun o => ((hq.alloc hq.size o).cell (p := ⟨W.heap.size, 4, none⟩) hlX).trans (cell_of_row _ _ 4 _ _ _ hMx.out)
            clear hmk
            go_wp2
            go_roundw
            case rel => exact ⟨k + 1, by omega, by go_num, (hq.alloc hq.size _).alloc (by simp; have := hq.size; omega) _⟩
            case measure => simp [intOf]; omega
          · obtain ⟨q0, q1, q2, q3, q4⟩ := (hmk.out wr (below_of2 hbX hq) k hk2).2 hp
            have hp' : (k : Int) % 2 = 1 := by omega
            have n0 : ∀ o, (wr.alloc o).cell? ⟨W.heap.size, 5, none⟩ = some (.int .i64 (-7702)) := fun o => ((hq.alloc hq.size o).cell (p := ⟨W.heap.size, 5, none⟩) hlX).trans (cell_of_row _ _ 5 _ _ _ hMx.out)
            have n1 : ∀ o, (wr.alloc o).cell? ⟨W.heap.size, 6, none⟩ = some (.int .i64 (0)) := fun o => ((hq.alloc hq.size o).cell (p := ⟨W.heap.size, 6, none⟩) hlX).trans (cell_of_row _ _ 6 _ _ _ hMx.out)
            have n2 : ∀ o, (wr.alloc o).cell? ⟨W.heap.size, 7, none⟩ = some (.int .i64 (0)) := fun o => ((hq.alloc hq.size o).cell (p := ⟨W.heap.size, 7, none⟩) hlX).trans (cell_of_row _ _ 7 _ _ _ hMx.out)
            have n3 : ∀ o, (wr.alloc o).cell? ⟨W.heap.size, 8, none⟩ = some (.int .i64 (0)) := fun o => ((hq.alloc hq.size o).cell (p := ⟨W.heap.size, 8, none⟩) hlX).trans (cell_of_row _ _ 8 _ _ _ hMx.out)
            have n4 : ∀ o, (wr.alloc o).cell? ⟨W.heap.size, 9, none⟩ = some (.slice none 0 0) := fun o => ((hq.alloc hq.size o).cell (p := ⟨W.heap.size, 9, none⟩) hlX).trans (cell_of_row _ _ 9 _ _ _ hMx.out)
            clear hmk
            go_wp2
            go_roundw
            case rel => exact ⟨k + 1, by omega, by go_num, (hq.alloc hq.size _).alloc (by simp; have := hq.size; omega) _⟩
            case measure => simp [intOf]; omega
        · obtain rfl : k = 8 := by omega
          have h1 := hlth.out
          have h2 := hcl.out
          have h3 : (i : Int) < 2000000000 := by omega
          have h4 : (0 : Int) ≤ (i : Int) := by omega
          go_wp2
          go_roundw
          case rel =>
            have h1 := hlth.out
            have h2 := hcl.out
            exact ⟨i + 1, by omega, by go_num, hq⟩
          case measure =>
            have h1 := hlth.out
            have h2 := hcl.out
            simp [intOf]
            omega
    · obtain rfl : i = vs.length := by omega
      go_wp2
      go_ret
      exact ⟨rfl, below_of2 hbX hb⟩

end Go.Proofs.Ytjgkjdalnjlefaa


namespace Go.Proofs.Ytjgkjdalnjlefaa
open Go.RowKit

set_option maxRecDepth 100000 in
set_option maxHeartbeats 4000000 in
theorem holdBands_rm (R lo N : Nat) (K : Nat → Value) (V : Nat → List Value) (W : World) (hN : N ≤ 2000000000) (hR : RmAt W R lo K V N) :
    Calls Try.prog 36 #[.pointer (some ⟨R, 0, none⟩)] W fun e W' => e = .returned (.bool true) ∧ Below W.heap.size W W' := by
  have hbX := bel_alloc W (.cells #[.int .i64 (-7701), .int .i64 (0), .int .i64 (-7702), .int .i64 (0)] 77)
  have hMx := Hid.mk (heap_alloc_new W (.cells #[.int .i64 (-7701), .int .i64 (0), .int .i64 (-7702), .int .i64 (0)] 77))
  have hXs : W.heap.size < (W.alloc (.cells #[.int .i64 (-7701), .int .i64 (0), .int .i64 (-7702), .int .i64 (0)] 77)).heap.size := by simp
  obtain ⟨ka, kc, hK⟩ := own_shape (hR.own 6 (by decide))
  have hRX := hR.new hbX
  have hc := (hRX.cell (j := 6) (by decide)).1
  have hcl := Hid.mk (hR.few 6 (by decide))
  have hown := hR.own 6 (by decide)
  have hmks := Hid.mk (hR.mks 6 (by decide))
  rw [hK] at hc hown
  have e1 : ∀ w : World, (binOp .neq 77 (.agg #[.int .i64 (-7701), .int .i64 (0)]) (.agg #[.int .i64 (-7701), .int .i64 (0)])).run Try.prog w = .ok (.bool false) w := fun _ => by kernel_rfl
  have e2 : ∀ w : World, (binOp .neq 77 (.agg #[.int .i64 (-7702), .int .i64 (0)]) (.agg #[.int .i64 (-7702), .int .i64 (0)])).run Try.prog w = .ok (.bool false) w := fun _ => by kernel_rfl
  have hRlt := hRX.lt
  clear hR hRX hK
  go_enter Try.func36, Try.ntmps36
  go_wp2
  generalize W.alloc (.cells #[.int .i64 (-7701), .int .i64 (0), .int .i64 (-7702), .int .i64 (0)] 77) = X at *
  generalize V 6 = vs at *
  go_loopw [4] (fun v wr => ∃ i : Nat, i ≤ vs.length ∧ v = .int .i64 (i : Int) ∧ Below X.heap.size X wr) (fun v _ => vs.length - (intOf v).toNat)
  case atStart => exact ⟨0, Nat.zero_le _, rfl, Below.refl _ _⟩
  case round =>
    obtain ⟨i, hi, rfl, hb⟩ := hrel
    have hc1 := (hb.cell (p := ⟨R, 6, none⟩) hRlt).trans hc
    by_cases hlt : i < vs.length
    · have hlt' : (i : Int) < (vs.length : Int) := by omega
      have hi0 : (0 : Int) ≤ (i : Int) := by omega
      have hlth := Hid.mk hlt
      obtain ⟨gr, cap2, hg, -⟩ := own_lit2 hown (by omega)
      injection hg with hg1 _ hg2
      subst hg1 hg2
      obtain ⟨g, n, cap, cs, f, hv, hgh, hsp, hn, hmk⟩ := hmks.out _ (List.getElem_mem hlt)
      obtain ⟨N0, rfl⟩ : ∃ N0, n = N0 + 40 := ⟨n - 40, by have : rmSp 6 = 40 := rfl; omega⟩
      have hrow : W.cell? ⟨gr, i, none⟩ = some (.slice (some ⟨g, 0, none⟩) (N0 + 40) cap) := by rw [hown.cellAt i (by omega), List.getElem?_eq_getElem hlt, hv]
      have hgrl := (hown.lt gr rfl).2
      have hgl : g < W.heap.size := (Array.getElem?_eq_some_iff.1 hgh).1
      have hr1 : Hid (∀ X', Below W.heap.size W X' → X'.cell? ⟨gr, i, none⟩ = some (.slice (some ⟨g, 0, none⟩) (N0 + 40) cap)) := ⟨fun X' h => (h.cell (p := ⟨gr, i, none⟩) hgrl).trans hrow⟩
      have hmk : Hid (∀ X', Below W.heap.size W X' → ∀ k, k < 40 → (k % 2 = 0 → X'.cell? ⟨g, (N0 + k) * 2, none⟩ = some (.int .i64 (-7701)) ∧ X'.cell? ⟨g, (N0 + k) * 2 + 1, none⟩ = some (.int .i64 (0))) ∧ (k % 2 = 1 → X'.cell? ⟨g, (N0 + k) * 2, none⟩ = some (.int .i64 (-7702)) ∧ X'.cell? ⟨g, (N0 + k) * 2 + 1, none⟩ = some (.int .i64 (0)))) := ⟨fun X' h k hk => by
        have hcell : ∀ k, k < 40 → ∀ i u, (rmMk 6 k)[i]? = some u → X'.cell? ⟨g, (N0 + k) * rmS 6 + i, none⟩ = some u := fun k hk i u hu => by
          rw [h.cell (p := ⟨g, (N0 + k) * rmS 6 + i, none⟩) hgl, cell_of_row _ _ _ _ _ _ hgh]
          have := hmk k hk i u hu
          rwa [show N0 + 40 - rmSp 6 = N0 from Nat.add_sub_cancel _ _] at this
        exact ⟨fun hp => ⟨(hcell k hk 0 _ (by unfold rmMk; rw [if_pos (hp)]; rfl)), (hcell k hk 1 _ (by unfold rmMk; rw [if_pos (hp)]; rfl))⟩, fun hp => ⟨(hcell k hk 0 _ (by unfold rmMk; rw [if_neg (by omega)]; rfl)), (hcell k hk 1 _ (by unfold rmMk; rw [if_neg (by omega)]; rfl))⟩⟩⟩
      have hd1 := hr1.out wr (below_of2 hbX hb)
      have hN0 : N0 ≤ 2000000 := by omega
      clear hrow hgrl hgh hv hsp hn
      go_wp2
      obtain ⟨wz, hwz⟩ : ∃ wz, wz = wr := ⟨_, rfl⟩
      rw [← hwz] at hb hc1 hd1 ⊢
      go_loopw [6] (fun v wq => ∃ k : Nat, k ≤ 40 ∧ v = .int .i64 (k : Int) ∧ Below X.heap.size X wq) (fun v _ => (41 - intOf v).toNat)
      case atStart => exact ⟨0, by omega, rfl, hb⟩
      case round =>
        clear hc1 hd1 hb hwz
        obtain ⟨k, hk, rfl, hq⟩ := hrel
        have hc1 := (hq.cell (p := ⟨R, 6, none⟩) hRlt).trans hc
        have hd1 := hr1.out _ (below_of2 hbX hq)
        have hlX : W.heap.size < X.heap.size := hXs
        by_cases hk2 : k < 40
        · have hkk : (k : Int) < 40 := by omega
          have hk0 : (0 : Int) ≤ (k : Int) := by omega
          rcases (show k % 2 = 0 ∨ k % 2 = 1 by omega) with hp | hp
          · obtain ⟨q0, q1⟩ := (hmk.out wr (below_of2 hbX hq) k hk2).1 hp
            have hp' : (k : Int) % 2 = 0 := by omega
            have n0 : ∀ o, (wr.alloc o).cell? ⟨W.heap.size, 0, none⟩ = some (.int .i64 (-7701)) := fun o => ((hq.alloc hq.size o).cell (p := ⟨W.heap.size, 0, none⟩) hlX).trans (cell_of_row _ _ 0 _ _ _ hMx.out)
            have n1 : ∀ o, (wr.alloc o).cell? ⟨W.heap.size, 1, none⟩ = some (.int .i64 (0)) := fun o => ((hq.alloc hq.size o).cell (p := ⟨W.heap.size, 1, none⟩) hlX).trans (cell_of_row _ _ 1 _ _ _ hMx.out)
            clear hmk
            go_wp2
            go_roundw
            case rel => exact ⟨k + 1, by omega, by go_num, (hq.alloc hq.size _).alloc (by simp; have := hq.size; omega) _⟩
            case measure => simp [intOf]; omega
          · obtain ⟨q0, q1⟩ := (hmk.out wr (below_of2 hbX hq) k hk2).2 hp
            have hp' : (k : Int) % 2 = 1 := by omega
            have n0 : ∀ o, (wr.alloc o).cell? ⟨W.heap.size, 2, none⟩ = some (.int .i64 (-7702)) := fun o => ((hq.alloc hq.size o).cell (p := ⟨W.heap.size, 2, none⟩) hlX).trans (cell_of_row _ _ 2 _ _ _ hMx.out)
            have n1 : ∀ o, (wr.alloc o).cell? ⟨W.heap.size, 3, none⟩ = some (.int .i64 (0)) := fun o => ((hq.alloc hq.size o).cell (p := ⟨W.heap.size, 3, none⟩) hlX).trans (cell_of_row _ _ 3 _ _ _ hMx.out)
            clear hmk
            go_wp2
            go_roundw
            case rel => exact ⟨k + 1, by omega, by go_num, (hq.alloc hq.size _).alloc (by simp; have := hq.size; omega) _⟩
            case measure => simp [intOf]; omega
        · obtain rfl : k = 40 := by omega
          have h1 := hlth.out
          have h2 := hcl.out
          have h3 : (i : Int) < 2000000000 := by omega
          have h4 : (0 : Int) ≤ (i : Int) := by omega
          go_wp2
          go_roundw
          case rel =>
            have h1 := hlth.out
            have h2 := hcl.out
            exact ⟨i + 1, by omega, by go_num, hq⟩
          case measure =>
            have h1 := hlth.out
            have h2 := hcl.out
            simp [intOf]
            omega
    · obtain rfl : i = vs.length := by omega
      go_wp2
      go_ret
      exact ⟨rfl, below_of2 hbX hb⟩

end Go.Proofs.Ytjgkjdalnjlefaa


namespace Go.Proofs.Ytjgkjdalnjlefaa
open Go.RowKit

set_option maxRecDepth 100000 in
set_option maxHeartbeats 4000000 in
theorem holdTexts_rm (R lo N : Nat) (K : Nat → Value) (V : Nat → List Value) (W : World) (hN : N ≤ 2000000000) (hR : RmAt W R lo K V N) :
    Calls Try.prog 34 #[.pointer (some ⟨R, 0, none⟩)] W fun e W' => e = .returned (.bool true) ∧ Below W.heap.size W W' := by
  have hbX := bel_alloc W (.cells #[.string ⟨#[60, 111, 110, 101, 62]⟩, .string ⟨#[60, 116, 119, 111, 62]⟩] 9)
  have hMx := Hid.mk (heap_alloc_new W (.cells #[.string ⟨#[60, 111, 110, 101, 62]⟩, .string ⟨#[60, 116, 119, 111, 62]⟩] 9))
  have hXs : W.heap.size < (W.alloc (.cells #[.string ⟨#[60, 111, 110, 101, 62]⟩, .string ⟨#[60, 116, 119, 111, 62]⟩] 9)).heap.size := by simp
  obtain ⟨ka, kc, hK⟩ := own_shape (hR.own 4 (by decide))
  have hRX := hR.new hbX
  have hc := (hRX.cell (j := 4) (by decide)).1
  have hcl := Hid.mk (hR.few 4 (by decide))
  have hown := hR.own 4 (by decide)
  have hmks := Hid.mk (hR.mks 4 (by decide))
  rw [hK] at hc hown
  have e1 : ∀ w : World, (binOp .neq 9 (.string ⟨#[60, 111, 110, 101, 62]⟩) (.string ⟨#[60, 111, 110, 101, 62]⟩)).run Try.prog w = .ok (.bool false) w := fun _ => by kernel_rfl
  have e2 : ∀ w : World, (binOp .neq 9 (.string ⟨#[60, 116, 119, 111, 62]⟩) (.string ⟨#[60, 116, 119, 111, 62]⟩)).run Try.prog w = .ok (.bool false) w := fun _ => by kernel_rfl
  have hRlt := hRX.lt
  clear hR hRX hK
  go_enter Try.func34, Try.ntmps34
  go_wp2
  generalize W.alloc (.cells #[.string ⟨#[60, 111, 110, 101, 62]⟩, .string ⟨#[60, 116, 119, 111, 62]⟩] 9) = X at *
  generalize V 4 = vs at *
  go_loopw [4] (fun v wr => ∃ i : Nat, i ≤ vs.length ∧ v = .int .i64 (i : Int) ∧ Below X.heap.size X wr) (fun v _ => vs.length - (intOf v).toNat)
  case atStart => exact ⟨0, Nat.zero_le _, rfl, Below.refl _ _⟩
  case round =>
    obtain ⟨i, hi, rfl, hb⟩ := hrel
    have hc1 := (hb.cell (p := ⟨R, 4, none⟩) hRlt).trans hc
    by_cases hlt : i < vs.length
    · have hlt' : (i : Int) < (vs.length : Int) := by omega
      have hi0 : (0 : Int) ≤ (i : Int) := by omega
      have hlth := Hid.mk hlt
      obtain ⟨gr, cap2, hg, -⟩ := own_lit2 hown (by omega)
      injection hg with hg1 _ hg2
      subst hg1 hg2
      obtain ⟨g, n, cap, cs, f, hv, hgh, hsp, hn, hmk⟩ := hmks.out _ (List.getElem_mem hlt)
      obtain ⟨N0, rfl⟩ : ∃ N0, n = N0 + 40 := ⟨n - 40, by have : rmSp 4 = 40 := rfl; omega⟩
      have hrow : W.cell? ⟨gr, i, none⟩ = some (.slice (some ⟨g, 0, none⟩) (N0 + 40) cap) := by rw [hown.cellAt i (by omega), List.getElem?_eq_getElem hlt, hv]
      have hgrl := (hown.lt gr rfl).2
      have hgl : g < W.heap.size := (Array.getElem?_eq_some_iff.1 hgh).1
      have hr1 : Hid (∀ X', Below W.heap.size W X' → X'.cell? ⟨gr, i, none⟩ = some (.slice (some ⟨g, 0, none⟩) (N0 + 40) cap)) := ⟨fun X' h => (h.cell (p := ⟨gr, i, none⟩) hgrl).trans hrow⟩
      have hmk : Hid (∀ X', Below W.heap.size W X' → ∀ k, k < 40 → (k % 2 = 0 → X'.cell? ⟨g, N0 + k, none⟩ = some (.string ⟨#[60, 111, 110, 101, 62]⟩)) ∧ (k % 2 = 1 → X'.cell? ⟨g, N0 + k, none⟩ = some (.string ⟨#[60, 116, 119, 111, 62]⟩))) := ⟨fun X' h k hk => by
        have hcell : ∀ k, k < 40 → ∀ i u, (rmMk 4 k)[i]? = some u → X'.cell? ⟨g, (N0 + k) * rmS 4 + i, none⟩ = some u := fun k hk i u hu => by
          rw [h.cell (p := ⟨g, (N0 + k) * rmS 4 + i, none⟩) hgl, cell_of_row _ _ _ _ _ _ hgh]
          have := hmk k hk i u hu
          rwa [show N0 + 40 - rmSp 4 = N0 from Nat.add_sub_cancel _ _] at this
        exact ⟨fun hp => (by have h := (hcell k hk 0 _ (by unfold rmMk; rw [if_pos (hp)]; rfl)); rw [show (N0 + k) * rmS 4 + 0 = N0 + k from by simp [rmS]] at h; exact h), fun hp => (by have h := (hcell k hk 0 _ (by unfold rmMk; rw [if_neg (by omega)]; rfl)); rw [show (N0 + k) * rmS 4 + 0 = N0 + k from by simp [rmS]] at h; exact h)⟩⟩
      have hd1 := hr1.out wr (below_of2 hbX hb)
      have hN0 : N0 ≤ 2000000 := by omega
      clear hrow hgrl hgh hv hsp hn
      go_wp2
      obtain ⟨wz, hwz⟩ : ∃ wz, wz = wr := ⟨_, rfl⟩
      rw [← hwz] at hb hc1 hd1 ⊢
      go_loopw [6] (fun v wq => ∃ k : Nat, k ≤ 40 ∧ v = .int .i64 (k : Int) ∧ Below X.heap.size X wq) (fun v _ => (41 - intOf v).toNat)
      case atStart => exact ⟨0, by omega, rfl, hb⟩
      case round =>
        clear hc1 hd1 hb hwz
        obtain ⟨k, hk, rfl, hq⟩ := hrel
        have hc1 := (hq.cell (p := ⟨R, 4, none⟩) hRlt).trans hc
        have hd1 := hr1.out _ (below_of2 hbX hq)
        have hlX : W.heap.size < X.heap.size := hXs
        by_cases hk2 : k < 40
        · have hkk : (k : Int) < 40 := by omega
          have hk0 : (0 : Int) ≤ (k : Int) := by omega
          rcases (show k % 2 = 0 ∨ k % 2 = 1 by omega) with hp | hp
          · obtain q0 := (hmk.out wr (below_of2 hbX hq) k hk2).1 hp
            have hp' : (k : Int) % 2 = 0 := by omega
            have n0 : wr.cell? ⟨W.heap.size, 0, none⟩ = some (.string ⟨#[60, 111, 110, 101, 62]⟩) := (hq.cell (p := ⟨W.heap.size, 0, none⟩) hlX).trans (cell_of_row _ _ 0 _ _ _ hMx.out)
            clear hmk
            go_wp2
            go_roundw
            case rel => exact ⟨k + 1, by omega, by go_num, hq⟩
            case measure => simp [intOf]; omega
          · obtain q0 := (hmk.out wr (below_of2 hbX hq) k hk2).2 hp
            have hp' : (k : Int) % 2 = 1 := by omega
            have n0 : wr.cell? ⟨W.heap.size, 1, none⟩ = some (.string ⟨#[60, 116, 119, 111, 62]⟩) := (hq.cell (p := ⟨W.heap.size, 1, none⟩) hlX).trans (cell_of_row _ _ 1 _ _ _ hMx.out)
            clear hmk
            go_wp2
            go_roundw
            case rel => exact ⟨k + 1, by omega, by go_num, hq⟩
            case measure => simp [intOf]; omega
        · obtain rfl : k = 40 := by omega
          have h1 := hlth.out
          have h2 := hcl.out
          have h3 : (i : Int) < 2000000000 := by omega
          have h4 : (0 : Int) ≤ (i : Int) := by omega
          go_wp2
          go_roundw
          case rel =>
            have h1 := hlth.out
            have h2 := hcl.out
            exact ⟨i + 1, by omega, by go_num, hq⟩
          case measure =>
            have h1 := hlth.out
            have h2 := hcl.out
            simp [intOf]
            omega
    · obtain rfl : i = vs.length := by omega
      go_wp2
      go_ret
      exact ⟨rfl, below_of2 hbX hb⟩

end Go.Proofs.Ytjgkjdalnjlefaa


namespace Go.Proofs.Ytjgkjdalnjlefaa
open Go.RowKit

theorem RmAt.none {W : World} {R lo : Nat} {K : Nat → Value} {V : Nat → List Value} {N : Nat} (h : RmAt W R lo K V N) (j : Nat) (hj : j < 21) (h0 : rmT j = 0) : W.cell? ⟨R, j, none⟩ = some (.slice none 0 0) := by
  rw [(h.cell hj).1, h.nil j hj (h.un j hj h0)]

set_option maxHeartbeats 4000000 in
/-- No mark is written over. -/
theorem hold_rm (R lo N : Nat) (K : Nat → Value) (V : Nat → List Value) (W : World) (hN : N ≤ 2000000000) (hR : RmAt W R lo K V N) :
    Calls Try.prog 11 #[.pointer (some ⟨R, 0, none⟩)] W fun e W' => e = .returned (.bool true) ∧ Below W.heap.size W W' := by
  have hB := Below.refl W.heap.size W
  go_enter Try.func11, Try.ntmps11
  go_wp2_with (first | (go_at_call 30; refine (holdBytes_nil R _ (hR.none 0 (by decide) rfl)).mono ?_; rintro _ X ⟨rfl, hb⟩; replace hR := hR.new hb; replace hB := below_of2 hB hb; clear hb) | (go_at_call 31; refine (holdInts_nil R _ (hR.none 1 (by decide) rfl)).mono ?_; rintro _ X ⟨rfl, hb⟩; replace hR := hR.new hb; replace hB := below_of2 hB hb; clear hb) | (go_at_call 32; refine (holdCells_nil R _ (hR.none 2 (by decide) rfl)).mono ?_; rintro _ X ⟨rfl, hb⟩; replace hR := hR.new hb; replace hB := below_of2 hB hb; clear hb) | (go_at_call 33; refine (holdBools_nil R _ (hR.none 3 (by decide) rfl)).mono ?_; rintro _ X ⟨rfl, hb⟩; replace hR := hR.new hb; replace hB := below_of2 hB hb; clear hb) | (go_at_call 34; refine (holdTexts_rm R lo N K V _ hN hR).mono ?_; rintro _ X ⟨rfl, hb⟩; replace hR := hR.new hb; replace hB := below_of2 hB hb; clear hb) | (go_at_call 35; refine (holdValues_nil R _ (hR.none 5 (by decide) rfl)).mono ?_; rintro _ X ⟨rfl, hb⟩; replace hR := hR.new hb; replace hB := below_of2 hB hb; clear hb) | (go_at_call 36; refine (holdBands_rm R lo N K V _ hN hR).mono ?_; rintro _ X ⟨rfl, hb⟩; replace hR := hR.new hb; replace hB := below_of2 hB hb; clear hb) | (go_at_call 37; refine (holdTokens_nil R _ (hR.none 7 (by decide) rfl)).mono ?_; rintro _ X ⟨rfl, hb⟩; replace hR := hR.new hb; replace hB := below_of2 hB hb; clear hb) | (go_at_call 38; refine (holdReads_nil R _ (hR.none 8 (by decide) rfl)).mono ?_; rintro _ X ⟨rfl, hb⟩; replace hR := hR.new hb; replace hB := below_of2 hB hb; clear hb) | (go_at_call 39; refine (holdConflicts_nil R _ (hR.none 9 (by decide) rfl)).mono ?_; rintro _ X ⟨rfl, hb⟩; replace hR := hR.new hb; replace hB := below_of2 hB hb; clear hb) | (go_at_call 40; refine (holdPoints_nil R _ (hR.none 10 (by decide) rfl)).mono ?_; rintro _ X ⟨rfl, hb⟩; replace hR := hR.new hb; replace hB := below_of2 hB hb; clear hb) | (go_at_call 41; refine (holdNodes_nil R _ (hR.none 11 (by decide) rfl)).mono ?_; rintro _ X ⟨rfl, hb⟩; replace hR := hR.new hb; replace hB := below_of2 hB hb; clear hb) | (go_at_call 42; refine (holdRecords_nil R _ (hR.none 12 (by decide) rfl)).mono ?_; rintro _ X ⟨rfl, hb⟩; replace hR := hR.new hb; replace hB := below_of2 hB hb; clear hb) | (go_at_call 43; refine (holdFiles_nil R _ (hR.none 13 (by decide) rfl)).mono ?_; rintro _ X ⟨rfl, hb⟩; replace hR := hR.new hb; replace hB := below_of2 hB hb; clear hb) | (go_at_call 44; refine (holdExprs_rm R lo N K V _ hN hR).mono ?_; rintro _ X ⟨rfl, hb⟩; replace hR := hR.new hb; replace hB := below_of2 hB hb; clear hb) | (go_at_call 45; refine (holdClauses_rm R lo N K V _ hN hR).mono ?_; rintro _ X ⟨rfl, hb⟩; replace hR := hR.new hb; replace hB := below_of2 hB hb; clear hb) | (go_at_call 46; refine (holdLines_rm R lo N K V _ hN hR).mono ?_; rintro _ X ⟨rfl, hb⟩; replace hR := hR.new hb; replace hB := below_of2 hB hb; clear hb) | (go_at_call 47; refine (holdChecks_rm R lo N K V _ hN hR).mono ?_; rintro _ X ⟨rfl, hb⟩; replace hR := hR.new hb; replace hB := below_of2 hB hb; clear hb) | (go_at_call 48; refine (holdOptions_rm R lo N K V _ hN hR).mono ?_; rintro _ X ⟨rfl, hb⟩; replace hR := hR.new hb; replace hB := below_of2 hB hb; clear hb) | (go_at_call 49; refine (holdTables_rm R lo N K V _ hN hR).mono ?_; rintro _ X ⟨rfl, hb⟩; replace hR := hR.new hb; replace hB := below_of2 hB hb; clear hb) | (go_at_call 50; refine (holdGroups_rm R lo N K V _ hN hR).mono ?_; rintro _ X ⟨rfl, hb⟩; replace hR := hR.new hb; replace hB := below_of2 hB hb; clear hb))
  go_ret
  exact ⟨rfl, hB⟩

end Go.Proofs.Ytjgkjdalnjlefaa


/- Lists of a room that have an element ahead of their marks. No walk. -/
namespace Go.Proofs.Ytjgkjdalnjlefaa
open Go.RowKit

/-- The room's lists that lie in block b have an element. -/
def Big (V : Nat → List Value) (b : Nat) : Prop := ∀ j, j < 21 → ∀ v ∈ V j, v.ownBlock = some b → ∃ n cap, v = .slice (some ⟨b, 0, none⟩) (n + 1 + rmSp j) cap
theorem Big.step {R b : Nat} {K K' : Nat → Value} {V V' : Nat → List Value} {W W' : World} (h : Big V b) (hs : RmStep R K V K' V' W W') (hb : b < W.heap.size) : Big V' b := fun j hj v hv e => by
  rcases hs.vs j hj v hv with h1 | ⟨g, h1, h2⟩
  · exact h j hj v h1 e
  · rw [e] at h1
    have := Option.some.inj h1
    omega
theorem big_upd {V : Nat → List Value} {b g n j cap : Nat} (h : Big V b) (hn : 0 < n) : Big (upd V j (V j ++ [.slice (some ⟨g, 0, none⟩) (n + rmSp j) cap])) b := fun i hi v hv e => by
  by_cases hij : i = j
  · subst hij
    rw [upd_same] at hv
    rcases List.mem_append.1 hv with hv | hv
    · exact h i hi v hv e
    · rw [List.mem_singleton.1 hv] at e ⊢
      have e' : g = b := Option.some.inj e
      subst e'
      exact ⟨n - 1, cap, by rw [show n - 1 + 1 = n by omega]⟩
  · rw [upd_other _ _ hij] at hv
    exact h i hi v hv e
theorem big_close {V : Nat → List Value} {g n j cap : Nat} (hv : ∀ i, i < 21 → ∀ v ∈ V i, v.ownBlock ≠ some g) (hn : 0 < n) : Big (upd V j (V j ++ [.slice (some ⟨g, 0, none⟩) (n + rmSp j) cap])) g := big_upd (fun i hi v h e => absurd e (hv i hi v h)) hn
/-- A block that can be stored into. -/
def Fz (W : World) (g : Nat) : Prop := ∃ cs t, W.heap[g]? = some (.cells cs t (0, 0))
theorem Fz.same {W W' : World} {g : Nat} (h : Fz W g) (hb : W'.heap[g]? = W.heap[g]?) : Fz W' g := by
  obtain ⟨cs, t, h1⟩ := h
  exact ⟨cs, t, hb.trans h1⟩
theorem Fz.free {W : World} {g : Nat} (h : Fz W g) (i : Nat) : W.frozen? ⟨g, i, none⟩ = false := by
  obtain ⟨cs, t, h1⟩ := h
  exact frozen_of_row _ _ i _ _ h1
theorem rm_fz {R lo N j n k m cap g : Nat} {K : Nat → Value} {V : Nat → List Value} {W w2 : World} {T : TypeId} {cs : List Value} {o : Obj} {v' : Value} (hj : j < 21) (hR : RmAt W R lo K V N) (hT : T ≠ 55 ∧ ∀ j, j < 21 → T ≠ rmT j) (ho : W.ownsRow n T k (.slice (some ⟨g, 0, none⟩) m cap) m cs) (hm : 0 < m) (hgr : (W.alloc o).grownBy w2 (K j).ownBlock) : Fz (w2.setCell ⟨R, j, none⟩ v') g := by
  obtain ⟨_, ⟨_, h0⟩ | ⟨g', cap', cur, e1, _, r1, _⟩⟩ := ho
  · omega
  · simp only [Value.slice.injEq, Option.some.injEq, Addr.mk.injEq, and_true, true_and] at e1
    obtain ⟨rfl, rfl⟩ := e1
    obtain ⟨o1, o2⟩ := hR.off r1 hT
    have hlt := (Array.getElem?_eq_some_iff.1 r1).1
    have hb1 := World.grownBy_alloc W o none
    refine ⟨cur, T, ?_⟩
    rw [Below.heap_setCell _ _ _ g (fun e => o1 e), hgr.block g (Nat.lt_of_lt_of_le hlt hb1.size) (fun e => o2 j hj e.symm), hb1.block g hlt (by simp)]
    exact r1
/-- What the copy of a list is; where it has an element, the room knows. -/
def RmCQ {α : Type} (D : Elt α) (R lo : Nat) (K : Nat → Value) (V : Nat → List Value) (N' sp : Nat) (xs : List α) (W : World) (e : Ending) (W' : World) : Prop := ∃ g K' V', e = .returned (.slice (some ⟨g, 0, none⟩) xs.length (xs.length + sp)) ∧ RmAt W' R lo K' V' N' ∧ RmStep R K V K' V' W W' ∧ RowR D W' (SnR W.heap.size R K' W') xs (some ⟨g, 0, none⟩) ∧ (0 < xs.length → Big V' g ∧ Fz W' g)
/-- Tables whose lists of bands lie below B, and have an element ahead of their marks. -/
def eTc (V : Nat → List Value) (B : Nat) : Elt (List UInt8 × List (Int × Int)) where
  k := 2
  E := fun W S t cs => ∃ a cap, cs = [.string ⟨t.1.toArray⟩, .slice a t.2.length cap] ∧ RowR eBd W S t.2 a ∧ (0 < t.2.length → ∃ g, a = some ⟨g, 0, none⟩ ∧ g < B ∧ Big V g ∧ Fz W g)
  len := fun ⟨_, _, h, _⟩ => by rw [h]; rfl
  fr := fun ⟨a, cap, h, hR, hq⟩ hs hb => ⟨a, cap, h, hR.fr hs hb, fun hp => by
    obtain ⟨g, e, h1, h2, h3⟩ := hq hp
    refine ⟨g, e, h1, h2, h3.same ?_⟩
    rcases hR with h0 | ⟨g', o', cs', e', hS, hlt, _⟩
    · rw [h0] at hp; simp at hp
    · rw [e] at e'
      cases e'
      exact hb g hS hlt⟩
  mo := fun ⟨a, cap, h, hR, hq⟩ hb => ⟨a, cap, h, hR.mo hb, hq⟩
theorem Elems.imp {α : Type} {D D' : Elt α} {W : World} {S : Nat → Prop} {xs : List α} {cs : List Value} (h : Elems D W S xs cs) (hk : D'.k = D.k) (hi : ∀ x cs, D.E W S x cs → D'.E W S x cs) : Elems D' W S xs cs := ⟨by rw [hk]; exact h.1, fun i hlt => by rw [hk]; exact hi _ _ (h.2 i hlt)⟩
theorem GM.imp {α : Type} {D D' : Elt α} {T : TypeId} {n R : Nat} {K : Nat → Value} {V : Nat → List Value} {W : World} {lv : Value} {xs : List α} {m : Nat} {cx : List Value} (h : GM D T n R K V W lv xs m cx) (hk : D'.k = D.k) (hi : ∀ S x cs, D.E W S x cs → D'.E W S x cs) : GM D' T n R K V W lv xs m cx := by
  obtain ⟨cs, h1, h2⟩ := h.ex
  exact ⟨⟨cs, by rw [hk]; exact h1, h2.imp hk (hi _)⟩, h.vs⟩
theorem RowR.imp {α : Type} {D D' : Elt α} {W : World} {S : Nat → Prop} {xs : List α} {a : Option Addr} (h : RowR D W S xs a) (hk : D'.k = D.k) (hi : ∀ x cs, D.E W S x cs → D'.E W S x cs) : RowR D' W S xs a := by
  rcases h with h | ⟨g, o, cs, h1, h2, h3, h4, h5⟩
  · exact .inl h
  · exact .inr ⟨g, o, cs, h1, h2, h3, h4, h5.imp hk hi⟩
theorem eTc_weak {V : Nat → List Value} {B : Nat} {W : World} {S : Nat → Prop} {x : List UInt8 × List (Int × Int)} {cs : List Value} (h : (eTc V B).E W S x cs) : eT.E W S x cs := by
  obtain ⟨a, c, h1, h2, -⟩ := h
  exact ⟨a, c, h1, h2⟩
theorem eTc_step {V V' : Nat → List Value} {B B' : Nat} {W : World} {S : Nat → Prop} {x : List UInt8 × List (Int × Int)} {cs : List Value} (h : (eTc V B).E W S x cs) (hB : B ≤ B') (hV : ∀ g, g < B → Big V g → Big V' g) : (eTc V' B').E W S x cs := by
  obtain ⟨a, c, h1, h2, h3⟩ := h
  refine ⟨a, c, h1, h2, fun hp => ?_⟩
  obtain ⟨g, e, h4, h5⟩ := h3 hp
  exact ⟨g, e, Nat.lt_of_lt_of_le h4 hB, hV g h4 h5.1, h5.2⟩

end Go.Proofs.Ytjgkjdalnjlefaa


namespace Go.Proofs.Ytjgkjdalnjlefaa
open Go.RowKit

theorem infoGroups : (Try.prog.info? 72).map (fun i => (i.zero, i.size, i.bytes)) = some (some (.agg #[.string ⟨#[]⟩, .int .i64 0]), 2, 24) := by kernel_rfl
theorem infoGroups2 : (Try.prog.info? 25).map (fun i => (i.zero, i.size, i.bytes)) = some (some (.slice none 0 0), 1, 24) := by kernel_rfl
set_option maxRecDepth 100000 in
set_option maxHeartbeats 4000000 in
theorem groupsQ_rm (R lo N : Nat) (K : Nat → Value) (V : Nat → List Value) (xs : List (List UInt8 × Int)) (a : Option Addr) (cap : Nat) (W : World) (hx : xs.length ≤ 1048576) (hN : N ≤ 1000000000) (hR : RmAt W R lo K V N) (hrow : RowR eG W (fun b => b < lo) xs a) :
    Calls Try.prog 63 #[.pointer (some ⟨R, 0, none⟩), .slice a xs.length cap] W (RmCQ eG R lo K V (N + 1) 40 xs W) := by
  obtain ⟨i0, hi, hz0, hz1, hz2⟩ := info_parts infoGroups
  obtain ⟨j0, hj, hy0, hy1, hy2⟩ := info_parts infoGroups2
  have hT : (72 : TypeId) ≠ 55 ∧ ∀ j, j < 21 → (72 : TypeId) ≠ rmT j := by decide
  have hst : ∃ k : Nat, k ≤ xs.length ∧ (Value.int .i64 0) = .int .i64 (k : Int) ∧ RmAt (W.alloc (.cells #[] 72)) R lo K V N ∧ RmStep R K V K V W (W.alloc (.cells #[] 72)) ∧ GM eG 72 W.heap.size R K V (W.alloc (.cells #[] 72)) (.slice (some ⟨W.heap.size, 0, none⟩) 0 0) (xs.take k) 0 [] := ⟨0, Nat.zero_le _, rfl, hR.new (bel_alloc _ _), (RmStep.refl R K V W).after (gr_alloc _ _) (fun _ e => by cases e), gm_start eG 72 hR⟩
  go_enter Try.func63, Try.ntmps63
  go_wp2
  go_loopw [5, 6] (fun v x wr => ∃ k : Nat, k ≤ xs.length ∧ x = .int .i64 (k : Int) ∧ RmAt wr R lo K V N ∧ RmStep R K V K V W wr ∧ GM eG 72 W.heap.size R K V wr v (xs.take k) 0 []) (fun _ x _ => xs.length - (intOf x).toNat)
  case atStart => exact hst
  case round =>
    clear hst
    obtain ⟨k, hk, rfl, hRr, hs, hG⟩ := hrel
    by_cases hlt : k < xs.length
    · have hlt' : (k : Int) < (xs.length : Int) := by omega
      have hj0 : (0 : Int) ≤ (k : Int) := by omega
      obtain ⟨ga, oa, rfl⟩ : ∃ ga oa, a = some ⟨ga, oa, none⟩ := by
        rcases hrow with h0 | ⟨ga, oa, -, h1, -⟩
        · rw [h0] at hlt; simp at hlt
        · exact ⟨ga, oa, h1⟩
      obtain ⟨cx, hcl, hga, hE1, hcc⟩ := hrow.item hlt
      have htk : Hid (xs.take (k + 1) = xs.take k ++ [xs[k]]) := ⟨List.take_succ_eq_append_getElem hlt⟩
      have hyl : (xs.take k).length ≤ 1048576 := by rw [List.length_take]; omega
      have hc0 := (bel_cell (RmStep.below hR hs) hga (oa + k * 2 + 0)).trans (hcc 0 (by decide))
      have hc1 := (bel_cell (RmStep.below hR hs) hga (oa + k * 2 + 1)).trans (hcc 1 (by decide))
      generalize xs[k] = y at *
      generalize xs.take k = ys at *
      obtain ⟨rfl, hRg⟩ := hE1
      have hd0 : wr.cell? ⟨ga, oa + k * 2, none⟩ = some (.string ⟨y.1.toArray⟩) := hc0
      have hd1 : wr.cell? ⟨ga, oa + k * 2 + 1, none⟩ = some (.int .i64 (y.2)) := hc1
      have hbA := bel_alloc wr (.cells #[.string ⟨y.1.toArray⟩, .int .i64 (y.2)] 72)
      have hRA := hRr.new hbA
      have hGA := hG.new hbA
      have hlv := fun (g : Nat) e => hG.lt (g := g) e
      obtain ⟨cs, ho, hE⟩ := hGA.ex
      simp only [List.append_nil, Nat.add_zero] at ho
      have hsz : W.heap.size ≤ (wr.alloc (.cells #[.string ⟨y.1.toArray⟩, .int .i64 (y.2)] 72)).heap.size := Nat.le_trans hs.fm.size hbA.size
      clear hcc hc0 hc1 hcl
      go_wp2_with (at_builtin; refine wpList_append_own_at (P := Try.prog) _ rfl _ _ 25 rfl W.heap.size 72 i0 _ 2 24 Try.underlying25 hi hz0 hz1 hz2 rfl (by decide) _ ys.length cs rfl ho ⟨wr.heap.size, 0, none⟩ 1 1 [.string ⟨y.1.toArray⟩, .int .i64 (y.2)] rfl rfl (lit_at wr _ _) (by simp [Value.oneCell']) (by unfold maxLen; omega) (by omega) hsz ?_; intro v' w2 hown' hgrow _h hat; clear _h)
      go_roundw
      case rel =>
        have hgm := GM.step (n1 := wr.heap.size) hRA hT ho hE hGA.vs (x := y) ⟨rfl, hRg⟩ hs.fm.size (fun g e => (hlv g e).2) hgrow hat hown'
        exact ⟨k + 1, by omega, by go_num, hgm.2, (hs.after (gr_alloc _ _) (fun _ e => by cases e)).after hgrow (fun g e => (hlv g e).1), by rw [htk.out]; exact hgm.1⟩
      case measure => simp [intOf]; omega
    · obtain rfl : k = xs.length := by omega
      rw [List.take_length] at hG
      clear hrow
      go_wp2
      go_loopw [5, 7] (fun v x wr => ∃ k : Nat, k ≤ 20 ∧ x = .int .i64 ((2 * k : Nat) : Int) ∧ RmAt wr R lo K V N ∧ RmStep R K V K V W wr ∧ GM eG 72 W.heap.size R K V wr v xs (2 * k) (mks 20 (2 * k))) (fun _ x _ => (41 - intOf x).toNat)
      case atStart => exact ⟨0, by omega, rfl, hRr, hs, hG⟩
      case round =>
        clear hRr hs hG
        obtain ⟨k, hk, rfl, hRr, hs, hG⟩ := hrel
        by_cases hk2 : k < 20
        · have hkk : ((2 * k : Nat) : Int) < 40 := by omega
          have hbA := bel_alloc wr (.cells #[.string ⟨#[]⟩, .int .i64 (-7701), .string ⟨#[]⟩, .int .i64 (-7702)] 72)
          have hRA := hRr.new hbA
          have hGA := hG.new hbA
          have hlv := fun (g : Nat) e => hG.lt (g := g) e
          obtain ⟨cs, ho, hE⟩ := hGA.ex
          have hsz : W.heap.size ≤ (wr.alloc (.cells #[.string ⟨#[]⟩, .int .i64 (-7701), .string ⟨#[]⟩, .int .i64 (-7702)] 72)).heap.size := Nat.le_trans hs.fm.size hbA.size
          go_wp2_with (at_builtin; refine wpList_append_own_at (P := Try.prog) _ rfl _ _ 25 rfl W.heap.size 72 i0 _ 2 24 Try.underlying25 hi hz0 hz1 hz2 rfl (by decide) _ (xs.length + 2 * k) (cs ++ mks 20 (2 * k)) rfl ho ⟨wr.heap.size, 0, none⟩ 2 2 [.string ⟨#[]⟩, .int .i64 (-7701), .string ⟨#[]⟩, .int .i64 (-7702)] rfl rfl (lit_at wr _ _) (by simp [Value.oneCell']) (by unfold maxLen; omega) (by omega) hsz ?_; intro v' w2 hown' hgrow _h hat; clear _h)
          go_roundw
          case rel =>
            have hgm := GM.marks (k := 2) hRA hT ho hE hGA.vs hgrow hat hown'
            exact ⟨k + 1, by omega, by go_num, hgm.2, (hs.after (gr_alloc _ _) (fun _ e => by cases e)).after hgrow (fun g e => (hlv g e).1), by rw [show 2 * (k + 1) = 2 * k + 2 by omega, mks_two _ _ (by omega)]; exact hgm.1⟩
          case measure => simp [intOf]; omega
        · obtain rfl : k = 20 := by omega
          have hG : GM eG 72 W.heap.size R K V wr _ xs 40 (mks 20 40) := hG
          obtain ⟨cs, ho, hE⟩ := hG.ex
          obtain ⟨g, capN, rfl, hcN⟩ := own_lit2 ho (by omega)
          obtain ⟨ka, kc, hK⟩ := own_shape (hRr.own 20 (by decide))
          have q1 := (hRr.cell (j := 20) (by decide)).1
          have hVl := hRr.few 20 (by decide)
          have hbA := bel_alloc wr (.cells #[.slice (some ⟨g, 0, none⟩) (xs.length + 40) capN] 25)
          have hRA := hRr.new hbA
          have hoA := hRA.own 20 (by decide)
          have hsz : lo ≤ (wr.alloc (.cells #[.slice (some ⟨g, 0, none⟩) (xs.length + 40) capN] 25)).heap.size := by have := hRA.lt; have := hRA.low; omega
          have hcl := fun v' w2 h1 h2 h3 => rm_close (D := eG) (j := 20) (v' := v') (w2 := w2) (o := .cells #[.slice (some ⟨g, 0, none⟩) (xs.length + 40) capN] 25) (by decide) (by decide) rfl hx hRr hs hG h1 h2 h3
          have hfz := fun (w2 : World) (v' : Value) h => rm_fz (j := 20) (v' := v') (w2 := w2) (o := .cells #[.slice (some ⟨g, 0, none⟩) (xs.length + 40) capN] 25) (by decide) hRr hT ho (by omega) h
          rw [hK] at q1 hoA hcl hfz
          have hfzH := Hid.mk hfz
          clear hfz
          have hclH := Hid.mk hcl
          have hN2 : (V 20).length ≤ 2000000000 := by omega
          have hle : ((xs.length : Nat) : Int) ≤ (xs.length : Int) + 40 := by omega
          have hle2 : (xs.length : Int) + 40 ≤ (capN : Int) := by omega
          have hle0 : (0 : Int) ≤ (xs.length : Int) := by omega
          have hbig : Hid (0 < xs.length → Big (upd V 20 (V 20 ++ [.slice (some ⟨g, 0, none⟩) (xs.length + 40) capN])) g) := ⟨fun hp => big_close (j := 20) (n := xs.length) (cap := capN) (fun i hi v hv => hG.vs i hi v hv g rfl) hp⟩
          clear hcl ho hE hG hVl hN hK hR
          go_wp2_with (at_builtin; refine wpList_append_own_at (P := Try.prog) _ rfl _ _ 53 rfl lo 25 j0 _ 1 24 Try.underlying53 hj hy0 hy1 hy2 rfl (by decide) _ (V 20).length (V 20) rfl hoA ⟨wr.heap.size, 0, none⟩ 1 1 [.slice (some ⟨g, 0, none⟩) (xs.length + 40) capN] rfl rfl (cell_one_new _ _ _) (by simp [Value.oneCell']) (by unfold maxLen; omega) (by omega) hsz ?_; intro v' w2 hown' hgrow _h hat; clear _h; obtain ⟨g2, cap2, rfl, -⟩ := own_lit2 hown' (by omega); obtain ⟨s1, s2, s3, s4, s5⟩ := hclH.out _ _ hown' hgrow hat; have s7 := hfzH.out _ (.slice (some ⟨g2, 0, none⟩) ((V 20).length + 1) cap2) hgrow; have s7 := Hid.mk s7; have s3 := Hid.mk s3; have s4 := Hid.mk s4; have s5 := Hid.mk s5; clear hgrow hat hown')
          go_ret
          exact ⟨g, _, _, rfl, s3.out, s4.out, s5.out, fun hp => ⟨hbig.out hp, s7.out⟩⟩

end Go.Proofs.Ytjgkjdalnjlefaa


namespace Go.Proofs.Ytjgkjdalnjlefaa
open Go.RowKit

set_option maxRecDepth 100000 in
set_option maxHeartbeats 4000000 in
theorem bandsQ_rm (R lo N : Nat) (K : Nat → Value) (V : Nat → List Value) (xs : List (Int × Int)) (a : Option Addr) (cap : Nat) (W : World) (hx : xs.length ≤ 1048576) (hN : N ≤ 1000000000) (hR : RmAt W R lo K V N) (hrow : RowR eBd W (fun b => b < lo) xs a) :
    Calls Try.prog 86 #[.pointer (some ⟨R, 0, none⟩), .slice a xs.length cap] W (RmCQ eBd R lo K V (N + 1) 40 xs W) := by
  obtain ⟨i0, hi, hz0, hz1, hz2⟩ := info_parts infoBands
  obtain ⟨j0, hj, hy0, hy1, hy2⟩ := info_parts infoBands2
  have hT : (77 : TypeId) ≠ 55 ∧ ∀ j, j < 21 → (77 : TypeId) ≠ rmT j := by decide
  have hst : ∃ k : Nat, k ≤ xs.length ∧ (Value.int .i64 0) = .int .i64 (k : Int) ∧ RmAt (W.alloc (.cells #[] 77)) R lo K V N ∧ RmStep R K V K V W (W.alloc (.cells #[] 77)) ∧ GM eBd 77 W.heap.size R K V (W.alloc (.cells #[] 77)) (.slice (some ⟨W.heap.size, 0, none⟩) 0 0) (xs.take k) 0 [] := ⟨0, Nat.zero_le _, rfl, hR.new (bel_alloc _ _), (RmStep.refl R K V W).after (gr_alloc _ _) (fun _ e => by cases e), gm_start eBd 77 hR⟩
  go_enter Try.func86, Try.ntmps86
  go_wp2
  go_loopw [5, 6] (fun v x wr => ∃ k : Nat, k ≤ xs.length ∧ x = .int .i64 (k : Int) ∧ RmAt wr R lo K V N ∧ RmStep R K V K V W wr ∧ GM eBd 77 W.heap.size R K V wr v (xs.take k) 0 []) (fun _ x _ => xs.length - (intOf x).toNat)
  case atStart => exact hst
  case round =>
    clear hst
    obtain ⟨k, hk, rfl, hRr, hs, hG⟩ := hrel
    by_cases hlt : k < xs.length
    · have hlt' : (k : Int) < (xs.length : Int) := by omega
      have hj0 : (0 : Int) ≤ (k : Int) := by omega
      obtain ⟨ga, oa, rfl⟩ : ∃ ga oa, a = some ⟨ga, oa, none⟩ := by
        rcases hrow with h0 | ⟨ga, oa, -, h1, -⟩
        · rw [h0] at hlt; simp at hlt
        · exact ⟨ga, oa, h1⟩
      obtain ⟨cx, hcl, hga, hE1, hcc⟩ := hrow.item hlt
      have htk : Hid (xs.take (k + 1) = xs.take k ++ [xs[k]]) := ⟨List.take_succ_eq_append_getElem hlt⟩
      have hyl : (xs.take k).length ≤ 1048576 := by rw [List.length_take]; omega
      have hc0 := (bel_cell (RmStep.below hR hs) hga (oa + k * 2 + 0)).trans (hcc 0 (by decide))
      have hc1 := (bel_cell (RmStep.below hR hs) hga (oa + k * 2 + 1)).trans (hcc 1 (by decide))
      generalize xs[k] = y at *
      generalize xs.take k = ys at *
      obtain ⟨rfl, hRg⟩ := hE1
      have hd0 : wr.cell? ⟨ga, oa + k * 2, none⟩ = some (.int .i64 (y.1)) := hc0
      have hd1 : wr.cell? ⟨ga, oa + k * 2 + 1, none⟩ = some (.int .i64 (y.2)) := hc1
      have hbA := bel_alloc wr (.cells #[.int .i64 (y.1), .int .i64 (y.2)] 77)
      have hRA := hRr.new hbA
      have hGA := hG.new hbA
      have hlv := fun (g : Nat) e => hG.lt (g := g) e
      obtain ⟨cs, ho, hE⟩ := hGA.ex
      simp only [List.append_nil, Nat.add_zero] at ho
      have hsz : W.heap.size ≤ (wr.alloc (.cells #[.int .i64 (y.1), .int .i64 (y.2)] 77)).heap.size := Nat.le_trans hs.fm.size hbA.size
      clear hcc hc0 hc1 hcl
      go_wp2_with (at_builtin; refine wpList_append_own_at (P := Try.prog) _ rfl _ _ 73 rfl W.heap.size 77 i0 _ 2 16 Try.underlying73 hi hz0 hz1 hz2 rfl (by decide) _ ys.length cs rfl ho ⟨wr.heap.size, 0, none⟩ 1 1 [.int .i64 (y.1), .int .i64 (y.2)] rfl rfl (lit_at wr _ _) (by simp [Value.oneCell']) (by unfold maxLen; omega) (by omega) hsz ?_; intro v' w2 hown' hgrow _h hat; clear _h)
      go_roundw
      case rel =>
        have hgm := GM.step (n1 := wr.heap.size) hRA hT ho hE hGA.vs (x := y) ⟨rfl, hRg⟩ hs.fm.size (fun g e => (hlv g e).2) hgrow hat hown'
        exact ⟨k + 1, by omega, by go_num, hgm.2, (hs.after (gr_alloc _ _) (fun _ e => by cases e)).after hgrow (fun g e => (hlv g e).1), by rw [htk.out]; exact hgm.1⟩
      case measure => simp [intOf]; omega
    · obtain rfl : k = xs.length := by omega
      rw [List.take_length] at hG
      clear hrow
      go_wp2
      go_loopw [5, 7] (fun v x wr => ∃ k : Nat, k ≤ 20 ∧ x = .int .i64 ((2 * k : Nat) : Int) ∧ RmAt wr R lo K V N ∧ RmStep R K V K V W wr ∧ GM eBd 77 W.heap.size R K V wr v xs (2 * k) (mks 6 (2 * k))) (fun _ x _ => (41 - intOf x).toNat)
      case atStart => exact ⟨0, by omega, rfl, hRr, hs, hG⟩
      case round =>
        clear hRr hs hG
        obtain ⟨k, hk, rfl, hRr, hs, hG⟩ := hrel
        by_cases hk2 : k < 20
        · have hkk : ((2 * k : Nat) : Int) < 40 := by omega
          have hbA := bel_alloc wr (.cells #[.int .i64 (-7701), .int .i64 (0), .int .i64 (-7702), .int .i64 (0)] 77)
          have hRA := hRr.new hbA
          have hGA := hG.new hbA
          have hlv := fun (g : Nat) e => hG.lt (g := g) e
          obtain ⟨cs, ho, hE⟩ := hGA.ex
          have hsz : W.heap.size ≤ (wr.alloc (.cells #[.int .i64 (-7701), .int .i64 (0), .int .i64 (-7702), .int .i64 (0)] 77)).heap.size := Nat.le_trans hs.fm.size hbA.size
          go_wp2_with (at_builtin; refine wpList_append_own_at (P := Try.prog) _ rfl _ _ 73 rfl W.heap.size 77 i0 _ 2 16 Try.underlying73 hi hz0 hz1 hz2 rfl (by decide) _ (xs.length + 2 * k) (cs ++ mks 6 (2 * k)) rfl ho ⟨wr.heap.size, 0, none⟩ 2 2 [.int .i64 (-7701), .int .i64 (0), .int .i64 (-7702), .int .i64 (0)] rfl rfl (lit_at wr _ _) (by simp [Value.oneCell']) (by unfold maxLen; omega) (by omega) hsz ?_; intro v' w2 hown' hgrow _h hat; clear _h)
          go_roundw
          case rel =>
            have hgm := GM.marks (k := 2) hRA hT ho hE hGA.vs hgrow hat hown'
            exact ⟨k + 1, by omega, by go_num, hgm.2, (hs.after (gr_alloc _ _) (fun _ e => by cases e)).after hgrow (fun g e => (hlv g e).1), by rw [show 2 * (k + 1) = 2 * k + 2 by omega, mks_two _ _ (by omega)]; exact hgm.1⟩
          case measure => simp [intOf]; omega
        · obtain rfl : k = 20 := by omega
          have hG : GM eBd 77 W.heap.size R K V wr _ xs 40 (mks 6 40) := hG
          obtain ⟨cs, ho, hE⟩ := hG.ex
          obtain ⟨g, capN, rfl, hcN⟩ := own_lit2 ho (by omega)
          obtain ⟨ka, kc, hK⟩ := own_shape (hRr.own 6 (by decide))
          have q1 := (hRr.cell (j := 6) (by decide)).1
          have hVl := hRr.few 6 (by decide)
          have hbA := bel_alloc wr (.cells #[.slice (some ⟨g, 0, none⟩) (xs.length + 40) capN] 73)
          have hRA := hRr.new hbA
          have hoA := hRA.own 6 (by decide)
          have hsz : lo ≤ (wr.alloc (.cells #[.slice (some ⟨g, 0, none⟩) (xs.length + 40) capN] 73)).heap.size := by have := hRA.lt; have := hRA.low; omega
          have hcl := fun v' w2 h1 h2 h3 => rm_close (D := eBd) (j := 6) (v' := v') (w2 := w2) (o := .cells #[.slice (some ⟨g, 0, none⟩) (xs.length + 40) capN] 73) (by decide) (by decide) rfl hx hRr hs hG h1 h2 h3
          have hfz := fun (w2 : World) (v' : Value) h => rm_fz (j := 6) (v' := v') (w2 := w2) (o := .cells #[.slice (some ⟨g, 0, none⟩) (xs.length + 40) capN] 73) (by decide) hRr hT ho (by omega) h
          rw [hK] at q1 hoA hcl hfz
          have hfzH := Hid.mk hfz
          clear hfz
          have hclH := Hid.mk hcl
          have hN2 : (V 6).length ≤ 2000000000 := by omega
          have hle : ((xs.length : Nat) : Int) ≤ (xs.length : Int) + 40 := by omega
          have hle2 : (xs.length : Int) + 40 ≤ (capN : Int) := by omega
          have hle0 : (0 : Int) ≤ (xs.length : Int) := by omega
          have hbig : Hid (0 < xs.length → Big (upd V 6 (V 6 ++ [.slice (some ⟨g, 0, none⟩) (xs.length + 40) capN])) g) := ⟨fun hp => big_close (j := 6) (n := xs.length) (cap := capN) (fun i hi v hv => hG.vs i hi v hv g rfl) hp⟩
          clear hcl ho hE hG hVl hN hK hR
          go_wp2_with (at_builtin; refine wpList_append_own_at (P := Try.prog) _ rfl _ _ 39 rfl lo 73 j0 _ 1 24 Try.underlying39 hj hy0 hy1 hy2 rfl (by decide) _ (V 6).length (V 6) rfl hoA ⟨wr.heap.size, 0, none⟩ 1 1 [.slice (some ⟨g, 0, none⟩) (xs.length + 40) capN] rfl rfl (cell_one_new _ _ _) (by simp [Value.oneCell']) (by unfold maxLen; omega) (by omega) hsz ?_; intro v' w2 hown' hgrow _h hat; clear _h; obtain ⟨g2, cap2, rfl, -⟩ := own_lit2 hown' (by omega); obtain ⟨s1, s2, s3, s4, s5⟩ := hclH.out _ _ hown' hgrow hat; have s7 := hfzH.out _ (.slice (some ⟨g2, 0, none⟩) ((V 6).length + 1) cap2) hgrow; have s7 := Hid.mk s7; have s3 := Hid.mk s3; have s4 := Hid.mk s4; have s5 := Hid.mk s5; clear hgrow hat hown')
          go_ret
          exact ⟨g, _, _, rfl, s3.out, s4.out, s5.out, fun hp => ⟨hbig.out hp, s7.out⟩⟩

end Go.Proofs.Ytjgkjdalnjlefaa


namespace Go.Proofs.Ytjgkjdalnjlefaa
open Go.RowKit

theorem infoTables : (Try.prog.info? 75).map (fun i => (i.zero, i.size, i.bytes)) = some (some (.agg #[.string ⟨#[]⟩, .slice none 0 0]), 2, 40) := by kernel_rfl
theorem infoTables2 : (Try.prog.info? 24).map (fun i => (i.zero, i.size, i.bytes)) = some (some (.slice none 0 0), 1, 24) := by kernel_rfl
/-- What the copy of a list of tables is. -/
def RmCT (R lo : Nat) (K : Nat → Value) (V : Nat → List Value) (N' : Nat) (xs : List (List UInt8 × List (Int × Int))) (V2 : Nat → List Value) (B2 : Nat) (W : World) (e : Ending) (W' : World) : Prop := ∃ g K', e = .returned (.slice (some ⟨g, 0, none⟩) xs.length (xs.length + 40)) ∧ RmAt W' R lo K' V2 N' ∧ RmStep R K V K' V2 W W' ∧ RowR (eTc V2 B2) W' (SnR W.heap.size R K' W') xs (some ⟨g, 0, none⟩) ∧ (0 < xs.length → Big V2 g) ∧ B2 ≤ W'.heap.size
theorem RowR.imp_pos {α : Type} {D D' : Elt α} {W : World} {S : Nat → Prop} {xs : List α} {a : Option Addr} (h : RowR D W S xs a) (hi : 0 < xs.length → D'.k = D.k ∧ ∀ x cs, D.E W S x cs → D'.E W S x cs) : RowR D' W S xs a := by
  by_cases hp : 0 < xs.length
  · exact h.imp (hi hp).1 (hi hp).2
  · exact .inl (List.eq_nil_of_length_eq_zero (by omega))
theorem row_lt {α : Type} {D : Elt α} {W : World} {S : Nat → Prop} {xs : List α} {g o : Nat} (h : RowR D W S xs (some ⟨g, o, none⟩)) (hp : 0 < xs.length) : g < W.heap.size := by
  rcases h with h | ⟨g', o', cs, e, _, hlt, _⟩
  · rw [h] at hp; simp at hp
  · cases e; exact hlt
set_option maxRecDepth 100000 in
set_option maxHeartbeats 4000000 in
theorem tablesQ_rm (R lo N : Nat) (K : Nat → Value) (V : Nat → List Value) (xs : List (List UInt8 × List (Int × Int))) (a : Option Addr) (cap : Nat) (W : World) (hx : xs.length ≤ 1048576) (hall : ∀ x ∈ xs, x.2.length ≤ 1048576) (hN : N + cO xs ≤ 1000000000) (hR : RmAt W R lo K V N) (hrow : RowR eT W (fun b => b < lo) xs a) :
    Calls Try.prog 62 #[.pointer (some ⟨R, 0, none⟩), .slice a xs.length cap] W (fun e W' => ∃ V2 B2, RmCT R lo K V (N + cO xs + 1) xs V2 B2 W e W') := by
  obtain ⟨i0, hi, hz0, hz1, hz2⟩ := info_parts infoTables
  obtain ⟨j0, hj, hy0, hy1, hy2⟩ := info_parts infoTables2
  have hT : (75 : TypeId) ≠ 55 ∧ ∀ j, j < 21 → (75 : TypeId) ≠ rmT j := by decide
  have hst : ∃ (k : Nat) (K1 : Nat → Value) (V1 : Nat → List Value), k ≤ xs.length ∧ (Value.int .i64 0) = .int .i64 (k : Int) ∧ RmAt (W.alloc (.cells #[] 75)) R lo K1 V1 (N + cO (xs.take k)) ∧ RmStep R K V K1 V1 W (W.alloc (.cells #[] 75)) ∧ GM (eTc V1 (W.alloc (.cells #[] 75)).heap.size) 75 W.heap.size R K1 V1 (W.alloc (.cells #[] 75)) (.slice (some ⟨W.heap.size, 0, none⟩) 0 0) (xs.take k) 0 [] := ⟨0, K, V, Nat.zero_le _, rfl, hR.new (bel_alloc _ _), (RmStep.refl R K V W).after (gr_alloc _ _) (fun _ e => by cases e), gm_start (eTc V (W.alloc (.cells #[] 75)).heap.size) 75 hR⟩
  go_enter Try.func62, Try.ntmps62
  go_wp2
  go_loopw [5, 6] (fun v x wr => ∃ (k : Nat) (K1 : Nat → Value) (V1 : Nat → List Value), k ≤ xs.length ∧ x = .int .i64 (k : Int) ∧ RmAt wr R lo K1 V1 (N + cO (xs.take k)) ∧ RmStep R K V K1 V1 W wr ∧ GM (eTc V1 wr.heap.size) 75 W.heap.size R K1 V1 wr v (xs.take k) 0 []) (fun _ x _ => xs.length - (intOf x).toNat)
  case atStart => exact hst
  case round =>
    clear hst
    obtain ⟨k, K1, V1, hk, rfl, hRr, hs, hG⟩ := hrel
    by_cases hlt : k < xs.length
    · have hlt' : (k : Int) < (xs.length : Int) := by omega
      have hj0 : (0 : Int) ≤ (k : Int) := by omega
      obtain ⟨ga, oa, rfl⟩ : ∃ ga oa, a = some ⟨ga, oa, none⟩ := by
        rcases hrow with h0 | ⟨ga, oa, -, h1, -⟩
        · rw [h0] at hlt; simp at hlt
        · exact ⟨ga, oa, h1⟩
      obtain ⟨cx, hcl, hga, hE1, hcc⟩ := hrow.item hlt
      have htk : Hid (xs.take (k + 1) = xs.take k ++ [xs[k]]) := ⟨List.take_succ_eq_append_getElem hlt⟩
      have hyl : (xs.take k).length ≤ 1048576 := by rw [List.length_take]; omega
      have hwt : cO (xs.take (k + 1)) ≤ cO xs := cO_take xs (k + 1)
      rw [htk.out, cO_snoc] at hwt
      have hym : xs[k] ∈ xs := List.getElem_mem hlt
      have hBl : Below lo W wr := RmStep.below hR hs
      have hle : lo ≤ wr.heap.size := by have := hRr.lt; have := hRr.low; omega
      generalize xs[k] = y at *
      generalize xs.take k = ys at *
      obtain ⟨a1, c1, rfl, hRw⟩ := hE1
      have hyn : y.2.length ≤ 1048576 := hall y hym
      have hRowD : RowR eBd wr.drew (fun b => b < lo) y.2 a1 := (hRw.fr hBl.size (fun b hb _ => hBl.block b hb)).fr (bel_drew wr).size (fun b hb _ => (bel_drew wr).block b (Nat.lt_of_lt_of_le hb hle))
      have hSs : Hid (∀ X, Below lo W X → X.cell? ⟨ga, oa + k * 2, none⟩ = some (.string ⟨y.1.toArray⟩) ∧ X.cell? ⟨ga, oa + k * 2 + 1, none⟩ = some (.slice a1 y.2.length c1)) := ⟨fun X hX => ⟨(bel_cell hX hga (oa + k * 2 + 0)).trans (hcc 0 (by decide)), (bel_cell hX hga (oa + k * 2 + 1)).trans (hcc 1 (by decide))⟩⟩
      have hbD := bel_drew wr
      have hRD := hRr.new hbD
      have hGD := hG.new hbD
      have hsD := hs.after (gr_drew1 wr) (fun _ e => by cases e)
      have hBD : Below lo W wr.drew := hBl.trans (hbD.mono hle)
      have hS0 := hSs.out _ hBD
      have hlv := Hid.mk (fun (g : Nat) e => hG.lt (g := g) e)

      clear hcc hcl
      go_wp2_with fail
      go_region_held_law (fun X => X.cell? ⟨ga, oa + k * 2, none⟩ = some (.string ⟨y.1.toArray⟩) ∧ X.cell? ⟨ga, oa + k * 2 + 1, none⟩ = some (.slice a1 y.2.length c1)) (with_reducible assumption)
        (first
          | (go_at_call 86; refine (bandsQ_rm R lo (N + cO ys) K1 V1 y.2 a1 c1 _ hyn (by omega) hRD hRowD).mono ?_; rintro e w3 ⟨g, K', V', rfl, hR3, hs3, hRow3, hbg⟩; have hbg := Hid.mk hbg; have hG3 : GM (eTc V' w3.heap.size) 75 W.heap.size R K' V' w3 _ ys 0 [] := (hGD.room hRD hT hs3).imp rfl (fun S x cs h => eTc_step h (Nat.le_trans hbD.size hs3.fm.size) (fun g hg h => h.step hs3 (Nat.lt_of_lt_of_le hg hbD.size))); have hsA := hsD.trans hs3; have hbA := bel_alloc w3 (.cells #[.string ⟨y.1.toArray⟩, .slice (some ⟨g, 0, none⟩) y.2.length (y.2.length + 40)] 75); have hRA := hR3.new hbA; have hGA := hG3.new hbA; obtain ⟨cs, ho, hE⟩ := hGA.ex; simp only [List.append_nil, Nat.add_zero] at ho; have hsz : W.heap.size ≤ (w3.alloc (.cells #[.string ⟨y.1.toArray⟩, .slice (some ⟨g, 0, none⟩) y.2.length (y.2.length + 40)] 75)).heap.size := Nat.le_trans hsA.fm.size hbA.size; have hleW : lo ≤ W.heap.size := (by have := hR.lt; have := hR.low; omega); have hB3 : Below lo W w3 := RmStep.below hR hsA; have hle3 : lo ≤ w3.heap.size := Nat.le_trans hleW hsA.fm.size; have hS3 := hSs.out _ hB3; have hBA : Below lo W (w3.alloc (.cells #[.string ⟨y.1.toArray⟩, .slice (some ⟨g, 0, none⟩) y.2.length (y.2.length + 40)] 75)) := hB3.alloc hle3 _; have hleA : lo ≤ (w3.alloc (.cells #[.string ⟨y.1.toArray⟩, .slice (some ⟨g, 0, none⟩) y.2.length (y.2.length + 40)] 75)).heap.size := Nat.le_trans hle3 hbA.size; have hSA := hSs.out _ hBA; have hxE : Hid ((eTc V' w3.heap.size).E (w3.alloc (.cells #[.string ⟨y.1.toArray⟩, .slice (some ⟨g, 0, none⟩) y.2.length (y.2.length + 40)] 75)) (fun b => wr.heap.size ≤ b ∧ b < (w3.alloc (.cells #[.string ⟨y.1.toArray⟩, .slice (some ⟨g, 0, none⟩) y.2.length (y.2.length + 40)] 75)).heap.size ∧ b ≠ R ∧ ∀ i, i < 21 → (K' i).ownBlock ≠ some b) y [.string ⟨y.1.toArray⟩, .slice (some ⟨g, 0, none⟩) y.2.length (y.2.length + 40)]) := ⟨⟨_, _, rfl, (hRow3.fr hbA.size (fun b _ hlt => hbA.block b hlt)).mo (fun b _ hb => ⟨Nat.le_trans hbD.size hb.1, Nat.lt_of_lt_of_le hb.2.1 hbA.size, hb.2.2⟩), fun hp => ⟨g, rfl, row_lt hRow3 hp, (hbg.out hp).1, (hbg.out hp).2.same (hbA.block g (row_lt hRow3 hp))⟩⟩⟩)
          | (refine step_append_rm (P := Try.prog) _ rfl _ _ 24 rfl W.heap.size 75 i0 _ 2 40 Try.underlying24 hi hz0 hz1 hz2 rfl (by decide) _ ys.length cs rfl ho ⟨w3.heap.size, 0, none⟩ 1 1 [.string ⟨y.1.toArray⟩, .slice (some ⟨g, 0, none⟩) y.2.length (y.2.length + 40)] rfl rfl (lit_at w3 _ _) (by simp [Value.oneCell']) (by unfold maxLen; omega) (by omega) hsz ?_; intro v' w4 hown' hgrow hat; have hS4 := hSs.out _ (hBA.grown hgrow hleA (fun j hj => Nat.le_trans hleW (hlv.out j hj).1))))
      go_wp2
      go_roundw
      case rel =>
        have hgm := GM.step (n1 := wr.heap.size) hRA hT ho hE hGA.vs (x := y) hxE.out hs.fm.size (fun g e => (hlv.out g e).2) hgrow hat hown'
        refine ⟨k + 1, K', V', by omega, by go_num, ?_, (hsA.after (gr_alloc _ _) (fun _ e => by cases e)).after hgrow (fun g e => (hlv.out g e).1), by rw [htk.out]; exact hgm.1.imp rfl (fun S x cs h => eTc_step h (Nat.le_trans hbA.size hgrow.size) (fun _ _ h => h))⟩
        have h := hgm.2
        rw [htk.out, cO_snoc]
        exact h.mono (by omega)
      case measure => simp [intOf]; omega
    · obtain rfl : k = xs.length := by omega
      rw [List.take_length] at hG hRr
      clear hrow
      have hB0 : Hid (wr.heap.size ≤ wr.heap.size) := ⟨Nat.le_refl _⟩
      obtain ⟨B0, hB0e⟩ : ∃ B, B = wr.heap.size := ⟨_, rfl⟩
      rw [← hB0e] at hG
      have hB0 : B0 ≤ wr.heap.size := by omega
      clear hB0e
      go_wp2
      go_loopw [5, 7] (fun v x wr => ∃ k : Nat, k ≤ 20 ∧ x = .int .i64 ((2 * k : Nat) : Int) ∧ RmAt wr R lo K1 V1 (N + cO xs) ∧ RmStep R K V K1 V1 W wr ∧ GM (eTc V1 B0) 75 W.heap.size R K1 V1 wr v xs (2 * k) (mks 19 (2 * k)) ∧ B0 ≤ wr.heap.size) (fun _ x _ => (41 - intOf x).toNat)
      case atStart => exact ⟨0, by omega, rfl, hRr, hs, hG, hB0⟩
      case round =>
        clear hRr hs hG hB0
        obtain ⟨k, hk, rfl, hRr, hs, hG, hB0⟩ := hrel
        by_cases hk2 : k < 20
        · have hkk : ((2 * k : Nat) : Int) < 40 := by omega
          have hbA := bel_alloc wr (.cells #[.string ⟨#[60, 111, 110, 101, 62]⟩, .slice none 0 0, .string ⟨#[60, 116, 119, 111, 62]⟩, .slice none 0 0] 75)
          have hRA := hRr.new hbA
          have hGA := hG.new hbA
          have hlv := fun (g : Nat) e => hG.lt (g := g) e
          obtain ⟨cs, ho, hE⟩ := hGA.ex
          have hsz : W.heap.size ≤ (wr.alloc (.cells #[.string ⟨#[60, 111, 110, 101, 62]⟩, .slice none 0 0, .string ⟨#[60, 116, 119, 111, 62]⟩, .slice none 0 0] 75)).heap.size := Nat.le_trans hs.fm.size hbA.size
          go_wp2_with (at_builtin; refine wpList_append_own_at (P := Try.prog) _ rfl _ _ 24 rfl W.heap.size 75 i0 _ 2 40 Try.underlying24 hi hz0 hz1 hz2 rfl (by decide) _ (xs.length + 2 * k) (cs ++ mks 19 (2 * k)) rfl ho ⟨wr.heap.size, 0, none⟩ 2 2 [.string ⟨#[60, 111, 110, 101, 62]⟩, .slice none 0 0, .string ⟨#[60, 116, 119, 111, 62]⟩, .slice none 0 0] rfl rfl (lit_at wr _ _) (by simp [Value.oneCell']) (by unfold maxLen; omega) (by omega) hsz ?_; intro v' w2 hown' hgrow _h hat; clear _h)
          go_roundw
          case rel =>
            have hgm := GM.marks (k := 2) hRA hT ho hE hGA.vs hgrow hat hown'
            exact ⟨k + 1, by omega, by go_num, hgm.2, (hs.after (gr_alloc _ _) (fun _ e => by cases e)).after hgrow (fun g e => (hlv g e).1), by rw [show 2 * (k + 1) = 2 * k + 2 by omega, mks_two _ _ (by omega)]; exact hgm.1, Nat.le_trans hB0 (Nat.le_trans hbA.size hgrow.size)⟩
          case measure => simp [intOf]; omega
        · obtain rfl : k = 20 := by omega
          have hG : GM (eTc V1 B0) 75 W.heap.size R K1 V1 wr _ xs 40 (mks 19 40) := hG
          obtain ⟨cs, ho, hE⟩ := hG.ex
          obtain ⟨g, capN, rfl, hcN⟩ := own_lit2 ho (by omega)
          obtain ⟨ka, kc, hK⟩ := own_shape (hRr.own 19 (by decide))
          have q1 := (hRr.cell (j := 19) (by decide)).1
          have hVl := hRr.few 19 (by decide)
          have hbA := bel_alloc wr (.cells #[.slice (some ⟨g, 0, none⟩) (xs.length + 40) capN] 24)
          have hRA := hRr.new hbA
          have hoA := hRA.own 19 (by decide)
          have hsz : lo ≤ (wr.alloc (.cells #[.slice (some ⟨g, 0, none⟩) (xs.length + 40) capN] 24)).heap.size := by have := hRA.lt; have := hRA.low; omega
          have hcl := fun v' w2 h1 h2 h3 => rm_close (D := eTc V1 B0) (j := 19) (v' := v') (w2 := w2) (o := .cells #[.slice (some ⟨g, 0, none⟩) (xs.length + 40) capN] 24) (by decide) (by decide) rfl hx hRr hs hG h1 h2 h3
          have hfz := fun (w2 : World) (v' : Value) h => rm_fz (j := 19) (v' := v') (w2 := w2) (o := .cells #[.slice (some ⟨g, 0, none⟩) (xs.length + 40) capN] 24) (by decide) hRr hT ho (by omega) h
          rw [hK] at q1 hoA hcl hfz
          have hfzH := Hid.mk hfz
          clear hfz
          have hclH := Hid.mk hcl
          have hN2 : (V1 19).length ≤ 2000000000 := by omega
          have hle : ((xs.length : Nat) : Int) ≤ (xs.length : Int) + 40 := by omega
          have hle2 : (xs.length : Int) + 40 ≤ (capN : Int) := by omega
          have hle0 : (0 : Int) ≤ (xs.length : Int) := by omega
          have hbig : Hid (0 < xs.length → Big (upd V1 19 (V1 19 ++ [.slice (some ⟨g, 0, none⟩) (xs.length + 40) capN])) g) := ⟨fun hp => big_close (j := 19) (n := xs.length) (cap := capN) (fun i hi v hv => hG.vs i hi v hv g rfl) hp⟩
          clear hcl ho hE hG hVl hN hK hR
          go_wp2_with (at_builtin; refine wpList_append_own_at (P := Try.prog) _ rfl _ _ 52 rfl lo 24 j0 _ 1 24 Try.underlying52 hj hy0 hy1 hy2 rfl (by decide) _ (V1 19).length (V1 19) rfl hoA ⟨wr.heap.size, 0, none⟩ 1 1 [.slice (some ⟨g, 0, none⟩) (xs.length + 40) capN] rfl rfl (cell_one_new _ _ _) (by simp [Value.oneCell']) (by unfold maxLen; omega) (by omega) hsz ?_; intro v' w2 hown' hgrow _h hat; clear _h; obtain ⟨g2, cap2, rfl, -⟩ := own_lit2 hown' (by omega); obtain ⟨s1, s2, s3, s4, s5⟩ := hclH.out _ _ hown' hgrow hat; have s6 := Nat.le_trans hB0 (Nat.le_trans hbA.size (Nat.le_trans hgrow.size (gr_set w2 R 19 (.slice (some ⟨g2, 0, none⟩) ((V1 19).length + 1) cap2)).size)); have s6 := Hid.mk s6; have s7 := hfzH.out _ (.slice (some ⟨g2, 0, none⟩) ((V1 19).length + 1) cap2) hgrow; have s7 := Hid.mk s7; have s3 := Hid.mk s3; have s4 := Hid.mk s4; have s5 := Hid.mk s5; clear hgrow hat hown')
          go_ret
          exact ⟨_, B0, g, _, rfl, s3.out, s4.out, s5.out.imp_pos (fun hp => ⟨rfl, fun x cs h => eTc_step h (Nat.le_refl _) (fun _ _ h => big_upd (j := 19) (n := xs.length) h hp)⟩), hbig.out, s6.out⟩

end Go.Proofs.Ytjgkjdalnjlefaa


namespace Go.Proofs.Ytjgkjdalnjlefaa
open Go.RowKit

theorem infoOptions : (Try.prog.info? 105).map (fun i => (i.zero, i.size, i.bytes)) = some (some (.agg #[.string ⟨#[]⟩, .slice none 0 0]), 2, 40) := by kernel_rfl
theorem infoOptions2 : (Try.prog.info? 23).map (fun i => (i.zero, i.size, i.bytes)) = some (some (.slice none 0 0), 1, 24) := by kernel_rfl
set_option maxRecDepth 100000 in
set_option maxHeartbeats 4000000 in
theorem options_rm (R lo N : Nat) (K : Nat → Value) (V : Nat → List Value) (xs : List (List UInt8 × List (List UInt8))) (a : Option Addr) (cap : Nat) (W : World) (hx : xs.length ≤ 1048576) (hall : ∀ x ∈ xs, x.2.length ≤ 1048576) (hN : N + cO xs ≤ 1000000000) (hR : RmAt W R lo K V N) (hrow : RowR eO W (fun b => b < lo) xs a) :
    Calls Try.prog 61 #[.pointer (some ⟨R, 0, none⟩), .slice a xs.length cap] W (RmC eO R lo K V (N + cO xs + 1) 40 xs W) := by
  obtain ⟨i0, hi, hz0, hz1, hz2⟩ := info_parts infoOptions
  obtain ⟨j0, hj, hy0, hy1, hy2⟩ := info_parts infoOptions2
  have hT : (105 : TypeId) ≠ 55 ∧ ∀ j, j < 21 → (105 : TypeId) ≠ rmT j := by decide
  have hst : ∃ (k : Nat) (K1 : Nat → Value) (V1 : Nat → List Value), k ≤ xs.length ∧ (Value.int .i64 0) = .int .i64 (k : Int) ∧ RmAt (W.alloc (.cells #[] 105)) R lo K1 V1 (N + cO (xs.take k)) ∧ RmStep R K V K1 V1 W (W.alloc (.cells #[] 105)) ∧ GM eO 105 W.heap.size R K1 V1 (W.alloc (.cells #[] 105)) (.slice (some ⟨W.heap.size, 0, none⟩) 0 0) (xs.take k) 0 [] := ⟨0, K, V, Nat.zero_le _, rfl, hR.new (bel_alloc _ _), (RmStep.refl R K V W).after (gr_alloc _ _) (fun _ e => by cases e), gm_start eO 105 hR⟩
  go_enter Try.func61, Try.ntmps61
  go_wp2
  go_loopw [5, 6] (fun v x wr => ∃ (k : Nat) (K1 : Nat → Value) (V1 : Nat → List Value), k ≤ xs.length ∧ x = .int .i64 (k : Int) ∧ RmAt wr R lo K1 V1 (N + cO (xs.take k)) ∧ RmStep R K V K1 V1 W wr ∧ GM eO 105 W.heap.size R K1 V1 wr v (xs.take k) 0 []) (fun _ x _ => xs.length - (intOf x).toNat)
  case atStart => exact hst
  case round =>
    clear hst
    obtain ⟨k, K1, V1, hk, rfl, hRr, hs, hG⟩ := hrel
    by_cases hlt : k < xs.length
    · have hlt' : (k : Int) < (xs.length : Int) := by omega
      have hj0 : (0 : Int) ≤ (k : Int) := by omega
      obtain ⟨ga, oa, rfl⟩ : ∃ ga oa, a = some ⟨ga, oa, none⟩ := by
        rcases hrow with h0 | ⟨ga, oa, -, h1, -⟩
        · rw [h0] at hlt; simp at hlt
        · exact ⟨ga, oa, h1⟩
      obtain ⟨cx, hcl, hga, hE1, hcc⟩ := hrow.item hlt
      have htk : Hid (xs.take (k + 1) = xs.take k ++ [xs[k]]) := ⟨List.take_succ_eq_append_getElem hlt⟩
      have hyl : (xs.take k).length ≤ 1048576 := by rw [List.length_take]; omega
      have hwt : cO (xs.take (k + 1)) ≤ cO xs := cO_take xs (k + 1)
      rw [htk.out, cO_snoc] at hwt
      have hym : xs[k] ∈ xs := List.getElem_mem hlt
      have hBl : Below lo W wr := RmStep.below hR hs
      have hle : lo ≤ wr.heap.size := by have := hRr.lt; have := hRr.low; omega
      generalize xs[k] = y at *
      generalize xs.take k = ys at *
      obtain ⟨a1, c1, rfl, hRw⟩ := hE1
      have hyn : y.2.length ≤ 1048576 := hall y hym
      have hRowD : RowR eS wr.drew (fun b => b < lo) y.2 a1 := (hRw.fr hBl.size (fun b hb _ => hBl.block b hb)).fr (bel_drew wr).size (fun b hb _ => (bel_drew wr).block b (Nat.lt_of_lt_of_le hb hle))
      have hSs : Hid (∀ X, Below lo W X → X.cell? ⟨ga, oa + k * 2, none⟩ = some (.string ⟨y.1.toArray⟩) ∧ X.cell? ⟨ga, oa + k * 2 + 1, none⟩ = some (.slice a1 y.2.length c1)) := ⟨fun X hX => ⟨(bel_cell hX hga (oa + k * 2 + 0)).trans (hcc 0 (by decide)), (bel_cell hX hga (oa + k * 2 + 1)).trans (hcc 1 (by decide))⟩⟩
      have hbD := bel_drew wr
      have hRD := hRr.new hbD
      have hGD := hG.new hbD
      have hsD := hs.after (gr_drew1 wr) (fun _ e => by cases e)
      have hBD : Below lo W wr.drew := hBl.trans (hbD.mono hle)
      have hS0 := hSs.out _ hBD
      have hlv := Hid.mk (fun (g : Nat) e => hG.lt (g := g) e)

      clear hcc hcl
      go_wp2_with fail
      go_region_held_law (fun X => X.cell? ⟨ga, oa + k * 2, none⟩ = some (.string ⟨y.1.toArray⟩) ∧ X.cell? ⟨ga, oa + k * 2 + 1, none⟩ = some (.slice a1 y.2.length c1)) (with_reducible assumption)
        (first
          | (go_at_call 85; refine (texts_rm R lo (N + cO ys) K1 V1 y.2 a1 c1 _ hyn (by omega) hRD hRowD).mono ?_; rintro e w3 ⟨g, K', V', rfl, hR3, hs3, hRow3⟩; have hG3 := hGD.room hRD hT hs3; have hsA := hsD.trans hs3; have hbA := bel_alloc w3 (.cells #[.string ⟨y.1.toArray⟩, .slice (some ⟨g, 0, none⟩) y.2.length (y.2.length + 40)] 105); have hRA := hR3.new hbA; have hGA := hG3.new hbA; obtain ⟨cs, ho, hE⟩ := hGA.ex; simp only [List.append_nil, Nat.add_zero] at ho; have hsz : W.heap.size ≤ (w3.alloc (.cells #[.string ⟨y.1.toArray⟩, .slice (some ⟨g, 0, none⟩) y.2.length (y.2.length + 40)] 105)).heap.size := Nat.le_trans hsA.fm.size hbA.size; have hleW : lo ≤ W.heap.size := (by have := hR.lt; have := hR.low; omega); have hB3 : Below lo W w3 := RmStep.below hR hsA; have hle3 : lo ≤ w3.heap.size := Nat.le_trans hleW hsA.fm.size; have hS3 := hSs.out _ hB3; have hBA : Below lo W (w3.alloc (.cells #[.string ⟨y.1.toArray⟩, .slice (some ⟨g, 0, none⟩) y.2.length (y.2.length + 40)] 105)) := hB3.alloc hle3 _; have hleA : lo ≤ (w3.alloc (.cells #[.string ⟨y.1.toArray⟩, .slice (some ⟨g, 0, none⟩) y.2.length (y.2.length + 40)] 105)).heap.size := Nat.le_trans hle3 hbA.size; have hSA := hSs.out _ hBA; have hxE : Hid (eO.E (w3.alloc (.cells #[.string ⟨y.1.toArray⟩, .slice (some ⟨g, 0, none⟩) y.2.length (y.2.length + 40)] 105)) (fun b => wr.heap.size ≤ b ∧ b < (w3.alloc (.cells #[.string ⟨y.1.toArray⟩, .slice (some ⟨g, 0, none⟩) y.2.length (y.2.length + 40)] 105)).heap.size ∧ b ≠ R ∧ ∀ i, i < 21 → (K' i).ownBlock ≠ some b) y [.string ⟨y.1.toArray⟩, .slice (some ⟨g, 0, none⟩) y.2.length (y.2.length + 40)]) := ⟨⟨_, _, rfl, (hRow3.fr hbA.size (fun b _ hlt => hbA.block b hlt)).mo (fun b _ hb => ⟨Nat.le_trans hbD.size hb.1, Nat.lt_of_lt_of_le hb.2.1 hbA.size, hb.2.2⟩)⟩⟩)
          | (refine step_append_rm (P := Try.prog) _ rfl _ _ 23 rfl W.heap.size 105 i0 _ 2 40 Try.underlying23 hi hz0 hz1 hz2 rfl (by decide) _ ys.length cs rfl ho ⟨w3.heap.size, 0, none⟩ 1 1 [.string ⟨y.1.toArray⟩, .slice (some ⟨g, 0, none⟩) y.2.length (y.2.length + 40)] rfl rfl (lit_at w3 _ _) (by simp [Value.oneCell']) (by unfold maxLen; omega) (by omega) hsz ?_; intro v' w4 hown' hgrow hat; have hS4 := hSs.out _ (hBA.grown hgrow hleA (fun j hj => Nat.le_trans hleW (hlv.out j hj).1))))
      go_wp2
      go_roundw
      case rel =>
        have hgm := GM.step (n1 := wr.heap.size) hRA hT ho hE hGA.vs (x := y) hxE.out hs.fm.size (fun g e => (hlv.out g e).2) hgrow hat hown'
        refine ⟨k + 1, K', V', by omega, by go_num, ?_, (hsA.after (gr_alloc _ _) (fun _ e => by cases e)).after hgrow (fun g e => (hlv.out g e).1), by rw [htk.out]; exact hgm.1⟩
        have h := hgm.2
        rw [htk.out, cO_snoc]
        exact h.mono (by omega)
      case measure => simp [intOf]; omega
    · obtain rfl : k = xs.length := by omega
      rw [List.take_length] at hG hRr
      clear hrow
      go_wp2
      go_loopw [5, 7] (fun v x wr => ∃ k : Nat, k ≤ 20 ∧ x = .int .i64 ((2 * k : Nat) : Int) ∧ RmAt wr R lo K1 V1 (N + cO xs) ∧ RmStep R K V K1 V1 W wr ∧ GM eO 105 W.heap.size R K1 V1 wr v xs (2 * k) (mks 18 (2 * k))) (fun _ x _ => (41 - intOf x).toNat)
      case atStart => exact ⟨0, by omega, rfl, hRr, hs, hG⟩
      case round =>
        clear hRr hs hG
        obtain ⟨k, hk, rfl, hRr, hs, hG⟩ := hrel
        by_cases hk2 : k < 20
        · have hkk : ((2 * k : Nat) : Int) < 40 := by omega
          have hbA := bel_alloc wr (.cells #[.string ⟨#[60, 111, 110, 101, 62]⟩, .slice none 0 0, .string ⟨#[60, 116, 119, 111, 62]⟩, .slice none 0 0] 105)
          have hRA := hRr.new hbA
          have hGA := hG.new hbA
          have hlv := fun (g : Nat) e => hG.lt (g := g) e
          obtain ⟨cs, ho, hE⟩ := hGA.ex
          have hsz : W.heap.size ≤ (wr.alloc (.cells #[.string ⟨#[60, 111, 110, 101, 62]⟩, .slice none 0 0, .string ⟨#[60, 116, 119, 111, 62]⟩, .slice none 0 0] 105)).heap.size := Nat.le_trans hs.fm.size hbA.size
          go_wp2_with (at_builtin; refine wpList_append_own_at (P := Try.prog) _ rfl _ _ 23 rfl W.heap.size 105 i0 _ 2 40 Try.underlying23 hi hz0 hz1 hz2 rfl (by decide) _ (xs.length + 2 * k) (cs ++ mks 18 (2 * k)) rfl ho ⟨wr.heap.size, 0, none⟩ 2 2 [.string ⟨#[60, 111, 110, 101, 62]⟩, .slice none 0 0, .string ⟨#[60, 116, 119, 111, 62]⟩, .slice none 0 0] rfl rfl (lit_at wr _ _) (by simp [Value.oneCell']) (by unfold maxLen; omega) (by omega) hsz ?_; intro v' w2 hown' hgrow _h hat; clear _h)
          go_roundw
          case rel =>
            have hgm := GM.marks (k := 2) hRA hT ho hE hGA.vs hgrow hat hown'
            exact ⟨k + 1, by omega, by go_num, hgm.2, (hs.after (gr_alloc _ _) (fun _ e => by cases e)).after hgrow (fun g e => (hlv g e).1), by rw [show 2 * (k + 1) = 2 * k + 2 by omega, mks_two _ _ (by omega)]; exact hgm.1⟩
          case measure => simp [intOf]; omega
        · obtain rfl : k = 20 := by omega
          have hG : GM eO 105 W.heap.size R K1 V1 wr _ xs 40 (mks 18 40) := hG
          obtain ⟨cs, ho, hE⟩ := hG.ex
          obtain ⟨g, capN, rfl, hcN⟩ := own_lit2 ho (by omega)
          obtain ⟨ka, kc, hK⟩ := own_shape (hRr.own 18 (by decide))
          have q1 := (hRr.cell (j := 18) (by decide)).1
          have hVl := hRr.few 18 (by decide)
          have hbA := bel_alloc wr (.cells #[.slice (some ⟨g, 0, none⟩) (xs.length + 40) capN] 23)
          have hRA := hRr.new hbA
          have hoA := hRA.own 18 (by decide)
          have hsz : lo ≤ (wr.alloc (.cells #[.slice (some ⟨g, 0, none⟩) (xs.length + 40) capN] 23)).heap.size := by have := hRA.lt; have := hRA.low; omega
          have hcl := fun v' w2 h1 h2 h3 => rm_close (D := eO) (j := 18) (v' := v') (w2 := w2) (o := .cells #[.slice (some ⟨g, 0, none⟩) (xs.length + 40) capN] 23) (by decide) (by decide) rfl hx hRr hs hG h1 h2 h3
          rw [hK] at q1 hoA hcl
          have hclH := Hid.mk hcl
          have hN2 : (V1 18).length ≤ 2000000000 := by omega
          have hle : ((xs.length : Nat) : Int) ≤ (xs.length : Int) + 40 := by omega
          have hle2 : (xs.length : Int) + 40 ≤ (capN : Int) := by omega
          have hle0 : (0 : Int) ≤ (xs.length : Int) := by omega
          clear hcl ho hE hG hVl hN hK hR
          go_wp2_with (at_builtin; refine wpList_append_own_at (P := Try.prog) _ rfl _ _ 51 rfl lo 23 j0 _ 1 24 Try.underlying51 hj hy0 hy1 hy2 rfl (by decide) _ (V1 18).length (V1 18) rfl hoA ⟨wr.heap.size, 0, none⟩ 1 1 [.slice (some ⟨g, 0, none⟩) (xs.length + 40) capN] rfl rfl (cell_one_new _ _ _) (by simp [Value.oneCell']) (by unfold maxLen; omega) (by omega) hsz ?_; intro v' w2 hown' hgrow _h hat; clear _h; obtain ⟨g2, cap2, rfl, -⟩ := own_lit2 hown' (by omega); obtain ⟨s1, s2, s3, s4, s5⟩ := hclH.out _ _ hown' hgrow hat; have s3 := Hid.mk s3; have s4 := Hid.mk s4; have s5 := Hid.mk s5; clear hgrow hat hown')
          go_ret
          exact ⟨g, _, _, rfl, s3.out, s4.out, s5.out⟩

end Go.Proofs.Ytjgkjdalnjlefaa

import Derived.Test.YthbojlbgjmecoaaGreatProg
import Derived.Laws.BitsAllLaws
/- THE SUM OF BYTES. No program. -/
namespace Go.Proofs.YthbojlbgjmecoaaGreat

def fn1 (h x : Nat) : Nat := ((h ^^^ x) * 16777619) % 4294967296
@[irreducible] def fnv0 : Nat := 2166136261
theorem fnv0_is : (fnv0 : Int) = 2166136261 := by unfold fnv0; rfl
def fnv (bs : List Nat) : Nat := bs.foldl fn1 fnv0
theorem fn1_lt (h x : Nat) : fn1 h x < 4294967296 := Nat.mod_lt _ (by decide)
theorem fnv_lt (bs : List Nat) : fnv bs < 4294967296 := by
  have key : ∀ (bs : List Nat) (h : Nat), h < 4294967296 → bs.foldl fn1 h < 4294967296 := by
    intro bs
    induction bs with
    | nil => intro h hh; exact hh
    | cons x bs ih => intro h _; exact ih _ (fn1_lt h x)
  exact key bs _ (by have := fnv0_is; omega)
theorem fnv_snoc (bs : List Nat) (x : Nat) : fnv (bs ++ [x]) = fn1 (fnv bs) x := by unfold fnv; rw [List.foldl_append, List.foldl_cons, List.foldl_nil]
theorem fnv_take {bs : List Nat} {i : Nat} (h : i < bs.length) : fnv (bs.take (i + 1)) = fn1 (fnv (bs.take i)) bs[i] := by
  rw [List.take_succ_eq_append_getElem h, fnv_snoc]
theorem xor_two (u v : Nat) : (u ^^^ v) % 2 = (u + v) % 2 := by
  have h : (u ^^^ v) % 2 = (u % 2) ^^^ (v % 2) := by
    have := Nat.xor_mod_two_pow (a := u) (b := v) (n := 1)
    rwa [Nat.pow_one] at this
  rw [h, Nat.add_mod]
  rcases Nat.mod_two_eq_zero_or_one u with h1 | h1 <;> rcases Nat.mod_two_eq_zero_or_one v with h2 | h2 <;> rw [h1, h2] <;> rfl
theorem dig_step (a b k : Nat) : (a ^^^ b) % 2 ^ (k + 1) = (a ^^^ b) % 2 ^ k + 2 ^ k * ((a / 2 ^ k + b / 2 ^ k) % 2) := by
  rw [Nat.mod_pow_succ, Nat.xor_div_two_pow, xor_two]
theorem low_xor (h x : Nat) (hx : x < 256) : h - h % 256 + ((h % 256) ^^^ x) = h ^^^ x := by
  have h1 : (h ^^^ x) % 256 = (h % 256) ^^^ x := by
    have := Nat.xor_mod_two_pow (a := h) (b := x) (n := 8)
    rw [show (2 : Nat) ^ 8 = 256 from rfl, Nat.mod_eq_of_lt hx] at this
    exact this
  have h2 : (h ^^^ x) / 256 = h / 256 := by
    have := Nat.xor_div_two_pow (a := h) (b := x) (n := 8)
    rw [show (2 : Nat) ^ 8 = 256 from rfl, Nat.div_eq_of_lt hx, Nat.xor_zero] at this
    exact this
  rw [← h1]
  omega
theorem xor_byte (a b : Nat) (ha : a < 256) (hb : b < 256) : a ^^^ b < 256 := Nat.xor_lt_two_pow (n := 8) ha hb

end Go.Proofs.YthbojlbgjmecoaaGreat

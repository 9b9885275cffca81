import Derived.Test.YtnmcniibcjjflaaDoorTurnSumsWalk3
namespace Go.Proofs.YtnmcniibcjjflaaDoor
open Go.RowKit Go.Shelf

theorem sums_walk (kind : Int) (a : Option Addr) (cap : Nat) (hcap : a = none → cap = 0) (vs : List (Int × Int)) (W : World) (hK : Kinds W) (hV : Vals W a vs) :
    Calls Tryd.prog 3 #[.int .i64 kind, .slice a vs.length cap] W fun e W' => e = .returned (.bool true) ∧ Below W.heap.size W W' := by
  rcases Nat.lt_or_ge 16384 vs.length with h | h
  · exact sums_long kind a cap vs W h
  · rcases Nat.eq_zero_or_pos vs.length with h0 | h0
    · obtain rfl : vs = [] := List.eq_nil_of_length_eq_zero h0
      exact sums_nil kind a cap hcap W hK hV _ rfl
    · exact sums_some kind a cap vs W hK hV h h0 _ rfl

end Go.Proofs.YtnmcniibcjjflaaDoor

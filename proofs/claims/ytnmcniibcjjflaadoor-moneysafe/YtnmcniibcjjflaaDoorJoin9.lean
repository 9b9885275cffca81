import Derived.Test.YtnmcniibcjjflaaDoorTurnRounded
import Derived.Test.YtnmcniibcjjflaaDoorJoin6
import Derived.Test.YtnmcniibcjjflaaDoorJoin7
import Derived.Deep.RegionHeld3
namespace Go.Proofs.YtnmcniibcjjflaaDoor
open Go.RowKit

theorem rounded_any (a : Option Addr) (cap : Nat) (ds : List Nat) (n : Nat) (s : Bool) (mode : Int) (hn : 0 < n) (hn2 : n ≤ 10000000000000) (hlen : ds.length ≤ 100) (hds : ∀ i, ds.getD i 0 ≤ 1000000) (w : World) (hD : Dig w a ds)
    (v : Int) (hv : Hid (v = M.sgn s (M.rq s mode (M.cap14 (M.val ds / n)) (M.val ds % n) n))) :
    Calls Tryd.prog 69 #[.slice a ds.length cap, .bool s, .int .i64 n, .int .i64 mode] w fun e w' => e = .returned (.int .i64 v) ∧ w' = w := by
  rw [hv.out]
  have hp : Parts a ds.length cap n (M.cap14 (M.val ds / n)) (M.val ds % n) w := divided_any a cap ds n hn hn2 hlen hds w hD _ _ rfl rfl
  have hq : ((M.cap14 (M.val ds / n) : Nat) : Int) ≤ 100000000000000 := by have := M.cap14_le (M.val ds / n); omega
  have hr : ((M.val ds % n : Nat) : Int) < n := by have := Nat.mod_lt (M.val ds) hn; omega
  have hn3 : (n : Int) ≤ 10000000000000 := by omega
  generalize M.cap14 (M.val ds / n) = q at *
  generalize M.val ds % n = r at *
  cases s with
  | true =>
    by_cases m1 : mode = 1
    · subst m1
      by_cases c : r = 0
      · exact rnd2 a ds.length cap n q r w hq hr hn3 hp c
      · exact rnd1 a ds.length cap n q r w hq hr hn3 hp (by omega)
    by_cases m2 : mode = 2
    · subst m2
      exact rnd3 a ds.length cap n q r w hq hr hn3 hp
    by_cases m4 : mode = 4
    · subst m4
      by_cases c : (n : Int) - r < r
      · exact rnd4 a ds.length cap n q r w hq hr hn3 hp c
      · by_cases c2 : (r : Int) = (n : Int) - r
        · exact rnd6 a ds.length cap n q r w hq hr hn3 hp (by simpa using c) (by simpa using c2)
        · exact rnd5 a ds.length cap n q r w hq hr hn3 hp (by simpa using c) (by simpa using c2)
    by_cases m5 : mode = 5
    · subst m5
      by_cases c : (n : Int) - r < r
      · exact rnd7 a ds.length cap n q r w hq hr hn3 hp c
      · by_cases c2 : (r : Int) = (n : Int) - r
        · by_cases c3 : (q : Int) % 2 = 1
          · exact rnd9 a ds.length cap n q r w hq hr hn3 hp (by simpa using c) (by simpa using c2) (by simpa using c3)
          · exact rnd10 a ds.length cap n q r w hq hr hn3 hp (by simpa using c) (by simpa using c2) (by simpa using c3)
        · exact rnd8 a ds.length cap n q r w hq hr hn3 hp (by simpa using c) (by simpa using c2)
    exact rnd11 a ds.length cap n q r mode w hq hr hn3 hp (by simpa using m1) (by simpa using m2) (by simpa using m4) (by simpa using m5)
  | false =>
    by_cases m1 : mode = 1
    · subst m1
      exact rnd12 a ds.length cap n q r w hq hr hn3 hp
    by_cases m2 : mode = 2
    · subst m2
      by_cases c : r = 0
      · exact rnd14 a ds.length cap n q r w hq hr hn3 hp c
      · exact rnd13 a ds.length cap n q r w hq hr hn3 hp (by omega)
    by_cases m4 : mode = 4
    · subst m4
      by_cases c : (n : Int) - r < r
      · exact rnd15 a ds.length cap n q r w hq hr hn3 hp c
      · by_cases c2 : (r : Int) = (n : Int) - r
        · exact rnd17 a ds.length cap n q r w hq hr hn3 hp (by simpa using c) (by simpa using c2)
        · exact rnd16 a ds.length cap n q r w hq hr hn3 hp (by simpa using c) (by simpa using c2)
    by_cases m5 : mode = 5
    · subst m5
      by_cases c : (n : Int) - r < r
      · exact rnd18 a ds.length cap n q r w hq hr hn3 hp c
      · by_cases c2 : (r : Int) = (n : Int) - r
        · by_cases c3 : (q : Int) % 2 = 1
          · exact rnd20 a ds.length cap n q r w hq hr hn3 hp (by simpa using c) (by simpa using c2) (by simpa using c3)
          · exact rnd21 a ds.length cap n q r w hq hr hn3 hp (by simpa using c) (by simpa using c2) (by simpa using c3)
        · exact rnd19 a ds.length cap n q r w hq hr hn3 hp (by simpa using c) (by simpa using c2)
    exact rnd22 a ds.length cap n q r mode w hq hr hn3 hp (by simpa using m1) (by simpa using m2) (by simpa using m4) (by simpa using m5)

theorem rsize_any (n : Int) (w : World) (h1 : -10000000000000 ≤ n) (h2 : n ≤ 10000000000000) :
    Calls Tryd.prog 68 #[.int .i64 n] w fun e w' => e = .returned (.int .i64 (n.natAbs : Int)) ∧ w' = w := by
  by_cases h : n < -n
  · have e : (n.natAbs : Int) = -n := by omega
    rw [e]
    go_enter Tryd.func68, Tryd.ntmps68
    go_wp2
    go_ret
    exact ⟨rfl, rfl⟩
  · have e : (n.natAbs : Int) = n := by omega
    rw [e]
    go_enter Tryd.func68, Tryd.ntmps68
    go_wp2
    go_ret
    exact ⟨rfl, rfl⟩

end Go.Proofs.YtnmcniibcjjflaaDoor


namespace Go.Proofs.YtnmcniibcjjflaaDoor
open Go.RowKit

theorem rsize_v (n : Int) (a : Nat) (ha : Hid (a = n.natAbs)) (w : World) (h1 : -9999999999999 ≤ n) (h2 : n ≤ 9999999999999) :
    Calls Tryd.prog 68 #[.int .i64 n] w fun e w' => e = .returned (.int .i64 (a : Int)) ∧ w' = w := by
  rw [ha.out]
  exact rsize_any n w (by omega) (by omega)

/-- A call by its contract: two numbers in boxes and the result's box are kept. -/
theorem heldR {w0 X : World} {b0 b1 b2 : Nat} {x0 x1 : Value} {f : Nat} {args : Array Value} {Q : Ending → World → Prop}
    (h : X.cell? ⟨b0, 1, none⟩ = some x0 ∧ X.cell? ⟨b1, 1, none⟩ = some x1 ∧ Box X b2 (.int .i64 0) (.int .i64 0) ∧ Below w0.heap.size w0 X)
    (hc : Calls Tryd.prog f args X Q) (hQ : ∀ e w', Q e w' → Below X.heap.size X w') :
    Calls Tryd.prog f args X fun e w1 => Q e w1 ∧ (w1.cell? ⟨b0, 1, none⟩ = some x0 ∧ w1.cell? ⟨b1, 1, none⟩ = some x1 ∧ Box w1 b2 (.int .i64 0) (.int .i64 0) ∧ Below w0.heap.size w0 w1) :=
  hc.mono fun e w1 hq => by
    have hb := hQ e w1 hq
    obtain ⟨h0, h1, h2, h3⟩ := h
    exact ⟨hq, (hb.cell (p := ⟨b0, 1, none⟩) (World.block_lt_of_cell? _ _ h0)).trans h0, (hb.cell (p := ⟨b1, 1, none⟩) (World.block_lt_of_cell? _ _ h1)).trans h1, h2.later hb, below_step h3 hb⟩

/-- The same for one number. -/
theorem heldR1 {w0 X : World} {b0 b2 : Nat} {x0 : Value} {f : Nat} {args : Array Value} {Q : Ending → World → Prop}
    (h : X.cell? ⟨b0, 1, none⟩ = some x0 ∧ Box X b2 (.int .i64 0) (.int .i64 0) ∧ Below w0.heap.size w0 X)
    (hc : Calls Tryd.prog f args X Q) (hQ : ∀ e w', Q e w' → Below X.heap.size X w') :
    Calls Tryd.prog f args X fun e w1 => Q e w1 ∧ (w1.cell? ⟨b0, 1, none⟩ = some x0 ∧ Box w1 b2 (.int .i64 0) (.int .i64 0) ∧ Below w0.heap.size w0 w1) :=
  hc.mono fun e w1 hq => by
    have hb := hQ e w1 hq
    obtain ⟨h0, h2, h3⟩ := h
    exact ⟨hq, (hb.cell (p := ⟨b0, 1, none⟩) (World.block_lt_of_cell? _ _ h0)).trans h0, h2.later hb, below_step h3 hb⟩

theorem same_below {X w' : World} {e : Ending} {v : Value} (h : e = .returned v ∧ w' = X) : Below X.heap.size X w' := h.2 ▸ Below.refl _ _

end Go.Proofs.YtnmcniibcjjflaaDoor

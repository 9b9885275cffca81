import Derived.RangeFuncNested
import Derived.RangeFuncBound
import Derived.RangeFuncCalls
import Derived.RangeFuncLeaves
import Derived.Shelf.Abstract
import Derived.WalkKit
import Derived.OwnWalkIn
import Derived.TacticsInMore
import Derived.LoopNIn
import Derived.LoopIn
import Derived.Test.YtaecodgmfmijlaaDoorDFace
namespace Go.Proofs.YtaecodgmfmijlaaDoor
open Go.RowKit Go.Shelf
attribute [local go_sem] Oper.semAt_some

/-- a month of a span: the date, how many days -/
structure Pc where
  y : Int
  m : Int
  d : Int
  c : Int
abbrev encsP (x : Pc) : Array Value := #[.agg #[.int .i64 x.y, .int .i64 x.m, .int .i64 x.d], .int .i64 x.c]
def tot (l : List Pc) : Int := (l.map (·.c)).sum
theorem tot_snoc (l : List Pc) (x : Pc) : tot (l ++ [x]) = tot l + x.c := by simp [tot]

theorem months_any (a b : Int) (w : World) :
    Calls Tryd.prog 7 #[.int .i64 a, .int .i64 b] w fun e w' => e = .returned (.func (.func 21) #[] #[.pointer (some ⟨w.heap.size, 0, none⟩), .pointer (some ⟨w.heap.size + 1, 0, none⟩)]) ∧ w' = (w.alloc (.cells #[.int .i64 (if 0 ≤ a then a else 0)] 3)).alloc (.cells #[.int .i64 (if b ≤ 109572 then b else 109572)] 3) := by
  go_enter Tryd.func7, Tryd.ntmps7
  go_wp2
  all_goals
    go_ret
    exact ⟨rfl, rfl⟩

/-- how many days from lo to hi -/
def span (lo hi : Int) : Int := if lo ≤ hi then hi - lo + 1 else 0
def KpM (n0 g : Nat) (W W' : World) : Prop := Below n0 W W' ∧ ∀ v, W.cell? ⟨g, 0, none⟩ = some v → W'.cell? ⟨g, 0, none⟩ = some v

theorem grown_of_below {W W' : World} (h : Below W.heap.size W W') : W.grownBy W' none := ⟨h.os, h.tape, h.output, h.size, fun k hk _ => h.block k hk⟩
theorem Mon.low {n0 : Nat} {W W' : World} (h : Mon W) (hb : Below n0 W W') (hn : 0 < n0) : Mon W' :=
  ⟨Nat.lt_of_lt_of_le h.1 hb.size, fun i hi => (hb.cell (p := ⟨0, i, none⟩) hn).trans (h.2 i hi)⟩

set_option maxRecDepth 4000 in
set_option maxHeartbeats 4000000 in
theorem months_stops (n : Nat) (hn : 1 ≤ n) (g1 g2 n0 : Nat) (lo hi : Int) (hlo : 0 ≤ lo) (hlo2 : lo ≤ 109573) (hhi : hi ≤ 109572) (hn0 : 0 < n0) (W0 : World) (hM : Mon W0) (c1 : W0.cell? ⟨g1, 0, none⟩ = some (.int .i64 lo)) (c2 : W0.cell? ⟨g2, 0, none⟩ = some (.int .i64 hi)) :
    SeqStopsK Fence.wide n Tryd.prog 21 #[.pointer (some ⟨g1, 0, none⟩), .pointer (some ⟨g2, 0, none⟩)] encsP (KpM n0 g2) (fun xs => tot xs = span lo hi) (fun _ => True) 200000 W0 := fun l J Jx W hW hJ hJx hY h0 => by
  refine callsIn_of_wp Tryd.func21 rfl trivial ?_ rfl
  simp only [Tryd.ntmps21, List.size_toArray, List.length_cons, List.length_nil, Nat.reduceAdd, Nat.reduceSub, Array.replicate_succ, Array.replicate_zero, List.push_toArray, List.append_toArray, List.nil_append, List.cons_append]
  have d1 : W.cell? ⟨g1, 0, none⟩ = some (.int .i64 lo) := (hW.cell (p := ⟨g1, 0, none⟩) (World.block_lt_of_cell? _ _ c1)).trans c1
  have d2 : W.cell? ⟨g2, 0, none⟩ = some (.int .i64 hi) := (hW.cell (p := ⟨g2, 0, none⟩) (World.block_lt_of_cell? _ _ c2)).trans c2
  have hM1 := hM.later hW
  gi_wp2
  gi_loopw [4] (fun x wr => ∃ (m : Int) (pre : List Pc), x = .int .i64 m ∧ lo ≤ m ∧ m ≤ 109573 ∧ Hid (m = lo ∨ m ≤ hi + 1) ∧ Hid (tot pre = m - lo ∧ (pre.length : Int) ≤ m - lo) ∧ J pre wr ∧ Mon wr ∧ wr.cell? ⟨g2, 0, none⟩ = some (.int .i64 hi)) (fun x _ => (109574 - intOf x).toNat)
  case atStart => exact ⟨lo, [], rfl, by omega, by omega, .inl rfl, ⟨by simp [tot], by simp⟩, h0, hM1, d2⟩
  case round =>
    obtain ⟨m, pre, rfl, m0, m1, hm, htot, hJs, hMr, hc2⟩ := hrel
    by_cases hle : m ≤ hi
    · obtain ⟨k, d, hk⟩ := D.at_ex m (by omega) (by omega)
      have hDa := dateOf_any m k d hk wr hMr
      have hLa := fun W hM => last_any (1900 + k / 12) (k % 12 + 1) W hM (D.ln k) rfl
      have dd0 := hk.d0
      have dd1 := hk.d1
      have lb := D.ln_bd k
      generalize 1900 + k / 12 = Y at *
      generalize k % 12 + 1 = M at *
      obtain ⟨K, hK⟩ : ∃ K, K = d + 1 := ⟨_, rfl⟩
      rw [← hK] at hDa
      have k0 : 1 ≤ K := by omega
      have k1 : K ≤ D.ln k := by omega
      generalize D.ln k = L at *
      clear hK hk dd0 dd1
      gi_wp2_with (refine ⟨trivial, ?_⟩; gi_at_call 22; refine (callsIn_wide.2 hDa).mono ?_; clear hDa; rintro _ w1 ⟨rfl, hb1⟩)
      have hX := Box3.new w1 (.int .i64 Y) (.int .i64 M) (.int .i64 K) 33
      have hB2 := below_step hb1 ((Below.refl w1.heap.size w1).alloc (Nat.le_refl _) (.cells #[.int .i64 Y, .int .i64 M, .int .i64 K] 33))
      have hM2 := hMr.later hB2
      have hc3 : (w1.alloc (.cells #[.int .i64 Y, .int .i64 M, .int .i64 K] 33)).cell? ⟨g2, 0, none⟩ = some (.int .i64 hi) := (hB2.cell (p := ⟨g2, 0, none⟩) (World.block_lt_of_cell? _ _ hc2)).trans hc2
      generalize w1.alloc (.cells #[.int .i64 Y, .int .i64 M, .int .i64 K] 33) = W2 at *
      obtain ⟨q0, q1, q2, -⟩ := id hX
      have e1 : IntKind.i64.wrap (m + L) = m + L := by rw [IntKind.wrap_i64]; omega
      have e2 : IntKind.i64.wrap (m + L - K) = m + L - K := by rw [IntKind.wrap_i64]; omega
      obtain ⟨en, hen, en0, en1⟩ : ∃ en, (if hi < m + L - K then hi else m + L - K) = en ∧ m ≤ en ∧ en ≤ hi := by
        refine ⟨_, rfl, ?_, ?_⟩ <;> split <;> omega
      refine wpIn_wide.2 ?_
      go_quiet ((go_at_call 12; exact Calls.quiet_of_same (hLa _ (hM2.drewN _))))
      have hB3 := below_drewN hB2 nq
      have hM3 := hM2.drewN nq
      have hX3 := hX.drewN nq
      have hc4 : (W2.drewN nq).cell? ⟨g2, 0, none⟩ = some (.int .i64 hi) := (hB3.cell (p := ⟨g2, 0, none⟩) (World.block_lt_of_cell? _ _ hc2)).trans hc2
      clear hX hM2 hc3 q0 q1 q2 hLa e1 e2 hen hB2 hb1
      generalize W2.drewN nq = W3 at *
      have hJ3 : J pre W3 := hJ pre wr W3 none hJs (grown_of_below hB3) (fun r e => by cases e)
      obtain ⟨q0, q1, q2, -⟩ := id hX3
      have e3 : wrap64 (en - m) = en - m := wrap64_id (by omega) (by omega)
      have e4 : wrap64 (en - m + 1) = en - m + 1 := wrap64_id (by omega) (by omega)
      have e5 : wrap64 (en + 1) = en + 1 := wrap64_id (by omega) (by omega)
      obtain ⟨fn, tmps, assign, body, hy, hR⟩ := hY pre ⟨Y, M, K, en - m + 1⟩ W3 hJ3 (by have := htot.out; omega)
      dsimp only [encsP] at hy
      gi_wp2
      refine hR.mono ?_
      rintro e W4 (⟨rfl, hJ4, hk4⟩ | ⟨rfl, hJx4⟩)
      · gi_wp2
        have b := htot.out
        exact ⟨⟨en + 1, pre ++ [⟨Y, M, K, en - m + 1⟩], rfl, by omega, by omega, .inr (by omega), ⟨by rw [tot_snoc]; dsimp only; omega, by simp; omega⟩, hJ4, hM3.low hk4.1 hn0, hk4.2 _ hc4⟩, by simp [intOf]; omega⟩
      · gi_wp2
        refine bodyPost_ret (results_none rfl _ _ _) rfl ?_
        exact ⟨⟨_, rfl⟩, .inr ⟨_, trivial, hJx4⟩⟩
    · gi_wp2
      go_end0
      refine ⟨⟨_, rfl⟩, .inl ⟨pre, ?_, hJs⟩⟩
      have a := hm.out
      have b := htot.out
      unfold span
      split <;> omega

end Go.Proofs.YtaecodgmfmijlaaDoor

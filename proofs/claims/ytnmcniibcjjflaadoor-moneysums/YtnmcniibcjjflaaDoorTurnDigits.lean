import Derived.Test.YtnmcniibcjjflaaDoorJoin5
import Derived.Test.YtnmcniibcjjflaaDoorJoin8
import Derived.OwnWalk
namespace Go.Proofs.YtnmcniibcjjflaaDoor
open Go.RowKit

theorem infoInt : (Tryd.prog.info? 3).map (fun i => (i.zero, i.size, i.bytes)) = some (some (.int .i64 0), 1, 8) := by kernel_rfl

/-- Digits in a row of memory. -/
def Dig (w : World) (a : Option Addr) (ds : List Nat) : Prop := ds = [] ∨ ∃ g, a = some ⟨g, 0, none⟩ ∧ g < w.heap.size ∧ ∀ i, i < ds.length → w.cell? ⟨g, i, none⟩ = some (.int .i64 (ds.getD i 0 : Nat))

theorem Dig.later {w w' : World} {a : Option Addr} {ds : List Nat} (h : Dig w a ds) (hb : Below w.heap.size w w') : Dig w' a ds := by
  rcases h with h | ⟨g, rfl, hg, hc⟩
  · exact .inl h
  · exact .inr ⟨g, rfl, Nat.lt_of_lt_of_le hg hb.size, fun i hi => (hb.cell (p := ⟨g, i, none⟩) hg).trans (hc i hi)⟩

abbrev dv (d : Nat) : Value := .int .i64 (d : Int)

theorem dig_of_owns {w : World} {base : Nat} {v : Value} {ds : List Nat} (h : w.ownsRow base 3 1 v ds.length (ds.map dv)) : ∃ a cap, v = .slice a ds.length cap ∧ Dig w a ds := by
  obtain ⟨hl, h | ⟨g, cap, cur, rfl, hg, hh, hn, hm, hs, ht⟩⟩ := h
  · exact ⟨none, 0, by rw [h.2]; exact h.1, .inl (List.eq_nil_of_length_eq_zero h.2)⟩
  · refine ⟨_, cap, rfl, .inr ⟨g, rfl, (Array.getElem?_eq_some_iff.1 hh).1, fun i hi => ?_⟩⟩
    have e : cur.toList[i]? = some (dv (ds.getD i 0)) := by
      have h1 : (cur.toList.take (ds.length * 1))[i]? = cur.toList[i]? := by rw [List.getElem?_take, if_pos (by omega)]
      rw [← h1, ht, List.getElem?_map, List.getD_eq_getElem?_getD, List.getElem?_eq_getElem hi]
      rfl
    simp only [World.cell?, hh]
    simpa using e

set_option maxRecDepth 4000 in
set_option maxHeartbeats 1600000 in
theorem digits_any (N : Nat) (hN : N < 10000000000000000) (w : World) :
    Calls Tryd.prog 67 #[.int .i64 N] w fun e w' => ∃ a cap, e = .returned (.slice a (M.digs N).length cap) ∧ Dig w' a (M.digs N) ∧ Below w.heap.size w w' := by
  obtain ⟨i0, hi, hz0, hz1, hz2⟩ := info_parts infoInt
  have hlen := M.digs_len 16 N hN
  go_enter Tryd.func67, Tryd.ntmps67
  go_wp2
  go_loopw [0, 3] (fun x v wr => ∃ (m : Nat) (ds : List Nat), x = .int .i64 m ∧ Hid (M.digs N = ds ++ M.digs m) ∧ m ≤ N ∧ wr.ownsRow w.heap.size 3 1 v ds.length (ds.map dv) ∧ Below w.heap.size w wr) (fun x _ _ => (intOf x).toNat)
  case atStart => exact ⟨N, [], rfl, rfl, Nat.le_refl _, World.ownsRow_nil _ _ _ _, Below.refl _ _⟩
  case round =>
    obtain ⟨m, ds, rfl, hd, hm, hown, hb⟩ := hrel
    have hdl : ds.length ≤ 16 := by
      have := congrArg List.length hd.out
      simp at this
      omega
    by_cases h0 : m = 0
    · have e : M.digs N = ds := by rw [hd.out, h0, M.digs_zero, List.append_nil]
      have hpos : ¬ (0 : Int) < m := by omega
      obtain ⟨a, cap, hv, hD⟩ := dig_of_owns hown
      have HE : Hid (M.digs N = ds) := e
      rw [hv]
      clear hown hd e hv
      go_wp2
      go_ret
      exact ⟨a, ⟨cap, by rw [HE.out]; rfl⟩, by rw [HE.out]; exact hD, hb⟩
    · have hpos : (0 : Int) < m := by omega
      have HE : Hid (M.digs N = (ds ++ [m % 10]) ++ M.digs (m / 10)) := by unfold Hid; rw [hd.out, M.digs_pos h0]; simp
      have hm2 : (m : Int) ≤ 10000000000000000 := by omega
      clear hd
      go_wp2_with (at_builtin; refine wpList_append_own _ rfl _ _ 83 rfl w.heap.size 3 i0 (.int .i64 0) 1 8 Tryd.underlying83 hi hz0 hz1 hz2 rfl (by decide) _ _ _ rfl (hown.alloc _) ⟨wr.heap.size, 0, none⟩ 1 1 [dv (m % 10)] rfl rfl ?c1 ?c2 ?c3 ?c4 ?c5 ?_)
      case c1 =>
        intro j u hj
        match j, hj with
        | 0, hj => simp at hj; subst hj; simp [Addr.add]
      case c2 => intro u hu; simp at hu; subst hu; rfl
      case c3 => unfold maxLen; omega
      case c4 => omega
      case c5 => have := hb.size; simp; omega
      · intro v' w1 hown' hgrow _
        have hB1 : Below w.heap.size w w1 := (hb.alloc hb.size _).grown hgrow (by have := hb.size; simp; omega) (fun k hk => by
          obtain ⟨-, h | ⟨g, cap, cur, rfl, hg, -⟩⟩ := hown
          · rw [h.1] at hk; cases hk
          · cases hk; exact hg)
        clear hown hgrow
        go_wp2
        go_roundw
        case rel => exact ⟨m / 10, ds ++ [m % 10], by go_num, HE, by omega, by simpa using hown', hB1⟩
        case measure => simp [intOf]; omega

end Go.Proofs.YtnmcniibcjjflaaDoor

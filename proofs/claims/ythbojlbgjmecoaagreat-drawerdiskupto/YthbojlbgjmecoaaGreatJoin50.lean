import Derived.Test.YthbojlbgjmecoaaGreatProg
import Derived.Test.YthbojlbgjmecoaaGreatJoin49
import Derived.WalkKit
import Derived.WalkSpells
import Derived.WalkLawsBesides
import Derived.Deep.QuietTactic
import Derived.BigQuiet
import Derived.Maps.OwnSet
import Derived.Maps.AppendAt
import Derived.Test.YthbojlbgjmecoaaGreatJoin31
namespace Go.Proofs.YthbojlbgjmecoaaGreat
open Go.RowKit

theorem wrap64_id {z : Int} (h1 : -9000000000000000000 ≤ z) (h2 : z ≤ 9000000000000000000) : wrap64 z = z := by unfold wrap64; omega
theorem ret_bool {a b : Bool} (h : a = b) : Ending.returned (.bool a) = .returned (.bool b) := by rw [h]
theorem ret_int {a b : Int} (h : a = b) : Ending.returned (.int .i64 a) = .returned (.int .i64 b) := by rw [h]



end Go.Proofs.YthbojlbgjmecoaaGreat


namespace Go.Proofs.YthbojlbgjmecoaaGreat
open Go.RowKit Go.Maps

/-- A list of numbers in memory. -/
def Nums (w : World) (a : Option Addr) (zs : List Int) : Prop := (zs.length * 8 ≤ 140737488351232 ∧ ∀ n ∈ zs, (Lit.int .i64 n).wf = true) ∧ (zs = [] ∨ ∃ b off, a = some ⟨b, off, none⟩ ∧ b < w.heap.size ∧ ∀ i, i < zs.length → w.cell? ⟨b, off + i, none⟩ = some (.int .i64 (zs.getD i 0)))

theorem Nums.later {w w' : World} {a : Option Addr} {zs : List Int} (h : Nums w a zs) (hb : Below w.heap.size w w') : Nums w' a zs := by
  obtain ⟨h0, h | ⟨b, off, rfl, hlt, hc⟩⟩ := h
  · exact ⟨h0, .inl h⟩
  · exact ⟨h0, .inr ⟨b, off, rfl, Nat.lt_of_lt_of_le hlt hb.size, fun i hi => (hb.cell (p := ⟨b, off + i, none⟩) hlt).trans (hc i hi)⟩⟩

theorem intKeyed : Keyed Tryz.prog 3 := int_keyed Tryz.underlying3
/-- What the set holds: the numbers of the list from n on within the calendar. -/
def SetIs (n : Int) (l : List Int) (D : DataW Unit) : Prop := IsMap D ∧ ∀ d : Int, Maps.has D (.int .i64 d) = decide (n ≤ d ∧ d ≤ 109572 ∧ d ∈ l)

theorem SetIs.nil (n : Int) : SetIs n [] (.map []) := ⟨isMap_empty, fun d => by simp [Maps.has]⟩
theorem SetIs.skip {n x : Int} {l : List Int} {D : DataW Unit} (h : SetIs n l D) (hx : ¬ (n ≤ x ∧ x ≤ 109572)) : SetIs n (l ++ [x]) D := by
  refine ⟨h.1, fun d => ?_⟩
  rw [h.2 d]
  apply decide_eq_decide.2
  simp only [List.mem_append, List.mem_singleton]
  constructor
  · rintro ⟨a, b, c⟩
    exact ⟨a, b, .inl c⟩
  · rintro ⟨a, b, c | rfl⟩
    · exact ⟨a, b, c⟩
    · exact absurd ⟨a, b⟩ hx
theorem SetIs.add {n x : Int} {l : List Int} {D : DataW Unit} (h : SetIs n l D) (hx : n ≤ x ∧ x ≤ 109572) (u : DataW Unit) : SetIs n (l ++ [x]) (D.put (.int .i64 x) u) := by
  refine ⟨h.1.put _ _, fun d => ?_⟩
  by_cases e : d = x
  · subst e
    rw [has_put_same h.1 (by trivial)]
    simp [hx.1, hx.2]
  · rw [has_put_other (by intro he; injection he; contradiction), h.2 d]
    simp [e]

theorem wf_small (d : Int) (h0 : 0 ≤ d) (h1 : d ≤ 109573) : (Lit.int .i64 d).wf = true := by simp [Lit.wf, IntKind.min, IntKind.max, IntKind.signed, IntKind.bits]; omega

/-- No working day. -/
abbrev Busy (zs : List Int) (k : Int) : Prop := k ∈ zs ∨ 5 ≤ k % 7
/-- P2.8 -/
inductive DueIs (n : Int) (zs : List Int) : Int → Int → Prop
  | no (h : ¬ (0 ≤ n ∧ n ≤ 109572)) : DueIs n zs 0 21
  | yes (h : 0 ≤ n ∧ n ≤ 109572) (d : Int) (h1 : n ≤ d) (h2 : d ≤ 109572) (h3 : ¬ Busy zs d) (h4 : ∀ k, n ≤ k → k < d → Busy zs k) : DueIs n zs d 0
  | none (h : 0 ≤ n ∧ n ≤ 109572) (h4 : ∀ k, n ≤ k → k ≤ 109572 → Busy zs k) : DueIs n zs 0 21

theorem DueIs.yes_eq {n d r e : Int} {zs : List Int} (h : DueIs n zs r e) (h0 : 0 ≤ n ∧ n ≤ 109572) (h1 : n ≤ d) (h2 : d ≤ 109572) (h3 : ¬ Busy zs d) (h4 : ∀ k, n ≤ k → k < d → Busy zs k) : r = d ∧ e = 0 := by
  cases h with
  | no h => exact absurd h0 h
  | yes _ d' g1 g2 g3 g4 =>
    rcases Int.lt_trichotomy r d with h | h | h
    · exact absurd (h4 r g1 h) g3
    · exact ⟨h, rfl⟩
    · exact absurd (g4 d h1 h) h3
  | none _ g4 => exact absurd (g4 d h1 h2) h3
theorem DueIs.none_eq {n r e : Int} {zs : List Int} (h : DueIs n zs r e) (_h0 : 0 ≤ n ∧ n ≤ 109572) (h4 : ∀ k, n ≤ k → k ≤ 109572 → Busy zs k) : r = 0 ∧ e = 21 := by
  cases h with
  | no h => exact ⟨rfl, rfl⟩
  | yes _ d' g1 g2 g3 g4 => exact absurd (h4 r g1 g2) g3
  | none _ g4 => exact ⟨rfl, rfl⟩

theorem due_from (zs : List Int) (n : Int) (h : 0 ≤ n ∧ n ≤ 109572) : ∀ (m : Nat) (d : Int), d + m = 109573 → n ≤ d → (∀ k, n ≤ k → k < d → Busy zs k) → ∃ r e, DueIs n zs r e
  | 0, d, hd, h1, h4 => ⟨0, 21, .none h fun k g1 g2 => h4 k g1 (by omega)⟩
  | m + 1, d, hd, h1, h4 => by
    by_cases c : Busy zs d
    · refine due_from zs n h m (d + 1) (by omega) (by omega) fun k g1 g2 => ?_
      by_cases e : k = d
      · exact e ▸ c
      · exact h4 k g1 (by omega)
    · exact ⟨d, 0, .yes h d h1 (by omega) c h4⟩
theorem due_ex (n : Int) (zs : List Int) : ∃ r e, DueIs n zs r e := by
  by_cases h : 0 ≤ n ∧ n ≤ 109572
  · exact due_from zs n h (109573 - n).toNat n (by omega) (by omega) (fun k g1 g2 => absurd g1 (by omega))
  · exact ⟨0, 21, .no h⟩

theorem has_no {n d : Int} {zs : List Int} {D : DataW Unit} (h : SetIs n zs D) (h1 : n ≤ d) (h2 : d ≤ 109572) : Maps.has D (.int .i64 d) = decide (d ∈ zs) := by
  rw [h.2 d]
  simp [h1, h2]

end Go.Proofs.YthbojlbgjmecoaaGreat


namespace Go.Proofs.YthbojlbgjmecoaaGreat
open Go.RowKit Go.Maps

theorem infoI : (Tryz.prog.info? 3).map (fun i => (i.zero, i.size, i.bytes)) = some (some (.int .i64 0), 1, 8) := by kernel_rfl

theorem nums_of_owns {w : World} {base : Nat} {v : Value} {zs : List Int} (hz : zs.length * 8 ≤ 140737488351232 ∧ ∀ n ∈ zs, (Lit.int .i64 n).wf = true) (h : w.ownsRow base 3 1 v zs.length (zs.map (Value.int .i64))) : ∃ a cap, v = .slice a zs.length cap ∧ Nums w a zs := by
  obtain ⟨hl, h | ⟨g, cap, cur, rfl, hg, hh, hn, hm, hs, ht⟩⟩ := h
  · exact ⟨none, 0, by rw [h.2]; exact h.1, hz, .inl (List.eq_nil_of_length_eq_zero h.2)⟩
  · refine ⟨_, cap, rfl, hz, .inr ⟨g, 0, rfl, (Array.getElem?_eq_some_iff.1 hh).1, fun i hi => ?_⟩⟩
    have e : cur.toList[i]? = some (.int .i64 (zs.getD i 0)) := by
      have h1 : (cur.toList.take (zs.length * 1))[i]? = cur.toList[i]? := by rw [List.getElem?_take, if_pos (by omega)]
      rw [← h1, ht, List.getElem?_map, List.getD_eq_getElem?_getD, List.getElem?_eq_getElem hi]
      rfl
    simp only [World.cell?, hh]
    simpa using e

/-- 'append([]int(nil), l...)': a copy, in new memory. -/
theorem wpList_copy_own (w : World) {ops : Array Oper} {rest : List Oper} {o : Oper} {a : Act} {Q : Exit → Act → World → Prop} (hgd : o.guard = none) (s x : Operand)
    (ho : o.op = .call { callee := .builtin .append, args := #[s, x], argTypes := #[35, 35] }) (hs : a.eval s = .slice none 0 0) (ad : Option Addr) (cap : Nat) (zs : List Int) (hx : a.eval x = .slice ad zs.length cap) (hcap : ad = none → cap = 0) (hN : Nums w ad zs)
    (h : ∀ a' cap' w', (a' = none → cap' = 0) → Nums w' a' zs → Below w.heap.size w w' → w'.ownsRow w.heap.size 3 1 (.slice a' zs.length cap') zs.length (zs.map (Value.int .i64)) → wpList Tryz.prog ops Q rest (a.put o.dst (.slice a' zs.length cap')) w') : wpList Tryz.prog ops Q (o :: rest) a w := by
  obtain ⟨i0, hi, hz0, hz1, hz2⟩ := info_parts infoI
  cases ad with
  | none =>
    obtain rfl := hcap rfl
    obtain ⟨h0, h1 | ⟨b, off, h1, _⟩⟩ := hN
    · subst h1
      refine wpList_plain hgd fun K hK => ?_
      have hr := run_append_owned_none (P := Tryz.prog) (w := w) w.heap.size 35 o.type 3 i0 1 Tryz.underlying35 hi (.slice none 0 0) 0 [] (World.ownsRow_nil _ _ _ _)
      unfold Oper.wp execOp
      simp only [List.length_nil] at hx
      simp only [ho, resolve, invoke, builtin, Sem.run_bind, Sem.run_pure, Result.andThen_ok, List.map_toArray, List.map_cons, List.map_nil, hs, hx, hr]
      exact hK _ _ (h none 0 w (fun _ => rfl) ⟨h0, .inl rfl⟩ (Below.refl _ _) (World.ownsRow_nil _ _ _ _))
    · cases h1
  | some ad =>
    refine wpList_append_own (P := Tryz.prog) w hgd s x 35 ho w.heap.size 3 i0 (.int .i64 0) 1 8 Tryz.underlying35 hi hz0 hz1 hz2 rfl (by decide) _ 0 [] hs (World.ownsRow_nil _ _ _ _) ad zs.length cap (zs.map (Value.int .i64)) hx (by simp) (fun j u hj => ?_) (ints_oneCell .i64 zs) (by unfold maxLen; have := hN.1.1; omega) (by have := hN.1.1; omega) (Nat.le_refl _) ?_
    · obtain ⟨h0, rfl | ⟨b, off, h1, hlt, hc⟩⟩ := hN
      · simp at hj
      · obtain rfl := Option.some.inj h1
        have hjl : j < zs.length := by
          have := (List.getElem?_eq_some_iff.1 hj).1
          simpa using this
        rw [List.getElem?_map, List.getElem?_eq_getElem hjl] at hj
        have := hc j hjl
        rw [List.getD_eq_getElem?_getD, List.getElem?_eq_getElem hjl] at this
        simp only [Option.map_some, Option.some.injEq] at hj
        rw [← hj]
        simp only [Addr.add]
        split
        · rename_i h0
          subst h0
          simpa using this
        · simpa using this
    · intro v' w' hown hgrow _
      simp only [Nat.zero_add, List.nil_append] at hown
      obtain ⟨a', cap', rfl, hN'⟩ := nums_of_owns hN.1 hown
      refine h a' cap' w' (fun hn => ?_) hN' ((Below.refl _ _).grown hgrow (Nat.le_refl _) (by simp [Value.ownBlock])) hown
      subst hn
      obtain ⟨_, h1 | ⟨_, _, _, h1, _⟩⟩ := hown
      · exact (show zs = [] ∧ cap' = 0 by simpa using h1.1).2
      · simp at h1

theorem wpList_copy (w : World) {ops : Array Oper} {rest : List Oper} {o : Oper} {a : Act} {Q : Exit → Act → World → Prop} (hgd : o.guard = none) (s x : Operand)
    (ho : o.op = .call { callee := .builtin .append, args := #[s, x], argTypes := #[35, 35] }) (hs : a.eval s = .slice none 0 0) (ad : Option Addr) (cap : Nat) (zs : List Int) (hx : a.eval x = .slice ad zs.length cap) (hcap : ad = none → cap = 0) (hN : Nums w ad zs)
    (h : ∀ a' cap' w', (a' = none → cap' = 0) → Nums w' a' zs → Below w.heap.size w w' → wpList Tryz.prog ops Q rest (a.put o.dst (.slice a' zs.length cap')) w') : wpList Tryz.prog ops Q (o :: rest) a w :=
  wpList_copy_own w hgd s x ho hs ad cap zs hx hcap hN (fun a' cap' w' h1 h2 h3 _ => h a' cap' w' h1 h2 h3)

end Go.Proofs.YthbojlbgjmecoaaGreat


namespace Go.Proofs.YthbojlbgjmecoaaGreat
open Go.RowKit

/-- The marks behind a list, in turns. -/
def markI (k : Nat) : Int := if k % 2 = 0 then -7701 else -7702

set_option maxRecDepth 100000 in
set_option maxHeartbeats 2000000 in
theorem holdInts_one (R g2 g cap2 capN N : Nat) (W : World) (c : W.cell? ⟨R, 1, none⟩ = some (.slice (some ⟨g2, 0, none⟩) 1 cap2)) (d : W.cell? ⟨g2, 0, none⟩ = some (.slice (some ⟨g, 0, none⟩) (N + 40) capN)) (hN : N ≤ 20000000000000)
    (m : ∀ k, k < 40 → W.cell? ⟨g, N + k, none⟩ = some (.int .i64 (markI k))) :
    Calls Tryz.prog 44 #[.pointer (some ⟨R, 0, none⟩)] W fun e W' => e = .returned (.bool true) ∧ Below W.heap.size W W' := by
  have hB : Below W.heap.size W (W.alloc (.cells #[.int .i64 (-7701), .int .i64 (-7702)] 3)) := (Below.refl _ _).alloc (Nat.le_refl _) _
  have c1 := (hB.cell (p := ⟨R, 1, none⟩) (World.block_lt_of_cell? _ _ c)).trans c
  have d1 := (hB.cell (p := ⟨g2, 0, none⟩) (World.block_lt_of_cell? _ _ d)).trans d
  have m1 : ∀ k, k < 40 → (W.alloc (.cells #[.int .i64 (-7701), .int .i64 (-7702)] 3)).cell? ⟨g, N + k, none⟩ = some (.int .i64 (markI k)) := fun k hk => (hB.cell (p := ⟨g, N + k, none⟩) (World.block_lt_of_cell? _ _ (m k hk))).trans (m k hk)
  have n0 : (W.alloc (.cells #[.int .i64 (-7701), .int .i64 (-7702)] 3)).cell? ⟨W.heap.size, 0, none⟩ = some (.int .i64 (-7701)) := by simp
  have n1 : (W.alloc (.cells #[.int .i64 (-7701), .int .i64 (-7702)] 3)).cell? ⟨W.heap.size, 1, none⟩ = some (.int .i64 (-7702)) := by simp
  go_enter Tryz.func44, Tryz.ntmps44
  go_wp2
  generalize hX : W.alloc (.cells #[.int .i64 (-7701), .int .i64 (-7702)] 3) = X at *
  refine wp_loop_rounds 2 ?_
  rw [rounds_succ]
  go_wp2
  go_loopw [6] (fun v wr => ∃ k : Nat, k ≤ 40 ∧ v = .int .i64 k ∧ wr = X) (fun v _ => (41 - intOf v).toNat)
  case atStart => exact ⟨0, by omega, rfl, rfl⟩
  case round =>
    obtain ⟨k, hk, rfl, rfl⟩ := hrel
    by_cases hk2 : k < 40
    · have mk := m1 k hk2
      rcases (show k % 2 = 0 ∨ k % 2 = 1 by omega) with hp | hp
      · have em : markI k = -7701 := by unfold markI; rw [if_pos hp]
        rw [em] at mk
        have hp' : (k : Int) % 2 = 0 := by omega
        go_wp2
        go_roundw
        case rel => exact ⟨k + 1, by omega, by go_num, by trivial⟩
        case measure => simp [intOf]; omega
      · have em : markI k = -7702 := by unfold markI; rw [if_neg (by omega)]
        rw [em] at mk
        have hp' : (k : Int) % 2 = 1 := by omega
        go_wp2
        go_roundw
        case rel => exact ⟨k + 1, by omega, by go_num, by trivial⟩
        case measure => simp [intOf]; omega
    · obtain rfl : k = 40 := by omega
      go_wp2
      rw [rounds_succ]
      go_wp2
      go_ret
      exact ⟨rfl, hB⟩

end Go.Proofs.YthbojlbgjmecoaaGreat


namespace Go.Proofs.YthbojlbgjmecoaaGreat
open Go.RowKit

theorem cells2_at (W : World) (n : Nat) (hn : n = W.heap.size) (a b : Value) (t : TypeId) : ∀ j u, ([a, b] : List Value)[j]? = some u → (W.alloc (.cells #[a, b] t)).cell? ((⟨n, 0, none⟩ : Addr).add j) = some u := by
  subst hn
  intro j u h
  match j, h with
  | 0, h => simpa [Addr.add] using h
  | 1, h => simpa [Addr.add] using h
  | j + 2, h => simp at h

/-- The first k marks. -/
def marks (k : Nat) : List Value := (List.range k).map fun i => Value.int .i64 (markI i)
theorem marks_two (k : Nat) (h : k % 2 = 0) : marks (k + 2) = marks k ++ [.int .i64 (-7701), .int .i64 (-7702)] := by
  unfold marks
  rw [List.range_succ, List.range_succ]
  simp [markI, h]
  omega
theorem marks_len (k : Nat) : (marks k).length = k := by simp [marks]
theorem infoS : (Tryz.prog.info? 35).map (fun i => (i.zero, i.size, i.bytes)) = some (some (.slice none 0 0), 1, 24) := by kernel_rfl

theorem own_some {w : World} {base n size : Nat} {e : TypeId} {v : Value} {xs : List Value} (h : w.ownsRow base e size v n xs) (hn : 0 < n) : ∃ g cap, v = .slice (some ⟨g, 0, none⟩) n cap := by
  obtain ⟨_, h | ⟨g, cap, cur, rfl, _⟩⟩ := h
  · omega
  · exact ⟨g, cap, rfl⟩

theorem own_cap {w : World} {base n size g cap : Nat} {e : TypeId} {xs : List Value} (h : w.ownsRow base e size (.slice (some ⟨g, 0, none⟩) n cap) n xs) : n ≤ cap := by
  obtain ⟨_, h | ⟨g', cap', cur, h1, _, _, h2, _⟩⟩ := h
  · simp at h
  · simp at h1
    omega

set_option maxRecDepth 100000 in
set_option maxHeartbeats 4000000 in
theorem ints_some (R b off cap : Nat) (zs : List Int) (W : World) (h8 : zs.length * 8 ≤ 140737488351232) (hb : b < W.heap.size)
    (hc : ∀ i, i < zs.length → W.cell? ⟨b, off + i, none⟩ = some (.int .i64 (zs.getD i 0))) (r1 : W.cell? ⟨R, 1, none⟩ = some (.slice none 0 0)) (r2 : W.frozen? ⟨R, 1, none⟩ = false) :
    Calls Tryz.prog 32 #[.pointer (some ⟨R, 0, none⟩), .slice (some ⟨b, off, none⟩) zs.length cap] W fun e W' => ∃ (g g2 cap2 capN : Nat) (Wm : World), e = .returned (.slice (some ⟨g, 0, none⟩) zs.length (zs.length + 40)) ∧ Below W.heap.size W Wm ∧ W' = Wm.setCell ⟨R, 1, none⟩ (.slice (some ⟨g2, 0, none⟩) 1 cap2) ∧ Wm.ownsRow W.heap.size 3 1 (.slice (some ⟨g, 0, none⟩) (zs.length + 40) capN) (zs.length + 40) (zs.map (Value.int .i64) ++ marks 40) ∧ Wm.cell? ⟨g2, 0, none⟩ = some (.slice (some ⟨g, 0, none⟩) (zs.length + 40) capN) ∧ W.heap.size ≤ g2 := by
  obtain ⟨i0, hi, hz0, hz1, hz2⟩ := info_parts infoI
  have hrow0 := World.ownsRow_lit (base := W.heap.size) (e := 3) (size := 1) W #[] 0 (Nat.le_refl _) (by unfold maxLen; omega) rfl
  go_enter Tryz.func32, Tryz.ntmps32
  go_wp2
  go_loopw [5, 6] (fun v x wr => ∃ k : Nat, k ≤ zs.length ∧ x = .int .i64 k ∧ wr.ownsRow W.heap.size 3 1 v k ((zs.take k).map (Value.int .i64)) ∧ Below W.heap.size W wr) (fun _ x _ => zs.length - (intOf x).toNat)
  case atStart => exact ⟨0, by omega, rfl, hrow0, (Below.refl _ _).alloc (Nat.le_refl _) _⟩
  case round =>
    obtain ⟨k, hk, rfl, ho1, hB1⟩ := hrel
    by_cases hlt : k < zs.length
    · obtain ⟨x, hx⟩ : ∃ x, zs.getD k 0 = x := ⟨_, rfl⟩
      have hcx : wr.cell? ⟨b, off + k, none⟩ = some (.int .i64 x) := (hB1.cell (by exact hb)).trans ((hc k hlt).trans (by rw [hx]))
      have htk : zs.take (k + 1) = zs.take k ++ [x] := by rw [List.take_add_one, ← hx]; simp [List.getD, hlt]
      clear hx hc
      go_wp2_with (at_builtin; refine wpList_append_own _ rfl _ _ 35 rfl W.heap.size 3 i0 (.int .i64 0) 1 8 Tryz.underlying35 hi hz0 hz1 hz2 rfl (by decide) _ _ _ rfl (ho1.alloc _) ⟨wr.heap.size, 0, none⟩ 1 1 [.int .i64 x] rfl rfl (cell_one_new _ _ _) (ints_oneCell .i64 [x]) (by unfold maxLen; omega) (by omega) (by have := hB1.size; simp; omega) ?_; intro v' w2 hown' hgrow _)
      go_roundw
      case rel => exact ⟨k + 1, by omega, by go_num, by rw [htk]; simpa using hown', (hB1.alloc hB1.size _).grown hgrow (by have := hB1.size; simp; omega) (fun j hj => (ho1.lt j hj).1)⟩
      case measure => simp [intOf]; omega
    · obtain rfl : k = zs.length := by omega
      rw [List.take_length] at ho1
      clear hc
      go_wp2
      go_loopw [5, 7] (fun v x wr => ∃ k : Nat, k ≤ 20 ∧ x = .int .i64 ((2 * k : Nat) : Int) ∧ wr.ownsRow W.heap.size 3 1 v (zs.length + 2 * k) (zs.map (Value.int .i64) ++ marks (2 * k)) ∧ Below W.heap.size W wr) (fun _ x _ => (41 - intOf x).toNat)
      case atStart => exact ⟨0, by omega, rfl, by simpa [marks] using ho1, hB1⟩
      case round =>
        obtain ⟨k, hk, rfl, ho, hB⟩ := hrel
        by_cases hk2 : k < 20
        · have hkk : ((2 * k : Nat) : Int) < 40 := by omega
          go_wp2_with (at_builtin; refine wpList_append_own _ rfl _ _ 35 rfl W.heap.size 3 i0 (.int .i64 0) 1 8 Tryz.underlying35 hi hz0 hz1 hz2 rfl (by decide) _ _ _ rfl (ho.alloc _) ⟨wr.heap.size, 0, none⟩ 2 2 [.int .i64 (-7701), .int .i64 (-7702)] rfl rfl (cells2_at _ _ rfl _ _ _) (ints_oneCell .i64 [-7701, -7702]) (by unfold maxLen; omega) (by omega) (by have := hB.size; simp; omega) ?_; intro v' w2 hown' hgrow _)
          go_roundw
          case rel =>
            refine ⟨k + 1, by omega, by go_num, ?_, (hB.alloc hB.size _).grown hgrow (by have := hB.size; simp; omega) (fun j hj => (ho.lt j hj).1)⟩
            rw [show 2 * (k + 1) = 2 * k + 2 by omega, marks_two _ (by omega), ← List.append_assoc, ← Nat.add_assoc]
            exact hown'
          case measure => simp [intOf]; omega
        · obtain rfl : k = 20 := by omega
          obtain ⟨g, capN, rfl⟩ := own_some ho (by omega)
          have hcN := own_cap ho
          have q1 := (hB.cell (p := ⟨R, 1, none⟩) (World.block_lt_of_cell? _ _ r1)).trans r1
          have q2 := (hB.frozen (p := ⟨R, 1, none⟩) (World.block_lt_of_cell? _ _ r1)).trans r2
          have hRlt := World.block_lt_of_cell? _ _ r1
          obtain ⟨j0, kj, y0, y1, y2⟩ := info_parts infoS
          have hbb := hB.alloc hB.size (.cells #[.slice (some ⟨g, 0, none⟩) (zs.length + 2 * 20) capN] 35)
          go_wp2_with (at_builtin; refine wpList_append_own _ rfl _ _ 44 rfl W.heap.size 35 j0 (.slice none 0 0) 1 24 Tryz.underlying44 kj y0 y1 y2 rfl (by decide) (.slice none 0 0) 0 [] rfl (World.ownsRow_nil _ _ _ _) ⟨wr.heap.size, 0, none⟩ 1 1 [.slice (some ⟨g, 0, none⟩) (zs.length + 2 * 20) capN] rfl rfl (cell_one_new _ _ _) (by simp [Value.oneCell']) (by unfold maxLen; omega) (by omega) (by have := hB.size; simp; omega) ?_; intro v' w2 hown' hgrow _; obtain ⟨g2, cap2, rfl⟩ := own_some hown' (by omega); have hbw := hbb.grown hgrow (by have := hB.size; simp; omega) (by simp [Value.ownBlock]); have q3 := (hbw.cell (p := ⟨R, 1, none⟩) hRlt).trans r1; have q4 := (hbw.frozen (p := ⟨R, 1, none⟩) hRlt).trans r2)
          have hk3 := (ho.alloc (.cells #[.slice (some ⟨g, 0, none⟩) (zs.length + 2 * 20) capN] 35)).kept hgrow (.inr (by simp [Value.ownBlock]))
          have hc3 := hown'.cellAt 0 (by omega)
          go_ret
          exact ⟨g, rfl, g2, cap2, capN, w2, hbw, rfl, hk3, by simpa using hc3, (hown'.lt g2 rfl).1⟩

set_option maxRecDepth 100000 in
set_option maxHeartbeats 4000000 in
theorem ints_nil (R cap : Nat) (a : Option Addr) (W : World) (r1 : W.cell? ⟨R, 1, none⟩ = some (.slice none 0 0)) (r2 : W.frozen? ⟨R, 1, none⟩ = false) :
    Calls Tryz.prog 32 #[.pointer (some ⟨R, 0, none⟩), .slice a 0 cap] W fun e W' => ∃ (g g2 cap2 capN : Nat) (Wm : World), e = .returned (.slice (some ⟨g, 0, none⟩) 0 (0 + 40)) ∧ Below W.heap.size W Wm ∧ W' = Wm.setCell ⟨R, 1, none⟩ (.slice (some ⟨g2, 0, none⟩) 1 cap2) ∧ Wm.ownsRow W.heap.size 3 1 (.slice (some ⟨g, 0, none⟩) (0 + 40) capN) (0 + 40) (marks 40) ∧ Wm.cell? ⟨g2, 0, none⟩ = some (.slice (some ⟨g, 0, none⟩) (0 + 40) capN) ∧ W.heap.size ≤ g2 := by
  obtain ⟨i0, hi, hz0, hz1, hz2⟩ := info_parts infoI
  have hrow0 := World.ownsRow_lit (base := W.heap.size) (e := 3) (size := 1) W #[] 0 (Nat.le_refl _) (by unfold maxLen; omega) rfl
  go_enter Tryz.func32, Tryz.ntmps32
  go_wp2
  refine wp_loop_rounds 1 ?_
  rw [rounds_succ]
  go_wp2
  go_loopw [5, 7] (fun v x wr => ∃ k : Nat, k ≤ 20 ∧ x = .int .i64 ((2 * k : Nat) : Int) ∧ wr.ownsRow W.heap.size 3 1 v (2 * k) (marks (2 * k)) ∧ Below W.heap.size W wr) (fun _ x _ => (41 - intOf x).toNat)
  case atStart => exact ⟨0, by omega, rfl, by simpa [marks] using hrow0, (Below.refl _ _).alloc (Nat.le_refl _) _⟩
  case round =>
    obtain ⟨k, hk, rfl, ho, hB⟩ := hrel
    by_cases hk2 : k < 20
    · have hkk : ((2 * k : Nat) : Int) < 40 := by omega
      go_wp2_with (at_builtin; refine wpList_append_own _ rfl _ _ 35 rfl W.heap.size 3 i0 (.int .i64 0) 1 8 Tryz.underlying35 hi hz0 hz1 hz2 rfl (by decide) _ _ _ rfl (ho.alloc _) ⟨wr.heap.size, 0, none⟩ 2 2 [.int .i64 (-7701), .int .i64 (-7702)] rfl rfl (cells2_at _ _ rfl _ _ _) (ints_oneCell .i64 [-7701, -7702]) (by unfold maxLen; omega) (by omega) (by have := hB.size; simp; omega) ?_; intro v' w2 hown' hgrow _)
      go_roundw
      case rel =>
        refine ⟨k + 1, by omega, by go_num, ?_, (hB.alloc hB.size _).grown hgrow (by have := hB.size; simp; omega) (fun j hj => (ho.lt j hj).1)⟩
        rw [show 2 * (k + 1) = 2 * k + 2 by omega, marks_two _ (by omega)]
        exact hown'
      case measure => simp [intOf]; omega
    · obtain rfl : k = 20 := by omega
      obtain ⟨g, capN, rfl⟩ := own_some ho (by omega)
      have hcN := own_cap ho
      have q1 := (hB.cell (p := ⟨R, 1, none⟩) (World.block_lt_of_cell? _ _ r1)).trans r1
      have q2 := (hB.frozen (p := ⟨R, 1, none⟩) (World.block_lt_of_cell? _ _ r1)).trans r2
      have hRlt := World.block_lt_of_cell? _ _ r1
      obtain ⟨j0, kj, y0, y1, y2⟩ := info_parts infoS
      have hbb := hB.alloc hB.size (.cells #[.slice (some ⟨g, 0, none⟩) (2 * 20) capN] 35)
      go_wp2_with (at_builtin; refine wpList_append_own _ rfl _ _ 44 rfl W.heap.size 35 j0 (.slice none 0 0) 1 24 Tryz.underlying44 kj y0 y1 y2 rfl (by decide) (.slice none 0 0) 0 [] rfl (World.ownsRow_nil _ _ _ _) ⟨wr.heap.size, 0, none⟩ 1 1 [.slice (some ⟨g, 0, none⟩) (2 * 20) capN] rfl rfl (cell_one_new _ _ _) (by simp [Value.oneCell']) (by unfold maxLen; omega) (by omega) (by have := hB.size; simp; omega) ?_; intro v' w2 hown' hgrow _; obtain ⟨g2, cap2, rfl⟩ := own_some hown' (by omega); have hbw := hbb.grown hgrow (by have := hB.size; simp; omega) (by simp [Value.ownBlock]); have q3 := (hbw.cell (p := ⟨R, 1, none⟩) hRlt).trans r1; have q4 := (hbw.frozen (p := ⟨R, 1, none⟩) hRlt).trans r2)
      have hk3 := (ho.alloc (.cells #[.slice (some ⟨g, 0, none⟩) (2 * 20) capN] 35)).kept hgrow (.inr (by simp [Value.ownBlock]))
      have hc3 := hown'.cellAt 0 (by omega)
      go_ret
      exact ⟨g, rfl, g2, cap2, capN, w2, hbw, rfl, hk3, by simpa using hc3, (hown'.lt g2 rfl).1⟩

theorem ints_any (R : Nat) (a : Option Addr) (cap : Nat) (zs : List Int) (W : World) (hN : Nums W a zs) (r1 : W.cell? ⟨R, 1, none⟩ = some (.slice none 0 0)) (r2 : W.frozen? ⟨R, 1, none⟩ = false) :
    Calls Tryz.prog 32 #[.pointer (some ⟨R, 0, none⟩), .slice a zs.length cap] W fun e W' => ∃ (g g2 cap2 capN : Nat) (Wm : World), e = .returned (.slice (some ⟨g, 0, none⟩) zs.length (zs.length + 40)) ∧ Below W.heap.size W Wm ∧ W' = Wm.setCell ⟨R, 1, none⟩ (.slice (some ⟨g2, 0, none⟩) 1 cap2) ∧ Wm.ownsRow W.heap.size 3 1 (.slice (some ⟨g, 0, none⟩) (zs.length + 40) capN) (zs.length + 40) (zs.map (Value.int .i64) ++ marks 40) ∧ Wm.cell? ⟨g2, 0, none⟩ = some (.slice (some ⟨g, 0, none⟩) (zs.length + 40) capN) ∧ W.heap.size ≤ g2 := by
  obtain ⟨⟨h0, hwf⟩, rfl | ⟨b, off, rfl, hlt, hc⟩⟩ := hN
  · exact ints_nil R cap a W r1 r2
  · exact ints_some R b off cap zs W h0 hlt hc r1 r2

end Go.Proofs.YthbojlbgjmecoaaGreat

import Derived.Test.YtjgngmmepheioaaPxH
import Derived.Test.YtjgngmmepheioaaRows
import Derived.ProofKit
import Derived.OpenShut
import Derived.SizedLaws
import Derived.Test.YtjgngmmepheioaaPSum0
import Derived.Laws.AppendOwnNone
import Derived.Lib.SmallJoins
import Derived.Test.YtjgngmmepheioaaProg
import Derived.WalkKit
import Derived.WalkSpells
import Derived.WalkLawsBesides
import Derived.Deep.QuietTactic
import Derived.BigQuiet
namespace Go.Proofs.Ytjgngmmepheioaa
open Go.ChangeShapes Go.WideShapes Go.ChangeAt Go.WideMaps Go.WideElems Go.RowKit

theorem own : ownKnob Try.prog.godebug = none := by kernel_rfl
theorem cellsB : Try.prog.cellsOf 5 = 1 := by kernel_rfl
theorem laidOutP : laidOutB Try.prog = true := by kernel_rfl

theorem u8_nat {n : Int} (h : (Lit.int .u8 n).wf = true) : 0 ≤ n ∧ n < 256 := by
  simp [Lit.wf] at h
  have h1 : IntKind.u8.min = 0 := by decide
  have h2 : IntKind.u8.max = 255 := by decide
  rw [h1, h2] at h
  omega

set_option maxRecDepth 100000 in
/-- A list of bytes that came in. -/
theorem open_in {H : Type} {enc : TypeId × Value → H} {W : World} {base : Nat} {v : Value} {d : DataW H} {ps : List MemPlace} (hval : Value.okWide Try.prog W .any base 22 v)
    (h : DataW.Trod enc Try.prog W 0 (fun _ => true) true 22 v d ps) : ∃ a cap l, v = .slice a (List.length l) cap ∧ InB W a cap l := by
  obtain ⟨a0, len, cap, rfl⟩ := okWide_slice Try.underlying22 hval
  obtain ⟨fuel, hf⟩ := h
  rcases open_ints Try.underlying22 Try.underlying5 cellsB hf with ⟨hcs, hx⟩ | ⟨a, len', cap', zs, hcs, _, hl, hm, hz, hx, hcell, hwz⟩
  · simp [Value.cells] at hcs
    obtain ⟨rfl, rfl, rfl⟩ := hcs
    exact ⟨none, 0, [], rfl, .inl rfl, fun _ => rfl, Nat.le_refl _⟩
  · simp [Value.cells] at hcs
    obtain ⟨rfl, rfl, rfl⟩ := hcs
    simp only [Prod.mk.injEq] at hx
    obtain ⟨rfl, rfl⟩ := hx
    simp only [if_true] at hz
    have hlen : ((zs.take len).map (fun z => UInt8.ofNat z.toNat)).length = len := by rw [List.length_map, List.length_take]; omega
    refine ⟨some a, cap, (zs.take len).map (fun z => UInt8.ofNat z.toNat), by rw [hlen], ?_, fun h => (nomatch h), by rw [hlen]; exact hl⟩
    by_cases h0 : len = 0
    · left
      rw [h0]
      rfl
    · obtain ⟨b, off, rfl, hc⟩ := ints_at hcell (by omega)
      refine .inr ⟨b, off, rfl, World.block_lt_of_cell? _ _ (hc 0 (by omega)), fun i hi => ?_⟩
      rw [hlen] at hi
      have hiz : i < zs.length := by omega
      have hw := u8_nat (hwz _ (List.getElem_mem hiz))
      rw [hc i (by omega), List.getD_eq_getElem?_getD, List.getElem?_eq_getElem hiz]
      simp only [Option.getD_some, List.getElem_map, List.getElem_take]
      have e : (UInt8.ofNat (zs[i]).toNat).toNat = (zs[i]).toNat := by
        rw [UInt8.toNat_ofNat']
        omega
      rw [e, Int.toNat_of_nonneg hw.1]

end Go.Proofs.Ytjgngmmepheioaa


namespace Go.Proofs.Ytjgngmmepheioaa.G
open Go.RowKit

theorem infoB : (Try.prog.info? 5).map (fun i => (i.zero, i.size, i.bytes)) = some (some (.int .u8 0), 1, 1) := by kernel_rfl
def bysV (bs : List Nat) : List Value := bs.map (fun (n : Nat) => Value.int .u8 (n : Int))
theorem bysV_one (bs : List Nat) : ∀ u ∈ bysV bs, u.oneCell' = true := by
  intro u hu
  simp only [bysV, List.mem_map] at hu
  obtain ⟨n, -, rfl⟩ := hu
  rfl
theorem own_lenB {w : World} {base n size : Nat} {e : TypeId} {v : Value} {xs : List Value} (h : w.ownsRow base e size v n xs) : ∃ p cap, v = .slice p n cap := by
  obtain ⟨_, ⟨rfl, rfl⟩ | ⟨g, cap, cur, rfl, _⟩⟩ := h
  · exact ⟨_, _, rfl⟩
  · exact ⟨_, _, rfl⟩
theorem byts_of_own {W : World} {base n : Nat} {a : Option Addr} {cap : Nat} {bs : List Nat} (hb : ∀ n ∈ bs, n < 256) (h : W.ownsRow base 5 1 (.slice a n cap) bs.length (bysV bs)) : Byts W a bs := by
  refine ⟨hb, ?_⟩
  by_cases h0 : bs = []
  · exact .inl h0
  · obtain ⟨hl, ⟨e, h1⟩ | ⟨g, c, cur, e, h1⟩⟩ := h
    · exact absurd (List.eq_nil_of_length_eq_zero h1) h0
    · injection e with e1 e2 e3
      subst e1 e2 e3
      refine .inr ⟨g, 0, rfl, (World.ownsRow.lt ⟨hl, .inr ⟨g, _, cur, rfl, h1⟩⟩ g rfl).2, fun i hi => ?_⟩
      rw [Nat.zero_add]
      refine (World.ownsRow.cellAt ⟨hl, .inr ⟨g, _, cur, rfl, h1⟩⟩ i (by omega)).trans ?_
      simp [bysV, hi]

/-- 'append(v, b...)' where v is an empty list of the function's own: a copy. -/
theorem wpList_copyB (w : World) {ops : Array Oper} {rest : List Oper} {o : Oper} {a : Act} {Q : Exit → Act → World → Prop} (hgd : o.guard = none) (s x : Operand)
    (ho : o.op = .call { callee := .builtin .append, args := #[s, x], argTypes := #[22, 22] }) (base : Nat) (hbase : base ≤ w.heap.size) (v0 : Value) (hs : a.eval s = v0) (hv0 : w.ownsRow base 5 1 v0 0 []) (ad : Option Addr) (cap : Nat) (bs : List Nat) (hx : a.eval x = .slice ad bs.length cap) (hcap : ad = none → cap = 0) (hN : Byts w ad bs) (hlen : bs.length ≤ 262144)
    (h : ∀ a' cap' w', w'.ownsRow base 5 1 (.slice a' bs.length cap') bs.length (bysV bs) → Byts w' a' bs → Below base w w' → wpList Try.prog ops Q rest (a.put o.dst (.slice a' bs.length cap')) w') : wpList Try.prog ops Q (o :: rest) a w := by
  obtain ⟨i0, hi, hz0, hz1, hz2⟩ := info_parts infoB
  cases ad with
  | none =>
    obtain rfl := hcap rfl
    obtain ⟨h0, h1 | ⟨b, off, h1, _⟩⟩ := hN
    · subst h1
      refine wpList_plain hgd fun K hK => ?_
      have hr := run_append_owned_none (P := Try.prog) (w := w) base 22 o.type 5 i0 1 Try.underlying22 hi v0 0 [] hv0
      unfold Oper.wp execOp
      simp only [List.length_nil] at hx
      simp only [ho, resolve, invoke, builtin, Sem.run_bind, Sem.run_pure, Result.andThen_ok, List.map_toArray, List.map_cons, List.map_nil, hs, hx, hr]
      obtain ⟨p, c, rfl⟩ := (own_lenB hv0)
      exact hK _ _ (h p c w hv0 ⟨h0, .inl rfl⟩ (Below.refl _ _))
    · cases h1
  | some ad =>
    refine wpList_append_own (P := Try.prog) w hgd s x 22 ho base 5 i0 (.int .u8 0) 1 1 Try.underlying22 hi hz0 hz1 hz2 rfl (by decide) _ 0 [] hs hv0 ad bs.length cap (bysV bs) hx (by simp [bysV]) (fun j u hj => ?_) (bysV_one bs) (by unfold maxLen; omega) (by omega) hbase ?_
    · obtain ⟨h0, rfl | ⟨b, off, h1, hlt, hc⟩⟩ := hN
      · simp [bysV] at hj
      · obtain rfl := Option.some.inj h1
        have hjl : j < bs.length := by
          have := (List.getElem?_eq_some_iff.1 hj).1
          simpa [bysV] using this
        have := hc j hjl
        simp only [bysV, List.getElem?_map, List.getElem?_eq_getElem hjl, Option.map_some, Option.some.injEq] at hj
        rw [← hj]
        simp only [Addr.add]
        split
        · rename_i h0
          subst h0
          simpa using this
        · simpa using this
    · intro v' w' hown hgrow _
      simp only [Nat.zero_add, List.nil_append] at hown
      obtain ⟨p, c, rfl⟩ := own_lenB hown
      exact h p c w' hown (byts_of_own hN.1 hown) ((Below.refl _ _).grown hgrow hbase (fun j hj => (hv0.lt j hj).1))

end Go.Proofs.Ytjgngmmepheioaa.G


namespace Go.Proofs.Ytjgngmmepheioaa
open Go.RowKit

set_option maxHeartbeats 1000000 in
theorem holdBytes_nil (R : Nat) (W : World) (c : W.cell? ⟨R, 0, none⟩ = some (.slice none 0 0)) : Calls Try.prog 25 #[.pointer (some ⟨R, 0, none⟩)] W fun e W' => e = .returned (.bool true) ∧ Below W.heap.size W W' := by
  go_enter Try.func25, Try.ntmps25
  go_wp2
  refine wp_loop_rounds 1 ?_
  rw [rounds_succ]
  have c2 := fun o => ((Below.refl W.heap.size W).alloc (Nat.le_refl _) o).cell (p := ⟨R, 0, none⟩) (World.block_lt_of_cell? _ _ c)
  simp only [c] at c2
  go_wp2
  go_ret
  exact ⟨rfl, (Below.refl _ _).alloc (Nat.le_refl _) _⟩

set_option maxHeartbeats 1000000 in
theorem holdInts_nil (R : Nat) (W : World) (c : W.cell? ⟨R, 1, none⟩ = some (.slice none 0 0)) : Calls Try.prog 26 #[.pointer (some ⟨R, 0, none⟩)] W fun e W' => e = .returned (.bool true) ∧ Below W.heap.size W W' := by
  go_enter Try.func26, Try.ntmps26
  go_wp2
  refine wp_loop_rounds 1 ?_
  rw [rounds_succ]
  have c2 := fun o => ((Below.refl W.heap.size W).alloc (Nat.le_refl _) o).cell (p := ⟨R, 1, none⟩) (World.block_lt_of_cell? _ _ c)
  simp only [c] at c2
  go_wp2
  go_ret
  exact ⟨rfl, (Below.refl _ _).alloc (Nat.le_refl _) _⟩

set_option maxHeartbeats 1000000 in
theorem holdCells_nil (R : Nat) (W : World) (c : W.cell? ⟨R, 2, none⟩ = some (.slice none 0 0)) : Calls Try.prog 27 #[.pointer (some ⟨R, 0, none⟩)] W fun e W' => e = .returned (.bool true) ∧ Below W.heap.size W W' := by
  go_enter Try.func27, Try.ntmps27
  go_wp2
  refine wp_loop_rounds 1 ?_
  rw [rounds_succ]
  have c2 := fun o => ((Below.refl W.heap.size W).alloc (Nat.le_refl _) o).cell (p := ⟨R, 2, none⟩) (World.block_lt_of_cell? _ _ c)
  simp only [c] at c2
  go_wp2
  go_ret
  exact ⟨rfl, (Below.refl _ _).alloc (Nat.le_refl _) _⟩

set_option maxHeartbeats 1000000 in
theorem holdBools_nil (R : Nat) (W : World) (c : W.cell? ⟨R, 3, none⟩ = some (.slice none 0 0)) : Calls Try.prog 28 #[.pointer (some ⟨R, 0, none⟩)] W fun e W' => e = .returned (.bool true) ∧ Below W.heap.size W W' := by
  go_enter Try.func28, Try.ntmps28
  go_wp2
  refine wp_loop_rounds 1 ?_
  rw [rounds_succ]
  have c2 := fun o => ((Below.refl W.heap.size W).alloc (Nat.le_refl _) o).cell (p := ⟨R, 3, none⟩) (World.block_lt_of_cell? _ _ c)
  simp only [c] at c2
  go_wp2
  go_ret
  exact ⟨rfl, (Below.refl _ _).alloc (Nat.le_refl _) _⟩

set_option maxHeartbeats 1000000 in
theorem holdTexts_nil (R : Nat) (W : World) (c : W.cell? ⟨R, 4, none⟩ = some (.slice none 0 0)) : Calls Try.prog 29 #[.pointer (some ⟨R, 0, none⟩)] W fun e W' => e = .returned (.bool true) ∧ Below W.heap.size W W' := by
  go_enter Try.func29, Try.ntmps29
  go_wp2
  refine wp_loop_rounds 1 ?_
  rw [rounds_succ]
  have c2 := fun o => ((Below.refl W.heap.size W).alloc (Nat.le_refl _) o).cell (p := ⟨R, 4, none⟩) (World.block_lt_of_cell? _ _ c)
  simp only [c] at c2
  go_wp2
  go_ret
  exact ⟨rfl, (Below.refl _ _).alloc (Nat.le_refl _) _⟩

set_option maxHeartbeats 1000000 in
theorem holdValues_nil (R : Nat) (W : World) (c : W.cell? ⟨R, 5, none⟩ = some (.slice none 0 0)) : Calls Try.prog 30 #[.pointer (some ⟨R, 0, none⟩)] W fun e W' => e = .returned (.bool true) ∧ Below W.heap.size W W' := by
  go_enter Try.func30, Try.ntmps30
  go_wp2
  refine wp_loop_rounds 1 ?_
  rw [rounds_succ]
  have c2 := fun o => ((Below.refl W.heap.size W).alloc (Nat.le_refl _) o).cell (p := ⟨R, 5, none⟩) (World.block_lt_of_cell? _ _ c)
  simp only [c] at c2
  go_wp2
  go_ret
  exact ⟨rfl, (Below.refl _ _).alloc (Nat.le_refl _) _⟩

set_option maxHeartbeats 1000000 in
theorem holdBands_nil (R : Nat) (W : World) (c : W.cell? ⟨R, 6, none⟩ = some (.slice none 0 0)) : Calls Try.prog 31 #[.pointer (some ⟨R, 0, none⟩)] W fun e W' => e = .returned (.bool true) ∧ Below W.heap.size W W' := by
  go_enter Try.func31, Try.ntmps31
  go_wp2
  refine wp_loop_rounds 1 ?_
  rw [rounds_succ]
  have c2 := fun o => ((Below.refl W.heap.size W).alloc (Nat.le_refl _) o).cell (p := ⟨R, 6, none⟩) (World.block_lt_of_cell? _ _ c)
  simp only [c] at c2
  go_wp2
  go_ret
  exact ⟨rfl, (Below.refl _ _).alloc (Nat.le_refl _) _⟩

set_option maxHeartbeats 1000000 in
theorem holdTokens_nil (R : Nat) (W : World) (c : W.cell? ⟨R, 7, none⟩ = some (.slice none 0 0)) : Calls Try.prog 32 #[.pointer (some ⟨R, 0, none⟩)] W fun e W' => e = .returned (.bool true) ∧ Below W.heap.size W W' := by
  go_enter Try.func32, Try.ntmps32
  go_wp2
  refine wp_loop_rounds 1 ?_
  rw [rounds_succ]
  have c2 := fun o => ((Below.refl W.heap.size W).alloc (Nat.le_refl _) o).cell (p := ⟨R, 7, none⟩) (World.block_lt_of_cell? _ _ c)
  simp only [c] at c2
  go_wp2
  go_ret
  exact ⟨rfl, (Below.refl _ _).alloc (Nat.le_refl _) _⟩

set_option maxHeartbeats 1000000 in
theorem holdReads_nil (R : Nat) (W : World) (c : W.cell? ⟨R, 8, none⟩ = some (.slice none 0 0)) : Calls Try.prog 33 #[.pointer (some ⟨R, 0, none⟩)] W fun e W' => e = .returned (.bool true) ∧ Below W.heap.size W W' := by
  go_enter Try.func33, Try.ntmps33
  go_wp2
  refine wp_loop_rounds 1 ?_
  rw [rounds_succ]
  have c2 := fun o => ((Below.refl W.heap.size W).alloc (Nat.le_refl _) o).cell (p := ⟨R, 8, none⟩) (World.block_lt_of_cell? _ _ c)
  simp only [c] at c2
  go_wp2
  go_ret
  exact ⟨rfl, (Below.refl _ _).alloc (Nat.le_refl _) _⟩

set_option maxHeartbeats 1000000 in
theorem holdConflicts_nil (R : Nat) (W : World) (c : W.cell? ⟨R, 9, none⟩ = some (.slice none 0 0)) : Calls Try.prog 34 #[.pointer (some ⟨R, 0, none⟩)] W fun e W' => e = .returned (.bool true) ∧ Below W.heap.size W W' := by
  go_enter Try.func34, Try.ntmps34
  go_wp2
  refine wp_loop_rounds 1 ?_
  rw [rounds_succ]
  have c2 := fun o => ((Below.refl W.heap.size W).alloc (Nat.le_refl _) o).cell (p := ⟨R, 9, none⟩) (World.block_lt_of_cell? _ _ c)
  simp only [c] at c2
  go_wp2
  go_ret
  exact ⟨rfl, (Below.refl _ _).alloc (Nat.le_refl _) _⟩

set_option maxHeartbeats 1000000 in
theorem holdPoints_nil (R : Nat) (W : World) (c : W.cell? ⟨R, 10, none⟩ = some (.slice none 0 0)) : Calls Try.prog 35 #[.pointer (some ⟨R, 0, none⟩)] W fun e W' => e = .returned (.bool true) ∧ Below W.heap.size W W' := by
  go_enter Try.func35, Try.ntmps35
  go_wp2
  refine wp_loop_rounds 1 ?_
  rw [rounds_succ]
  have c2 := fun o => ((Below.refl W.heap.size W).alloc (Nat.le_refl _) o).cell (p := ⟨R, 10, none⟩) (World.block_lt_of_cell? _ _ c)
  simp only [c] at c2
  go_wp2
  go_ret
  exact ⟨rfl, (Below.refl _ _).alloc (Nat.le_refl _) _⟩

set_option maxHeartbeats 1000000 in
theorem holdNodes_nil (R : Nat) (W : World) (c : W.cell? ⟨R, 11, none⟩ = some (.slice none 0 0)) : Calls Try.prog 36 #[.pointer (some ⟨R, 0, none⟩)] W fun e W' => e = .returned (.bool true) ∧ Below W.heap.size W W' := by
  go_enter Try.func36, Try.ntmps36
  go_wp2
  refine wp_loop_rounds 1 ?_
  rw [rounds_succ]
  have c2 := fun o => ((Below.refl W.heap.size W).alloc (Nat.le_refl _) o).cell (p := ⟨R, 11, none⟩) (World.block_lt_of_cell? _ _ c)
  simp only [c] at c2
  go_wp2
  go_ret
  exact ⟨rfl, (Below.refl _ _).alloc (Nat.le_refl _) _⟩

set_option maxHeartbeats 1000000 in
theorem holdRecords_nil (R : Nat) (W : World) (c : W.cell? ⟨R, 12, none⟩ = some (.slice none 0 0)) : Calls Try.prog 37 #[.pointer (some ⟨R, 0, none⟩)] W fun e W' => e = .returned (.bool true) ∧ Below W.heap.size W W' := by
  go_enter Try.func37, Try.ntmps37
  go_wp2
  refine wp_loop_rounds 1 ?_
  rw [rounds_succ]
  have c2 := fun o => ((Below.refl W.heap.size W).alloc (Nat.le_refl _) o).cell (p := ⟨R, 12, none⟩) (World.block_lt_of_cell? _ _ c)
  simp only [c] at c2
  go_wp2
  go_ret
  exact ⟨rfl, (Below.refl _ _).alloc (Nat.le_refl _) _⟩

set_option maxHeartbeats 1000000 in
theorem holdFiles_nil (R : Nat) (W : World) (c : W.cell? ⟨R, 13, none⟩ = some (.slice none 0 0)) : Calls Try.prog 38 #[.pointer (some ⟨R, 0, none⟩)] W fun e W' => e = .returned (.bool true) ∧ Below W.heap.size W W' := by
  go_enter Try.func38, Try.ntmps38
  go_wp2
  refine wp_loop_rounds 1 ?_
  rw [rounds_succ]
  have c2 := fun o => ((Below.refl W.heap.size W).alloc (Nat.le_refl _) o).cell (p := ⟨R, 13, none⟩) (World.block_lt_of_cell? _ _ c)
  simp only [c] at c2
  go_wp2
  go_ret
  exact ⟨rfl, (Below.refl _ _).alloc (Nat.le_refl _) _⟩

set_option maxHeartbeats 1000000 in
theorem holdExprs_nil (R : Nat) (W : World) (c : W.cell? ⟨R, 14, none⟩ = some (.slice none 0 0)) : Calls Try.prog 39 #[.pointer (some ⟨R, 0, none⟩)] W fun e W' => e = .returned (.bool true) ∧ Below W.heap.size W W' := by
  go_enter Try.func39, Try.ntmps39
  go_wp2
  refine wp_loop_rounds 1 ?_
  rw [rounds_succ]
  have c2 := fun o => ((Below.refl W.heap.size W).alloc (Nat.le_refl _) o).cell (p := ⟨R, 14, none⟩) (World.block_lt_of_cell? _ _ c)
  simp only [c] at c2
  go_wp2
  go_ret
  exact ⟨rfl, (Below.refl _ _).alloc (Nat.le_refl _) _⟩

set_option maxHeartbeats 1000000 in
theorem holdClauses_nil (R : Nat) (W : World) (c : W.cell? ⟨R, 15, none⟩ = some (.slice none 0 0)) : Calls Try.prog 40 #[.pointer (some ⟨R, 0, none⟩)] W fun e W' => e = .returned (.bool true) ∧ Below W.heap.size W W' := by
  go_enter Try.func40, Try.ntmps40
  go_wp2
  refine wp_loop_rounds 1 ?_
  rw [rounds_succ]
  have c2 := fun o => ((Below.refl W.heap.size W).alloc (Nat.le_refl _) o).cell (p := ⟨R, 15, none⟩) (World.block_lt_of_cell? _ _ c)
  simp only [c] at c2
  go_wp2
  go_ret
  exact ⟨rfl, (Below.refl _ _).alloc (Nat.le_refl _) _⟩

set_option maxHeartbeats 1000000 in
theorem holdLines_nil (R : Nat) (W : World) (c : W.cell? ⟨R, 16, none⟩ = some (.slice none 0 0)) : Calls Try.prog 41 #[.pointer (some ⟨R, 0, none⟩)] W fun e W' => e = .returned (.bool true) ∧ Below W.heap.size W W' := by
  go_enter Try.func41, Try.ntmps41
  go_wp2
  refine wp_loop_rounds 1 ?_
  rw [rounds_succ]
  have c2 := fun o => ((Below.refl W.heap.size W).alloc (Nat.le_refl _) o).cell (p := ⟨R, 16, none⟩) (World.block_lt_of_cell? _ _ c)
  simp only [c] at c2
  go_wp2
  go_ret
  exact ⟨rfl, (Below.refl _ _).alloc (Nat.le_refl _) _⟩

set_option maxHeartbeats 1000000 in
theorem holdChecks_nil (R : Nat) (W : World) (c : W.cell? ⟨R, 17, none⟩ = some (.slice none 0 0)) : Calls Try.prog 42 #[.pointer (some ⟨R, 0, none⟩)] W fun e W' => e = .returned (.bool true) ∧ Below W.heap.size W W' := by
  go_enter Try.func42, Try.ntmps42
  go_wp2
  refine wp_loop_rounds 1 ?_
  rw [rounds_succ]
  have c2 := fun o => ((Below.refl W.heap.size W).alloc (Nat.le_refl _) o).cell (p := ⟨R, 17, none⟩) (World.block_lt_of_cell? _ _ c)
  simp only [c] at c2
  go_wp2
  go_ret
  exact ⟨rfl, (Below.refl _ _).alloc (Nat.le_refl _) _⟩

set_option maxHeartbeats 1000000 in
theorem holdOptions_nil (R : Nat) (W : World) (c : W.cell? ⟨R, 18, none⟩ = some (.slice none 0 0)) : Calls Try.prog 43 #[.pointer (some ⟨R, 0, none⟩)] W fun e W' => e = .returned (.bool true) ∧ Below W.heap.size W W' := by
  go_enter Try.func43, Try.ntmps43
  go_wp2
  refine wp_loop_rounds 1 ?_
  rw [rounds_succ]
  have c2 := fun o => ((Below.refl W.heap.size W).alloc (Nat.le_refl _) o).cell (p := ⟨R, 18, none⟩) (World.block_lt_of_cell? _ _ c)
  simp only [c] at c2
  go_wp2
  go_ret
  exact ⟨rfl, (Below.refl _ _).alloc (Nat.le_refl _) _⟩

set_option maxHeartbeats 1000000 in
theorem holdTables_nil (R : Nat) (W : World) (c : W.cell? ⟨R, 19, none⟩ = some (.slice none 0 0)) : Calls Try.prog 44 #[.pointer (some ⟨R, 0, none⟩)] W fun e W' => e = .returned (.bool true) ∧ Below W.heap.size W W' := by
  go_enter Try.func44, Try.ntmps44
  go_wp2
  refine wp_loop_rounds 1 ?_
  rw [rounds_succ]
  have c2 := fun o => ((Below.refl W.heap.size W).alloc (Nat.le_refl _) o).cell (p := ⟨R, 19, none⟩) (World.block_lt_of_cell? _ _ c)
  simp only [c] at c2
  go_wp2
  go_ret
  exact ⟨rfl, (Below.refl _ _).alloc (Nat.le_refl _) _⟩

set_option maxHeartbeats 1000000 in
theorem holdGroups_nil (R : Nat) (W : World) (c : W.cell? ⟨R, 20, none⟩ = some (.slice none 0 0)) : Calls Try.prog 45 #[.pointer (some ⟨R, 0, none⟩)] W fun e W' => e = .returned (.bool true) ∧ Below W.heap.size W W' := by
  go_enter Try.func45, Try.ntmps45
  go_wp2
  refine wp_loop_rounds 1 ?_
  rw [rounds_succ]
  have c2 := fun o => ((Below.refl W.heap.size W).alloc (Nat.le_refl _) o).cell (p := ⟨R, 20, none⟩) (World.block_lt_of_cell? _ _ c)
  simp only [c] at c2
  go_wp2
  go_ret
  exact ⟨rfl, (Below.refl _ _).alloc (Nat.le_refl _) _⟩

end Go.Proofs.Ytjgngmmepheioaa

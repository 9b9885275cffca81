import Derived.Test.YtekapipfaahhcaaGreatDoorWDate
import Derived.OwnWalk
import Derived.Lib.UnsafeStr
import Derived.Laws.IdiomStrings
import Derived.Laws.BytesArg
import Derived.Maps.AppendAt
import Derived.WalkMore
import Derived.Lib.ItoaMem
namespace Go.Proofs.YtekapipfaahhcaaGreatDoor.Q
open Go.RowKit Go.Lib

theorem infoU : (Tryz.prog.info? 5).map (fun i => (i.zero, i.size, i.bytes)) = some (some (.int .u8 0), 1, 1) := by kernel_rfl
/-- A row of bytes of the call's own. -/
def Bys (B : Nat) (w : World) (v : Value) (l : List UInt8) : Prop := w.ownsRow B 5 1 v l.length (byteCells l)
theorem byte_one (z : Int) : ∀ u ∈ ([.int .u8 z] : List Value), u.oneCell' = true := by
  intro u hu
  simp at hu
  subst hu
  rfl
theorem bys_snoc {B : Nat} {w : World} {v : Value} {l : List UInt8} {c : UInt8} {z : Int} {n : Nat} (hz : z = (c.toNat : Int)) (hn : n = l.length + 1) (h : w.ownsRow B 5 1 v n (byteCells l ++ [.int .u8 z])) : Bys B w v (l ++ [c]) := by
  unfold Bys
  subst hz hn
  rw [List.length_append]
  simp only [byteCells, List.map_append] at h ⊢
  exact h
theorem conv_bys {B : Nat} {w : World} {v : Value} {l : List UInt8} (h : Bys B w v l) : (convert 76 9 v).run Tryz.prog w = .ok (.string ⟨l.toArray⟩) w := by
  have h0 : w.ownsRow B 5 1 v l.length (byteCells l) := h
  have h1 := h0
  obtain ⟨-, ⟨rfl, hn⟩ | ⟨g, cap, cur, rfl, -⟩⟩ := h1
  · obtain rfl : l = [] := List.eq_nil_of_length_eq_zero hn
    exact run_convert_bytes_nil w 76 5 Tryz.underlying76 Tryz.underlying5 0 0 9 Tryz.underlying9
  · exact run_convert_bytes_back (P := Tryz.prog) w 76 9 5 ⟨g, 0, none⟩ cap l Tryz.underlying76 Tryz.underlying5 Tryz.underlying9 (fun j hj => by
      rw [Lib.add_plain, Nat.zero_add, h0.cellAt j (by omega)]
      simp [byteCells, hj])
theorem len_bys {B : Nat} {w : World} {v : Value} {l : List UInt8} (h : Bys B w v l) : ∃ p cap, v = .slice p l.length cap := by
  obtain ⟨-, ⟨rfl, hn⟩ | ⟨g, cap, cur, rfl, -⟩⟩ := h
  · exact ⟨none, 0, by rw [hn]⟩
  · exact ⟨_, cap, rfl⟩
theorem own_iter {w : World} {base : Nat} {e : TypeId} {size : Nat} {v : Value} {n : Nat} {xs : List Value} (h : w.ownsRow base e size v n xs) {k : Nat} {s : ByteArray} {p : Nat} (hk : w.heap[k]? = some (.stringIter s p)) (q : Nat) : (w.iterAt k s q).ownsRow base e size v n xs := by
  obtain ⟨h1, h2⟩ := h
  refine ⟨h1, ?_⟩
  rcases h2 with h2 | ⟨g, cap, cur, a, b, c, d⟩
  · exact .inl h2
  · refine .inr ⟨g, cap, cur, a, b, ?_, d⟩
    rw [Lib.iterAt_other _ _ _ _ _ (fun e => by subst e; rw [hk] at c; cases c)]
    exact c
theorem own_notIter {w : World} {base : Nat} {e : TypeId} {size : Nat} {v : Value} {n : Nat} {xs : List Value} (h : w.ownsRow base e size v n xs) {k : Nat} {s : ByteArray} {p : Nat} (hk : w.heap[k]? = some (.stringIter s p)) : v.ownBlock ≠ some k := by
  intro hg
  obtain ⟨-, h2⟩ := h
  rcases h2 with ⟨rfl, -⟩ | ⟨g, cap, cur, rfl, b, c, d⟩
  · cases hg
  · have : g = k := by simpa [Value.ownBlock] using hg
    subst this
    rw [hk] at c
    cases c
set_option maxRecDepth 4000 in
set_option maxHeartbeats 1000000 in
theorem shown_at (r : Int) (o : Bool) (ho : o = decide (32 ≤ r ∧ r ≤ 126)) (w : World) : Calls Tryz.prog 139 #[.int .i32 r] w fun e w' => e = .returned (.bool o) ∧ w' = w := by
  by_cases h1 : 32 ≤ r
  · by_cases h2 : r ≤ 126
    · obtain rfl : o = true := by rw [ho]; exact decide_eq_true ⟨h1, h2⟩
      clear ho
      go_enter Tryz.func139, Tryz.ntmps139
      go_wp2
      go_ret
      exact ⟨rfl, rfl⟩
    · obtain rfl : o = false := by rw [ho]; exact decide_eq_false (fun h => h2 h.2)
      clear ho
      go_enter Tryz.func139, Tryz.ntmps139
      go_wp2
      go_ret
      exact ⟨rfl, rfl⟩
  · obtain rfl : o = false := by rw [ho]; exact decide_eq_false (fun h => h1 h.1)
    clear ho
    go_enter Tryz.func139, Tryz.ntmps139
    go_wp2
    go_ret
    exact ⟨rfl, rfl⟩

def escI : Option Nat → Int
  | some e => (e : Int)
  | none => -1

set_option maxRecDepth 8000 in
set_option maxHeartbeats 2000000 in
theorem quoted_any (s : ByteArray) (a : Nat) (ha : a < s.size) (hs : s.size ≤ 140737488351232) (w : World) :
    Calls Tryz.prog 80 #[.string s, .int .i64 a] w fun e w' => e = .returned (resV a (quotedS s.data.toList a)) ∧ Below w.heap.size w w' := by
  have hb1 := (Below.refl w.heap.size w).alloc (Nat.le_refl _) (.cells #[.int .i64 0, .int .i64 0, .string ⟨#[]⟩, .int .i64 0, .int .i64 0] 66)
  have hbox := Box5.new w 66
  obtain ⟨i0, hi, hz0, hz1, hz2⟩ := info_parts infoU
  obtain ⟨t, ht⟩ : ∃ t, s.extract (a + 1) s.size = t := ⟨_, rfl⟩
  have htl : t.data.toList = s.data.toList.drop (a + 1) := by rw [← ht]; exact ext_list s (a + 1)
  have hts : t.size = s.size - (a + 1) := by rw [← size_list t, htl, List.length_drop, size_list]
  have hext : ∀ W, (Instr.slice 9 (.string s) (some (.int .i64 ((a : Int) + 1))) none none).run Tryz.prog W = .ok (.string t) W := fun W => by
    rw [← ht]
    have := run_slice_string_l (P := Tryz.prog) (w := W) (t := 9) (s := s) Tryz.underlying9 .i64 ((a : Int) + 1) (by omega) (by omega)
    rw [show ((a : Int) + 1).toNat = a + 1 from by omega] at this
    simpa using this
  obtain ⟨R, hR⟩ : ∃ R, quotedS s.data.toList a = R := ⟨_, rfl⟩
  have hR' : Hid (qgo a t.data.toList (a + 1) none [] = R) := by unfold Hid; rw [htl]; exact hR
  rw [hR]
  clear hR ht htl
  go_enter Tryz.func80, Tryz.ntmps80
  go_wp2_with fail
  go_step3
  go_wp2_with fail
  go_step3
  go_wp2_with fail
  go_loopw [7, 9, 10] (fun m en es wr => ∃ (pos : Nat) (eo : Option Nat) (acc : List UInt8), pos ≤ t.size ∧ wr.heap[w.heap.size + 1]? = some (.stringIter t pos) ∧ en = .int .i64 0 ∧ es = .int .i64 (escI eo) ∧ acc.length ≤ pos ∧ Bys (w.heap.size + 1) wr m acc ∧ Hid (qgo a (t.data.toList.drop pos) (a + 1 + pos) eo acc = R) ∧ Hid (Below (w.alloc (.cells #[.int .i64 0, .int .i64 0, .string ⟨#[]⟩, .int .i64 0, .int .i64 0] 66)).heap.size (w.alloc (.cells #[.int .i64 0, .int .i64 0, .string ⟨#[]⟩, .int .i64 0, .int .i64 0] 66)) wr)) (fun _ _ _ wr => t.size - wr.iterPos (w.heap.size + 1))
  case atStart =>
    refine ⟨0, none, [], by omega, ?_, rfl, rfl, by simp, World.ownsRow_nil _ _ _ _, hR', (Below.refl _ _).alloc (Nat.le_refl _) _⟩
    have := World.iter_heap (w.alloc (.cells #[.int .i64 0, .int .i64 0, .string ⟨#[]⟩, .int .i64 0, .int .i64 0] 66)) t 0
    simpa using this
  case round =>
    obtain ⟨pos, eo, acc, hps, hit, rfl, rfl, hac, ho, hq, HB⟩ := hrel
    have hpos0 : Hid (wr.iterPos (w.heap.size + 1) = pos) := iterPos_of hit
    clear hR'
    by_cases hp : pos < t.size
    · obtain ⟨r, wd, hr, hnx, hcase⟩ := next_any t pos hp wr (w.heap.size + 1) hit
      have hpl : pos < t.data.toList.length := by rw [size_list]; exact hp
      obtain ⟨c, hc⟩ : ∃ c, t.data.toList[pos] = c := ⟨_, rfl⟩
      rw [Hid, drop_cons hpl, hc] at hq
      have hcase' : (r = c.toNat ∧ wd = 1 ∧ r < 128) ∨ (128 ≤ r ∧ 128 ≤ c.toNat) := by
        rw [← hc, ← at_list t pos hp]
        rcases hcase with h | ⟨h1, h2, -⟩
        · exact .inl h
        · exact .inr ⟨h1, h2⟩
      have hit2 := Lib.iterAt_heap wr (w.heap.size + 1) t pos (pos + wd) hit
      have HB2 : Hid (Below (w.alloc (.cells #[.int .i64 0, .int .i64 0, .string ⟨#[]⟩, .int .i64 0, .int .i64 0] 66)).heap.size (w.alloc (.cells #[.int .i64 0, .int .i64 0, .string ⟨#[]⟩, .int .i64 0, .int .i64 0] 66)) (wr.iterAt (w.heap.size + 1) t (pos + wd))) := Lib.below_iterAt HB.out (k := w.heap.size + 1) (by simp) t (pos + wd)
      have ho2 := own_iter ho hit (pos + wd)
      generalize wr.iterAt (w.heap.size + 1) t (pos + wd) = W1 at *
      have hblt : w.heap.size + 1 < W1.heap.size := (Array.getElem?_eq_some_iff.1 hit2).1
      clear HB hit ho hcase hc
      have HB := HB2; clear HB2
      obtain ⟨z, hz⟩ : ∃ z : Int, z = (r : Int) := ⟨_, rfl⟩
      rw [← hz] at hnx
      have nq : ∀ k : UInt8, k.toNat < 128 → (z == (k.toNat : Int)) = decide (c = k) := fun k hk => by
        rw [hz]
        by_cases hck : c = k
        · subst hck
          rcases hcase' with ⟨h1, -, -⟩ | ⟨h1, h2⟩
          · rw [h1]; simp
          · omega
        · have : ¬ (r : Int) = (k.toNat : Int) := fun h => hck (by
            rcases hcase' with ⟨h1, -, -⟩ | ⟨h1, h2⟩
            · exact UInt8.toNat.inj (by omega)
            · omega)
          simp [hck, this]
      have n34 : (z == 34) = decide (c = 34) := nq 34 (by decide)
      have n92 : (z == 92) = decide (c = 92) := nq 92 (by decide)
      have n10 : (z == 10) = decide (c = 10) := nq 10 (by decide)
      have m34 : (z != 34) = !decide (c = 34) := by rw [bne, n34]
      have m92 : (z != 92) = !decide (c = 92) := by rw [bne, n92]
      clear nq
      cases eo with
      | some e =>
        have he0 : (0 : Int) ≤ (e : Int) := by omega
        simp only [qgo] at hq
        simp only [escI]
        by_cases h34 : c = 34
        · have hc128 : c.toNat < 128 := by subst h34; decide
          have hwd : wd = 1 := by rcases hcase' with ⟨-, h, -⟩ | ⟨-, h⟩ <;> omega
          have hzc : Hid (z = (c.toNat : Int)) := by unfold Hid; rcases hcase' with ⟨h, -, -⟩ | ⟨-, h⟩ <;> omega
          have hwz : IntKind.u8.wrap z = z := by rw [IntKind.wrap_u8]; have := hzc.out; omega
          subst hwd
          rw [if_pos (by simp [h34])] at hq
          have hq' : Hid (qgo a (t.data.toList.drop (pos + 1)) (a + 1 + (pos + 1)) none (acc ++ [c]) = R) := hq
          have mk : (z != 34) = false := by rw [m34, decide_eq_true h34]; rfl
          clear hq n10 n34 n92 m34 m92 hcase' hz h34 hc128
          go_wp2_with (first | (at_builtin; refine wpList_append_own _ rfl _ _ 76 rfl (w.heap.size + 1) 5 i0 (.int .u8 0) 1 1 Tryz.underlying76 hi hz0 hz1 hz2 rfl (by decide) _ _ _ rfl (ho2.alloc _) ⟨W1.heap.size, 0, none⟩ 1 1 [_] rfl rfl (cell_one_new _ _ _) (byte_one _) (by unfold maxLen; omega) (by omega) (by have := HB.out.size; simp at this ⊢; omega) ?_; intro v3 w3 hown3 hgrow3 _; have HB3 : Hid (Below (w.alloc (.cells #[.int .i64 0, .int .i64 0, .string ⟨#[]⟩, .int .i64 0, .int .i64 0] 66)).heap.size (w.alloc (.cells #[.int .i64 0, .int .i64 0, .string ⟨#[]⟩, .int .i64 0, .int .i64 0] 66)) w3) := (HB.out.alloc HB.out.size _).grown hgrow3 (by have := HB.out.size; simp at this ⊢; omega) (fun j hj => by have := (ho2.lt j hj).1; simp; omega); have hit3 : w3.heap[w.heap.size + 1]? = some (.stringIter t (pos + 1)) := (by rw [hgrow3.block (w.heap.size + 1) (by simp; omega) (fun h => own_notIter ho2 hit2 h.symm), Below.heap_alloc _ _ _ hblt]; exact hit2)))
          go_roundw
          case rel => exact ⟨pos + 1, none, acc ++ [c], by omega, hit3, rfl, rfl, by rw [List.length_append]; simp only [List.length_cons, List.length_nil]; omega, bys_snoc hzc.out rfl hown3, hq'.out, HB3⟩
          case measure => rw [iterPos_of hit3, hpos0.out]; omega
        · by_cases h92 : c = 92
          · have m34' : (z != 34) = true := by rw [m34, decide_eq_false h34]; rfl
            have hc128 : c.toNat < 128 := by subst h92; decide
            have hwd : wd = 1 := by rcases hcase' with ⟨-, h, -⟩ | ⟨-, h⟩ <;> omega
            have hzc : Hid (z = (c.toNat : Int)) := by unfold Hid; rcases hcase' with ⟨h, -, -⟩ | ⟨-, h⟩ <;> omega
            have hwz : IntKind.u8.wrap z = z := by rw [IntKind.wrap_u8]; have := hzc.out; omega
            subst hwd
            rw [if_pos (by simp [h92])] at hq
            have hq' : Hid (qgo a (t.data.toList.drop (pos + 1)) (a + 1 + (pos + 1)) none (acc ++ [c]) = R) := hq
            have mk : (z != 92) = false := by rw [m92, decide_eq_true h92]; rfl
            clear hq n10 n34 n92 m34 m92 hcase' hz h92 hc128
            go_wp2_with (first | (at_builtin; refine wpList_append_own _ rfl _ _ 76 rfl (w.heap.size + 1) 5 i0 (.int .u8 0) 1 1 Tryz.underlying76 hi hz0 hz1 hz2 rfl (by decide) _ _ _ rfl (ho2.alloc _) ⟨W1.heap.size, 0, none⟩ 1 1 [_] rfl rfl (cell_one_new _ _ _) (byte_one _) (by unfold maxLen; omega) (by omega) (by have := HB.out.size; simp at this ⊢; omega) ?_; intro v3 w3 hown3 hgrow3 _; have HB3 : Hid (Below (w.alloc (.cells #[.int .i64 0, .int .i64 0, .string ⟨#[]⟩, .int .i64 0, .int .i64 0] 66)).heap.size (w.alloc (.cells #[.int .i64 0, .int .i64 0, .string ⟨#[]⟩, .int .i64 0, .int .i64 0] 66)) w3) := (HB.out.alloc HB.out.size _).grown hgrow3 (by have := HB.out.size; simp at this ⊢; omega) (fun j hj => by have := (ho2.lt j hj).1; simp; omega); have hit3 : w3.heap[w.heap.size + 1]? = some (.stringIter t (pos + 1)) := (by rw [hgrow3.block (w.heap.size + 1) (by simp; omega) (fun h => own_notIter ho2 hit2 h.symm), Below.heap_alloc _ _ _ hblt]; exact hit2)))
            go_roundw
            case rel => exact ⟨pos + 1, none, acc ++ [c], by omega, hit3, rfl, rfl, by rw [List.length_append]; simp only [List.length_cons, List.length_nil]; omega, bys_snoc hzc.out rfl hown3, hq'.out, HB3⟩
            case measure => rw [iterPos_of hit3, hpos0.out]; omega
          · rw [if_neg (by simp [h34, h92])] at hq
            have hRv : Hid (resV a (.error (e, 43)) = resV a R) := by unfold Hid; rw [hq]
            rw [decide_eq_false h34] at m34 n34
            rw [decide_eq_false h92] at m92 n92
            clear hq n10 hcase' hz h34 h92
            go_wp2_with (first | (go_at_call 135; refine (fault_lit (e : Int) 43 _).mono ?_; rintro e w5 ⟨rfl, hb5⟩; have hVb : Below (w.alloc (.cells #[.int .i64 0, .int .i64 0, .string ⟨#[]⟩, .int .i64 0, .int .i64 0] 66)).heap.size (w.alloc (.cells #[.int .i64 0, .int .i64 0, .string ⟨#[]⟩, .int .i64 0, .int .i64 0] 66)) w5 := below_step HB.out hb5; have hbx := (hbox.later hVb); have hbx' := hbx; obtain ⟨⟨v0, c0⟩, ⟨v1, c1⟩, ⟨v2, c2⟩, ⟨v3, c3⟩, ⟨v4, c4⟩, hf⟩ := hbx'; have f0 := hf 0; have f1 := hf 1; have f2 := hf 2; have f3 := hf 3; have f4 := hf 4; clear hf))
            obtain ⟨q0, q1, q2, q3, q4⟩ := set5_cells hbx (.int .i64 0) (.int .i64 (e : Int)) (.string ⟨#[]⟩) (.int .i64 0) (.int .i64 0)
            unfold set5 at q0 q1 q2 q3 q4
            first | rw [Exit.noGoto_ret] | skip
            refine bodyPost_ret (v := .tuple #[.agg #[.int .i64 0, .int .i64 (e : Int), .string ⟨#[]⟩, .int .i64 0, .int .i64 0], .int .i64 0, .int .i64 43]) (by simp [results, Tryz.results80, go_sem, q0, q1, q2, q3, q4]) rfl ⟨?_, set5_below (below_step hb1 hVb) (Nat.le_refl _) _ _ _ _ _⟩
            rw [← hRv.out]
            simp [resV, tokC]
      | none =>
        simp only [qgo] at hq
        simp only [escI]
        by_cases h92 : c = 92
        · have hwd : wd = 1 := by subst h92; rcases hcase' with ⟨-, h, -⟩ | ⟨-, h⟩; exact h; exact absurd h (by decide)
          subst hwd
          rw [if_pos h92] at hq
          have hq' : Hid (qgo a (t.data.toList.drop (pos + 1)) (a + 1 + (pos + 1)) (some (a + 1 + pos)) acc = R) := hq
          rw [decide_eq_true h92] at n92
          clear hq n10 n34 m34 m92 hcase' hz h92
          go_wp2_with fail
          go_roundw
          case rel => exact ⟨pos + 1, some (a + 1 + pos), acc, by omega, hit2, rfl, by simp, by omega, ho2, hq'.out, HB⟩
          case measure => rw [iterPos_of hit2, hpos0.out]; omega
        · rw [if_neg h92] at hq
          rw [decide_eq_false h92] at n92
          by_cases h34 : c = 34
          · rw [if_pos h34] at hq
            rw [decide_eq_true h34] at n34
            obtain ⟨p, cap, rfl⟩ := len_bys ho2
            have hcv := conv_bys ho2
            by_cases hlong : 40 < acc.length
            · rw [if_pos hlong] at hq
              have hRv : Hid (resV a (.error (a, 40)) = resV a R) := by unfold Hid; rw [hq]
              have hl' : (40 : Int) < (acc.length : Int) := by omega
              clear hq n10 m34 m92 hcase' hz h92 h34
              go_wp2_with (first | (go_at_call 135; refine (fault_lit (a : Int) 40 _).mono ?_; rintro e w5 ⟨rfl, hb5⟩; have hVb : Below (w.alloc (.cells #[.int .i64 0, .int .i64 0, .string ⟨#[]⟩, .int .i64 0, .int .i64 0] 66)).heap.size (w.alloc (.cells #[.int .i64 0, .int .i64 0, .string ⟨#[]⟩, .int .i64 0, .int .i64 0] 66)) w5 := below_step HB.out hb5; have hbx := (hbox.later hVb); have hbx' := hbx; obtain ⟨⟨v0, c0⟩, ⟨v1, c1⟩, ⟨v2, c2⟩, ⟨v3, c3⟩, ⟨v4, c4⟩, hf⟩ := hbx'; have f0 := hf 0; have f1 := hf 1; have f2 := hf 2; have f3 := hf 3; have f4 := hf 4; clear hf))
              obtain ⟨q0, q1, q2, q3, q4⟩ := set5_cells hbx (.int .i64 0) (.int .i64 (a : Int)) (.string ⟨#[]⟩) (.int .i64 0) (.int .i64 0)
              unfold set5 at q0 q1 q2 q3 q4
              first | rw [Exit.noGoto_ret] | skip
              refine bodyPost_ret (v := .tuple #[.agg #[.int .i64 0, .int .i64 (a : Int), .string ⟨#[]⟩, .int .i64 0, .int .i64 0], .int .i64 0, .int .i64 40]) (by simp [results, Tryz.results80, go_sem, q0, q1, q2, q3, q4]) rfl ⟨?_, set5_below (below_step hb1 hVb) (Nat.le_refl _) _ _ _ _ _⟩
              rw [← hRv.out]
              simp [resV, tokC]
            · rw [if_neg hlong] at hq
              have hRv : Hid (resV a (.ok ((6, acc, 0, 0), a + 1 + pos + 1)) = resV a R) := by unfold Hid; rw [hq]
              have hl' : ¬ (40 : Int) < (acc.length : Int) := by omega
              have hVb := HB.out
              have hbx := (hbox.later hVb); have hbx' := hbx; obtain ⟨⟨v0, c0⟩, ⟨v1, c1⟩, ⟨v2, c2⟩, ⟨v3, c3⟩, ⟨v4, c4⟩, hf⟩ := hbx'; have f0 := hf 0; have f1 := hf 1; have f2 := hf 2; have f3 := hf 3; have f4 := hf 4; clear hf
              clear hq n10 m34 m92 hcase' hz h92 h34
              go_wp2_with fail
              obtain ⟨q0, q1, q2, q3, q4⟩ := set5_cells hbx (.int .i64 6) (.int .i64 (a : Int)) (.string ⟨acc.toArray⟩) (.int .i64 0) (.int .i64 0)
              unfold set5 at q0 q1 q2 q3 q4
              first | rw [Exit.noGoto_ret] | skip
              refine bodyPost_ret (v := .tuple #[.agg #[.int .i64 6, .int .i64 (a : Int), .string ⟨acc.toArray⟩, .int .i64 0, .int .i64 0], .int .i64 ((a : Int) + 1 + pos + 1), .int .i64 0]) (by simp [results, Tryz.results80, go_sem, q0, q1, q2, q3, q4]) rfl ⟨?_, set5_below (below_step hb1 hVb) (Nat.le_refl _) _ _ _ _ _⟩
              rw [← hRv.out]
              simp [resV, tokC]
          · rw [if_neg h34] at hq
            rw [decide_eq_false h34] at n34
            by_cases h10 : c = 10
            · rw [if_pos h10] at hq
              have hRv : Hid (resV a (.error (a, 43)) = resV a R) := by unfold Hid; rw [hq]
              rw [decide_eq_true h10] at n10
              clear hq m34 m92 hcase' hz h92 h34 h10
              go_wp2_with (first | (go_at_call 135; refine (fault_lit (a : Int) 43 _).mono ?_; rintro e w5 ⟨rfl, hb5⟩; have hVb : Below (w.alloc (.cells #[.int .i64 0, .int .i64 0, .string ⟨#[]⟩, .int .i64 0, .int .i64 0] 66)).heap.size (w.alloc (.cells #[.int .i64 0, .int .i64 0, .string ⟨#[]⟩, .int .i64 0, .int .i64 0] 66)) w5 := below_step HB.out hb5; have hbx := (hbox.later hVb); have hbx' := hbx; obtain ⟨⟨v0, c0⟩, ⟨v1, c1⟩, ⟨v2, c2⟩, ⟨v3, c3⟩, ⟨v4, c4⟩, hf⟩ := hbx'; have f0 := hf 0; have f1 := hf 1; have f2 := hf 2; have f3 := hf 3; have f4 := hf 4; clear hf))
              obtain ⟨q0, q1, q2, q3, q4⟩ := set5_cells hbx (.int .i64 0) (.int .i64 (a : Int)) (.string ⟨#[]⟩) (.int .i64 0) (.int .i64 0)
              unfold set5 at q0 q1 q2 q3 q4
              first | rw [Exit.noGoto_ret] | skip
              refine bodyPost_ret (v := .tuple #[.agg #[.int .i64 0, .int .i64 (a : Int), .string ⟨#[]⟩, .int .i64 0, .int .i64 0], .int .i64 0, .int .i64 43]) (by simp [results, Tryz.results80, go_sem, q0, q1, q2, q3, q4]) rfl ⟨?_, set5_below (below_step hb1 hVb) (Nat.le_refl _) _ _ _ _ _⟩
              rw [← hRv.out]
              simp [resV, tokC]
            · rw [if_neg h10] at hq
              rw [decide_eq_false h10] at n10
              by_cases hfin : fineB c = false
              · rw [if_pos hfin] at hq
                have hRv : Hid (resV a (.error (a + 1 + pos, 43)) = resV a R) := by unfold Hid; rw [hq]
                have hsh := fun W => shown_at z false (by
                  symm
                  apply decide_eq_false
                  unfold fineB at hfin
                  have := of_decide_eq_false hfin
                  rcases hcase' with ⟨h, -, -⟩ | ⟨h, -⟩ <;> omega) W
                clear hq m34 m92 hcase' hz h92 h34 h10 hfin
                go_wp2_with (first | (go_at_call 139; refine (hsh _).mono ?_; rintro e w9 ⟨rfl, hw9⟩; subst w9) | (go_at_call 135; refine (fault_lit ((a : Int) + 1 + (pos : Int)) 43 _).mono ?_; rintro e w5 ⟨rfl, hb5⟩; have hVb : Below (w.alloc (.cells #[.int .i64 0, .int .i64 0, .string ⟨#[]⟩, .int .i64 0, .int .i64 0] 66)).heap.size (w.alloc (.cells #[.int .i64 0, .int .i64 0, .string ⟨#[]⟩, .int .i64 0, .int .i64 0] 66)) w5 := below_step HB.out hb5; have hbx := (hbox.later hVb); have hbx' := hbx; obtain ⟨⟨v0, c0⟩, ⟨v1, c1⟩, ⟨v2, c2⟩, ⟨v3, c3⟩, ⟨v4, c4⟩, hf⟩ := hbx'; have f0 := hf 0; have f1 := hf 1; have f2 := hf 2; have f3 := hf 3; have f4 := hf 4; clear hf))
                obtain ⟨q0, q1, q2, q3, q4⟩ := set5_cells hbx (.int .i64 0) (.int .i64 ((a : Int) + 1 + (pos : Int))) (.string ⟨#[]⟩) (.int .i64 0) (.int .i64 0)
                unfold set5 at q0 q1 q2 q3 q4
                first | rw [Exit.noGoto_ret] | skip
                refine bodyPost_ret (v := .tuple #[.agg #[.int .i64 0, .int .i64 ((a : Int) + 1 + (pos : Int)), .string ⟨#[]⟩, .int .i64 0, .int .i64 0], .int .i64 0, .int .i64 43]) (by simp [results, Tryz.results80, go_sem, q0, q1, q2, q3, q4]) rfl ⟨?_, set5_below (below_step hb1 hVb) (Nat.le_refl _) _ _ _ _ _⟩
                rw [← hRv.out]
                simp [resV, tokC]
              · rw [if_neg hfin] at hq
                have hfb : 32 ≤ c.toNat ∧ c.toNat ≤ 126 := by
                  have : fineB c = true := by simpa using hfin
                  unfold fineB at this
                  exact of_decide_eq_true this
                have hwd : wd = 1 := by rcases hcase' with ⟨-, h, -⟩ | ⟨-, h⟩ <;> omega
                have hzc : Hid (z = (c.toNat : Int)) := by unfold Hid; rcases hcase' with ⟨h, -, -⟩ | ⟨-, h⟩ <;> omega
                have hwz : IntKind.u8.wrap z = z := by rw [IntKind.wrap_u8]; have := hzc.out; omega
                have hsh := fun W => shown_at z true (by symm; apply decide_eq_true; have := hzc.out; omega) W
                subst hwd
                have hq' : Hid (qgo a (t.data.toList.drop (pos + 1)) (a + 1 + (pos + 1)) none (acc ++ [c]) = R) := hq
                clear hq m34 m92 hcase' hz h92 h34 h10 hfin hfb
                go_wp2_with (first | (go_at_call 139; refine (hsh _).mono ?_; rintro e w9 ⟨rfl, hw9⟩; subst w9) | (at_builtin; refine wpList_append_own _ rfl _ _ 76 rfl (w.heap.size + 1) 5 i0 (.int .u8 0) 1 1 Tryz.underlying76 hi hz0 hz1 hz2 rfl (by decide) _ _ _ rfl (ho2.alloc _) ⟨W1.heap.size, 0, none⟩ 1 1 [_] rfl rfl (cell_one_new _ _ _) (byte_one _) (by unfold maxLen; omega) (by omega) (by have := HB.out.size; simp at this ⊢; omega) ?_; intro v3 w3 hown3 hgrow3 _; have HB3 : Hid (Below (w.alloc (.cells #[.int .i64 0, .int .i64 0, .string ⟨#[]⟩, .int .i64 0, .int .i64 0] 66)).heap.size (w.alloc (.cells #[.int .i64 0, .int .i64 0, .string ⟨#[]⟩, .int .i64 0, .int .i64 0] 66)) w3) := (HB.out.alloc HB.out.size _).grown hgrow3 (by have := HB.out.size; simp at this ⊢; omega) (fun j hj => by have := (ho2.lt j hj).1; simp; omega); have hit3 : w3.heap[w.heap.size + 1]? = some (.stringIter t (pos + 1)) := (by rw [hgrow3.block (w.heap.size + 1) (by simp; omega) (fun h => own_notIter ho2 hit2 h.symm), Below.heap_alloc _ _ _ hblt]; exact hit2)))
                go_roundw
                case rel => exact ⟨pos + 1, none, acc ++ [c], by omega, hit3, rfl, rfl, by rw [List.length_append]; simp only [List.length_cons, List.length_nil]; omega, bys_snoc hzc.out rfl hown3, hq'.out, HB3⟩
                case measure => rw [iterPos_of hit3, hpos0.out]; omega
    · obtain rfl : pos = t.size := by omega
      have hnx : ∀ ty, (Instr.next (.pointer (some ⟨w.heap.size + 1, 0, none⟩)) true ty).run Tryz.prog wr = _ := fun ty => Lib.run_next_end_at wr (w.heap.size + 1) t t.size ty hit hp
      rw [Hid, List.drop_of_length_le (by rw [size_list]; omega)] at hq
      cases eo with
      | some e =>
        have he0 : (0 : Int) ≤ (e : Int) := by omega
        simp only [qgo] at hq
        simp only [escI]
        have hRv : Hid (resV a (.error (e, 43)) = resV a R) := by unfold Hid; rw [hq]
        clear hq hit
        go_wp2_with (first | (go_at_call 135; refine (fault_lit (e : Int) 43 _).mono ?_; rintro e w5 ⟨rfl, hb5⟩; have hVb : Below (w.alloc (.cells #[.int .i64 0, .int .i64 0, .string ⟨#[]⟩, .int .i64 0, .int .i64 0] 66)).heap.size (w.alloc (.cells #[.int .i64 0, .int .i64 0, .string ⟨#[]⟩, .int .i64 0, .int .i64 0] 66)) w5 := below_step HB.out hb5; have hbx := (hbox.later hVb); have hbx' := hbx; obtain ⟨⟨v0, c0⟩, ⟨v1, c1⟩, ⟨v2, c2⟩, ⟨v3, c3⟩, ⟨v4, c4⟩, hf⟩ := hbx'; have f0 := hf 0; have f1 := hf 1; have f2 := hf 2; have f3 := hf 3; have f4 := hf 4; clear hf))
        obtain ⟨q0, q1, q2, q3, q4⟩ := set5_cells hbx (.int .i64 0) (.int .i64 (e : Int)) (.string ⟨#[]⟩) (.int .i64 0) (.int .i64 0)
        unfold set5 at q0 q1 q2 q3 q4
        first | rw [Exit.noGoto_ret] | skip
        refine bodyPost_ret (v := .tuple #[.agg #[.int .i64 0, .int .i64 (e : Int), .string ⟨#[]⟩, .int .i64 0, .int .i64 0], .int .i64 0, .int .i64 43]) (by simp [results, Tryz.results80, go_sem, q0, q1, q2, q3, q4]) rfl ⟨?_, set5_below (below_step hb1 hVb) (Nat.le_refl _) _ _ _ _ _⟩
        rw [← hRv.out]
        simp [resV, tokC]
      | none =>
        simp only [qgo] at hq
        simp only [escI]
        have hRv : Hid (resV a (.error (a, 43)) = resV a R) := by unfold Hid; rw [hq]
        clear hq hit
        go_wp2_with (first | (go_at_call 135; refine (fault_lit (a : Int) 43 _).mono ?_; rintro e w5 ⟨rfl, hb5⟩; have hVb : Below (w.alloc (.cells #[.int .i64 0, .int .i64 0, .string ⟨#[]⟩, .int .i64 0, .int .i64 0] 66)).heap.size (w.alloc (.cells #[.int .i64 0, .int .i64 0, .string ⟨#[]⟩, .int .i64 0, .int .i64 0] 66)) w5 := below_step HB.out hb5; have hbx := (hbox.later hVb); have hbx' := hbx; obtain ⟨⟨v0, c0⟩, ⟨v1, c1⟩, ⟨v2, c2⟩, ⟨v3, c3⟩, ⟨v4, c4⟩, hf⟩ := hbx'; have f0 := hf 0; have f1 := hf 1; have f2 := hf 2; have f3 := hf 3; have f4 := hf 4; clear hf))
        obtain ⟨q0, q1, q2, q3, q4⟩ := set5_cells hbx (.int .i64 0) (.int .i64 (a : Int)) (.string ⟨#[]⟩) (.int .i64 0) (.int .i64 0)
        unfold set5 at q0 q1 q2 q3 q4
        first | rw [Exit.noGoto_ret] | skip
        refine bodyPost_ret (v := .tuple #[.agg #[.int .i64 0, .int .i64 (a : Int), .string ⟨#[]⟩, .int .i64 0, .int .i64 0], .int .i64 0, .int .i64 43]) (by simp [results, Tryz.results80, go_sem, q0, q1, q2, q3, q4]) rfl ⟨?_, set5_below (below_step hb1 hVb) (Nat.le_refl _) _ _ _ _ _⟩
        rw [← hRv.out]
        simp [resV, tokC]

end Go.Proofs.YtekapipfaahhcaaGreatDoor.Q

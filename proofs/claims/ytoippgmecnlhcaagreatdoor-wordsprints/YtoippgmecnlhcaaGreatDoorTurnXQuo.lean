import Derived.Test.YtoippgmecnlhcaaGreatDoorJoin31
import Derived.OwnWalk
import Derived.Lib.UnsafeStr
import Derived.Laws.IdiomStrings
import Derived.Maps.AppendAt
import Derived.Lib.OthersKept
import Derived.Laws.RangeAny
import Derived.WalkSmall
namespace Go.Proofs.YtoippgmecnlhcaaGreatDoor.X
open Go.RowKit Go.Sort Go.Lib

theorem infoB : (Tryz.prog.info? 5).map (fun i => (i.zero, i.size, i.bytes)) = some (some (.int .u8 0), 1, 1) := by kernel_rfl
theorem own_some {w : World} {base n size : Nat} {e : TypeId} {v : Value} {xs : List Value} (h : w.ownsRow base e size v n xs) (hn : 0 < n) : ∃ g cap, v = .slice (some ⟨g, 0, none⟩) n cap := by
  obtain ⟨_, h | ⟨g, cap, cur, rfl, _⟩⟩ := h
  · omega
  · exact ⟨g, cap, rfl⟩
/-- A row of bytes of the call's own. -/
def Bys (B : Nat) (w : World) (v : Value) (l : List UInt8) : Prop := w.ownsRow B 5 1 v l.length (byteCells l)
theorem byte_one (z : Int) : ∀ u ∈ ([.int .u8 z] : List Value), u.oneCell' = true := by
  intro u hu
  simp at hu
  subst hu
  rfl
theorem bys_snoc {B : Nat} {w : World} {v : Value} {l : List UInt8} {c : UInt8} {z : Int} {n : Nat} (hz : z = (c.toNat : Int)) (hn : n = l.length + 1) (h : w.ownsRow B 5 1 v n (byteCells l ++ [.int .u8 z])) : Bys B w v (l ++ [c]) := by
  unfold Bys
  subst hz hn
  rw [List.length_append]
  simp only [byteCells, List.map_append] at h ⊢
  exact h
theorem bys_cell {B : Nat} {w : World} {g cap : Nat} {l : List UInt8} (h : Bys B w (.slice (some ⟨g, 0, none⟩) l.length cap) l) (j : Nat) (hj : j < l.length) : w.cell? ⟨g, j, none⟩ = some (.int .u8 (l[j].toNat : Int)) := by
  have h0 : w.ownsRow B 5 1 (.slice (some ⟨g, 0, none⟩) l.length cap) l.length (byteCells l) := h
  have h' := h0.cellAt j (by omega)
  rw [h']
  simp [byteCells, hj]
/-- Bytes that can be read. -/
def BysAt (w : World) (v : Value) (l : List UInt8) : Prop := ∃ g cap, v = .slice (some ⟨g, 0, none⟩) l.length cap ∧ g < w.heap.size ∧ ∀ j (h : j < l.length), w.cell? ⟨g, j, none⟩ = some (.int .u8 (l[j].toNat : Int))
theorem bysAt_of {B : Nat} {w : World} {v : Value} {l : List UInt8} (h : Bys B w v l) (hl : 0 < l.length) : BysAt w v l := by
  obtain ⟨g, cap, rfl⟩ := own_some h hl
  exact ⟨g, cap, rfl, (World.ownsRow.lt h g rfl).2, fun j hj => bys_cell h j hj⟩

/-- A byte between quotes. -/
def esc (c : UInt8) : List UInt8 := if c = 34 ∨ c = 92 then [92, c] else [c]
def fine (c : UInt8) : Prop := 32 ≤ c.toNat ∧ c.toNat ≤ 126
instance (c : UInt8) : Decidable (fine c) := inferInstanceAs (Decidable (_ ∧ _))
/-- P4.12: the text of a text. -/
def qt (l : List UInt8) : Option (List UInt8) := if l.length ≤ 40 ∧ ∀ c ∈ l, fine c then some ([34] ++ l.flatMap esc ++ [34]) else none
theorem qt_long {l : List UInt8} (h : 40 < l.length) : qt l = none := if_neg (fun h' => by omega)
theorem qt_bad {l : List UInt8} {i : Nat} (h : i < l.length) (hb : ¬ fine l[i]) : qt l = none := if_neg (fun h' => hb (h'.2 _ (List.getElem_mem h)))
theorem qt_good {l : List UInt8} (h : l.length ≤ 40) (hb : ∀ c ∈ l, fine c) : qt l = some ([34] ++ l.flatMap esc ++ [34]) := if_pos ⟨h, hb⟩
theorem esc_len (c : UInt8) : 1 ≤ (esc c).length ∧ (esc c).length ≤ 2 := by unfold esc; split <;> simp
theorem flat_len : ∀ (l : List UInt8), (l.flatMap esc).length ≤ 2 * l.length
  | [] => by simp
  | c :: l => by
    have h1 := flat_len l
    have h2 := (esc_len c).2
    rw [List.flatMap_cons, List.length_append, List.length_cons]
    omega
theorem flat_take {l : List UInt8} {i : Nat} (h : i < l.length) : (l.take (i + 1)).flatMap esc = (l.take i).flatMap esc ++ esc l[i] := by
  rw [List.take_succ_eq_append_getElem h, List.flatMap_append]
  simp

set_option maxRecDepth 4000 in
set_option maxHeartbeats 1000000 in
theorem shown_at (r : Int) (o : Bool) (ho : o = decide (32 ≤ r ∧ r ≤ 126)) (w : World) : Calls Tryz.prog 70 #[.int .i32 r] w fun e w' => e = .returned (.bool o) ∧ w' = w := by
  by_cases h1 : 32 ≤ r
  · by_cases h2 : r ≤ 126
    · obtain rfl : o = true := by rw [ho]; exact decide_eq_true ⟨h1, h2⟩
      clear ho
      go_enter Tryz.func70, Tryz.ntmps70
      go_wp2
      go_ret
      exact ⟨rfl, rfl⟩
    · obtain rfl : o = false := by rw [ho]; exact decide_eq_false (fun h => h2 h.2)
      clear ho
      go_enter Tryz.func70, Tryz.ntmps70
      go_wp2
      go_ret
      exact ⟨rfl, rfl⟩
  · obtain rfl : o = false := by rw [ho]; exact decide_eq_false (fun h => h1 h.1)
    clear ho
    go_enter Tryz.func70, Tryz.ntmps70
    go_wp2
    go_ret
    exact ⟨rfl, rfl⟩

theorem own_iter {w : World} {base : Nat} {e : TypeId} {size : Nat} {v : Value} {n : Nat} {xs : List Value} (h : w.ownsRow base e size v n xs) {k : Nat} {s : ByteArray} {p : Nat} (hk : w.heap[k]? = some (.stringIter s p)) (q : Nat) : (w.iterAt k s q).ownsRow base e size v n xs := by
  obtain ⟨h1, h2⟩ := h
  refine ⟨h1, ?_⟩
  rcases h2 with h2 | ⟨g, cap, cur, a, b, c, d⟩
  · exact .inl h2
  · refine .inr ⟨g, cap, cur, a, b, ?_, d⟩
    rw [Lib.iterAt_other _ _ _ _ _ (fun e => by subst e; rw [hk] at c; cases c)]
    exact c
theorem own_notIter {w : World} {base : Nat} {e : TypeId} {size : Nat} {v : Value} {n : Nat} {xs : List Value} (h : w.ownsRow base e size v n xs) {k : Nat} {s : ByteArray} {p : Nat} (hk : w.heap[k]? = some (.stringIter s p)) : v.ownBlock ≠ some k := by
  intro hg
  obtain ⟨-, h2⟩ := h
  rcases h2 with ⟨rfl, -⟩ | ⟨g, cap, cur, rfl, b, c, d⟩
  · cases hg
  · have : g = k := by simpa [Value.ownBlock] using hg
    subst this
    rw [hk] at c
    cases c

set_option maxRecDepth 4000 in
set_option maxHeartbeats 2000000 in
theorem quote_any (s : ByteArray) (w : World) :
    Calls Tryz.prog 53 #[.string s] w fun e w' => e = .returned (pctV (qt s.data.toList)) ∧ Below w.heap.size w w' := by
  obtain ⟨i0, hi, hz0, hz1, hz2⟩ := info_parts infoB
  have hsl : s.data.toList.length = s.size := Array.length_toList
  by_cases hlong : 40 < s.size
  · have hl' : (40 : Int) < s.size := by omega
    have hq : Hid (qt s.data.toList = none) := qt_long (by omega)
    go_enter Tryz.func53, Tryz.ntmps53
    go_wp2_with fail
    exact bodyPost_ret (v := pctV none) (by simp [results, Tryz.results53, go_sem, pctV]) rfl ⟨by rw [hq.out], Below.refl _ _⟩
  · have hl' : ¬ (40 : Int) < s.size := by omega
    have hb0 : Bys w.heap.size (w.alloc (.cells #[.int .u8 34] 5)) (.slice (some ⟨w.heap.size, 0, none⟩) 1 1) [34] := by
      have h := World.ownsRow_lit (base := w.heap.size) (e := 5) (size := 1) w #[.int .u8 34] 1 (Nat.le_refl _) (by unfold maxLen; omega) rfl
      exact h
    go_enter Tryz.func53, Tryz.ntmps53
    go_wp2_with fail
    go_loopw [4] (fun v wr => ∃ pos : Nat, pos ≤ s.size ∧ wr.heap[w.heap.size + 1]? = some (.stringIter s pos) ∧ (∀ c ∈ s.data.toList.take pos, fine c) ∧ Bys w.heap.size wr v ([34] ++ (s.data.toList.take pos).flatMap esc) ∧ Below w.heap.size w wr) (fun _ wr => s.size - wr.iterPos (w.heap.size + 1))
    case atStart =>
      refine ⟨0, by omega, ?_, fun c hc => (by simp at hc), ?_, ?_⟩
      · have := World.iter_heap (w.alloc (.cells #[.int .u8 34] 5)) s 0
        simpa using this
      · exact World.ownsRow.alloc hb0 _
      · exact ((Below.refl _ _).alloc (Nat.le_refl _) _).alloc (by simp) _
    case round =>
      obtain ⟨pos, hps, hit, hfine, ho, hB⟩ := hrel
      clear hb0
      have hpos0 := iterPos_of hit
      by_cases hp : pos < s.size
      · obtain ⟨c, hc⟩ : ∃ c, s[pos]'hp = c := ⟨_, rfl⟩
        have hpl : pos < s.data.toList.length := by omega
        have hcl : s.data.toList[pos] = c := by rw [← hc]; simp; rfl
        by_cases hhigh : 128 ≤ c.toNat
        · have hnx : ∀ ty, (Instr.next (.pointer (some ⟨w.heap.size + 1, 0, none⟩)) true ty).run Tryz.prog wr = _ := fun ty => Lib.run_next_any_at wr (w.heap.size + 1) s pos ty hit hp
          have hd := decode_high s pos hp (by rw [hc]; exact hhigh)
          have hB2 := Lib.below_iterAt hB (k := w.heap.size + 1) (by omega) s (pos + (Utf8.decode s pos).2)
          have hq : Hid (qt s.data.toList = none) := qt_bad hpl (by rw [hcl]; intro h; have := h.2; omega)
          obtain ⟨R, hR⟩ : ∃ R : Int, R = ((Utf8.decode s pos).1 : Int) := ⟨_, rfl⟩
          rw [← hR] at hnx
          have hR128 : (128 : Int) ≤ R := by omega
          have hsh := fun W => shown_at R false (by symm; exact decide_eq_false (by omega)) W
          generalize wr.iterAt (w.heap.size + 1) s (pos + (Utf8.decode s pos).2) = W1 at *
          clear hR hd hhigh hc hcl hfine ho hpl
          go_wp2_with (first | (go_at_call 70; refine (hsh _).mono ?_; rintro e w3 ⟨rfl, rfl⟩))
          exact bodyPost_ret (v := pctV none) (by simp [results, Tryz.results53, go_sem, pctV]) rfl ⟨by rw [hq.out], hB2⟩
        · have hnx : ∀ ty, (Instr.next (.pointer (some ⟨w.heap.size + 1, 0, none⟩)) true ty).run Tryz.prog wr = _ := fun ty => Lib.run_next_ascii_at wr (w.heap.size + 1) s pos ty hit hp (by rw [hc]; omega)
          rw [hc] at hnx
          have hB2 := Lib.below_iterAt hB (k := w.heap.size + 1) (by omega) s (pos + 1)
          have hit2 := Lib.iterAt_heap wr (w.heap.size + 1) s pos (pos + 1) hit
          have ho2 := own_iter ho hit (pos + 1)
          generalize wr.iterAt (w.heap.size + 1) s (pos + 1) = W1 at *
          obtain ⟨z, hz⟩ : ∃ z : Int, z = (c.toNat : Int) := ⟨_, rfl⟩
          rw [← hz] at hnx
          have hz128 : z < 128 := by omega
          have hz0' : 0 ≤ z := by omega
          by_cases hok : fine c
          · have hsh := fun W => shown_at z true (by symm; exact decide_eq_true (by have := hok; unfold fine at this; omega)) W
            have hfine2 : ∀ x ∈ s.data.toList.take (pos + 1), fine x := fun x hx => by
              rw [List.take_succ_eq_append_getElem hpl, hcl] at hx
              rcases List.mem_append.1 hx with h | h
              · exact hfine x h
              · rw [List.mem_singleton.1 h]; exact hok
            have hfl := flat_take hpl
            rw [hcl] at hfl
            have hlen := flat_len (s.data.toList.take pos)
            have hlt : (s.data.toList.take pos).length ≤ 40 := by rw [List.length_take]; omega
            have hz' : Hid (z = (c.toNat : Int)) := hz
            have hwz : IntKind.u8.wrap z = z := by rw [IntKind.wrap_u8]; omega
            obtain ⟨acc, hacc⟩ : ∃ acc, [34] ++ (s.data.toList.take pos).flatMap esc = acc := ⟨_, rfl⟩
            have hal : acc.length ≤ 81 := by rw [← hacc, List.length_append]; simp only [List.length_cons, List.length_nil]; omega
            have hfl' : Hid ([34] ++ (s.data.toList.take (pos + 1)).flatMap esc = acc ++ esc c) := by
              unfold Hid
              rw [hfl, ← hacc, List.append_assoc]
            rw [hacc] at ho2
            have hfine2' : Hid (∀ x ∈ s.data.toList.take (pos + 1), fine x) := hfine2
            have hblt : w.heap.size + 1 < W1.heap.size := (Array.getElem?_eq_some_iff.1 hit2).1
            clear hc hcl hfine hfine2 ho hacc hfl hlen hlt hit hB hz
            have hpos0' : Hid (wr.iterPos (w.heap.size + 1) = pos) := hpos0
            clear hpos0
            by_cases hsp : c = 34 ∨ c = 92
            · rcases hsp with rfl | rfl
              · obtain rfl : z = 34 := hz'.out
                have hes : esc 34 = [92, 34] := rfl
                rw [hes, show acc ++ [92, 34] = acc ++ [92] ++ [34] from by simp] at hfl'
                clear hok hes hz'
                have tok : True := trivial
                go_wp2_with (first | (go_at_call 70; refine (hsh _).mono ?_; rintro e w9 ⟨rfl, hw9⟩; subst w9) | (at_builtin; have _u := tok; clear tok; refine wpList_append_own _ rfl _ _ 61 rfl w.heap.size 5 i0 (.int .u8 0) 1 1 Tryz.underlying61 hi hz0 hz1 hz2 rfl (by decide) _ _ _ rfl (ho2.alloc _) ⟨W1.heap.size, 0, none⟩ 1 1 [.int .u8 92] rfl rfl (cell_one_new _ _ _) (byte_one _) (by unfold maxLen; omega) (by omega) (by have := hB2.size; simp; omega) ?_; intro v3 w3 hown3 hgrow3 _; have hB3 : Below w.heap.size w w3 := (hB2.alloc hB2.size _).grown hgrow3 (by have := hB2.size; simp; omega) (fun j hj => (ho2.lt j hj).1); have ho3 : w3.ownsRow w.heap.size 5 1 v3 (acc ++ [92]).length (byteCells (acc ++ [92])) := bys_snoc (c := 92) rfl rfl hown3; have hit3 : w3.heap[w.heap.size + 1]? = some (.stringIter s (pos + 1)) := (by rw [hgrow3.block (w.heap.size + 1) (by simp; omega) (fun h => own_notIter ho2 hit2 h.symm), Below.heap_alloc _ _ _ hblt]; exact hit2); have hblt3 : w.heap.size + 1 < w3.heap.size := (Array.getElem?_eq_some_iff.1 hit3).1; have hl3 : (acc ++ [92]).length ≤ 82 := (by rw [List.length_append]; simp only [List.length_cons, List.length_nil]; omega)) | (at_builtin; refine wpList_append_own _ rfl _ _ 61 rfl w.heap.size 5 i0 (.int .u8 0) 1 1 Tryz.underlying61 hi hz0 hz1 hz2 rfl (by decide) _ _ _ rfl (ho3.alloc _) ⟨w3.heap.size, 0, none⟩ 1 1 [_] rfl rfl (cell_one_new _ _ _) (byte_one _) (by unfold maxLen; omega) (by omega) (by have := hB3.size; simp; omega) ?_; intro v4 w4 hown4 hgrow4 _; have hB4 : Below w.heap.size w w4 := (hB3.alloc hB3.size _).grown hgrow4 (by have := hB3.size; simp; omega) (fun j hj => (ho3.lt j hj).1); have hit4 : w4.heap[w.heap.size + 1]? = some (.stringIter s (pos + 1)) := (by rw [hgrow4.block (w.heap.size + 1) (by simp; omega) (fun h => own_notIter ho3 hit3 h.symm), Below.heap_alloc _ _ _ hblt3]; exact hit3)))
                go_roundw
                case rel => exact ⟨pos + 1, by omega, hit4, hfine2'.out, by rw [hfl'.out]; exact bys_snoc (l := acc ++ [92]) (c := 34) rfl rfl hown4, hB4⟩
                case measure => rw [iterPos_of hit4, hpos0'.out]; omega
              · obtain rfl : z = 92 := hz'.out
                have hes : esc 92 = [92, 92] := rfl
                rw [hes, show acc ++ [92, 92] = acc ++ [92] ++ [92] from by simp] at hfl'
                clear hok hes hz'
                have tok : True := trivial
                go_wp2_with (first | (go_at_call 70; refine (hsh _).mono ?_; rintro e w9 ⟨rfl, hw9⟩; subst w9) | (at_builtin; have _u := tok; clear tok; refine wpList_append_own _ rfl _ _ 61 rfl w.heap.size 5 i0 (.int .u8 0) 1 1 Tryz.underlying61 hi hz0 hz1 hz2 rfl (by decide) _ _ _ rfl (ho2.alloc _) ⟨W1.heap.size, 0, none⟩ 1 1 [.int .u8 92] rfl rfl (cell_one_new _ _ _) (byte_one _) (by unfold maxLen; omega) (by omega) (by have := hB2.size; simp; omega) ?_; intro v3 w3 hown3 hgrow3 _; have hB3 : Below w.heap.size w w3 := (hB2.alloc hB2.size _).grown hgrow3 (by have := hB2.size; simp; omega) (fun j hj => (ho2.lt j hj).1); have ho3 : w3.ownsRow w.heap.size 5 1 v3 (acc ++ [92]).length (byteCells (acc ++ [92])) := bys_snoc (c := 92) rfl rfl hown3; have hit3 : w3.heap[w.heap.size + 1]? = some (.stringIter s (pos + 1)) := (by rw [hgrow3.block (w.heap.size + 1) (by simp; omega) (fun h => own_notIter ho2 hit2 h.symm), Below.heap_alloc _ _ _ hblt]; exact hit2); have hblt3 : w.heap.size + 1 < w3.heap.size := (Array.getElem?_eq_some_iff.1 hit3).1; have hl3 : (acc ++ [92]).length ≤ 82 := (by rw [List.length_append]; simp only [List.length_cons, List.length_nil]; omega)) | (at_builtin; refine wpList_append_own _ rfl _ _ 61 rfl w.heap.size 5 i0 (.int .u8 0) 1 1 Tryz.underlying61 hi hz0 hz1 hz2 rfl (by decide) _ _ _ rfl (ho3.alloc _) ⟨w3.heap.size, 0, none⟩ 1 1 [_] rfl rfl (cell_one_new _ _ _) (byte_one _) (by unfold maxLen; omega) (by omega) (by have := hB3.size; simp; omega) ?_; intro v4 w4 hown4 hgrow4 _; have hB4 : Below w.heap.size w w4 := (hB3.alloc hB3.size _).grown hgrow4 (by have := hB3.size; simp; omega) (fun j hj => (ho3.lt j hj).1); have hit4 : w4.heap[w.heap.size + 1]? = some (.stringIter s (pos + 1)) := (by rw [hgrow4.block (w.heap.size + 1) (by simp; omega) (fun h => own_notIter ho3 hit3 h.symm), Below.heap_alloc _ _ _ hblt3]; exact hit3)))
                go_roundw
                case rel => exact ⟨pos + 1, by omega, hit4, hfine2'.out, by rw [hfl'.out]; exact bys_snoc (l := acc ++ [92]) (c := 92) rfl rfl hown4, hB4⟩
                case measure => rw [iterPos_of hit4, hpos0'.out]; omega
            · have hes : esc c = [c] := if_neg hsp
              rw [hes] at hfl'
              have n34 : (z == 34) = false := by
                have := hz'.out
                simp
                intro h
                exact hsp (.inl (UInt8.toNat.inj (by show c.toNat = 34; omega)))
              have n92 : (z == 92) = false := by
                have := hz'.out
                simp
                intro h
                exact hsp (.inr (UInt8.toNat.inj (by show c.toNat = 92; omega)))
              clear hok hes hsp
              go_wp2_with (first | (go_at_call 70; refine (hsh _).mono ?_; rintro e w9 ⟨rfl, hw9⟩; subst w9) | (at_builtin; refine wpList_append_own _ rfl _ _ 61 rfl w.heap.size 5 i0 (.int .u8 0) 1 1 Tryz.underlying61 hi hz0 hz1 hz2 rfl (by decide) _ _ _ rfl (ho2.alloc _) ⟨W1.heap.size, 0, none⟩ 1 1 [_] rfl rfl (cell_one_new _ _ _) (byte_one _) (by unfold maxLen; omega) (by omega) (by have := hB2.size; simp; omega) ?_; intro v3 w3 hown3 hgrow3 _; have hB3 : Below w.heap.size w w3 := (hB2.alloc hB2.size _).grown hgrow3 (by have := hB2.size; simp; omega) (fun j hj => (ho2.lt j hj).1); have hit3 : w3.heap[w.heap.size + 1]? = some (.stringIter s (pos + 1)) := (by rw [hgrow3.block (w.heap.size + 1) (by simp; omega) (fun h => own_notIter ho2 hit2 h.symm), Below.heap_alloc _ _ _ hblt]; exact hit2)))
              go_roundw
              case rel => exact ⟨pos + 1, by omega, hit3, hfine2'.out, by rw [hfl'.out]; exact bys_snoc hz'.out rfl hown3, hB3⟩
              case measure => rw [iterPos_of hit3, hpos0'.out]; omega
          · have hsh := fun W => shown_at z false (by symm; exact decide_eq_false (by intro h; exact hok (by unfold fine; omega))) W
            have hq : Hid (qt s.data.toList = none) := qt_bad hpl (by rw [hcl]; exact hok)
            clear hc hcl hfine ho hpl hz ho2 hit2
            go_wp2_with (first | (go_at_call 70; refine (hsh _).mono ?_; rintro e w3 ⟨rfl, rfl⟩))
            exact bodyPost_ret (v := pctV none) (by simp [results, Tryz.results53, go_sem, pctV]) rfl ⟨by rw [hq.out], hB2⟩
      · obtain rfl : pos = s.size := by omega
        have hnx : ∀ ty, (Instr.next (.pointer (some ⟨w.heap.size + 1, 0, none⟩)) true ty).run Tryz.prog wr = _ := fun ty => Lib.run_next_end_at wr (w.heap.size + 1) s s.size ty hit hp
        rw [List.take_of_length_le (by omega)] at ho hfine
        have hq : Hid (qt s.data.toList = some ([34] ++ s.data.toList.flatMap esc ++ [34])) := qt_good (by omega) hfine
        have hlen := flat_len s.data.toList
        obtain ⟨acc, hacc⟩ : ∃ acc, [34] ++ s.data.toList.flatMap esc = acc := ⟨_, rfl⟩
        have hal : acc.length ≤ 81 := by rw [← hacc, List.length_append]; simp only [List.length_cons, List.length_nil]; omega
        rw [hacc] at ho hq
        have hal2 : (acc ++ [34]).length = acc.length + 1 := by simp
        unfold Bys at ho
        clear hacc hlen hfine hit hpos0
        go_wp2_with (first | (at_builtin; refine wpList_append_own _ rfl _ _ 61 rfl w.heap.size 5 i0 (.int .u8 0) 1 1 Tryz.underlying61 hi hz0 hz1 hz2 rfl (by decide) _ _ _ rfl (ho.alloc _) ⟨wr.heap.size, 0, none⟩ 1 1 [.int .u8 34] rfl rfl (cell_one_new _ _ _) (byte_one _) (by unfold maxLen; omega) (by omega) (by have := hB.size; simp; omega) ?_; intro v3 w3 hown3 hgrow3 _; have hB3 : Below w.heap.size w w3 := (hB.alloc hB.size _).grown hgrow3 (by have := hB.size; simp; omega) (fun j hj => (ho.lt j hj).1); have hat : BysAt w3 v3 (acc ++ [34]) := bysAt_of (B := w.heap.size) (bys_snoc (c := 34) rfl rfl hown3) (by omega); obtain ⟨g3, cap3, rfl, -, hc3⟩ := hat; have hcv := run_convert_bytes_back (P := Tryz.prog) w3 61 9 5 ⟨g3, 0, none⟩ cap3 (acc ++ [34]) Tryz.underlying61 Tryz.underlying5 Tryz.underlying9 (fun j hj => by rw [Lib.add_plain, Nat.zero_add]; exact hc3 j hj); rw [hal2] at hcv))
        exact bodyPost_ret (v := .tuple #[.string ⟨(acc ++ [34]).toArray⟩, .bool true]) (by simp [results, Tryz.results53, go_sem]) rfl ⟨by rw [hq.out]; rfl, hB3⟩

end Go.Proofs.YtoippgmecnlhcaaGreatDoor.X

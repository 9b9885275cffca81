import Derived.Test.YtoippgmecnlhcaaGreatDoorTurnXQuo
import Derived.Test.YtoippgmecnlhcaaGreatDoorJoin31
import Derived.OwnWalk
import Derived.Lib.UnsafeStr
import Derived.Laws.IdiomStrings
import Derived.Maps.AppendAt
namespace Go.Proofs.YtoippgmecnlhcaaGreatDoor.X.R
open Go.RowKit Go.Sort Go.Lib

theorem extract_one (s : ByteArray) (i : Nat) (h : i < s.size) : s.extract i (i + 1) = ⟨[s[i]'h].toArray⟩ := by
  apply ByteArray.ext
  rw [ByteArray.data_extract]
  refine Array.ext (by simp; have : s.size = s.data.size := rfl; omega) fun j h1 h2 => ?_
  have hj : j = 0 := by simp at h2; omega
  subst hj
  simp
  rfl

set_option maxRecDepth 4000 in
set_option maxHeartbeats 2000000 in
theorem rquote_any (s : ByteArray) (w : World) :
    Calls Tryz.prog 47 #[.string s] w fun e w' => e = .returned (pctV (qt s.data.toList)) ∧ Below w.heap.size w w' := by
  have hsl : s.data.toList.length = s.size := Array.length_toList
  by_cases hlong : 40 < s.size
  · have hl' : (40 : Int) < s.size := by omega
    have hq : Hid (qt s.data.toList = none) := qt_long (by omega)
    go_enter Tryz.func47, Tryz.ntmps47
    go_wp2_with fail
    exact bodyPost_ret (v := pctV none) (by simp [results, Tryz.results47, go_sem, pctV]) rfl ⟨by rw [hq.out], Below.refl _ _⟩
  · have hl' : ¬ (40 : Int) < s.size := by omega
    go_enter Tryz.func47, Tryz.ntmps47
    go_wp2_with fail
    go_loopw [4, 5] (fun t j wr => ∃ (i : Nat) (acc : List UInt8), i ≤ s.size ∧ j = .int .i64 i ∧ t = .string ⟨acc.toArray⟩ ∧ acc = [34] ++ (s.data.toList.take i).flatMap esc ∧ (∀ c ∈ s.data.toList.take i, fine c) ∧ Below w.heap.size w wr) (fun _ j _ => s.size - (RowKit.intOf j).toNat)
    case atStart => exact ⟨0, [34], by omega, rfl, rfl, rfl, fun c hc => (by simp at hc), Below.refl _ _⟩
    case round =>
      obtain ⟨i, acc, his, rfl, rfl, hacc, hfine, hB⟩ := hrel
      have hlen := flat_len (s.data.toList.take i)
      have hlt : (s.data.toList.take i).length ≤ 40 := by rw [List.length_take]; omega
      have hal : acc.length ≤ 81 := by rw [hacc, List.length_append]; simp only [List.length_cons, List.length_nil]; omega
      by_cases hp : i < s.size
      · have hp' : (i : Int) < s.size := by omega
        have hi0 : (0 : Int) ≤ (i : Int) := by omega
        obtain ⟨c, hc⟩ : ∃ c, s[i]'hp = c := ⟨_, rfl⟩
        have hpl : i < s.data.toList.length := by omega
        have hcl : s.data.toList[i] = c := by rw [← hc]; simp; rfl
        obtain ⟨z, hz⟩ : ∃ z : Int, z = (c.toNat : Int) := ⟨_, rfl⟩
        have hidx : ∀ W, (Instr.index 9 (.string s) (.int .i64 (i : Int))).run Tryz.prog W = .ok (.int .u8 z) W := fun W => by
          rw [run_index_string W 9 s .i64 (i : Int) Tryz.underlying9, dif_pos ⟨hi0, hp'⟩, hz, ← hc]
          rfl
        have hext : ∀ W, (Instr.slice 9 (.string s) (some (.int .i64 (i : Int))) (some (.int .i64 ((i : Int) + 1))) none).run Tryz.prog W = .ok (.string ⟨[c].toArray⟩) W := fun W => by
          rw [run_slice_string W 9 s .i64 .i64 (i : Int) ((i : Int) + 1) Tryz.underlying9 hi0 (by omega) (by omega), ← hc, ← extract_one s i hp]
          congr 3
        have hz' : Hid (z = (c.toNat : Int)) := hz
        by_cases hok : fine c
        · have z1 : ¬ z < 32 := by have := hok.1; omega
          have z2 : ¬ 126 < z := by have := hok.2; omega
          have hfl := flat_take hpl
          rw [hcl] at hfl
          have hfl' : Hid ([34] ++ (s.data.toList.take (i + 1)).flatMap esc = acc ++ esc c) := by
            unfold Hid
            rw [hfl, hacc, List.append_assoc]
          have hfine2 : Hid (∀ x ∈ s.data.toList.take (i + 1), fine x) := fun x hx => by
            rw [List.take_succ_eq_append_getElem hpl, hcl] at hx
            rcases List.mem_append.1 hx with h | h
            · exact hfine x h
            · rw [List.mem_singleton.1 h]; exact hok
          have s1 : ¬ 9223372036854775807 < acc.length + 1 := by omega
          have s2 : ¬ 9223372036854775807 < acc.length + 1 + 1 := by omega
          clear hc hcl hfine hacc hfl hlen hlt hz
          by_cases hsp : c = 34 ∨ c = 92
          · have hes : esc c = [92] ++ [c] := if_pos hsp
            rw [hes, ← List.append_assoc] at hfl'
            have hzz : (z == 34) = true ∨ ((z == 34) = false ∧ (z == 92) = true) := by
              have := hz'.out
              rcases hsp with rfl | rfl
              · exact .inl (by rw [this]; rfl)
              · exact .inr ⟨by rw [this]; rfl, by rw [this]; rfl⟩
            clear hok hes hsp
            rcases hzz with hzz | ⟨hzz, hzy⟩
            all_goals
              go_wp2_with fail
              go_roundw
              case rel => exact ⟨i + 1, acc ++ [92] ++ [c], by omega, by go_num, by rw [← ByteArray.mk_append_mk, ← ByteArray.mk_append_mk], hfl'.out.symm, hfine2.out, hB⟩
              case measure => simp [RowKit.intOf]; omega
          · have hes : esc c = [c] := if_neg hsp
            rw [hes] at hfl'
            have n34 : (z == 34) = false := by
              have := hz'.out
              simp
              intro h
              exact hsp (.inl (UInt8.toNat.inj (by show c.toNat = 34; omega)))
            have n92 : (z == 92) = false := by
              have := hz'.out
              simp
              intro h
              exact hsp (.inr (UInt8.toNat.inj (by show c.toNat = 92; omega)))
            clear hok hes hsp
            go_wp2_with fail
            go_roundw
            case rel => exact ⟨i + 1, acc ++ [c], by omega, by go_num, by rw [← ByteArray.mk_append_mk], hfl'.out.symm, hfine2.out, hB⟩
            case measure => simp [RowKit.intOf]; omega
        · have hq : Hid (qt s.data.toList = none) := qt_bad hpl (by rw [hcl]; exact hok)
          have hzz : z < 32 ∨ (¬ z < 32 ∧ 126 < z) := by
            rcases Classical.em (z < 32) with h | h
            · exact .inl h
            · refine .inr ⟨h, ?_⟩
              rcases Classical.em (126 < z) with h2 | h2
              · exact h2
              · exact absurd ⟨by omega, by omega⟩ hok
          clear hc hcl hfine hacc hlen hlt hz hok
          rcases hzz with hzz | ⟨hzz, hzy⟩
          all_goals
            go_wp2_with fail
            exact bodyPost_ret (v := pctV none) (by simp [results, Tryz.results47, go_sem, pctV]) rfl ⟨by rw [hq.out], hB⟩
      · have hp' : ¬ (i : Int) < s.size := by omega
        rw [List.take_of_length_le (by omega)] at hacc hfine
        have hq : Hid (qt s.data.toList = some (acc ++ [34])) := by
          unfold Hid
          rw [qt_good (by omega) hfine, hacc]
        have s1 : ¬ 9223372036854775807 < acc.length + 1 := by omega
        clear hacc hlen hlt hfine
        go_wp2_with fail
        refine bodyPost_ret (v := .tuple #[.string (⟨acc.toArray⟩ ++ ⟨[34].toArray⟩), .bool true]) (by simp [results, Tryz.results47, go_sem]) rfl ⟨?_, hB⟩
        rw [hq.out, ByteArray.mk_append_mk]
        rfl

end Go.Proofs.YtoippgmecnlhcaaGreatDoor.X.R


namespace Go.Proofs.YtoippgmecnlhcaaGreatDoor.X.R
open Go.RowKit Go.Sort Go.Lib

theorem infoB : (Tryz.prog.info? 5).map (fun i => (i.zero, i.size, i.bytes)) = some (some (.int .u8 0), 1, 1) := by kernel_rfl
theorem own_some {w : World} {base n size : Nat} {e : TypeId} {v : Value} {xs : List Value} (h : w.ownsRow base e size v n xs) (hn : 0 < n) : ∃ g cap, v = .slice (some ⟨g, 0, none⟩) n cap := by
  obtain ⟨_, h | ⟨g, cap, cur, rfl, _⟩⟩ := h
  · omega
  · exact ⟨g, cap, rfl⟩
/-- A row of bytes of the call's own. -/
def Bys (B : Nat) (w : World) (v : Value) (l : List UInt8) : Prop := w.ownsRow B 5 1 v l.length (byteCells l)
theorem byte_one (z : Int) : ∀ u ∈ ([.int .u8 z] : List Value), u.oneCell' = true := by
  intro u hu
  simp at hu
  subst hu
  rfl
theorem bys_snoc {B : Nat} {w : World} {v : Value} {l : List UInt8} {c : UInt8} {z : Int} {n : Nat} (hz : z = (c.toNat : Int)) (hn : n = l.length + 1) (h : w.ownsRow B 5 1 v n (byteCells l ++ [.int .u8 z])) : Bys B w v (l ++ [c]) := by
  unfold Bys
  subst hz hn
  rw [List.length_append]
  simp only [byteCells, List.map_append] at h ⊢
  exact h
theorem bys_cell {B : Nat} {w : World} {g cap : Nat} {l : List UInt8} (h : Bys B w (.slice (some ⟨g, 0, none⟩) l.length cap) l) (j : Nat) (hj : j < l.length) : w.cell? ⟨g, j, none⟩ = some (.int .u8 (l[j].toNat : Int)) := by
  have h0 : w.ownsRow B 5 1 (.slice (some ⟨g, 0, none⟩) l.length cap) l.length (byteCells l) := h
  have h' := h0.cellAt j (by omega)
  rw [h']
  simp [byteCells, hj]
/-- Bytes that can be read. -/
def BysAt (w : World) (v : Value) (l : List UInt8) : Prop := ∃ g cap, v = .slice (some ⟨g, 0, none⟩) l.length cap ∧ g < w.heap.size ∧ ∀ j (h : j < l.length), w.cell? ⟨g, j, none⟩ = some (.int .u8 (l[j].toNat : Int))
theorem bysAt_of {B : Nat} {w : World} {v : Value} {l : List UInt8} (h : Bys B w v l) (hl : 0 < l.length) : BysAt w v l := by
  obtain ⟨g, cap, rfl⟩ := own_some h hl
  exact ⟨g, cap, rfl, (World.ownsRow.lt h g rfl).2, fun j hj => bys_cell h j hj⟩

set_option maxRecDepth 4000 in
set_option maxHeartbeats 1000000 in
theorem turned_any (v : Value) (l : List UInt8) (h0 : 0 < l.length) (hl : l.length ≤ 1000) (w : World) (hv : BysAt w v l) :
    Calls Tryz.prog 59 #[v] w fun e w' => e = .returned (.string ⟨l.reverse.toArray⟩) ∧ Below w.heap.size w w' := by
  obtain ⟨g, cap, rfl, hg, hc⟩ := hv
  obtain ⟨i0, hi, hz0, hz1, hz2⟩ := info_parts infoB
  go_enter Tryz.func59, Tryz.ntmps59
  go_wp2
  go_loopw [3, 4] (fun m i wr => ∃ k : Nat, k ≤ l.length ∧ i = .int .i64 ((l.length : Int) - 1 - k) ∧ Bys w.heap.size wr m (l.reverse.take k) ∧ Below w.heap.size w wr) (fun _ i _ => (RowKit.intOf i + 1).toNat)
  case atStart => exact ⟨0, by omega, by go_num, World.ownsRow_nil _ _ _ _, Below.refl _ _⟩
  case round =>
    obtain ⟨k, hk, rfl, ho, hB⟩ := hrel
    by_cases hlt : k < l.length
    · have hlt' : (0 : Int) ≤ (l.length : Int) - 1 - k := by omega
      obtain ⟨j, hj⟩ : ∃ j : Nat, j = l.length - 1 - k := ⟨_, rfl⟩
      have hji : (l.length : Int) - 1 - k = (j : Int) := by omega
      have hjl : j < l.length := by omega
      have hcj := (hB.cell (p := ⟨g, j, none⟩) hg).trans (hc j hjl)
      have htk : Hid (l.reverse.take (k + 1) = l.reverse.take k ++ [l[j]]) := by
        unfold Hid
        rw [List.take_succ_eq_append_getElem (by simpa using hlt), List.getElem_reverse]
        simp only [hj]
      have hlk : (l.reverse.take k).length = k := by rw [List.length_take, List.length_reverse]; omega
      rw [hji]
      have hj0 : (0 : Int) ≤ (j : Int) := by omega
      have hjl' : (j : Int) < l.length := by omega
      obtain ⟨c, hcc⟩ : ∃ c, l[j] = c := ⟨_, rfl⟩
      rw [hcc] at hcj htk
      obtain ⟨z, hz⟩ : ∃ z : Int, z = (c.toNat : Int) := ⟨_, rfl⟩
      rw [← hz] at hcj
      have hz' : Hid (z = (c.toNat : Int)) := hz
      have hjk : Hid ((j : Int) = (l.length : Int) - 1 - k) := hji.symm
      clear hcc hz hj hji hc
      unfold Bys at ho
      go_wp2_with (at_builtin; refine wpList_append_own _ rfl _ _ 61 rfl w.heap.size 5 i0 (.int .u8 0) 1 1 Tryz.underlying61 hi hz0 hz1 hz2 rfl (by decide) _ _ _ rfl (ho.alloc _) ⟨wr.heap.size, 0, none⟩ 1 1 [.int .u8 z] rfl rfl (cell_one_new _ _ _) (byte_one z) (by unfold maxLen; omega) (by omega) (by have := hB.size; simp; omega) ?_; intro v' w2 hown' hgrow _)
      go_roundw
      case rel => exact ⟨k + 1, by omega, by have := hjk.out; go_num, by rw [htk.out]; exact bys_snoc hz'.out rfl hown', (hB.alloc hB.size _).grown hgrow (by have := hB.size; simp; omega) (fun j hj => (ho.lt j hj).1)⟩
      case measure => have := hjk.out; simp [RowKit.intOf]
    · obtain rfl : k = l.length := by omega
      have hm1 : ¬ (0 : Int) ≤ (l.length : Int) - 1 - l.length := by omega
      rw [List.take_of_length_le (by simp)] at ho
      have hr : l.reverse.length = l.length := List.length_reverse
      obtain ⟨g2, cap2, rfl⟩ := own_some ho (by omega)
      have hcv := run_convert_bytes_back (P := Tryz.prog) wr 61 9 5 ⟨g2, 0, none⟩ cap2 l.reverse Tryz.underlying61 Tryz.underlying5 Tryz.underlying9 (fun j hj => by
        rw [Lib.add_plain, Nat.zero_add]
        exact bys_cell ho j hj)
      rw [List.length_reverse] at hcv
      have hB' := hB
      clear hB hc
      go_wp2
      go_ret
      exact ⟨rfl, hB'⟩

/-- The lowest k digits, the lowest first. -/
def low (u k : Nat) : List UInt8 := (List.range k).map fun t => dg u t
theorem low_succ (u k : Nat) : low u (k + 1) = low u k ++ [dg u k] := by simp [low, List.range_succ]
theorem low_len (u k : Nat) : (low u k).length = k := by simp [low]
theorem low_rev (u k : Nat) : (low u k).reverse = (List.range k).map fun t => dg u (k - 1 - t) := by
  refine List.ext_getElem (by simp [low]) fun i h1 h2 => ?_
  rw [List.getElem_reverse]
  simp [low]
theorem low_dec {u k : Nat} (h1 : k = 0 ∨ 10 ^ k ≤ u) (h2 : u / 10 ^ k ≤ 9) : (low u (k + 1)).reverse = decDigits u := by
  have hn : nDigits u = k + 1 := by
    rcases h1 with rfl | h1
    · exact nDigits_small (by simp at h2; omega)
    · refine nDigits_unique k u h1 ?_
      rw [Nat.pow_succ]
      have hp : 0 < 10 ^ k := Nat.pow_pos (by decide)
      have e1 := Nat.div_add_mod u (10 ^ k)
      have e2 := Nat.mod_lt u hp
      have e3 : 10 ^ k * (u / 10 ^ k) ≤ 10 ^ k * 9 := Nat.mul_le_mul_left _ h2
      omega
  rw [low_rev, decDigits_eq, hn]
theorem dg_nat (u k : Nat) : ((dg u k).toNat : Int) = 48 + ((u / 10 ^ k % 10 : Nat) : Int) := by
  have h := Nat.mod_lt (u / 10 ^ k) (show 0 < 10 by decide)
  unfold dg
  rw [UInt8.toNat_ofNat']
  omega

set_option maxRecDepth 4000 in
set_option maxHeartbeats 1000000 in
theorem digitsOf_any (u : Nat) (hu : u ≤ 9223372036854775807) (w : World) :
    Calls Tryz.prog 44 #[.int .i64 u] w fun e w' => e = .returned (.string ⟨(decDigits u).toArray⟩) ∧ Below w.heap.size w w' := by
  obtain ⟨i0, hi, hz0, hz1, hz2⟩ := info_parts infoB
  have hb0 : Bys w.heap.size (w.alloc (.cells #[.int .u8 (48 + (u : Int) % 10)] 5)) (.slice (some ⟨w.heap.size, 0, none⟩) 1 1) (low u 1) := by
    have h := World.ownsRow_lit (base := w.heap.size) (e := 5) (size := 1) w #[.int .u8 (48 + (u : Int) % 10)] 1 (Nat.le_refl _) (by unfold maxLen; omega) rfl
    have e1 : byteCells (low u 1) = [.int .u8 (48 + (u : Int) % 10)] := by
      have := dg_nat u 0
      simp [low, byteCells]
      simp at this
      omega
    unfold Bys
    rw [low_len, e1]
    exact h
  go_enter Tryz.func44, Tryz.ntmps44
  go_wp2
  go_loopw [0, 3] (fun n m wr => ∃ k : Nat, k ≤ 20 ∧ n = .int .i64 ((u / 10 ^ k : Nat) : Int) ∧ (k = 0 ∨ 10 ^ k ≤ u) ∧ Bys w.heap.size wr m (low u (k + 1)) ∧ Below w.heap.size w wr) (fun n _ _ => (RowKit.intOf n).toNat)
  case atStart => exact ⟨0, by omega, by simp, .inl rfl, hb0, (Below.refl _ _).alloc (Nat.le_refl _) _⟩
  case round =>
    obtain ⟨k, hk, rfl, hpow, ho, hB⟩ := hrel
    clear hb0
    obtain ⟨q, hq⟩ : ∃ q, u / 10 ^ k = q := ⟨_, rfl⟩
    have hqu : q ≤ u := by rw [← hq]; exact Nat.div_le_self _ _
    by_cases hgt : 9 < q
    · have hgt' : (9 : Int) < (q : Int) := by omega
      have hq1 : u / 10 ^ (k + 1) = q / 10 := by rw [Nat.pow_succ, ← Nat.div_div_eq_div_mul, hq]
      have hp1 : 10 ^ (k + 1) ≤ u := by
        rw [Nat.pow_succ]
        have : 10 * 10 ^ k ≤ u := (Nat.le_div_iff_mul_le (Nat.pow_pos (by decide))).1 (by omega)
        omega
      have hk20 : k + 1 ≤ 20 := by
        rcases Nat.lt_or_ge 20 (k + 1) with h | h
        · have h1 : 10 ^ 20 ≤ 10 ^ (k + 1) := Nat.pow_le_pow_right (by decide) (by omega)
          have h2 : 9223372036854775807 < 10 ^ 20 := by decide
          omega
        · exact h
      have hdg : Hid (((dg u (k + 1)).toNat : Int) = 48 + ((q / 10 % 10 : Nat) : Int)) := by
        unfold Hid
        rw [dg_nat, hq1]
      have hlo : Hid (low u (k + 2) = low u (k + 1) ++ [dg u (k + 1)]) := low_succ u (k + 1)
      have hlen := low_len u (k + 1)
      have hq1' : Hid (u / 10 ^ (k + 1) = q / 10) := hq1
      have hp1' : Hid (10 ^ (k + 1) ≤ u) := hp1
      rw [hq]
      unfold Bys at ho
      clear hq hq1 hp1 hpow
      go_wp2_with (at_builtin; refine wpList_append_own _ rfl _ _ 61 rfl w.heap.size 5 i0 (.int .u8 0) 1 1 Tryz.underlying61 hi hz0 hz1 hz2 rfl (by decide) _ _ _ rfl (ho.alloc _) ⟨wr.heap.size, 0, none⟩ 1 1 [_] rfl rfl (cell_one_new _ _ _) (byte_one _) (by unfold maxLen; omega) (by omega) (by have := hB.size; simp; omega) ?_; intro v' w2 hown' hgrow _)
      go_roundw
      case rel => exact ⟨k + 1, hk20, by rw [hq1'.out]; go_num, .inr hp1'.out, by rw [hlo.out]; exact bys_snoc (by have := hdg.out; omega) rfl hown', (hB.alloc hB.size _).grown hgrow (by have := hB.size; simp; omega) (fun j hj => (ho.lt j hj).1)⟩
      case measure => simp [RowKit.intOf]; omega
    · have hgt' : ¬ (9 : Int) < (q : Int) := by omega
      have hdec : Hid ((low u (k + 1)).reverse = decDigits u) := low_dec hpow (by omega)
      have hat := bysAt_of ho (by rw [low_len]; omega)
      have hlen := low_len u (k + 1)
      rw [hq]
      clear hq hpow
      go_wp2_with (go_at_call 59; refine (turned_any _ _ (by omega) (by omega) _ hat).mono ?_; rintro e w1 ⟨rfl, hb1⟩)
      go_ret
      exact ⟨by rw [← hdec.out]; rfl, below_step hB hb1⟩

end Go.Proofs.YtoippgmecnlhcaaGreatDoor.X.R

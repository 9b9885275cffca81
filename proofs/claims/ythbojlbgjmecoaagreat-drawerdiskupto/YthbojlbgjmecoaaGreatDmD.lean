import Derived.Test.YthbojlbgjmecoaaGreatDmC
import Derived.BigQuiet
import Derived.Lib.MinMax
/- isName, has, find, reach, room. -/
namespace Go.Proofs.YthbojlbgjmecoaaGreat.DJ
open Go.RowKit

def bs (s : ByteArray) : List Nat := s.data.toList.map UInt8.toNat
theorem bs_lt (s : ByteArray) : ∀ x ∈ bs s, x < 256 := fun x hx => by
  obtain ⟨u, -, rfl⟩ := List.mem_map.1 hx
  exact u.toNat_lt
theorem bs_len (s : ByteArray) : (bs s).length = s.size := by
  unfold bs
  rw [List.length_map]
  exact Array.length_toList
theorem bs_strB {l : List Nat} (h : ∀ x ∈ l, x < 256) : bs (strB l) = l := by
  unfold bs
  rw [strB_data, u8, List.map_map]
  conv => rhs; rw [← List.map_id l]
  refine List.map_congr_left fun n hn => ?_
  have := h n hn
  simp only [Function.comp, id, UInt8.toNat_ofNat']
  omega
def okc (c : Nat) : Prop := (97 ≤ c ∧ c ≤ 122) ∨ (48 ≤ c ∧ c ≤ 57) ∨ c = 45
theorem bs_get (s : ByteArray) {j : Nat} (h : j < s.size) : (bs s)[j]? = some s[j].toNat := by
  simp [bs, h]
  rfl
theorem six (k : Nat) : (97 ≤ k ∧ k ≤ 122) ∨ (48 ≤ k ∧ k ≤ 57) ∨ k = 45 ∨ (k < 48 ∧ k ≠ 45) ∨ (57 < k ∧ k < 97) ∨ (122 < k) := by omega
theorem okc_all {s : ByteArray} {j : Nat} (h : j < s.size) (hp : ∀ i, i < j → ∀ x, (bs s)[i]? = some x → okc x) (ho : okc s[j].toNat) : ∀ i, i < j + 1 → ∀ x, (bs s)[i]? = some x → okc x := fun i hi x hx => by
  by_cases e : i = j
  · subst e
    rw [bs_get s h] at hx
    cases hx
    exact ho
  · exact hp i (by omega) x hx
theorem not_named {s : ByteArray} {j : Nat} (h : j < s.size) (ho : ¬ okc s[j].toNat) : decide (named (bs s)) = false := decide_eq_false (fun hn => ho (hn.1 _ (List.mem_of_getElem? (bs_get s h))))

set_option maxRecDepth 4000 in
set_option maxHeartbeats 2000000 in
theorem isName_any (s : ByteArray) (w : World) : Calls Tryz.prog 84 #[.string s] w fun e w' => e = .returned (.bool (decide (named (bs s)))) ∧ w' = w := by
  by_cases h0 : s.size = 0
  · have h0' : ((s.size : Int) == 0) = true := by rw [h0]; rfl
    have hN : decide (named (bs s)) = false := decide_eq_false (fun hn => by have := hn.2.1; rw [bs_len] at this; omega)
    rw [hN]
    go_enter Tryz.func84, Tryz.ntmps84
    go_wp2
    go_ret
    exact ⟨rfl, rfl⟩
  have h0' : ((s.size : Int) == 0) = false := by rw [beq_eq_false_iff_ne]; omega
  by_cases h8 : 12 < s.size
  · have h8' : (12 : Int) < (s.size : Int) := by omega
    have hN : decide (named (bs s)) = false := decide_eq_false (fun hn => by have := hn.2.2; rw [bs_len] at this; omega)
    rw [hN]
    go_enter Tryz.func84, Tryz.ntmps84
    go_wp2
    go_ret
    exact ⟨rfl, rfl⟩
  have h8' : ¬ (12 : Int) < (s.size : Int) := by omega
  obtain ⟨r, hr⟩ : ∃ r, decide (named (bs s)) = r := ⟨_, rfl⟩
  rw [hr]
  replace hr := Hid.mk hr
  go_enter Tryz.func84, Tryz.ntmps84
  go_wp2
  go_loopw [16] (fun x wr => ∃ j : Nat, j ≤ s.size ∧ x = .int .i64 j ∧ wr = w ∧ Hid (∀ i, i < j → ∀ x, (bs s)[i]? = some x → okc x)) (fun x _ => s.size - (intOf x).toNat)
  case atStart => exact ⟨0, by omega, rfl, rfl, ⟨fun i hi => by omega⟩⟩
  case round =>
    obtain ⟨j, hj, rfl, rfl, hall⟩ := hrel
    by_cases hlt : j < s.size
    · have hlt' : (j : Int) < (s.size : Int) := by omega
      have hj0 : (0 : Int) ≤ (j : Int) := by omega
      have hno := fun h => (not_named hlt h).symm.trans hr.out
      have hyes := okc_all hlt hall.out
      replace hno := Hid.mk hno
      replace hyes := Hid.mk hyes
      rcases six s[j].toNat with ⟨h1, h2⟩ | ⟨h1, h2⟩ | h1 | ⟨h1, h2⟩ | ⟨h1, h2⟩ | h1
      · have q0 : (97 : Int) ≤ ((s[j].toNat : Nat) : Int) := by omega
        have q1 : ((s[j].toNat : Nat) : Int) ≤ 122 := by omega
        have q2 : (48 : Int) ≤ ((s[j].toNat : Nat) : Int) := by omega
        have q3 : ¬ ((s[j].toNat : Nat) : Int) ≤ 57 := by omega
        go_wp2
        go_roundw
        case rel => exact ⟨j + 1, by omega, by first | rfl | go_num, (by first | rfl | trivial), ⟨hyes.out (.inl ⟨h1, h2⟩)⟩⟩
        case measure => simp [intOf]; omega
      · have q0 : ¬ (97 : Int) ≤ ((s[j].toNat : Nat) : Int) := by omega
        have q2 : (48 : Int) ≤ ((s[j].toNat : Nat) : Int) := by omega
        have q3 : ((s[j].toNat : Nat) : Int) ≤ 57 := by omega
        go_wp2
        go_roundw
        case rel => exact ⟨j + 1, by omega, by first | rfl | go_num, (by first | rfl | trivial), ⟨hyes.out (.inr (.inl ⟨h1, h2⟩))⟩⟩
        case measure => simp [intOf]; omega
      · have q0 : ¬ (97 : Int) ≤ ((s[j].toNat : Nat) : Int) := by omega
        have q2 : ¬ (48 : Int) ≤ ((s[j].toNat : Nat) : Int) := by omega
        have q4 : (((s[j].toNat : Nat) : Int) != 45) = false := by rw [h1]; rfl
        go_wp2
        go_roundw
        case rel => exact ⟨j + 1, by omega, by first | rfl | go_num, (by first | rfl | trivial), ⟨hyes.out (.inr (.inr h1))⟩⟩
        case measure => simp [intOf]; omega
      · have q0 : ¬ (97 : Int) ≤ ((s[j].toNat : Nat) : Int) := by omega
        have q2 : ¬ (48 : Int) ≤ ((s[j].toNat : Nat) : Int) := by omega
        have q4 : (((s[j].toNat : Nat) : Int) != 45) = true := by rw [bne_iff_ne]; omega
        go_wp2
        go_ret
        exact ⟨congrArg (fun z => Ending.returned (.bool z)) (hno.out (by unfold okc; omega)), rfl⟩
      · have q0 : ¬ (97 : Int) ≤ ((s[j].toNat : Nat) : Int) := by omega
        have q2 : (48 : Int) ≤ ((s[j].toNat : Nat) : Int) := by omega
        have q3 : ¬ ((s[j].toNat : Nat) : Int) ≤ 57 := by omega
        have q4 : (((s[j].toNat : Nat) : Int) != 45) = true := by rw [bne_iff_ne]; omega
        go_wp2
        go_ret
        exact ⟨congrArg (fun z => Ending.returned (.bool z)) (hno.out (by unfold okc; omega)), rfl⟩
      · have q0 : (97 : Int) ≤ ((s[j].toNat : Nat) : Int) := by omega
        have q1 : ¬ ((s[j].toNat : Nat) : Int) ≤ 122 := by omega
        have q2 : (48 : Int) ≤ ((s[j].toNat : Nat) : Int) := by omega
        have q3 : ¬ ((s[j].toNat : Nat) : Int) ≤ 57 := by omega
        have q4 : (((s[j].toNat : Nat) : Int) != 45) = true := by rw [bne_iff_ne]; omega
        go_wp2
        go_ret
        exact ⟨congrArg (fun z => Ending.returned (.bool z)) (hno.out (by unfold okc; omega)), rfl⟩
    · have hlt' : ¬ (j : Int) < (s.size : Int) := by omega
      obtain rfl : j = s.size := by omega
      have hyes : decide (named (bs s)) = true := decide_eq_true ⟨fun c hc => by
        obtain ⟨i, hi, e⟩ := List.mem_iff_getElem.1 hc
        rw [bs_len] at hi
        exact hall.out i hi c (by rw [← e]; exact List.getElem?_eq_getElem _), by rw [bs_len]; omega, by rw [bs_len]; omega⟩
      have hf := hyes.symm.trans hr.out
      replace hf := Hid.mk hf
      clear hyes
      go_wp2
      go_ret
      exact ⟨congrArg (fun z => Ending.returned (.bool z)) hf.out, rfl⟩

theorem Lay.cells {W : World} {lo db : Nat} {S : Nat → Prop} {d : Dk} {mb : Nat} {D : DataW Nat} {fb : List Nat → Nat} {vv : List Nat → Value} (h : Lay W lo S db d mb D fb vv) :
    W.cell? ⟨db, 0, none⟩ = some (.map (some mb)) ∧ W.cell? ⟨db, 1, none⟩ = some (.bool d.units.isSome) ∧ W.cell? ⟨db, 2, none⟩ = some (.int .i64 (d.units.getD 0 : Nat)) ∧ W.cell? ⟨db, 3, none⟩ = some (.int .i64 (d.after : Int)) ∧ W.cell? ⟨db, 4, none⟩ = some (.int .i64 (d.calls : Int)) ∧ W.cell? ⟨db, 5, none⟩ = some (.bool d.down) := by
  have hr := h.row
  unfold dkRow at hr
  exact ⟨cell_of_row _ _ 0 _ _ _ hr, cell_of_row _ _ 1 _ _ _ hr, cell_of_row _ _ 2 _ _ _ hr, cell_of_row _ _ 3 _ _ _ hr, cell_of_row _ _ 4 _ _ _ hr, cell_of_row _ _ 5 _ _ _ hr⟩

set_option maxRecDepth 4000 in
set_option maxHeartbeats 1000000 in
theorem has_any {lo db : Nat} {S : Nat → Prop} {d : Dk} {nm : List Nat} (hl : nm.length ≤ 4294967296) (hb : ∀ x ∈ nm, x < 256) (w : World) (h : DiskAt w lo S db d) :
    Calls Tryz.prog 40 #[.pointer (some ⟨db, 0, none⟩), .string (strB nm)] w fun e w' => e = .returned (.bool (get d.fs nm).isSome) ∧ w' = w := by
  obtain ⟨mb, D, fb, vv, h⟩ := h
  obtain ⟨c0, -⟩ := h.cells
  cases hg : get d.fs nm with
  | none =>
    have hr := h.lookNo hl hb hg
    clear h
    generalize strB nm = s at *
    go_enter Tryz.func40, Tryz.ntmps40
    go_wp2
    go_ret
    exact ⟨rfl, rfl⟩
  | some f =>
    obtain ⟨h1, rfl⟩ := get_some hg
    have hr := h.lookOk h1
    clear h
    generalize strB f.nm = s at *
    go_enter Tryz.func40, Tryz.ntmps40
    go_wp2
    go_ret
    exact ⟨rfl, rfl⟩

set_option maxRecDepth 4000 in
set_option maxHeartbeats 1000000 in
theorem find_any {lo db : Nat} {S : Nat → Prop} {d : Dk} {nm : List Nat} (hl : nm.length ≤ 4294967296) (hb : ∀ x ∈ nm, x < 256) (w : World) (h : DiskAt w lo S db d) :
    Calls Tryz.prog 78 #[.pointer (some ⟨db, 0, none⟩), .string (strB nm)] w fun e w' => e = .returned (.int .i64 (if get d.fs nm = none then 193 else 0 : Nat)) ∧ w' = w := by
  have hh := has_any hl hb w h
  clear h
  cases hg : get d.fs nm with
  | none =>
    rw [hg] at hh
    generalize strB nm = s at *
    go_enter Tryz.func78, Tryz.ntmps78
    go_wp2_with (go_at_call 40; refine hh.mono ?_; rintro e w9 ⟨rfl, rfl⟩)
    go_ret
    exact ⟨rfl, rfl⟩
  | some f =>
    rw [hg] at hh
    generalize strB nm = s at *
    go_enter Tryz.func78, Tryz.ntmps78
    go_wp2_with (go_at_call 40; refine hh.mono ?_; rintro e w9 ⟨rfl, rfl⟩)
    go_ret
    exact ⟨rfl, rfl⟩

set_option maxRecDepth 4000 in
set_option maxHeartbeats 1000000 in
theorem reach_any {lo db : Nat} {S : Nat → Prop} {d : Dk} {nm : List Nat} (hb : ∀ x ∈ nm, x < 256) (w : World) (h : DiskAt w lo S db d) :
    Calls Tryz.prog 77 #[.pointer (some ⟨db, 0, none⟩), .string (strB nm)] w fun e w' => e = .returned (.int .i64 (if ¬ named nm then 192 else if d.down then 190 else 0 : Nat)) ∧ w' = w := by
  obtain ⟨mb, D, fb, vv, h⟩ := h
  obtain ⟨-, -, -, -, -, c5⟩ := h.cells
  clear h
  have hn := isName_any (strB nm) w
  rw [bs_strB hb] at hn
  generalize strB nm = s at *
  generalize d.down = dn at *
  by_cases hN : named nm
  · rw [decide_eq_true hN] at hn
    rw [if_neg (fun h => h hN)]
    cases dn with
    | true =>
      go_enter Tryz.func77, Tryz.ntmps77
      go_wp2_with (go_at_call 84; refine hn.mono ?_; rintro e w9 ⟨rfl, rfl⟩)
      go_ret
      exact ⟨rfl, rfl⟩
    | false =>
      go_enter Tryz.func77, Tryz.ntmps77
      go_wp2_with (go_at_call 84; refine hn.mono ?_; rintro e w9 ⟨rfl, rfl⟩)
      go_ret
      exact ⟨rfl, rfl⟩
  · rw [decide_eq_false hN] at hn
    rw [if_pos hN]
    go_enter Tryz.func77, Tryz.ntmps77
    go_wp2_with (go_at_call 84; refine hn.mono ?_; rintro e w9 ⟨rfl, rfl⟩)
    go_ret
    exact ⟨rfl, rfl⟩
end Go.Proofs.YthbojlbgjmecoaaGreat.DJ

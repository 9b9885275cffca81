import Derived.Test.YtakcdgeanbpllaaGreatDoorDmQ
import Derived.Lib.ItoaMem
import Derived.Lib.AppendIntMem
import Derived.Laws.Concat
import Derived.Test.YtakcdgeanbpllaaGreatDoorDnC
/- logName, generationOf of such a name. -/
namespace Go.Proofs.YtakcdgeanbpllaaGreatDoor.DJ
open Go.RowKit

/-- The library's table of powers, whatever is made above lo. -/
def TabL (lo : Nat) (w : World) : Prop := ∀ X, Below lo w X → Go.Lib.TabIs Tryz.prog X "internal/strconv.uint64pow10" .u64 Go.Lib.pow10Tab
theorem TabL.next {lo : Nat} {w w' : World} (h : TabL lo w) (hb : Below lo w w') : TabL lo w' := fun X hX => h X (hb.trans hX)
theorem TabL.now {lo : Nat} {w : World} (h : TabL lo w) : Go.Lib.TabIs Tryz.prog w "internal/strconv.uint64pow10" .u64 Go.Lib.pow10Tab := h w (Below.refl _ _)

/-- The last k digits. -/
def dgs : Nat → Nat → List UInt8
  | 0, _ => []
  | k + 1, g => dgs k (g / 10) ++ [UInt8.ofNat (48 + g % 10)]
theorem dgs_len : ∀ k g, (dgs k g).length = k
  | 0, _ => rfl
  | k + 1, g => by simp [dgs, dgs_len k]
theorem rep_zero (n : Nat) : Go.Lib.repeatL [48] n = dgs n 0 := by
  induction n with
  | zero => rfl
  | succ n ih =>
    rw [show n + 1 = n + 1 from rfl, Go.Lib.repeatL_add, ih]
    rfl
theorem pad_is : ∀ (k g : Nat), 0 < k → g < 10 ^ k → Go.Lib.nDigits g ≤ k ∧ Go.Lib.repeatL [48] (k - Go.Lib.nDigits g) ++ Go.Lib.decDigits g = dgs k g
  | 0, _, h, _ => absurd h (by decide)
  | k + 1, g, _, hg => by
    by_cases h10 : g < 10
    · rw [Go.Lib.nDigits_small h10, Go.Lib.decDigits_one h10, show k + 1 - 1 = k by omega, rep_zero]
      refine ⟨by omega, ?_⟩
      simp only [dgs]
      rw [show g / 10 = 0 by omega, show g % 10 = g by omega]
    · have hk : 0 < k := by
        cases k with
        | zero => rw [Nat.zero_add, Nat.pow_one] at hg; exact absurd hg h10
        | succ k => omega
      obtain ⟨h1, h2⟩ := pad_is k (g / 10) hk (by rw [Nat.pow_succ] at hg; omega)
      rw [Go.Lib.nDigits_big h10]
      refine ⟨by omega, ?_⟩
      have : Go.Lib.decDigits g = Go.Lib.decDigits (g / 10) ++ [UInt8.ofNat (48 + g % 10)] := by
        conv => lhs; rw [Go.Lib.decDigits, dif_neg h10]
      rw [this, show k + 1 - (Go.Lib.nDigits (g / 10) + 1) = k - Go.Lib.nDigits (g / 10) by omega, ← List.append_assoc, h2]
      rfl
theorem Nm_u8 (g : Nat) : u8 (Nm g) = [108, 111, 103, 45] ++ dgs 8 g := by
  simp only [u8, Nm, List.map_cons, List.map_nil, dgs, List.nil_append, List.cons_append, Nat.div_div_eq_div_mul]
  rfl

end Go.Proofs.YtakcdgeanbpllaaGreatDoor.DJ


/- logName. -/
namespace Go.Proofs.YtakcdgeanbpllaaGreatDoor.DJ
open Go.RowKit

theorem logName_parts (g : Nat) (hg : g ≤ 99999999) : ∃ sD sR : ByteArray, (⟨(Go.Lib.decDigits g).toArray⟩ : ByteArray) = sD ∧ (⟨(Go.Lib.repeatL [48] (8 - sD.size)).toArray⟩ : ByteArray) = sR ∧ sD.size ≤ 8 ∧ sR.size ≤ 8 ∧ (({ data := #[108, 111, 103, 45] } : ByteArray) ++ sR) ++ sD = strB (Nm g) := by
  obtain ⟨h1, h2⟩ := pad_is 8 g (by decide) (by omega)
  have hsz : (⟨(Go.Lib.decDigits g).toArray⟩ : ByteArray).size = Go.Lib.nDigits g := by
    show (Go.Lib.decDigits g).toArray.size = _
    rw [List.size_toArray, Go.Lib.decDigits_length]
  refine ⟨_, _, rfl, rfl, by omega, ?_, ?_⟩
  · show (Go.Lib.repeatL [48] _).toArray.size ≤ 8
    rw [List.size_toArray, Go.Lib.repeatL_length]
    simp
  · rw [hsz, strB_mk, Nm_u8, ← h2]
    apply ByteArray.ext
    simp [ByteArray.data_append]
set_option maxRecDepth 4000 in
set_option maxHeartbeats 1000000 in
theorem logName_any (g : Nat) (hg : g ≤ 99999999) (lo : Nat) (w : World) (ht : TabL lo w) : Calls Tryz.prog 54 #[.int .i64 (g : Int)] w fun e w' => e = .returned (.string (strB (Nm g))) ∧ Below w.heap.size w w' := by
  have hi := Tryz.strconv_Itoa (g : Int) (by omega) (by omega) w ht.now
  rw [Go.Lib.itoa_nonneg] at hi
  obtain ⟨sD, sR, e1, e2, l1, l2, e3⟩ := logName_parts g hg
  rw [e1] at hi
  have hr := fun X => Tryz.strings_Repeat { data := #[48] } (8 - sD.size) X (by omega) (by show 1 * (8 - sD.size) ≤ _; omega)
  rw [show ((8 - sD.size : Nat) : Int) = 8 - (sD.size : Int) by omega] at hr
  have hr' : ∀ X, Calls Tryz.prog 114 #[.string { data := #[48] }, .int .i64 (8 - (sD.size : Int))] X fun e w' => e = .returned (.string sR) ∧ Below X.heap.size X w' := fun X => (hr X).mono (by rintro e w' ⟨rfl, h⟩; exact ⟨by rw [← e2], h⟩)
  rw [← e3]
  have l1' : (sD.size : Int) ≤ 8 := by omega
  have l0' : (0 : Int) ≤ (sD.size : Int) := by omega
  have hcat1 : ∀ W : World, (Op.stringOp .add ({ data := #[108, 111, 103, 45] } : ByteArray) sR).run Tryz.prog W = .ok (.string (({ data := #[108, 111, 103, 45] } : ByteArray) ++ sR)) W := fun W => run_string_add W _ _ (by decide) (by omega)
  have hsz4 : (({ data := #[108, 111, 103, 45] } : ByteArray) ++ sR).size ≤ 12 := by
    rw [ByteArray.size_append]
    show 4 + sR.size ≤ 12
    omega
  have hcat2 : ∀ W : World, (Op.stringOp .add (({ data := #[108, 111, 103, 45] } : ByteArray) ++ sR) sD).run Tryz.prog W = .ok (.string ((({ data := #[108, 111, 103, 45] } : ByteArray) ++ sR) ++ sD)) W := fun W => run_string_add W _ _ (by omega) (by omega)
  clear e1 e2 e3 hr ht l1 l2 hsz4
  go_enter Tryz.func54, Tryz.ntmps54
  go_wp2_with (first | (go_at_call 113; refine hi.mono ?_; rintro e w1 ⟨rfl, k, os, hw1⟩; have hb1 : Below w.heap.size w w1 := (by rw [hw1]; exact Go.Lib.below_grow _ _ (Nat.le_refl _) _ _); clear hw1) | (go_at_call 114; refine (hr' _).mono ?_; rintro e w2 ⟨rfl, hb2⟩))
  go_ret
  exact ⟨rfl, below_step hb1 hb2⟩
end Go.Proofs.YtakcdgeanbpllaaGreatDoor.DJ


/- generationOf, of a journal's name. -/
namespace Go.Proofs.YtakcdgeanbpllaaGreatDoor.DJ
open Go.RowKit

theorem parse_snoc (M : Nat) (c : UInt8) (hc : 48 ≤ c.toNat ∧ c.toNat ≤ 57) : ∀ (l : List UInt8) (acc v : Nat), Go.Lib.parseUintM M acc l = .ok v → v < 1844674407370955162 → v * 10 + (c.toNat - 48) ≤ M → Go.Lib.parseUintM M acc (l ++ [c]) = .ok (v * 10 + (c.toNat - 48))
  | [], acc, v, h, h1, h2 => by
    simp only [Go.Lib.parseUintM] at h
    cases h
    simp only [List.nil_append, Go.Lib.parseUintM]
    rw [if_pos hc, if_neg (by omega), if_neg (by omega)]
  | d :: l, acc, v, h, h1, h2 => by
    simp only [List.cons_append, Go.Lib.parseUintM] at h ⊢
    split at h
    · rename_i hd
      rw [if_pos hd]
      split at h
      · cases h
      · rename_i h3
        rw [if_neg h3]
        split at h
        · cases h
        · rename_i h4
          rw [if_neg h4]
          exact parse_snoc M c hc l _ v h h1 h2
    · cases h
theorem parse_dgs : ∀ (k g : Nat), k ≤ 8 → Go.Lib.parseUintM 4294967295 0 (dgs k g) = .ok (g % 10 ^ k)
  | 0, g, _ => by simp [dgs, Go.Lib.parseUintM, Nat.mod_one]
  | k + 1, g, hk => by
    have ih := parse_dgs k (g / 10) (by omega)
    have hp : 10 ^ k ≤ 10 ^ 7 := Nat.pow_le_pow_right (by decide) (by omega)
    have hp0 : 0 < 10 ^ k := Nat.pow_pos (by decide)
    have hm : g / 10 % 10 ^ k < 10 ^ k := Nat.mod_lt _ hp0
    have hn : (UInt8.ofNat (48 + g % 10)).toNat = 48 + g % 10 := by rw [UInt8.toNat_ofNat']; omega
    have e : g % 10 ^ (k + 1) = g / 10 % 10 ^ k * 10 + g % 10 := by
      rw [Nat.pow_succ, Nat.mul_comm (10 ^ k) 10, Nat.mod_mul]
      omega
    rw [e]
    have := parse_snoc 4294967295 (UInt8.ofNat (48 + g % 10)) (by rw [hn]; omega) (dgs k (g / 10)) 0 _ ih (by omega) (by rw [hn]; omega)
    rw [hn, show 48 + g % 10 - 48 = g % 10 by omega] at this
    exact this
theorem gen_parts (g : Nat) (hg : g ≤ 99999999) : ∃ sN : ByteArray, (⟨(Go.Lib.trimPrefix (strB (Nm g)).data.toList [108, 111, 103, 45]).toArray⟩ : ByteArray) = sN ∧ Go.Lib.hasPrefix (strB (Nm g)).data.toList [108, 111, 103, 45] = true ∧ sN.size = 8 ∧ Go.Lib.parseUintB 32 sN.data.toList = .ok g := by
  have hp : Go.Lib.hasPrefix (strB (Nm g)).data.toList [108, 111, 103, 45] = true := by
    rw [strB_data, Nm_u8]
    rfl
  have ht : Go.Lib.trimPrefix (strB (Nm g)).data.toList [108, 111, 103, 45] = dgs 8 g := by
    unfold Go.Lib.trimPrefix
    rw [hp, strB_data, Nm_u8]
    rfl
  refine ⟨_, rfl, hp, ?_, ?_⟩
  · rw [ht]
    show (dgs 8 g).toArray.size = 8
    rw [List.size_toArray, dgs_len]
  · rw [ht]
    show Go.Lib.parseUintB 32 (dgs 8 g) = _
    unfold Go.Lib.parseUintB
    rw [if_neg (fun e => by have := dgs_len 8 g; rw [e] at this; simp at this)]
    have := parse_dgs 8 g (Nat.le_refl _)
    rw [show (2 ^ 32 - 1 : Nat) = 4294967295 by decide, this, Nat.mod_eq_of_lt (by omega)]

set_option maxRecDepth 4000 in
set_option maxHeartbeats 1000000 in
theorem genOf_Nm (g : Nat) (hg : g ≤ 99999999) (w : World) : Calls Tryz.prog 107 #[.string (strB (Nm g))] w fun e w' => e = .returned (.int .i64 (g : Int)) ∧ Below w.heap.size w w' := by
  obtain ⟨sN, e1, e2, e3, e4⟩ := gen_parts g hg
  have hc := Tryz.strings_CutPrefix (strB (Nm g)) { data := #[108, 111, 103, 45] } w
  have hc2 : (({ data := #[108, 111, 103, 45] } : ByteArray)).data.toList = [108, 111, 103, 45] := rfl
  rw [hc2, e1, e2] at hc
  have hp := fun X => Tryz.strconv_ParseUint_10_at32_ok sN (by rw [e3]; omega) g e4 X
  have h8 : ((sN.size : Int) != 8) = false := by rw [e3]; rfl
  have hg0 : (0 : Int) ≤ (g : Int) := by omega
  have hg1 : (g : Int) ≤ 9223372036854775807 := by omega
  have hnil : ∀ W : World, (binOp BinOp.neq 230 Value.nilIface Value.nilIface).run Tryz.prog W = .ok (.bool false) W := fun _ => rfl
  generalize strB (Nm g) = s at *
  clear e1 e2 e3 e4 hc2
  go_enter Tryz.func107, Tryz.ntmps107
  go_wp2_with (first | (go_at_call 137; refine hc.mono ?_; rintro e w9 ⟨rfl, rfl⟩) | (go_at_call 138; refine (hp _).mono ?_; rintro e w2 ⟨rfl, hw2⟩))
  go_ret
  refine ⟨rfl, ?_⟩
  rcases hw2 with rfl | rfl
  · exact Below.refl _ _
  · exact Go.Lib.bytesWorld_below _ _ _
end Go.Proofs.YtakcdgeanbpllaaGreatDoor.DJ


/- A drawer: lay, takes, Put. -/
namespace Go.Proofs.YtakcdgeanbpllaaGreatDoor.DJ
open Go.RowKit

/-- A drawer in memory. -/
def DwAt (W : World) (wb db sum g n : Nat) (stuck : Bool) : Prop := W.heap[wb]? = some (.cells #[.pointer (some ⟨db, 0, none⟩), .int .u32 (sum : Int), .int .i64 (g : Int), .int .i64 (n : Int), .bool stuck] 80 (0, 0))
theorem DwAt.lt {W : World} {wb db sum g n : Nat} {stuck : Bool} (h : DwAt W wb db sum g n stuck) : wb < W.heap.size := (Array.getElem?_eq_some_iff.1 h).1
theorem DwAt.cells {W : World} {wb db sum g n : Nat} {stuck : Bool} (h : DwAt W wb db sum g n stuck) : W.cell? ⟨wb, 0, none⟩ = some (.pointer (some ⟨db, 0, none⟩)) ∧ W.cell? ⟨wb, 1, none⟩ = some (.int .u32 (sum : Int)) ∧ W.cell? ⟨wb, 2, none⟩ = some (.int .i64 (g : Int)) ∧ W.cell? ⟨wb, 3, none⟩ = some (.int .i64 (n : Int)) ∧ W.cell? ⟨wb, 4, none⟩ = some (.bool stuck) :=
  ⟨cell_of_row _ _ 0 _ _ _ h, cell_of_row _ _ 1 _ _ _ h, cell_of_row _ _ 2 _ _ _ h, cell_of_row _ _ 3 _ _ _ h, cell_of_row _ _ 4 _ _ _ h⟩
theorem DwAt.grS {S : Nat → Prop} {W W' : World} {wb db sum g n : Nat} {stuck : Bool} (h : DwAt W wb db sum g n stuck) (hg : GrS S W W') (hn : ¬ S wb) : DwAt W' wb db sum g n stuck := (hg.block wb h.lt hn).trans h
theorem DwAt.later {W W' : World} {wb db sum g n : Nat} {stuck : Bool} (h : DwAt W wb db sum g n stuck) (hb : Below W.heap.size W W') : DwAt W' wb db sum g n stuck := (hb.block wb h.lt).trans h

theorem Nm_len (g : Nat) : (Nm g).length ≤ 4294967296 := by simp [Nm]
theorem Nm_lt (g : Nat) : ∀ x ∈ Nm g, x < 256 := named_lt (named_Nm g)
theorem DiskAt.low {S : Nat → Prop} {W : World} {lo db : Nat} {d : Dk} (h : DiskAt W lo S db d) : ∀ k, S k → lo ≤ k ∧ k < W.heap.size := fun k hk => by
  obtain ⟨mb, D, fb, vv, h⟩ := h
  exact ⟨h.low k hk, h.hi k hk⟩
theorem Dv.below' {S S' : Nat → Prop} {W W' : World} (h : Dv S W S' W') {lo : Nat} (hl : lo ≤ W.heap.size) (hs : ∀ k, S k → lo ≤ k ∧ k < W.heap.size) : Below lo W W' := h.gr.below hl (fun k hk => (hs k hk).1)

set_option maxRecDepth 4000 in
set_option maxHeartbeats 1000000 in
/-- Append, Sync. -/
theorem dlay_any {lo db wb sum g0 n : Nat} {stuck : Bool} {S : Nat → Prop} {d : Dk} (g : Nat) (hg : g ≤ 99999999) {data : List Nat} (hlen : data.length ≤ 140737488355328) (ad : Option Addr) (cap : Nat) (hcap : ad = none → cap = 0) (hcl : data.length ≤ cap) (w : World) (hlo : lo ≤ w.heap.size) (ht : TabL lo w) (hN : Byts w ad data) (hap : ∀ p, ad = some p → ¬ S p.block) (hw : DwAt w wb db sum g0 n stuck) (hwS : ¬ S wb) (h : DiskAt w lo S db d) :
    Calls Tryz.prog 32 #[.pointer (some ⟨wb, 0, none⟩), .int .i64 (g : Int), .slice ad data.length cap] w fun e w' => e = .returned (.int .i64 ((lays d (Nm g) data).1 : Nat)) ∧ ∃ S', DiskAt w' lo S' db (lays d (Nm g) data).2 ∧ Dv S w S' w' := by
  have hL := logName_any g hg lo w ht
  obtain ⟨rr, hrr⟩ : ∃ rr, lays d (Nm g) data = rr := ⟨_, rfl⟩
  rw [hrr]
  replace hrr := Hid.mk hrr
  obtain ⟨s, hs⟩ : ∃ s, strB (Nm g) = s := ⟨_, rfl⟩
  have hA := fun X hX => append_any (d := d) (Nm_len g) (Nm_lt g) hlen ad cap hcap hcl X (Nat.le_trans hlo (Below.size hX)) (hN.later hX) hap (h.later hX)
  have hY := fun (X : World) (S' : Nat → Prop) (d' : Dk) (h' : DiskAt X lo S' db d') => sync_any (Nm_len g) (Nm_lt g) X h'
  rw [hs] at hL
  simp only [hs] at hA hY
  obtain ⟨c0, -⟩ := hw.cells
  obtain ⟨r1, hr1⟩ : ∃ r1, append d (Nm g) data = r1 := ⟨_, rfl⟩
  simp only [hr1] at hA
  replace hr1 := Hid.mk hr1
  clear ht hN hs
  by_cases h0 : r1.1 = 0
  case neg =>
    have h0' : ((r1.1 : Int) != 0) = true := by rw [bne_iff_ne]; omega
    go_enter Tryz.func32, Tryz.ntmps32
    go_wp2_with (first | (go_at_call 54; refine hL.mono ?_; rintro e w1 ⟨rfl, hb1⟩; have c0' := (hb1.cell (p := ⟨wb, 0, none⟩) hw.lt).trans c0) | (go_at_call 55; refine (hA _ hb1).mono ?_; rintro e w2 ⟨rfl, S2, h2, hv2⟩))
    go_ret
    have e : rr = r1 := by rw [← hrr.out, lays, andThen, hr1.out, if_pos h0]
    rw [e]
    exact ⟨rfl, S2, h2, Dv.trans (.below hb1) hv2⟩
  have h0' : ((r1.1 : Int) != 0) = false := by rw [h0]; rfl
  go_enter Tryz.func32, Tryz.ntmps32
  go_wp2_with (first | (go_at_call 54; refine hL.mono ?_; rintro e w1 ⟨rfl, hb1⟩; have c0' := (hb1.cell (p := ⟨wb, 0, none⟩) hw.lt).trans c0) | (go_at_call 55; refine (hA _ hb1).mono ?_; rintro e w2 ⟨rfl, S2, h2, hv2⟩; have c0'' := (hv2.gr.cell (b := wb) (o := 0) (Nat.lt_of_lt_of_le hw.lt hb1.size) hwS).trans c0') | (go_at_call 56; refine (hY _ _ _ h2).mono ?_; rintro e w3 ⟨rfl, S3, h3, hv3⟩))
  go_ret
  have e : rr = sync r1.2 (Nm g) := by rw [← hrr.out, lays, andThen, hr1.out, if_neg (by omega)]
  rw [e]
  exact ⟨rfl, S3, h3, Dv.trans (.below hb1) (Dv.trans hv2 hv3)⟩

set_option maxRecDepth 4000 in
set_option maxHeartbeats 1000000 in
theorem takes_any {db wb sum g n : Nat} {stuck : Bool} (a : Option Addr) (k c : Nat) (w : World) (hw : DwAt w wb db sum g n stuck) :
    Calls Tryz.prog 31 #[.pointer (some ⟨wb, 0, none⟩), .slice a k c] w fun e w' => e = .returned (.int .i64 (if stuck then 196 else if 1048576 < k then 197 else 0 : Nat)) ∧ w' = w := by
  obtain ⟨-, -, -, -, c4⟩ := hw.cells
  clear hw
  cases stuck with
  | true =>
    go_enter Tryz.func31, Tryz.ntmps31
    go_wp2
    go_ret
    exact ⟨rfl, rfl⟩
  | false =>
    by_cases hk : 1048576 < k
    · have hk' : (1048576 : Int) < (k : Int) := by omega
      rw [if_neg (by decide), if_pos hk]
      go_enter Tryz.func31, Tryz.ntmps31
      go_wp2
      go_ret
      exact ⟨rfl, rfl⟩
    · have hk' : ¬ (1048576 : Int) < (k : Int) := by omega
      rw [if_neg (by decide), if_neg hk]
      go_enter Tryz.func31, Tryz.ntmps31
      go_wp2
      go_ret
      exact ⟨rfl, rfl⟩
end Go.Proofs.YtakcdgeanbpllaaGreatDoor.DJ

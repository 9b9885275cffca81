import Derived.Test.YtakcdgeanbpllaaGreatDoorDmQ
import Derived.Lib.ItoaMem
import Derived.Lib.AppendIntMem
import Derived.Laws.Concat
import Derived.Test.YtakcdgeanbpllaaGreatDoorDnC
import Derived.Deep.RegionHeld3
import Derived.Test.YtakcdgeanbpllaaGreatDoorDnA
/- logName, generationOf of such a name. -/
namespace Go.Proofs.YtakcdgeanbpllaaGreatDoor.DJ
open Go.RowKit

/-- The library's table of powers, whatever is made above lo. -/
def TabL (lo : Nat) (w : World) : Prop := ∀ X, Below lo w X → Go.Lib.TabIs Tryz.prog X "internal/strconv.uint64pow10" .u64 Go.Lib.pow10Tab
theorem TabL.next {lo : Nat} {w w' : World} (h : TabL lo w) (hb : Below lo w w') : TabL lo w' := fun X hX => h X (hb.trans hX)
theorem TabL.now {lo : Nat} {w : World} (h : TabL lo w) : Go.Lib.TabIs Tryz.prog w "internal/strconv.uint64pow10" .u64 Go.Lib.pow10Tab := h w (Below.refl _ _)

/-- The last k digits. -/
def dgs : Nat → Nat → List UInt8
  | 0, _ => []
  | k + 1, g => dgs k (g / 10) ++ [UInt8.ofNat (48 + g % 10)]
theorem dgs_len : ∀ k g, (dgs k g).length = k
  | 0, _ => rfl
  | k + 1, g => by simp [dgs, dgs_len k]
theorem rep_zero (n : Nat) : Go.Lib.repeatL [48] n = dgs n 0 := by
  induction n with
  | zero => rfl
  | succ n ih =>
    rw [show n + 1 = n + 1 from rfl, Go.Lib.repeatL_add, ih]
    rfl
theorem pad_is : ∀ (k g : Nat), 0 < k → g < 10 ^ k → Go.Lib.nDigits g ≤ k ∧ Go.Lib.repeatL [48] (k - Go.Lib.nDigits g) ++ Go.Lib.decDigits g = dgs k g
  | 0, _, h, _ => absurd h (by decide)
  | k + 1, g, _, hg => by
    by_cases h10 : g < 10
    · rw [Go.Lib.nDigits_small h10, Go.Lib.decDigits_one h10, show k + 1 - 1 = k by omega, rep_zero]
      refine ⟨by omega, ?_⟩
      simp only [dgs]
      rw [show g / 10 = 0 by omega, show g % 10 = g by omega]
    · have hk : 0 < k := by
        cases k with
        | zero => rw [Nat.zero_add, Nat.pow_one] at hg; exact absurd hg h10
        | succ k => omega
      obtain ⟨h1, h2⟩ := pad_is k (g / 10) hk (by rw [Nat.pow_succ] at hg; omega)
      rw [Go.Lib.nDigits_big h10]
      refine ⟨by omega, ?_⟩
      have : Go.Lib.decDigits g = Go.Lib.decDigits (g / 10) ++ [UInt8.ofNat (48 + g % 10)] := by
        conv => lhs; rw [Go.Lib.decDigits, dif_neg h10]
      rw [this, show k + 1 - (Go.Lib.nDigits (g / 10) + 1) = k - Go.Lib.nDigits (g / 10) by omega, ← List.append_assoc, h2]
      rfl
theorem Nm_u8 (g : Nat) : u8 (Nm g) = [108, 111, 103, 45] ++ dgs 8 g := by
  simp only [u8, Nm, List.map_cons, List.map_nil, dgs, List.nil_append, List.cons_append, Nat.div_div_eq_div_mul]
  rfl

end Go.Proofs.YtakcdgeanbpllaaGreatDoor.DJ


/- logName. -/
namespace Go.Proofs.YtakcdgeanbpllaaGreatDoor.DJ
open Go.RowKit

theorem logName_parts (g : Nat) (hg : g ≤ 99999999) : ∃ sD sR : ByteArray, (⟨(Go.Lib.decDigits g).toArray⟩ : ByteArray) = sD ∧ (⟨(Go.Lib.repeatL [48] (8 - sD.size)).toArray⟩ : ByteArray) = sR ∧ sD.size ≤ 8 ∧ sR.size ≤ 8 ∧ (({ data := #[108, 111, 103, 45] } : ByteArray) ++ sR) ++ sD = strB (Nm g) := by
  obtain ⟨h1, h2⟩ := pad_is 8 g (by decide) (by omega)
  have hsz : (⟨(Go.Lib.decDigits g).toArray⟩ : ByteArray).size = Go.Lib.nDigits g := by
    show (Go.Lib.decDigits g).toArray.size = _
    rw [List.size_toArray, Go.Lib.decDigits_length]
  refine ⟨_, _, rfl, rfl, by omega, ?_, ?_⟩
  · show (Go.Lib.repeatL [48] _).toArray.size ≤ 8
    rw [List.size_toArray, Go.Lib.repeatL_length]
    simp
  · rw [hsz, strB_mk, Nm_u8, ← h2]
    apply ByteArray.ext
    simp [ByteArray.data_append]
set_option maxRecDepth 4000 in
set_option maxHeartbeats 1000000 in
theorem logName_any (g : Nat) (hg : g ≤ 99999999) (lo : Nat) (w : World) (ht : TabL lo w) : Calls Tryz.prog 54 #[.int .i64 (g : Int)] w fun e w' => e = .returned (.string (strB (Nm g))) ∧ Below w.heap.size w w' := by
  have hi := Tryz.strconv_Itoa (g : Int) (by omega) (by omega) w ht.now
  rw [Go.Lib.itoa_nonneg] at hi
  obtain ⟨sD, sR, e1, e2, l1, l2, e3⟩ := logName_parts g hg
  rw [e1] at hi
  have hr := fun X => Tryz.strings_Repeat { data := #[48] } (8 - sD.size) X (by omega) (by show 1 * (8 - sD.size) ≤ _; omega)
  rw [show ((8 - sD.size : Nat) : Int) = 8 - (sD.size : Int) by omega] at hr
  have hr' : ∀ X, Calls Tryz.prog 114 #[.string { data := #[48] }, .int .i64 (8 - (sD.size : Int))] X fun e w' => e = .returned (.string sR) ∧ Below X.heap.size X w' := fun X => (hr X).mono (by rintro e w' ⟨rfl, h⟩; exact ⟨by rw [← e2], h⟩)
  rw [← e3]
  have l1' : (sD.size : Int) ≤ 8 := by omega
  have l0' : (0 : Int) ≤ (sD.size : Int) := by omega
  have hcat1 : ∀ W : World, (Op.stringOp .add ({ data := #[108, 111, 103, 45] } : ByteArray) sR).run Tryz.prog W = .ok (.string (({ data := #[108, 111, 103, 45] } : ByteArray) ++ sR)) W := fun W => run_string_add W _ _ (by decide) (by omega)
  have hsz4 : (({ data := #[108, 111, 103, 45] } : ByteArray) ++ sR).size ≤ 12 := by
    rw [ByteArray.size_append]
    show 4 + sR.size ≤ 12
    omega
  have hcat2 : ∀ W : World, (Op.stringOp .add (({ data := #[108, 111, 103, 45] } : ByteArray) ++ sR) sD).run Tryz.prog W = .ok (.string ((({ data := #[108, 111, 103, 45] } : ByteArray) ++ sR) ++ sD)) W := fun W => run_string_add W _ _ (by omega) (by omega)
  clear e1 e2 e3 hr ht l1 l2 hsz4
  go_enter Tryz.func54, Tryz.ntmps54
  go_wp2_with (first | (go_at_call 113; refine hi.mono ?_; rintro e w1 ⟨rfl, k, os, hw1⟩; have hb1 : Below w.heap.size w w1 := (by rw [hw1]; exact Go.Lib.below_grow _ _ (Nat.le_refl _) _ _); clear hw1) | (go_at_call 114; refine (hr' _).mono ?_; rintro e w2 ⟨rfl, hb2⟩))
  go_ret
  exact ⟨rfl, below_step hb1 hb2⟩
end Go.Proofs.YtakcdgeanbpllaaGreatDoor.DJ


/- generationOf, of a journal's name. -/
namespace Go.Proofs.YtakcdgeanbpllaaGreatDoor.DJ
open Go.RowKit

theorem parse_snoc (M : Nat) (c : UInt8) (hc : 48 ≤ c.toNat ∧ c.toNat ≤ 57) : ∀ (l : List UInt8) (acc v : Nat), Go.Lib.parseUintM M acc l = .ok v → v < 1844674407370955162 → v * 10 + (c.toNat - 48) ≤ M → Go.Lib.parseUintM M acc (l ++ [c]) = .ok (v * 10 + (c.toNat - 48))
  | [], acc, v, h, h1, h2 => by
    simp only [Go.Lib.parseUintM] at h
    cases h
    simp only [List.nil_append, Go.Lib.parseUintM]
    rw [if_pos hc, if_neg (by omega), if_neg (by omega)]
  | d :: l, acc, v, h, h1, h2 => by
    simp only [List.cons_append, Go.Lib.parseUintM] at h ⊢
    split at h
    · rename_i hd
      rw [if_pos hd]
      split at h
      · cases h
      · rename_i h3
        rw [if_neg h3]
        split at h
        · cases h
        · rename_i h4
          rw [if_neg h4]
          exact parse_snoc M c hc l _ v h h1 h2
    · cases h
theorem parse_dgs : ∀ (k g : Nat), k ≤ 8 → Go.Lib.parseUintM 4294967295 0 (dgs k g) = .ok (g % 10 ^ k)
  | 0, g, _ => by simp [dgs, Go.Lib.parseUintM, Nat.mod_one]
  | k + 1, g, hk => by
    have ih := parse_dgs k (g / 10) (by omega)
    have hp : 10 ^ k ≤ 10 ^ 7 := Nat.pow_le_pow_right (by decide) (by omega)
    have hp0 : 0 < 10 ^ k := Nat.pow_pos (by decide)
    have hm : g / 10 % 10 ^ k < 10 ^ k := Nat.mod_lt _ hp0
    have hn : (UInt8.ofNat (48 + g % 10)).toNat = 48 + g % 10 := by rw [UInt8.toNat_ofNat']; omega
    have e : g % 10 ^ (k + 1) = g / 10 % 10 ^ k * 10 + g % 10 := by
      rw [Nat.pow_succ, Nat.mul_comm (10 ^ k) 10, Nat.mod_mul]
      omega
    rw [e]
    have := parse_snoc 4294967295 (UInt8.ofNat (48 + g % 10)) (by rw [hn]; omega) (dgs k (g / 10)) 0 _ ih (by omega) (by rw [hn]; omega)
    rw [hn, show 48 + g % 10 - 48 = g % 10 by omega] at this
    exact this
theorem gen_parts (g : Nat) (hg : g ≤ 99999999) : ∃ sN : ByteArray, (⟨(Go.Lib.trimPrefix (strB (Nm g)).data.toList [108, 111, 103, 45]).toArray⟩ : ByteArray) = sN ∧ Go.Lib.hasPrefix (strB (Nm g)).data.toList [108, 111, 103, 45] = true ∧ sN.size = 8 ∧ Go.Lib.parseUintB 32 sN.data.toList = .ok g := by
  have hp : Go.Lib.hasPrefix (strB (Nm g)).data.toList [108, 111, 103, 45] = true := by
    rw [strB_data, Nm_u8]
    rfl
  have ht : Go.Lib.trimPrefix (strB (Nm g)).data.toList [108, 111, 103, 45] = dgs 8 g := by
    unfold Go.Lib.trimPrefix
    rw [hp, strB_data, Nm_u8]
    rfl
  refine ⟨_, rfl, hp, ?_, ?_⟩
  · rw [ht]
    show (dgs 8 g).toArray.size = 8
    rw [List.size_toArray, dgs_len]
  · rw [ht]
    show Go.Lib.parseUintB 32 (dgs 8 g) = _
    unfold Go.Lib.parseUintB
    rw [if_neg (fun e => by have := dgs_len 8 g; rw [e] at this; simp at this)]
    have := parse_dgs 8 g (Nat.le_refl _)
    rw [show (2 ^ 32 - 1 : Nat) = 4294967295 by decide, this, Nat.mod_eq_of_lt (by omega)]

set_option maxRecDepth 4000 in
set_option maxHeartbeats 1000000 in
theorem genOf_Nm (g : Nat) (hg : g ≤ 99999999) (w : World) : Calls Tryz.prog 107 #[.string (strB (Nm g))] w fun e w' => e = .returned (.int .i64 (g : Int)) ∧ Below w.heap.size w w' := by
  obtain ⟨sN, e1, e2, e3, e4⟩ := gen_parts g hg
  have hc := Tryz.strings_CutPrefix (strB (Nm g)) { data := #[108, 111, 103, 45] } w
  have hc2 : (({ data := #[108, 111, 103, 45] } : ByteArray)).data.toList = [108, 111, 103, 45] := rfl
  rw [hc2, e1, e2] at hc
  have hp := fun X => Tryz.strconv_ParseUint_10_at32_ok sN (by rw [e3]; omega) g e4 X
  have h8 : ((sN.size : Int) != 8) = false := by rw [e3]; rfl
  have hg0 : (0 : Int) ≤ (g : Int) := by omega
  have hg1 : (g : Int) ≤ 9223372036854775807 := by omega
  have hnil : ∀ W : World, (binOp BinOp.neq 230 Value.nilIface Value.nilIface).run Tryz.prog W = .ok (.bool false) W := fun _ => rfl
  generalize strB (Nm g) = s at *
  clear e1 e2 e3 e4 hc2
  go_enter Tryz.func107, Tryz.ntmps107
  go_wp2_with (first | (go_at_call 137; refine hc.mono ?_; rintro e w9 ⟨rfl, rfl⟩) | (go_at_call 138; refine (hp _).mono ?_; rintro e w2 ⟨rfl, hw2⟩))
  go_ret
  refine ⟨rfl, ?_⟩
  rcases hw2 with rfl | rfl
  · exact Below.refl _ _
  · exact Go.Lib.bytesWorld_below _ _ _
end Go.Proofs.YtakcdgeanbpllaaGreatDoor.DJ


/- A drawer: lay, takes, Put. -/
namespace Go.Proofs.YtakcdgeanbpllaaGreatDoor.DJ
open Go.RowKit

/-- A drawer in memory. -/
def DwAt (W : World) (wb db sum g n : Nat) (stuck : Bool) : Prop := W.heap[wb]? = some (.cells #[.pointer (some ⟨db, 0, none⟩), .int .u32 (sum : Int), .int .i64 (g : Int), .int .i64 (n : Int), .bool stuck] 80 (0, 0))
theorem DwAt.lt {W : World} {wb db sum g n : Nat} {stuck : Bool} (h : DwAt W wb db sum g n stuck) : wb < W.heap.size := (Array.getElem?_eq_some_iff.1 h).1
theorem DwAt.cells {W : World} {wb db sum g n : Nat} {stuck : Bool} (h : DwAt W wb db sum g n stuck) : W.cell? ⟨wb, 0, none⟩ = some (.pointer (some ⟨db, 0, none⟩)) ∧ W.cell? ⟨wb, 1, none⟩ = some (.int .u32 (sum : Int)) ∧ W.cell? ⟨wb, 2, none⟩ = some (.int .i64 (g : Int)) ∧ W.cell? ⟨wb, 3, none⟩ = some (.int .i64 (n : Int)) ∧ W.cell? ⟨wb, 4, none⟩ = some (.bool stuck) :=
  ⟨cell_of_row _ _ 0 _ _ _ h, cell_of_row _ _ 1 _ _ _ h, cell_of_row _ _ 2 _ _ _ h, cell_of_row _ _ 3 _ _ _ h, cell_of_row _ _ 4 _ _ _ h⟩
theorem DwAt.grS {S : Nat → Prop} {W W' : World} {wb db sum g n : Nat} {stuck : Bool} (h : DwAt W wb db sum g n stuck) (hg : GrS S W W') (hn : ¬ S wb) : DwAt W' wb db sum g n stuck := (hg.block wb h.lt hn).trans h
theorem DwAt.later {W W' : World} {wb db sum g n : Nat} {stuck : Bool} (h : DwAt W wb db sum g n stuck) (hb : Below W.heap.size W W') : DwAt W' wb db sum g n stuck := (hb.block wb h.lt).trans h

theorem Nm_len (g : Nat) : (Nm g).length ≤ 4294967296 := by simp [Nm]
theorem Nm_lt (g : Nat) : ∀ x ∈ Nm g, x < 256 := named_lt (named_Nm g)
theorem DiskAt.low {S : Nat → Prop} {W : World} {lo db : Nat} {d : Dk} (h : DiskAt W lo S db d) : ∀ k, S k → lo ≤ k ∧ k < W.heap.size := fun k hk => by
  obtain ⟨mb, D, fb, vv, h⟩ := h
  exact ⟨h.low k hk, h.hi k hk⟩
theorem Dv.below' {S S' : Nat → Prop} {W W' : World} (h : Dv S W S' W') {lo : Nat} (hl : lo ≤ W.heap.size) (hs : ∀ k, S k → lo ≤ k ∧ k < W.heap.size) : Below lo W W' := h.gr.below hl (fun k hk => (hs k hk).1)

set_option maxRecDepth 4000 in
set_option maxHeartbeats 1000000 in
/-- Append, Sync. -/
theorem dlay_any {lo db wb sum g0 n : Nat} {stuck : Bool} {S : Nat → Prop} {d : Dk} (g : Nat) (hg : g ≤ 99999999) {data : List Nat} (hlen : data.length ≤ 140737488355328) (ad : Option Addr) (cap : Nat) (hcap : ad = none → cap = 0) (hcl : data.length ≤ cap) (w : World) (hlo : lo ≤ w.heap.size) (ht : TabL lo w) (hN : Byts w ad data) (hap : ∀ p, ad = some p → ¬ S p.block) (hw : DwAt w wb db sum g0 n stuck) (hwS : ¬ S wb) (h : DiskAt w lo S db d) :
    Calls Tryz.prog 32 #[.pointer (some ⟨wb, 0, none⟩), .int .i64 (g : Int), .slice ad data.length cap] w fun e w' => e = .returned (.int .i64 ((lays d (Nm g) data).1 : Nat)) ∧ ∃ S', DiskAt w' lo S' db (lays d (Nm g) data).2 ∧ Dv S w S' w' := by
  have hL := logName_any g hg lo w ht
  obtain ⟨rr, hrr⟩ : ∃ rr, lays d (Nm g) data = rr := ⟨_, rfl⟩
  rw [hrr]
  replace hrr := Hid.mk hrr
  obtain ⟨s, hs⟩ : ∃ s, strB (Nm g) = s := ⟨_, rfl⟩
  have hA := fun X hX => append_any (d := d) (Nm_len g) (Nm_lt g) hlen ad cap hcap hcl X (Nat.le_trans hlo (Below.size hX)) (hN.later hX) hap (h.later hX)
  have hY := fun (X : World) (S' : Nat → Prop) (d' : Dk) (h' : DiskAt X lo S' db d') => sync_any (Nm_len g) (Nm_lt g) X h'
  rw [hs] at hL
  simp only [hs] at hA hY
  obtain ⟨c0, -⟩ := hw.cells
  obtain ⟨r1, hr1⟩ : ∃ r1, append d (Nm g) data = r1 := ⟨_, rfl⟩
  simp only [hr1] at hA
  replace hr1 := Hid.mk hr1
  clear ht hN hs
  by_cases h0 : r1.1 = 0
  case neg =>
    have h0' : ((r1.1 : Int) != 0) = true := by rw [bne_iff_ne]; omega
    go_enter Tryz.func32, Tryz.ntmps32
    go_wp2_with (first | (go_at_call 54; refine hL.mono ?_; rintro e w1 ⟨rfl, hb1⟩; have c0' := (hb1.cell (p := ⟨wb, 0, none⟩) hw.lt).trans c0) | (go_at_call 55; refine (hA _ hb1).mono ?_; rintro e w2 ⟨rfl, S2, h2, hv2⟩))
    go_ret
    have e : rr = r1 := by rw [← hrr.out, lays, andThen, hr1.out, if_pos h0]
    rw [e]
    exact ⟨rfl, S2, h2, Dv.trans (.below hb1) hv2⟩
  have h0' : ((r1.1 : Int) != 0) = false := by rw [h0]; rfl
  go_enter Tryz.func32, Tryz.ntmps32
  go_wp2_with (first | (go_at_call 54; refine hL.mono ?_; rintro e w1 ⟨rfl, hb1⟩; have c0' := (hb1.cell (p := ⟨wb, 0, none⟩) hw.lt).trans c0) | (go_at_call 55; refine (hA _ hb1).mono ?_; rintro e w2 ⟨rfl, S2, h2, hv2⟩; have c0'' := (hv2.gr.cell (b := wb) (o := 0) (Nat.lt_of_lt_of_le hw.lt hb1.size) hwS).trans c0') | (go_at_call 56; refine (hY _ _ _ h2).mono ?_; rintro e w3 ⟨rfl, S3, h3, hv3⟩))
  go_ret
  have e : rr = sync r1.2 (Nm g) := by rw [← hrr.out, lays, andThen, hr1.out, if_neg (by omega)]
  rw [e]
  exact ⟨rfl, S3, h3, Dv.trans (.below hb1) (Dv.trans hv2 hv3)⟩

set_option maxRecDepth 4000 in
set_option maxHeartbeats 1000000 in
theorem takes_any {db wb sum g n : Nat} {stuck : Bool} (a : Option Addr) (k c : Nat) (w : World) (hw : DwAt w wb db sum g n stuck) :
    Calls Tryz.prog 31 #[.pointer (some ⟨wb, 0, none⟩), .slice a k c] w fun e w' => e = .returned (.int .i64 (if stuck then 196 else if 1048576 < k then 197 else 0 : Nat)) ∧ w' = w := by
  obtain ⟨-, -, -, -, c4⟩ := hw.cells
  clear hw
  cases stuck with
  | true =>
    go_enter Tryz.func31, Tryz.ntmps31
    go_wp2
    go_ret
    exact ⟨rfl, rfl⟩
  | false =>
    by_cases hk : 1048576 < k
    · have hk' : (1048576 : Int) < (k : Int) := by omega
      rw [if_neg (by decide), if_pos hk]
      go_enter Tryz.func31, Tryz.ntmps31
      go_wp2
      go_ret
      exact ⟨rfl, rfl⟩
    · have hk' : ¬ (1048576 : Int) < (k : Int) := by omega
      rw [if_neg (by decide), if_neg hk]
      go_enter Tryz.func31, Tryz.ntmps31
      go_wp2
      go_ret
      exact ⟨rfl, rfl⟩
end Go.Proofs.YtakcdgeanbpllaaGreatDoor.DJ


/- Put. -/
namespace Go.Proofs.YtakcdgeanbpllaaGreatDoor.DJ
open Go.RowKit

/-- A disk and its drawer have moved on. -/
structure Dw (S : Nat → Prop) (wb : Nat) (W : World) (S' : Nat → Prop) (W' : World) : Prop where
  gr : GrS (fun k => S k ∨ k = wb) W W'
  sub : ∀ k, S' k → S k ∨ W.heap.size ≤ k
theorem Dv.dw {S S' : Nat → Prop} {W W' : World} (h : Dv S W S' W') (wb : Nat) : Dw S wb W S' W' := ⟨h.gr.mono (fun _ _ e => .inl e), h.sub⟩
theorem Dw.set {S S' : Nat → Prop} {W X : World} {wb : Nat} (h : Dw S wb W S' X) (o : Nat) (v : Value) : Dw S wb W S' (X.setCell ⟨wb, o, none⟩ v) := ⟨h.gr.trans ((grS_set X wb o v).mono (fun _ _ e => .inr e)), h.sub⟩
theorem own_block {w : World} {base n : Nat} {p : Option Addr} {m c : Nat} {xs : List Value} (h : w.ownsRow base 5 1 (.slice p m c) n xs) {q : Addr} (hq : p = some q) : base ≤ q.block := by
  subst hq
  exact (own_row h (g := q.block) rfl).1

/-- What Put answers: the error, the disk, the records behind, whether it is stuck. -/
def putR (d : Dk) (sum g n : Nat) (stuck : Bool) (r : Rec) : Nat × Dk × Nat × Bool :=
  if stuck then (196, d, n, true) else if 1048576 < r.2.length then (197, d, n, false)
  else if (putD d sum g n r).1 = 0 then (0, (putD d sum g n r).2, n + 1, false) else ((putD d sum g n r).1, (putD d sum g n r).2, n, true)

set_option maxRecDepth 4000 in
set_option maxHeartbeats 1000000 in
theorem put_any {lo db wb sum g n : Nat} {stuck : Bool} {S : Nat → Prop} {d : Dk} (hg : g ≤ 99999999) (hsum : sum < 4294967296) (hn : n + 1 < 4294967296) (kind : Nat) (hk : kind < 256) (bs : List Nat) (hlen : bs.length ≤ 140737488355328) (a : Option Addr) (c : Nat) (hc : a = none → c = 0) (w : World) (hlo : lo ≤ w.heap.size) (ht : TabL lo w) (hN : Byts w a bs) (hw : DwAt w wb db sum g n stuck) (hwS : ¬ S wb) (hwl : lo ≤ wb) (h : DiskAt w lo S db d) :
    Calls Tryz.prog 12 #[.pointer (some ⟨wb, 0, none⟩), .agg #[.int .u8 (kind : Int), .slice a bs.length c]] w fun e w' => e = .returned (.int .i64 ((putR d sum g n stuck (kind, bs)).1 : Nat)) ∧ ∃ S', DiskAt w' lo S' db (putR d sum g n stuck (kind, bs)).2.1 ∧ DwAt w' wb db sum g (putR d sum g n stuck (kind, bs)).2.2.1 (putR d sum g n stuck (kind, bs)).2.2.2 ∧ Dw S wb w S' w' := by
  obtain ⟨W1, hW1⟩ : ∃ W1, w.alloc (.cells #[.int .u8 (kind : Int), .slice a bs.length c] 38) = W1 := ⟨_, rfl⟩
  have b0 : Below w.heap.size w W1 := by rw [← hW1]; exact (Below.refl _ _).alloc (Nat.le_refl _) _
  have r0 : W1.heap[w.heap.size]? = some (.cells #[.int .u8 (kind : Int), .slice a bs.length c] 38 (0, 0)) := by rw [← hW1]; exact heap_new w _
  have k0 : W1.cell? ⟨w.heap.size, 0, none⟩ = some (.int .u8 (kind : Int)) := cell_of_row _ _ 0 _ _ _ r0
  have k1 : W1.cell? ⟨w.heap.size, 1, none⟩ = some (.slice a bs.length c) := cell_of_row _ _ 1 _ _ _ r0
  have hw1 := hw.later b0
  have hD1 := h.later b0
  have hSl := h.low
  have hT := takes_any a bs.length c W1 hw1
  obtain ⟨c0, c1, c2, c3, c4⟩ := hw1.cells
  cases stuck with
  | true =>
    have e : putR d sum g n true (kind, bs) = (196, d, n, true) := rfl
    rw [e]
    rw [if_pos rfl] at hT
    have hF : Hid (∃ S', DiskAt W1 lo S' db d ∧ DwAt W1 wb db sum g n true ∧ Dw S wb w S' W1) := ⟨S, hD1, hw1, (Dv.below b0).dw wb⟩
    clear hD1 hw1 h hw hN b0 r0 e
    go_enter Tryz.func12, Tryz.ntmps12
    go_wp2_with (go_at_call 31; refine hT.mono ?_; rintro e w9 ⟨rfl, rfl⟩)
    go_ret
    exact ⟨rfl, hF.out⟩
  | false =>
    rw [if_neg (by decide)] at hT
    by_cases hl : 1048576 < bs.length
    · have e : putR d sum g n false (kind, bs) = (197, d, n, false) := by unfold putR; rw [if_neg (by decide), if_pos hl]
      rw [e]
      rw [if_pos hl] at hT
      have hF : Hid (∃ S', DiskAt W1 lo S' db d ∧ DwAt W1 wb db sum g n false ∧ Dw S wb w S' W1) := ⟨S, hD1, hw1, (Dv.below b0).dw wb⟩
      clear hD1 hw1 h hw hN b0 r0 e
      go_enter Tryz.func12, Tryz.ntmps12
      go_wp2_with (go_at_call 31; refine hT.mono ?_; rintro e w9 ⟨rfl, rfl⟩)
      go_ret
      exact ⟨rfl, hF.out⟩
    rw [if_neg hl] at hT
    obtain ⟨P, hP⟩ : ∃ P, putR d sum g n false (kind, bs) = P := ⟨_, rfl⟩
    have hPe : P = if (putD d sum g n (kind, bs)).1 = 0 then (0, (putD d sum g n (kind, bs)).2, n + 1, false) else ((putD d sum g n (kind, bs)).1, (putD d sum g n (kind, bs)).2, n, true) := by
      rw [← hP]; unfold putR; rw [if_neg (by decide), if_neg hl]
    rw [hP]
    clear hP
    obtain ⟨r, hr⟩ : ∃ r, putD d sum g n (kind, bs) = r := ⟨_, rfl⟩
    rw [hr] at hPe
    replace hPe := Hid.mk hPe
    have hlo1 : lo ≤ W1.heap.size := Nat.le_trans hlo b0.size
    have ht1 : TabL lo W1 := ht.next (b0.mono hlo)
    have hB := pbytes_any (n + 1) sum kind hn hsum hk a c hc bs (by omega) W1.drew ((hN.later b0).later ((Below.refl _ _).drew))
    rw [show ((n + 1 : Nat) : Int) = (n : Int) + 1 by omega] at hB
    have hq : ∀ X, Below W1.heap.size W1 X → X.cell? ⟨w.heap.size, 0, none⟩ = some (.int .u8 (kind : Int)) ∧ X.cell? ⟨w.heap.size, 1, none⟩ = some (.slice a bs.length c) ∧ X.cell? ⟨wb, 1, none⟩ = some (.int .u32 (sum : Int)) ∧ X.cell? ⟨wb, 2, none⟩ = some (.int .i64 (g : Int)) ∧ X.cell? ⟨wb, 3, none⟩ = some (.int .i64 (n : Int)) := fun X hX =>
      ⟨(hX.cell (p := ⟨w.heap.size, 0, none⟩) (World.block_lt_of_cell? _ _ k0)).trans k0, (hX.cell (p := ⟨w.heap.size, 1, none⟩) (World.block_lt_of_cell? _ _ k1)).trans k1, (hX.cell (p := ⟨wb, 1, none⟩) hw1.lt).trans c1, (hX.cell (p := ⟨wb, 2, none⟩) hw1.lt).trans c2, (hX.cell (p := ⟨wb, 3, none⟩) hw1.lt).trans c3⟩
    have B1 : Below W1.heap.size W1 W1.drew := (Below.refl _ _).drew
    have hq0 := hq _ B1
    have hL := fun (X : World) (hX : Below W1.heap.size W1 X) (ad : Option Addr) (cap : Nat) (hcap : ad = none → cap = 0) (hcl : bs.length + 18 ≤ cap) (hby : Byts X ad (piece (n + 1) sum kind bs)) (hap : ∀ p, ad = some p → ¬ S p.block) => dlay_any g hg (data := piece (n + 1) sum kind bs) (by rw [piece_len]; omega) ad cap hcap (by rw [piece_len]; exact hcl) X (Nat.le_trans hlo1 hX.size) (ht1.next (hX.mono hlo1)) hby hap (hw1.later hX) hwS (hD1.later hX)
    rw [piece_len] at hL
    have hr' : lays d (Nm g) (piece (n + 1) sum kind bs) = r := hr
    simp only [hr'] at hL
    have hpb : ∀ x ∈ piece (n + 1) sum kind bs, x < 256 := piece_bytes hk hN.1
    have hkeep : ∀ S' X Y, Below W1.heap.size W1 X → Dv S X S' Y → Y.cell? ⟨w.heap.size, 0, none⟩ = some (.int .u8 (kind : Int)) ∧ Y.cell? ⟨w.heap.size, 1, none⟩ = some (.slice a bs.length c) ∧ Y.cell? ⟨wb, 1, none⟩ = some (.int .u32 (sum : Int)) ∧ Y.cell? ⟨wb, 2, none⟩ = some (.int .i64 (g : Int)) ∧ Y.cell? ⟨wb, 3, none⟩ = some (.int .i64 (n : Int)) := fun S' X Y hX hv => by
      obtain ⟨q0, q1, q2, q3, q4⟩ := hq X hX
      have hnb : ¬ S w.heap.size := fun e => by have := (hSl _ e).2; omega
      have hl1 := World.block_lt_of_cell? _ _ q0
      have hl2 := World.block_lt_of_cell? _ _ q2
      exact ⟨(hv.gr.cell hl1 hnb).trans q0, (hv.gr.cell hl1 hnb).trans q1, (hv.gr.cell hl2 hwS).trans q2, (hv.gr.cell hl2 hwS).trans q3, (hv.gr.cell hl2 hwS).trans q4⟩
    have hnI : (n : Int) + 1 < 4294967296 := by omega
    have hn0 : (0 : Int) ≤ (n : Int) := by omega
    have hwr : IntKind.i64.wrap ((n : Int) + 1) = (n : Int) + 1 := by rw [IntKind.wrap_i64]; omega
    have hW1S : ∀ k, S k → k < W1.heap.size := fun k hk => Nat.lt_of_lt_of_le (hSl k hk).2 b0.size
    replace hL := Hid.mk hL
    replace hpb := Hid.mk hpb
    replace hkeep := Hid.mk hkeep
    replace hq := Hid.mk hq
    go_enter Tryz.func12, Tryz.ntmps12
    go_wp2_with (go_at_call 31; refine hT.mono ?_; rintro e w9 ⟨rfl, hw9⟩; subst w9; clear hT)
    go_region_held3 (fun X => X.cell? ⟨w.heap.size, 0, none⟩ = some (.int .u8 (kind : Int)) ∧ X.cell? ⟨w.heap.size, 1, none⟩ = some (.slice a bs.length c) ∧ X.cell? ⟨wb, 1, none⟩ = some (.int .u32 (sum : Int)) ∧ X.cell? ⟨wb, 2, none⟩ = some (.int .i64 (g : Int)) ∧ X.cell? ⟨wb, 3, none⟩ = some (.int .i64 (n : Int))) (with_reducible assumption) (first | (go_at_call 33; refine hB.mono ?_; rintro e w2 ⟨v2, rfl, ho2, hb2⟩; have Bb : Below W1.heap.size W1 w2 := B1.trans (hb2.mono B1.size); have hs2 := hq.out _ Bb; obtain ⟨p2, cc2, rfl⟩ := own_lenB ho2; have ho3 := own_pos ho2; have hby2 : Hid (Byts w2 p2 (piece (n + 1) sum kind bs)) := ⟨byts_of_own (n := bs.length + 18) hpb.out (by rw [piece_len]; exact ho2)⟩; have hap2 : Hid (∀ p, p2 = some p → ¬ S p.block) := ⟨fun p hp hS => (by have h1 := own_block ho2 hp; have h2 := hW1S _ hS; have h3 := B1.size; omega)⟩; clear hB ho2) | (go_at_call 32; refine (hL.out w2 Bb p2 cc2 ho3.1 ho3.2.1 hby2.out hap2.out).mono ?_; rintro e w3 ⟨rfl, S3, h3, hv3⟩; have hs3 := hkeep.out _ _ _ Bb hv3))
    have hDW : DwAt w3 wb db sum g n false := ((hw1.later Bb)).grS hv3.gr hwS
    have hDv : Dv S w S3 w3 := Dv.trans (.below (b0.trans (Bb.mono b0.size))) hv3
    obtain ⟨d0, d1, d2, d3, d4⟩ := hDW.cells
    have f3 := frozen_of_row w3 wb 3 _ _ hDW
    have f4 := frozen_of_row w3 wb 4 _ _ hDW
    have hwl3 : ∀ k, S3 k → k ≠ wb := fun k hk e => by
      subst e
      rcases hDv.sub _ hk with h' | h'
      · exact hwS h'
      · have := hw.lt; omega
    by_cases hz : r.1 = 0
    · have hz' : ((r.1 : Int) != 0) = false := by rw [hz]; rfl
      go_wp2
      go_ret
      have hPo := hPe.out
      rw [if_pos hz] at hPo
      subst hPo
      refine ⟨rfl, S3, h3.grS (grS_set w3 wb 3 _) (fun k hk e => hwl3 k hk e), ?_, (hDv.dw wb).set 3 _⟩
      show (w3.setCell ⟨wb, 3, none⟩ (.int .i64 ((n : Int) + 1))).heap[wb]? = _
      rw [heap_setCell_same _ _ _ _ _ _ hDW]
      rfl
    · have hz' : ((r.1 : Int) != 0) = true := by rw [bne_iff_ne]; omega
      go_wp2
      go_ret
      have hPo := hPe.out
      rw [if_neg hz] at hPo
      subst hPo
      refine ⟨rfl, S3, h3.grS (grS_set w3 wb 4 _) (fun k hk e => hwl3 k hk e), ?_, (hDv.dw wb).set 4 _⟩
      show (w3.setCell ⟨wb, 4, none⟩ (.bool true)).heap[wb]? = _
      rw [heap_setCell_same _ _ _ _ _ _ hDW]
      rfl
end Go.Proofs.YtakcdgeanbpllaaGreatDoor.DJ


/- Restart: what is cut file by file. -/
namespace Go.Proofs.YtakcdgeanbpllaaGreatDoor.DJ
open Go.RowKit

theorem cuts_append (keep : List Int) : ∀ (i : Nat) (a b : List Fl), cuts keep i (a ++ b) = cuts keep i a ++ cuts keep (i + a.length) b
  | _, [], _ => by simp [cuts]
  | i, f :: a, b => by
    simp only [List.cons_append, cuts, cuts_append keep (i + 1) a b, List.length_cons]
    rw [show i + 1 + a.length = i + (a.length + 1) by omega]
def part (keep : List Int) (fs : List Fl) (i : Nat) : List Fl := cuts keep 0 (fs.take i) ++ fs.drop i
theorem part_zero (keep : List Int) (fs : List Fl) : part keep fs 0 = fs := by simp [part, cuts]
theorem part_all (keep : List Int) (fs : List Fl) : part keep fs fs.length = cuts keep 0 fs := by simp [part]
theorem part_names (keep : List Int) (fs : List Fl) (i : Nat) : (part keep fs i).map (·.nm) = fs.map (·.nm) := by
  unfold part
  rw [List.map_append, cuts_names, ← List.map_append, List.take_append_drop]
theorem part_mem (keep : List Int) {fs : List Fl} {i : Nat} (h : i < fs.length) : fs[i] ∈ part keep fs i := by
  unfold part
  rw [List.drop_eq_getElem_cons h]
  exact List.mem_append_right _ List.mem_cons_self
theorem part_step (keep : List Int) {fs : List Fl} (hs : Srt fs) {i : Nat} (h : i < fs.length) : upd (part keep fs i) fs[i].nm (fun _ => cutF (keep.getD (i % keep.length) 0) fs[i]) = part keep fs (i + 1) := by
  have hp := List.pairwise_iff_getElem.1 hs
  have e1 : part keep fs i = cuts keep 0 (fs.take i) ++ fs[i] :: fs.drop (i + 1) := by unfold part; rw [List.drop_eq_getElem_cons h]
  have e2 : part keep fs (i + 1) = cuts keep 0 (fs.take i) ++ cutF (keep.getD (i % keep.length) 0) fs[i] :: fs.drop (i + 1) := by
    unfold part
    rw [List.take_succ_eq_append_getElem h, cuts_append, List.length_take, Nat.min_eq_left (by omega), Nat.zero_add]
    simp [cuts]
  have n1 : ∀ x ∈ cuts keep 0 (fs.take i), x.nm ≠ fs[i].nm := fun x hx => by
    obtain ⟨y, hy, k, rfl⟩ := mem_cuts hx
    obtain ⟨j, hj, e⟩ := List.mem_iff_getElem.1 hy
    rw [List.length_take] at hj
    rw [List.getElem_take] at e
    have := hp j i (by omega) h (by omega)
    rw [e] at this
    exact ltB_ne this
  have n2 : ∀ x ∈ fs.drop (i + 1), x.nm ≠ fs[i].nm := fun x hx => by
    obtain ⟨j, hj, e⟩ := List.mem_iff_getElem.1 hx
    rw [List.length_drop] at hj
    rw [List.getElem_drop] at e
    have := hp i (i + 1 + j) h (by omega) (by omega)
    rw [e] at this
    exact (ltB_ne this).symm
  rw [e1, e2]
  have e3 : ∀ (A B : List Fl) (x : Fl) (g : Fl → Fl), upd (A ++ x :: B) x.nm g = upd A x.nm g ++ g x :: upd B x.nm g := fun A B x g => by simp [upd]
  rw [e3, upd_not n1, upd_not n2]

/-- A list of ints that came in. -/
def KpAt (w : World) (a : Option Addr) (ks : List Int) : Prop := ks = [] ∨ ∃ b off, a = some ⟨b, off, none⟩ ∧ b < w.heap.size ∧ ∀ i (h : i < ks.length), w.cell? ⟨b, off + i, none⟩ = some (.int .i64 ks[i])
theorem KpAt.grS {S : Nat → Prop} {W W' : World} {a : Option Addr} {ks : List Int} (h : KpAt W a ks) (hg : GrS S W W') (hn : ∀ p, a = some p → ¬ S p.block) : KpAt W' a ks := by
  rcases h with h | ⟨b, off, rfl, hl, hc⟩
  · exact .inl h
  · exact .inr ⟨b, off, rfl, Nat.lt_of_lt_of_le hl hg.size, fun i hi => (hg.cell hl (hn _ rfl)).trans (hc i hi)⟩
end Go.Proofs.YtakcdgeanbpllaaGreatDoor.DJ


/- Restart. -/
namespace Go.Proofs.YtakcdgeanbpllaaGreatDoor.DJ
open Go.RowKit

theorem cut_is {f : Fl} {k : Int} {n : Nat} (hs : f.sure ≤ f.dat.length) (hn : n = f.sure + min k.toNat (f.dat.length - f.sure)) : syncF (cutTo n f) = cutF k f := by
  unfold cutTo syncF cutF
  rw [← hn]
  split
  · simp only [List.length_take]
    rw [Nat.min_eq_left (by omega)]
  · rename_i h
    have e : n = f.dat.length := by omega
    rw [e, List.take_length]

set_option maxRecDepth 4000 in
set_option maxHeartbeats 1000000 in
theorem restart_any {lo db : Nat} {S : Nat → Prop} {d : Dk} (ks : List Int) (hkl : ks.length ≤ 4611686018427387904) (a : Option Addr) (cap : Nat) (w : World) (hlo : lo ≤ w.heap.size) (hK : KpAt w a ks) (hap : ∀ p, a = some p → ¬ S p.block) (h : DiskAt w lo S db d) :
    Calls Tryz.prog 19 #[.pointer (some ⟨db, 0, none⟩), .slice a ks.length cap] w fun e w' => e = .returned (.tuple #[]) ∧ ∃ S', DiskAt w' lo S' db (restart d ks) ∧ Dv S w S' w' := by
  have hC := crash_any w h
  have hSl := h.low
  have hSd : S db := by
    obtain ⟨mb, D, fb, vv, h⟩ := h
    exact h.Sdb
  have hok : Ok d := by
    obtain ⟨mb, D, fb, vv, h⟩ := h
    exact h.ok
  have h40 := hok.len
  go_enter Tryz.func19, Tryz.ntmps19
  go_wp2_with (first | (go_at_call 37; refine hC.mono ?_; rintro e w1 ⟨rfl, hD1, hg1⟩; clear hC) | (go_at_call 34; refine (names_any w1 hD1).mono ?_; rintro e w2 ⟨v, rfl, hrow, hb2⟩; obtain ⟨p, c, rfl⟩ := own_lenB hrow))
  have hrow' : w2.ownsRow w1.heap.size 9 1 (.slice p d.fs.length c) d.fs.length (nmV d.fs) := hrow
  have hD2 := hD1.later hb2
  have hv2 : Dv S w S w2 := ⟨(hg1.mono (fun k _ e => e ▸ hSd)).trans (.of_below hb2), fun _ h => .inl h⟩
  have hpS : ∀ q, p = some q → ¬ S q.block ∧ q.block < w2.heap.size := fun q hq => by
    subst hq
    obtain ⟨-, ⟨e, -⟩ | ⟨gg, cc, cur, e, hb, r, -⟩⟩ := hrow'
    · cases e
    · injection e with e1
      injection e1 with e1
      subst e1
      refine ⟨fun hS => ?_, (Array.getElem?_eq_some_iff.1 r).1⟩
      have h1 : gg < w.heap.size := (hSl _ hS).2
      have h2 := hg1.size
      have h3 : w1.heap.size ≤ gg := hb
      omega
  have hlo2 : lo ≤ w2.heap.size := Nat.le_trans hlo hv2.gr.size
  have hK2 : KpAt w2 a ks := hK.grS hv2.gr hap
  clear hrow hD1 hb2 hg1
  go_loopw [13] (fun v wr => ∃ i : Nat, i ≤ d.fs.length ∧ v = .int .i64 (i : Int) ∧ ∃ S', DiskAt wr lo S' db ⟨part ks d.fs i, true, none, 0, 0⟩ ∧ Dv S w2 S' wr) (fun v _ => d.fs.length - (intOf v).toNat)
  case atStart =>
    refine ⟨0, Nat.zero_le _, rfl, S, ?_, .refl _ _⟩
    rw [part_zero]
    exact hD2
  case round =>
    obtain ⟨i, hi, rfl, S', hDr, hvr⟩ := hrel
    clear hD2
    by_cases hlt : i < d.fs.length
    · have hlt' : (i : Int) < (d.fs.length : Int) := by omega
      have hi0 : (0 : Int) ≤ (i : Int) := by omega
      have hin := part_mem ks hlt
      have hstep := part_step ks hok.srt hlt
      obtain ⟨f, hf⟩ : ∃ f, d.fs[i] = f := ⟨_, rfl⟩
      rw [hf] at hin hstep
      obtain ⟨gp, hgp⟩ : ∃ gp, p = some ⟨gp, 0, none⟩ := by
        obtain ⟨-, ⟨e, h0⟩ | ⟨gg, cc, cur, e, -⟩⟩ := hrow'
        · omega
        · injection e with e1
          exact ⟨gg, e1⟩
      subst hgp
      have hnm := (hvr.gr.cell (b := gp) (o := i) (hpS _ rfl).2 (hpS _ rfl).1).trans (name_at hrow' hlt rfl)
      rw [hf] at hnm
      obtain ⟨mb, D, fb, vv, hL⟩ := hDr
      obtain ⟨c0, -⟩ := hL.cells
      have hlk := hL.look hin
      have hFA := hL.fil f hin
      obtain ⟨k0, k1, f0, f1⟩ := hFA.cells
      have hsur := hL.ok.sur f hin
      have hsiz := hL.ok.siz f hin
      have hbyt := hL.ok.byt f hin
      have hlor : lo ≤ wr.heap.size := Nat.le_trans hlo2 hvr.gr.size
      have hKr : KpAt wr a ks := hK2.grS hvr.gr hap
      obtain ⟨s, hs⟩ : ∃ s, strB f.nm = s := ⟨_, rfl⟩
      obtain ⟨b, hb⟩ : ∃ b, fb f.nm = b := ⟨_, rfl⟩
      rw [hs] at hnm hlk
      rw [hb] at hlk k0 k1 f0 f1 hFA
      obtain ⟨pv, cv, hv⟩ := own_lenB hFA.dat
      rw [hv] at k0
      have fin : ∀ (n : Nat) (k : Int) (X : World) (v' : Value), n = f.sure + min k.toNat (f.dat.length - f.sure) → k = ks.getD (i % ks.length) 0 → FileAt X lo b v' (cutTo n f) → GrS (fun z => z = b) wr X → (v'.ownBlock = (vv f.nm).ownBlock ∨ ∀ z, v'.ownBlock = some z → wr.heap.size ≤ z) → ∃ S', DiskAt (X.setCell ⟨b, 1, none⟩ (.int .i64 ((cutTo n f).dat.length : Int))) lo S' db ⟨part ks d.fs (i + 1), true, none, 0, 0⟩ ∧ Dv S w2 S' (X.setCell ⟨b, 1, none⟩ (.int .i64 ((cutTo n f).dat.length : Int))) := fun n k X v' hn hk hF hg hv' => by
        have hF' : FileAt (X.setCell ⟨b, 1, none⟩ (.int .i64 ((cutTo n f).dat.length : Int))) lo b v' (cutF k f) := by
          rw [← cut_is hsur hn]
          refine ⟨?_, ?_⟩
          · rw [heap_setCell_same _ _ _ _ _ _ hF.row]; rfl
          · refine (grS_set X b 1 _).own hF.dat (fun z hz e => ?_)
            obtain ⟨-, cs, r⟩ := own_row hF.dat hz
            rw [e, hF.row] at r
            simp at r
        have hlc : (cutF k f).dat.length ≤ f.dat.length := by simp [cutF]; omega
        subst hb
        obtain ⟨S2, hL2, hv2'⟩ := hL.turn (d' := ⟨part ks d.fs (i + 1), true, none, 0, 0⟩) hin ((hg.trans (grS_set X _ 1 _)).mono (fun z _ e => .inl e)) (f' := cutF k f) rfl hF' (fun z hz => hv'.elim (fun e => .inl (e ▸ hz)) (fun e => .inr (e z hz))) (by rw [hk]; exact hstep.symm) rfl rfl rfl rfl (Nat.le_trans hlc hsiz) (by simp only [cutF, List.length_take]; omega) (fun x hx => hbyt x (List.mem_of_mem_take hx))
        exact ⟨S2, ⟨mb, D, fb, _, hL2⟩, Dv.trans hvr hv2'⟩
      replace fin := Hid.mk fin
      have hcut : ∀ (n : Nat), n ≤ 9223372036854775807 → ∀ m, Calls Tryz.prog 39 #[.pointer (some ⟨b, 0, none⟩), .int .i64 (n : Int)] (wr.drewN m) fun e X => e = .returned (.tuple #[]) ∧ ∃ v', FileAt X lo b v' (cutTo n f) ∧ GrS (fun z => z = b) wr X ∧ (v'.ownBlock = (vv f.nm).ownBlock ∨ ∀ z, v'.ownBlock = some z → wr.heap.size ≤ z) := fun n hn m => by
        have hbm := below_drewN (Below.refl wr.heap.size wr) m
        refine (cut_any (n := n) hn hbyt hsiz hsur (wr.drewN m) (Nat.le_trans hlor hbm.size) (hFA.grS (S := fun _ => False) (.of_below hbm) (fun h => h) (fun _ _ h => h))).mono ?_
        rintro e X ⟨rfl, v', q1, q2, q3⟩
        exact ⟨rfl, v', q1, (GrS.of_below hbm).trans q2, q3.imp id (fun h z hz => Nat.le_trans hbm.size (h z hz))⟩
      have hsI : (f.sure : Int) ≤ (f.dat.length : Int) := by omega
      have hdI : (f.dat.length : Int) ≤ 2097152 := by omega
      have hs0 : (0 : Int) ≤ (f.sure : Int) := by omega
      rw [hv] at fin hcut
      by_cases hk0 : 0 < ks.length
      · have hk0' : (0 : Int) < (ks.length : Int) := by omega
        obtain ⟨kb, ko, rfl, hkb, hkc⟩ := hKr.resolve_left (fun e => by rw [e] at hk0; simp at hk0)
        obtain ⟨j, hj⟩ : ∃ j, i % ks.length = j := ⟨_, rfl⟩
        have hjl : j < ks.length := by rw [← hj]; exact Nat.mod_lt _ hk0
        have hkj := hkc j hjl
        obtain ⟨k, hk⟩ : ∃ k, ks[j] = k := ⟨_, rfl⟩
        have hkk : Hid (k = ks.getD (i % ks.length) 0) := ⟨by rw [hj, ← hk, List.getD_eq_getElem?_getD, List.getElem?_eq_getElem hjl]; rfl⟩
        rw [hk] at hkj
        have hrem : Hid (Int.tmod (i : Int) (ks.length : Int) = (j : Int)) := ⟨by rw [← hj]; rw [Int.tmod_eq_emod_of_nonneg (by omega)]; omega⟩
        have hjI : (j : Int) < (ks.length : Int) := by omega
        have hj0 : (0 : Int) ≤ (j : Int) := by omega
        obtain ⟨K, hKd⟩ : ∃ K, f.sure + min k.toNat (f.dat.length - f.sure) = K := ⟨_, rfl⟩
        have hKI : Hid ((f.sure : Int) + min (max k 0) ((f.dat.length : Int) - (f.sure : Int)) = (K : Int)) := ⟨by rw [← hKd]; omega⟩
        have hcK := hcut K (by omega)
        have hKn : Hid (K = f.sure + min k.toNat (f.dat.length - f.sure)) := ⟨hKd.symm⟩
        clear hkc hj hk hKd hcut hL hFA
        go_upto_region 6 with fail
        have hrem' := hrem.out
        go_quiet (fail)
        go_wp2_with (go_at_call 39; fail)
        rw [hKI.out]
        refine (hcK nq).mono ?_
        rintro e X ⟨rfl, v', hFX, hgX, hvX⟩
        obtain ⟨p', c', rfl⟩ := own_lenB hFX.dat
        have hfinX := fin.out K k X _ hKn.out hkk.out hFX hgX hvX
        obtain ⟨x0, x1, x2, x3⟩ := hFX.cells
        replace hfinX := Hid.mk hfinX
        clear hcK hFX fin hgX
        go_wp2
        go_roundw
        case rel => exact ⟨i + 1, by omega, by first | rfl | go_num, hfinX.out⟩
        case measure => simp [intOf]; omega
      · have hk0' : ¬ (0 : Int) < (ks.length : Int) := by omega
        have hks : ks = [] := List.length_eq_zero_iff.mp (by omega)
        have hkk : Hid ((0 : Int) = ks.getD (i % ks.length) 0) := ⟨by rw [hks]; rfl⟩
        have hKn : Hid (f.sure = f.sure + min (0 : Int).toNat (f.dat.length - f.sure)) := ⟨by simp⟩
        have hcK := hcut f.sure (by omega) 0
        rw [show wr.drewN 0 = wr from rfl] at hcK
        clear hks hcut hL hFA
        go_wp2_with (go_at_call 39; fail)
        refine hcK.mono ?_
        rintro e X ⟨rfl, v', hFX, hgX, hvX⟩
        obtain ⟨p', c', rfl⟩ := own_lenB hFX.dat
        have hfinX := fin.out f.sure 0 X _ hKn.out hkk.out hFX hgX hvX
        obtain ⟨x0, x1, x2, x3⟩ := hFX.cells
        replace hfinX := Hid.mk hfinX
        clear hcK hFX fin hgX
        go_wp2
        go_roundw
        case rel => exact ⟨i + 1, by omega, by first | rfl | go_num, hfinX.out⟩
        case measure => simp [intOf]; omega
    · have hlt' : ¬ (i : Int) < (d.fs.length : Int) := by omega
      obtain rfl : i = d.fs.length := by omega
      rw [part_all] at hDr
      obtain ⟨mb, D, fb, vv, hL⟩ := hDr
      obtain ⟨c0, c1, c2, c3, c4, c5⟩ := hL.cells
      have hr := hL.row
      unfold dkRow at hr
      have f5 := frozen_of_row wr db 5 _ _ hr
      have hF : Hid (∃ S', DiskAt (wr.setCell ⟨db, 5, none⟩ (.bool false)) lo S' db (restart d ks) ∧ Dv S w S' (wr.setCell ⟨db, 5, none⟩ (.bool false))) := ⟨S', ⟨mb, D, fb, vv, hL.flag (d' := restart d ks) (grS_set _ _ _ _) rfl ⟨fun u h => (by cases h), Nat.zero_le _, Nat.zero_le _, fun h => (by cases h)⟩ (by
        rw [heap_setCell_same _ _ _ _ _ _ hr]
        rfl)⟩, Dv.trans hv2 (Dv.trans hvr ⟨(grS_set wr db 5 _).mono (fun k _ e => e ▸ hL.Sdb), fun _ h => .inl h⟩)⟩
      clear hL hr
      go_wp2
      go_end0
      exact ⟨rfl, hF.out⟩
end Go.Proofs.YtakcdgeanbpllaaGreatDoor.DJ

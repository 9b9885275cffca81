import Derived.Test.YtakcdgeanbpllaaGreatDoorJoin48
import Derived.Test.YtakcdgeanbpllaaGreatDoorRows
import Derived.Test.YtakcdgeanbpllaaGreatDoorTie
import Derived.Test.YtakcdgeanbpllaaGreatDoorCards
import Derived.ProofKit
import Derived.LaidMore
import Derived.OpenShut
import Derived.Stop.Joined
import Derived.Lib.SmallJoins
import Derived.Lib.LaidTab
import Derived.Lib.AppendIntMem
import Derived.LaidSub
import Derived.Deep.Strs
import Derived.SevenTiedAt
import Derived.SizedLaws
import Derived.Test.YtakcdgeanbpllaaGreatDoorPSum0
import Derived.Test.YtakcdgeanbpllaaGreatDoorJoin45
import Derived.Deep.DeepCutAuto
/- What the listed variables give; bytes that came in. -/
namespace Go.Proofs.YtakcdgeanbpllaaGreatDoor.DJ
open Go.ChangeShapes Go.WideShapes Go.ChangeAt Go.WideMaps Go.WideElems Go.RowKit Go.Joins

theorem own : ownKnob Tryz.prog.godebug = none := by kernel_rfl
theorem laidOutP : laidOutB Tryz.prog = true := by kernel_rfl
theorem cellsB : Tryz.prog.cellsOf 5 = 1 := by kernel_rfl
abbrev laidK : List (String × DataW Unit) := Rows.drawerCostRow.laid
theorem gPow : Tryz.prog.globalNamed "internal/strconv.uint64pow10" = some 2 := by kernel_rfl
theorem tPow : (Tryz.prog.globals[2]?).map (·.type) = some 285 := by kernel_rfl
theorem cU64 : Tryz.prog.cellsOf 228 = 1 := by kernel_rfl
theorem cPow : Tryz.prog.cellsOf 285 = 20 := by kernel_rfl
theorem tab_of_laid {W : World} (h : laidMetH Tryz.prog laidK W) : TabL W.heap.size W := by
  rw [MakeChecks.laidMetH_plain _ _ _ (by kernel_rfl)] at h
  have e : List.filter (fun x => x.1 == "internal/strconv.uint64pow10") laidK = [("internal/strconv.uint64pow10", Lib.tabData .u64 Lib.pow10Tab)] := by kernel_rfl
  have h2 := h.filter (fun x => x.1 == "internal/strconv.uint64pow10")
  rw [e] at h2
  exact Lib.tabBelow_of_tabIs (Lib.tabIs_of_head gPow tPow Tryz.underlying285 Tryz.underlying228 cU64 cPow h2)
set_option maxRecDepth 100000 in
theorem door_met (os : Os) (args : Array Value) : laidMetH Tryz.prog laidK ((World.doorLaid Tryz.prog 400 os).forCall (fun _ _ => 0) ⟨#[], args, []⟩).memory :=
  laidMetH_of_parts3 (fuel := 8) (laidMet_of_run' 8 (by kernel_rfl) (by kernel_rfl)) (by kernel_rfl) (by kernel_rfl)
theorem range64 {n : Int} (h : (Lit.int .i64 n).wf = true) : -9223372036854775808 ≤ n ∧ n ≤ 9223372036854775807 := by
  simp [Lit.wf, IntKind.min, IntKind.max, IntKind.signed, IntKind.bits] at h
  omega
theorem range32 {n : Int} (h : (Lit.int .u32 n).wf = true) : 0 ≤ n ∧ n < 4294967296 := by
  simp [Lit.wf, IntKind.min, IntKind.max, IntKind.signed, IntKind.bits] at h
  omega
theorem u8_nat {n : Int} (h : (Lit.int .u8 n).wf = true) : 0 ≤ n ∧ n < 256 := by
  simp [Lit.wf] at h
  have h1 : IntKind.u8.min = 0 := by decide
  have h2 : IntKind.u8.max = 255 := by decide
  rw [h1, h2] at h
  omega

set_option maxRecDepth 100000 in
/-- A list of bytes that came in. -/
theorem open_bytc {H : Type} {enc : TypeId × Value → H} {W : World} {base : Nat} {v : Value} {d : DataW H} {ps : List MemPlace} (hval : Value.okWide Tryz.prog W .any base 23 v)
    (h : DataW.Trod enc Tryz.prog W 0 (fun _ => true) true 23 v d ps) : ∃ a cap bs, v = .slice a (List.length bs) cap ∧ bs.length ≤ cap ∧ (a = none → cap = 0) ∧ Byts W a bs := by
  obtain ⟨a0, len, cap, rfl⟩ := okWide_slice Tryz.underlying23 hval
  obtain ⟨fuel, hf⟩ := h
  rcases open_ints Tryz.underlying23 Tryz.underlying5 cellsB hf with ⟨hcs, hx⟩ | ⟨a, len', cap', zs, hcs, _, hl, hm, hz, hx, hcell, hwz⟩
  · simp [Value.cells] at hcs
    obtain ⟨rfl, rfl, rfl⟩ := hcs
    exact ⟨none, 0, [], rfl, Nat.le_refl _, fun _ => rfl, by simp, .inl rfl⟩
  · simp [Value.cells] at hcs
    obtain ⟨rfl, rfl, rfl⟩ := hcs
    simp only [Prod.mk.injEq] at hx
    obtain ⟨rfl, rfl⟩ := hx
    simp only [if_true] at hz
    have hlen : ((zs.take len).map Int.toNat).length = len := by rw [List.length_map, List.length_take]; omega
    refine ⟨some a, cap, (zs.take len).map Int.toNat, by rw [hlen], by rw [hlen]; exact hl, fun h => (nomatch h), fun n hn => ?_, ?_⟩
    · obtain ⟨z, hz', rfl⟩ := List.mem_map.1 hn
      have := u8_nat (hwz z (List.mem_of_mem_take hz'))
      omega
    · by_cases h0 : len = 0
      · left
        rw [h0]
        rfl
      · obtain ⟨b, off, rfl, hc⟩ := ints_at hcell (by omega)
        refine .inr ⟨b, off, rfl, World.block_lt_of_cell? _ _ (hc 0 (by omega)), fun i hi => ?_⟩
        rw [hlen] at hi
        have hiz : i < zs.length := by omega
        have hw := u8_nat (hwz _ (List.getElem_mem hiz))
        rw [hc i (by omega), List.getD_eq_getElem?_getD, List.getElem?_eq_getElem hiz]
        simp only [Option.getD_some, List.getElem_map, List.getElem_take]
        rw [Int.toNat_of_nonneg hw.1]
end Go.Proofs.YtakcdgeanbpllaaGreatDoor.DJ


/- place: a number brought among n. -/
namespace Go.Proofs.YtakcdgeanbpllaaGreatDoor.DJ
open Go.RowKit

def placeN (a : Int) (n : Nat) : Int := (if a < 0 then -(a + 1) else a) % n
theorem placeN_ok (a : Int) {n : Nat} (hn : 0 < n) : 0 ≤ placeN a n ∧ placeN a n < n := by
  unfold placeN
  exact ⟨Int.emod_nonneg _ (by omega), Int.emod_lt_of_pos _ (by omega)⟩
theorem place_any (a : Int) (ha : -9223372036854775808 ≤ a ∧ a ≤ 9223372036854775807) (w : World) :
    Calls Tryz.prog 16 #[.int .i64 a, .int .i64 255] w fun e w' => e = .returned (.int .i64 (placeN a 255)) ∧ w' = w := by
  unfold placeN
  by_cases hneg : a < 0
  · rw [if_pos hneg]
    have h0 : 0 ≤ -(a + 1) := by omega
    have h9 : -(a + 1) ≤ 9223372036854775807 := by omega
    have ht : Hid ((a + 1).tmod 255 = -(-(a + 1) % 255)) := ⟨by
      have := Int.tmod_eq_emod_of_nonneg (b := 255) h0
      rw [Int.neg_tmod] at this
      omega⟩
    go_enter Tryz.func16, Tryz.ntmps16
    go_wp2
    go_ret
    refine ⟨?_, rfl⟩
    have ht := ht.out
    go_num
  · rw [if_neg hneg]
    have h0 : 0 ≤ a := by omega
    go_enter Tryz.func16, Tryz.ntmps16
    go_wp2
    go_ret
    refine ⟨?_, rfl⟩
    go_num
end Go.Proofs.YtakcdgeanbpllaaGreatDoor.DJ


/- WHAT A PUT COSTS (P19.12). No program. -/
namespace Go.Proofs.YtakcdgeanbpllaaGreatDoor.DJ

/-- Up, with these rigs. -/
structure Rig (d : Dk) (u : Option Nat) (a c : Nat) : Prop where
  up : d.down = false
  units : d.units = u
  after : d.after = a
  calls : d.calls = c
/-- A call goes on where Fail's rig doesn't meet it, and is paid where the units are enough. -/
theorem first_on {d : Dk} {nm : List Nat} {u : Option Nat} {a c : Nat} (h : named nm) (hr : Rig d u a c) (hc : c = 0 ∨ 0 < a) : (first d nm).1 = 0 ∧ (first d nm).2.fs = d.fs ∧ Rig (first d nm).2 u (if 0 < c then a - 1 else a) c := by
  obtain ⟨h1, h2, h3, h4⟩ := hr
  unfold first
  rw [if_neg (fun h' => h' h), h1, h3, h4]
  simp only [Bool.false_eq_true, if_false]
  by_cases hc0 : 0 < c
  · rw [if_pos hc0, if_pos (by omega), if_pos hc0]
    exact ⟨rfl, rfl, rfl, h2, rfl, rfl⟩
  · rw [if_neg hc0, if_neg hc0]
    exact ⟨rfl, rfl, h1, h2, h3, h4⟩
theorem first_io {d : Dk} {nm : List Nat} {u : Option Nat} {c : Nat} (h : named nm) (hr : Rig d u 0 c) (hc : 0 < c) : (first d nm).1 = 191 := by
  obtain ⟨h1, h2, h3, h4⟩ := hr
  unfold first
  rw [if_neg (fun h' => h' h), h1, h3, h4]
  simp only [Bool.false_eq_true, if_false]
  rw [if_pos hc]
  simp
theorem pays_on {d : Dk} {u : Option Nat} {a c k : Nat} (hr : Rig d u a c) (hu : ∀ n, u = some n → k ≤ n) : (pays d k).1 = none ∧ Rig (pays d k).2 (u.map (· - k)) a c := by
  obtain ⟨h1, h2, h3, h4⟩ := hr
  unfold pays
  cases u with
  | none => rw [h2]; exact ⟨rfl, h1, h2, h3, h4⟩
  | some n =>
    rw [h2]
    simp only [if_pos (hu n rfl)]
    exact ⟨trivial, h1, rfl, h3, h4⟩
theorem pays_off {d : Dk} {a c k n : Nat} (hr : Rig d (some n) a c) (hk : n < k) : (pays d k).1 = some n := by
  unfold pays
  rw [hr.units]
  simp only [if_neg (show ¬ k ≤ n by omega)]

theorem append_on {d : Dk} {nm data : List Nat} {u : Option Nat} {a c : Nat} (h : named nm) (hf : size d.fs nm + data.length ≤ 2097152) (hn : d.fs.length < 40) (hr : Rig d u a c) (hc : c = 0 ∨ 0 < a) (hu : ∀ n, u = some n → data.length + 1 ≤ n) :
    (append d nm data).1 = 0 ∧ (append d nm data).2.fs = lay d.fs nm data ∧ Rig (append d nm data).2 (u.map (· - (data.length + 1))) (if 0 < c then a - 1 else a) c := by
  obtain ⟨e1, e2, e3⟩ := first_on h hr hc
  obtain ⟨p1, p2⟩ := pays_on e3 hu
  unfold append
  rw [if_neg (by omega), if_neg (by rintro (h' | h') <;> omega)]
  split
  · rename_i heq
    rw [heq] at p2
    exact ⟨rfl, rfl, p2.1, p2.2, p2.3, p2.4⟩
  · rename_i heq
    rw [heq] at p1
    cases p1
theorem append_off {d : Dk} {nm data : List Nat} {a n : Nat} (h : named nm) (hf : size d.fs nm + data.length ≤ 2097152) (hn : d.fs.length < 40) (hr : Rig d (some n) a 0) (hu : n < data.length + 1) : (append d nm data).1 = 190 := by
  obtain ⟨e1, e2, e3⟩ := first_on h hr (.inl rfl)
  have p1 := pays_off e3 hu
  unfold append
  rw [if_neg (by omega), if_neg (by rintro (h' | h') <;> omega)]
  split
  · rename_i heq
    rw [heq] at p1
    cases p1
  · rfl
theorem append_io {d : Dk} {nm data : List Nat} {u : Option Nat} {c : Nat} (h : named nm) (hr : Rig d u 0 c) (hc : 0 < c) : (append d nm data).1 = 191 := by
  have := first_io h hr hc
  unfold append
  rw [if_pos (by omega), this]
theorem changes_on {d : Dk} {nm : List Nat} {g : List Fl → List Fl} {u : Option Nat} {a c : Nat} (h : named nm) (hg : get d.fs nm ≠ none) (hr : Rig d u a c) (hc : c = 0 ∨ 0 < a) (hu : ∀ n, u = some n → 1 ≤ n) :
    (changes d nm g).1 = 0 ∧ (changes d nm g).2.fs = g d.fs ∧ Rig (changes d nm g).2 (u.map (· - 1)) (if 0 < c then a - 1 else a) c := by
  obtain ⟨e1, e2, e3⟩ := first_on h hr hc
  obtain ⟨p1, p2⟩ := pays_on e3 hu
  unfold changes
  rw [if_neg (by omega), if_neg hg]
  split
  · rename_i heq
    rw [heq] at p2
    exact ⟨rfl, rfl, p2.1, p2.2, p2.3, p2.4⟩
  · rename_i heq
    rw [heq] at p1
    cases p1
theorem changes_off {d : Dk} {nm : List Nat} {g : List Fl → List Fl} {a : Nat} (h : named nm) (hg : get d.fs nm ≠ none) (hr : Rig d (some 0) a 0) : (changes d nm g).1 = 190 := by
  obtain ⟨e1, e2, e3⟩ := first_on h hr (.inl rfl)
  have p1 := pays_off (k := 1) e3 (by decide)
  unfold changes
  rw [if_neg (by omega), if_neg hg]
  split
  · rename_i heq
    rw [heq] at p1
    cases p1
  · rfl

/-- A Put that is paid: two calls, and the bytes of its piece. -/
theorem put_on {sum : Nat} {s : List Nat} {R : List Rec} {g : Nat} {d : Dk} {r : Rec} {u : Option Nat} {a c : Nat} (h : Base sum s R g d.fs) (hr : r.2.length ≤ 1048576) (hroom : (enc sum s R).length + (r.2.length + 18) ≤ 2097152)
    (hg : Rig d u a c) (hc : c = 0 ∨ 2 ≤ a) (hu : ∀ n, u = some n → r.2.length + 20 ≤ n) :
    (putD d sum g R.length r).1 = 0 ∧ Base sum s (R ++ [r]) g (putD d sum g R.length r).2.fs ∧ Rig (putD d sum g R.length r).2 (u.map (· - (r.2.length + 20))) (if 0 < c then a - 2 else a) c := by
  have hpl := piece_len (R.length + 1) sum r.1 r.2
  have hget : get d.fs (Nm g) = some (main sum s R g) := by rw [h.1]; simp [get, main]
  have hlay : lay d.fs (Nm g) (piece (R.length + 1) sum r.1 r.2) = [⟨Nm g, enc sum s R ++ piece (R.length + 1) sum r.1 r.2, (enc sum s R).length⟩] := by
    unfold lay
    rw [hget]
    simp only [h.1]
    exact upd_one (main sum s R g) _
  obtain ⟨a1, a2, a3⟩ := append_on (data := piece (R.length + 1) sum r.1 r.2) (named_Nm g) (by unfold size; rw [hget, hpl]; exact hroom) (by rw [h.1]; exact (by decide : 1 < 40)) hg (by omega) (fun n hn => by have := hu n hn; omega)
  rw [hlay] at a2
  obtain ⟨b1, b2, b3⟩ := changes_on (g := fun fs => upd fs (Nm g) syncF) (named_Nm g) (by rw [a2]; exact get_one ⟨Nm g, _, _⟩) a3 (by split <;> omega) (fun n hn => by
    cases u with
    | none => cases hn
    | some m =>
      have := hu m rfl
      simp only [Option.map_some, Option.some.injEq] at hn
      omega)
  have hb := (put_kept (d := d) (r := r) h hr).out
  have e : (putD d sum g R.length r).1 = 0 ∧ Rig (putD d sum g R.length r).2 (u.map (· - (r.2.length + 20))) (if 0 < c then a - 2 else a) c := by
    unfold putD lays andThen
    rw [if_neg (by omega)]
    refine ⟨b1, b3.up, ?_, ?_, b3.calls⟩
    · show (changes _ _ _).2.units = _
      rw [b3.units, Option.map_map]
      congr 1
      funext n
      simp only [Function.comp, hpl]
      omega
    · show (changes _ _ _).2.after = _
      rw [b3.after]
      split <;> omega
  refine ⟨e.1, ?_, e.2⟩
  rcases hb with ⟨-, h2⟩ | ⟨h2, -⟩
  · exact h2
  · omega
/-- One unit too few for the Sync. -/
theorem put_short {sum : Nat} {s : List Nat} {R : List Rec} {g : Nat} {d : Dk} {r : Rec} {a : Nat} (h : Base sum s R g d.fs) (hroom : (enc sum s R).length + (r.2.length + 18) ≤ 2097152) (hg : Rig d (some (r.2.length + 19)) a 0) : (putD d sum g R.length r).1 = 190 := by
  have hpl := piece_len (R.length + 1) sum r.1 r.2
  have hget : get d.fs (Nm g) = some (main sum s R g) := by rw [h.1]; simp [get, main]
  have hlay : lay d.fs (Nm g) (piece (R.length + 1) sum r.1 r.2) = [⟨Nm g, enc sum s R ++ piece (R.length + 1) sum r.1 r.2, (enc sum s R).length⟩] := by
    unfold lay
    rw [hget]
    simp only [h.1]
    exact upd_one (main sum s R g) _
  obtain ⟨a1, a2, a3⟩ := append_on (data := piece (R.length + 1) sum r.1 r.2) (named_Nm g) (by unfold size; rw [hget, hpl]; exact hroom) (by rw [h.1]; exact (by decide : 1 < 40)) hg (.inl rfl) (fun n hn => by cases hn; omega)
  rw [hlay] at a2
  simp only [Option.map_some, hpl, Nat.lt_irrefl, if_false, show r.2.length + 19 - (r.2.length + 18 + 1) = 0 by omega] at a3
  have := changes_off (g := fun fs => upd fs (Nm g) syncF) (named_Nm g) (by rw [a2]; exact get_one ⟨Nm g, _, _⟩) a3
  unfold putD lays andThen
  rw [if_neg (by omega)]
  exact this
/-- Too few for the Append. -/
theorem put_bare {sum : Nat} {s : List Nat} {R : List Rec} {g n : Nat} {d : Dk} {r : Rec} {a : Nat} (h : Base sum s R g d.fs) (hroom : (enc sum s R).length + (r.2.length + 18) ≤ 2097152) (hg : Rig d (some n) a 0) (hn : n < r.2.length + 19) : (putD d sum g R.length r).1 = 190 := by
  have hpl := piece_len (R.length + 1) sum r.1 r.2
  have hget : get d.fs (Nm g) = some (main sum s R g) := by rw [h.1]; simp [get, main]
  have := append_off (data := piece (R.length + 1) sum r.1 r.2) (named_Nm g) (by unfold size; rw [hget, hpl]; exact hroom) (by rw [h.1]; exact (by decide : 1 < 40)) hg (by omega)
  unfold putD lays andThen
  rw [if_pos (by omega)]
  exact this
/-- Fail's rig meets the Append. -/
theorem put_io {sum g n c : Nat} {d : Dk} {r : Rec} {u : Option Nat} (hg : Rig d u 0 c) (hc : 0 < c) : (putD d sum g n r).1 = 191 := by
  have := append_io (data := piece (n + 1) sum r.1 r.2) (named_Nm g) hg hc
  unfold putD lays andThen
  rw [if_pos (by omega)]
  exact this
end Go.Proofs.YtakcdgeanbpllaaGreatDoor.DJ


/- What DrawerCost meets, reckoned. -/
namespace Go.Proofs.YtakcdgeanbpllaaGreatDoor.DJ

def second (P : Nat × Dk × Nat × Bool) (sum kd : Nat) : Nat := (putR P.2.1 sum 1 P.2.2.1 P.2.2.2 (kd, [])).1
theorem putR_len (d : Dk) (sum : Nat) (stuck : Bool) (r : Rec) : (putR d sum 1 0 stuck r).2.2.1 ≤ 1 := by
  unfold putR
  split
  · exact Nat.zero_le _
  split
  · exact Nat.zero_le _
  split
  · exact Nat.le_refl _
  · exact Nat.zero_le _
theorem putR_ok {d : Dk} {sum n : Nat} {r : Rec} (hr : r.2.length ≤ 1048576) (h : (putD d sum 1 n r).1 = 0) : putR d sum 1 n false r = (0, (putD d sum 1 n r).2, n + 1, false) := by
  unfold putR; rw [if_neg (by decide), if_neg (by omega), if_pos h]
theorem putR_no {d : Dk} {sum n : Nat} {r : Rec} (hr : r.2.length ≤ 1048576) (h : (putD d sum 1 n r).1 ≠ 0) : putR d sum 1 n false r = ((putD d sum 1 n r).1, (putD d sum 1 n r).2, n, true) := by
  unfold putR; rw [if_neg (by decide), if_neg (by omega), if_neg h]
theorem calm0 : Calm dk0 := ⟨rfl, rfl, rfl⟩

theorem enc_room {sum : Nat} {r : Rec} (hr : r.2.length ≤ 1048576) : (enc sum [] []).length + (r.2.length + 18) ≤ 2097152 := by
  rw [enc_nil, piece_len]
  simp only [List.length_nil]
  omega
theorem enc_room2 {sum : Nat} {r : Rec} (hr : r.2.length ≤ 1048576) : (enc sum [] [r]).length + (([] : List Nat).length + 18) ≤ 2097152 := by
  have e : enc sum [] [r] = piece 0 sum 0 [] ++ (piece 1 sum r.1 r.2 ++ []) := rfl
  rw [e, List.length_append, List.length_append, piece_len, piece_len]
  simp only [List.length_nil]
  omega
section
variable {sum : Nat} (hs : sum < 4294967296) {r : Rec} (hr : r.2.length ≤ 1048576)
include hs hr
theorem cp0 : (putR (openD dk0 sum).2.2 sum 1 0 false r).1 = 0 ∧ second (putR (openD dk0 sum).2.2 sum 1 0 false r) sum r.1 = 0 := by
  obtain ⟨-, -, hC, hB⟩ := gives_new (d := dk0) hs calm0 rfl
  generalize (openD dk0 sum).2.2 = d at *
  obtain ⟨h1, h2, h3⟩ := put_on (r := r) hB hr (enc_room hr) (u := none) (a := d.after) (c := 0) ⟨hC.1, hC.2.1, rfl, hC.2.2⟩ (.inl rfl) (fun n e => by cases e)
  replace h1 : (putD d sum 1 0 r).1 = 0 := h1
  replace h2 : Base sum [] [r] 1 (putD d sum 1 0 r).2.fs := h2
  rw [putR_ok hr h1]
  refine ⟨rfl, ?_⟩
  unfold second
  obtain ⟨g1, -, -⟩ := put_on (r := (r.1, [])) h2 (by simp) (enc_room2 hr) h3 (.inl rfl) (fun n e => by cases e)
  replace g1 : (putD (putD d sum 1 0 r).2 sum 1 1 (r.1, [])).1 = 0 := g1
  simp only [Nat.zero_add]
  rw [putR_ok (by simp) g1]
theorem cp1 : (putR (arm (openD dk0 sum).2.2 ((r.2.length : Int) + 18 + 2)) sum 1 0 false r).1 = 0 ∧ second (putR (arm (openD dk0 sum).2.2 ((r.2.length : Int) + 18 + 2)) sum 1 0 false r) sum r.1 = 190 := by
  obtain ⟨-, -, hC, hB⟩ := gives_new (d := dk0) hs calm0 rfl
  generalize (openD dk0 sum).2.2 = d at *
  have hA : arm d ((r.2.length : Int) + 18 + 2) = { d with units := some (r.2.length + 20) } := by
    unfold arm
    rw [if_neg (by rw [hC.1]; decide), if_neg (by omega)]
    congr 2
  have hB' : Base sum [] [] 1 (arm d ((r.2.length : Int) + 18 + 2)).fs := by rw [hA]; exact hB
  have hR : Rig (arm d ((r.2.length : Int) + 18 + 2)) (some (r.2.length + 20)) d.after 0 := by rw [hA]; exact ⟨hC.1, rfl, rfl, hC.2.2⟩
  generalize arm d ((r.2.length : Int) + 18 + 2) = d' at *
  obtain ⟨h1, h2, h3⟩ := put_on (r := r) hB' hr (enc_room hr) hR (.inl rfl) (fun n e => by cases e; exact Nat.le_refl _)
  replace h1 : (putD d' sum 1 0 r).1 = 0 := h1
  replace h2 : Base sum [] [r] 1 (putD d' sum 1 0 r).2.fs := h2
  rw [putR_ok hr h1]
  refine ⟨rfl, ?_⟩
  unfold second
  have h3' : Rig (putD d' sum 1 0 r).2 (some 0) d.after 0 := by simpa using h3
  generalize (putD d' sum 1 0 r).2 = d2 at *
  have g1 := put_bare (n := 0) (r := (r.1, [])) h2 (enc_room2 hr) h3' (by simp)
  rw [show [r].length = 1 from rfl] at g1
  simp only [Nat.zero_add]
  rw [putR_no (by simp) (by omega)]
  exact g1
theorem cp2 : (putR (arm (openD dk0 sum).2.2 ((r.2.length : Int) + 18 + 2 - 1)) sum 1 0 false r).1 = 190 ∧ second (putR (arm (openD dk0 sum).2.2 ((r.2.length : Int) + 18 + 2 - 1)) sum 1 0 false r) sum r.1 = 196 := by
  obtain ⟨-, -, hC, hB⟩ := gives_new (d := dk0) hs calm0 rfl
  generalize (openD dk0 sum).2.2 = d at *
  have hA : arm d ((r.2.length : Int) + 18 + 2 - 1) = { d with units := some (r.2.length + 19) } := by
    unfold arm
    rw [if_neg (by rw [hC.1]; decide), if_neg (by omega)]
    congr 2
    omega
  have hB' : Base sum [] [] 1 (arm d ((r.2.length : Int) + 18 + 2 - 1)).fs := by rw [hA]; exact hB
  have hR : Rig (arm d ((r.2.length : Int) + 18 + 2 - 1)) (some (r.2.length + 19)) d.after 0 := by rw [hA]; exact ⟨hC.1, rfl, rfl, hC.2.2⟩
  generalize arm d ((r.2.length : Int) + 18 + 2 - 1) = d' at *
  have h1 := put_short (r := r) hB' (enc_room hr) hR
  have h1' : (putD d' sum 1 0 r).1 = 190 := h1
  rw [putR_no hr (by omega)]
  exact ⟨h1', rfl⟩
theorem cp3 : (putR (fail (openD dk0 sum).2.2 2 1) sum 1 0 false r).1 = 0 ∧ second (putR (fail (openD dk0 sum).2.2 2 1) sum 1 0 false r) sum r.1 = 191 := by
  obtain ⟨-, -, hC, hB⟩ := gives_new (d := dk0) hs calm0 rfl
  generalize (openD dk0 sum).2.2 = d at *
  have hA : fail d 2 1 = { d with after := 2, calls := 1 } := by
    unfold fail
    rw [if_neg (by rw [hC.1]; decide), if_pos (by decide)]
    rfl
  have hB' : Base sum [] [] 1 (fail d 2 1).fs := by rw [hA]; exact hB
  have hR : Rig (fail d 2 1) none 2 1 := by rw [hA]; exact ⟨hC.1, hC.2.1, rfl, rfl⟩
  generalize fail d 2 1 = d' at *
  obtain ⟨h1, h2, h3⟩ := put_on (r := r) hB' hr (enc_room hr) hR (.inr (by decide)) (fun n e => by cases e)
  replace h1 : (putD d' sum 1 0 r).1 = 0 := h1
  replace h2 : Base sum [] [r] 1 (putD d' sum 1 0 r).2.fs := h2
  rw [putR_ok hr h1]
  refine ⟨rfl, ?_⟩
  unfold second
  have g1 := put_io (sum := sum) (g := 1) (n := 1) (r := (r.1, [])) (u := none) (c := 1) (d := (putD d' sum 1 0 r).2) (by simpa using h3) (by decide)
  simp only [Nat.zero_add]
  rw [putR_no (by simp) (by omega)]
  exact g1
end
end Go.Proofs.YtakcdgeanbpllaaGreatDoor.DJ


/- DrawerCost. -/
namespace Go.Proofs.YtakcdgeanbpllaaGreatDoor.DJ
open Go.RowKit
set_option linter.constructorNameAsVariable false

theorem slice_to (a : Option Addr) (n cap k : Nat) (ha : ∀ p, a = some p → ∃ b off, p = ⟨b, off, none⟩) (hk : k ≤ cap) : ∀ X, (Instr.slice 23 (.slice a n cap) none (some (.int .i64 (k : Int))) none).run Tryz.prog X = .ok (.slice a k cap) X := fun X => by
  rw [run_slice_h _ _ _ _ _ under_u8 .i64 (k : Int) (by omega) (by omega), size_u8, Result.andThen_ok, sliced, Int.toNat_natCast]
  congr 2
  split
  · rfl
  · cases a with
    | none => rfl
    | some p =>
      obtain ⟨b, off, rfl⟩ := ha p rfl
      simp [Go.WideShapes.add_plain]

set_option maxRecDepth 4000 in
set_option maxHeartbeats 4000000 in
theorem cost_walk (sum : Nat) (hsum : sum < 4294967296) (kd : Int) (a : Option Addr) (cap : Nat) (bs : List Nat) (hcap : bs.length ≤ cap) (ha : a = none → cap = 0) (w : World) (ht : TabL w.heap.size w) (h : Byts w a bs) :
    Calls Tryz.prog 3 #[.int .u32 (sum : Int), .int .i64 kd, .slice a bs.length cap] w fun e w' => e = .returned (.bool true) ∧ Below w.heap.size w w' := by
  have hK := known_any w (Nat.le_refl _) ht
  go_enter Tryz.func3, Tryz.ntmps3
  go_upto_if 17 with (go_at_call 7; refine hK.mono ?_; rintro e w1 ⟨rfl, hb1⟩)
  go_cut [2] (fun v wx => ∃ bs' : List Nat, v = .slice a bs'.length cap ∧ bs'.length ≤ 1048576 ∧ Byts wx a bs' ∧ Below w.heap.size w wx)
  case first =>
    by_cases hbig : 1048576 < bs.length
    · have hbig' : (1048576 : Int) < (bs.length : Int) := by omega
      have hsl := slice_to a bs.length cap 1048576 (fun p e => by
        obtain ⟨b, off, e', -⟩ := byts_at h (i := 0) (by omega)
        rw [e'] at e
        cases e
        exact ⟨b, off, rfl⟩) (by omega)
      have hT : (bs.take 1048576).length = 1048576 := by rw [List.length_take]; omega
      have hB : Hid (∃ bs' : List Nat, Value.slice a 1048576 cap = .slice a bs'.length cap ∧ bs'.length ≤ 1048576 ∧ Byts w1 a bs' ∧ Below w.heap.size w w1) := ⟨bs.take 1048576, by rw [hT], by omega, byts_take (h.later hb1) _, hb1⟩
      clear hT hbig
      go_wp2
      go_meet
      exact hB.out
    · have hbig' : ¬ (1048576 : Int) < (bs.length : Int) := by omega
      go_wp2
      go_meet
      exact ⟨bs, rfl, by omega, h.later hb1, hb1⟩
  case rest =>
    obtain ⟨B, rfl, hBl, hBy, hb2⟩ := hcut
    clear hK hb1 hcap h
    have hBI : (B.length : Int) ≤ 1048576 := by omega
    have hB0 : (0 : Int) ≤ (B.length : Int) := by omega
    go_wp2_with fail
    go_loopw [8] (fun v wr => ∃ k : Nat, k ≤ 4 ∧ v = .int .i64 (k : Int) ∧ Below wc.heap.size wc wr) (fun v _ => 4 - (intOf v).toNat)
    case atStart => exact ⟨0, by decide, rfl, Below.refl _ _⟩
    case round =>
      obtain ⟨k, hk, rfl, hbr⟩ := hrel
      have hbw : Below w.heap.size w wr := hb2.trans (hbr.mono hb2.size)
      have htr : TabL wr.heap.size wr := (ht.next hbw).mono hbw.size
      have hBg := begin_any sum wr
      have hWo := fun (X : World) (S : Nat → Prop) (db ub : Nat) (hX : Below wr.heap.size wr X) (hD : DiskAt X wr.heap.size S db dk0) (hub : ¬ S ub) (hlu : wr.heap.size ≤ ub) hrow => wopen_fresh (wp := none) (sum := sum) hsum calm0 rfl X hX.size (htr.next hX) hD hub hlu hrow
      have hnil : ∀ (b : Nat) (W : World), (binOp BinOp.eql 25 (.pointer (some ⟨b, 0, none⟩)) (.pointer none)).run Tryz.prog W = .ok (.bool false) W := fun _ _ => rfl
      have hnil2 : ∀ (b : Nat) (W : World), (binOp BinOp.eql 28 (.pointer (some ⟨b, 0, none⟩)) (.pointer none)).run Tryz.prog W = .ok (.bool false) W := fun _ _ => rfl
      replace hWo := Hid.mk hWo
      obtain ⟨kN, hkN⟩ : ∃ n : Nat, kd % 256 = (n : Int) := ⟨(kd % 256).toNat, by omega⟩
      have hkl : kN < 256 := by omega
      obtain rfl | rfl | rfl | rfl | rfl : k = 0 ∨ k = 1 ∨ k = 2 ∨ k = 3 ∨ k = 4 := by omega
      · clear hbw
        have hcp := cp0 hsum (r := (kN, B)) hBl
        go_upto_region 18 with (first | (go_at_call 8; refine hBg.mono ?_; rintro e x1 ⟨S1, db, ub, rfl, hD1, hr1, hu1, hl1, hb1⟩) | (go_at_call 9; refine (hWo.out _ _ _ _ hb1 hD1 hu1 hl1 hr1).mono ?_; rintro e w2 ⟨rfl, S2, wb, hF2, hb2⟩; have R2 := Fresh.run hF2; have c1 := R2.c1; have c0 := R2.c0; have hb2' : Below wr.heap.size wr w2 := hb1.trans hb2))
        obtain ⟨w3, hw3⟩ : ∃ w3, w2 = w3 := ⟨_, rfl⟩
        rw [hw3] at R2 hb2' ⊢
        have R3 := R2
        have hb3 := hb2'
        clear hBg hWo c1 c0 hF2 hD1 hr1 hu1 hl1 hb1 hb2
        obtain ⟨P1, hP1⟩ : ∃ P, putR ((openD dk0 sum).2.2) sum 1 0 false (kN, B) = P := ⟨_, rfl⟩
        have hn1 := putR_len ((openD dk0 sum).2.2) sum false (kN, B)
        rw [hP1] at hcp hn1
        have hPt := run_put R3 hsum (by decide) hb3.size (htr.next hb3) kN hkl B (by omega)
        rw [hP1, hcp.1] at hPt
        have D3 : Below w3.heap.size w3 w3.drew := (Below.refl _ _).drew
        have hRc := record_any kd a cap ha B (by omega) w3.drew (hBy.later (hbr.trans ((hb3.trans (D3.mono hb3.size)).mono hbr.size)))
        rw [hkN] at hRc
        have cA : ∀ X, Below w3.heap.size w3 X → X.cell? ⟨ub, 1, none⟩ = some (.pointer (some ⟨wb, 0, none⟩)) := fun X hX => (R3.later hX).c1
        have S3 := cA _ D3
        replace cA := Hid.mk cA
        replace hPt := Hid.mk hPt
        go_region_held3 (fun X => X.cell? ⟨ub, 1, none⟩ = some (.pointer (some ⟨wb, 0, none⟩))) (with_reducible assumption) (first | (go_at_call 13; refine hRc.mono ?_; rintro e w4 ⟨p4, c4, rfl, ho4, hb4⟩; have B4 := D3.trans (hb4.mono D3.size); have S4 := cA.out _ B4; have hby4 := Hid.mk (byts_of_own (n := B.length) (bs := B) hBy.1 ho4); have hcc4 := own_none ho4) | (go_at_call 12; refine (hPt.out w4 B4 p4 c4 hcc4 hby4.out).mono ?_; rintro e w5 ⟨rfl, S5, R5, hb5⟩; have S5' := R5.c1))
        have hb5' : Below wr.heap.size wr w5 := hb3.trans hb5
        clear hPt cA hRc S3 S4 ho4 hby4 hcc4 B4 hb4 hb5 R3 D3 hP1
        have hPt := run_put R5 hsum (by omega) hb5'.size (htr.next hb5') kN hkl [] (by decide)
        have h2nd := hcp.2
        unfold second at h2nd
        rw [h2nd] at hPt
        have D5 : Below w5.heap.size w5 w5.drew := (Below.refl _ _).drew
        have hRc := record_any kd none 0 (fun _ => rfl) [] (by decide) w5.drew ⟨fun x hx => by simp at hx, .inl rfl⟩
        rw [hkN] at hRc
        have cA : ∀ X, Below w5.heap.size w5 X → X.cell? ⟨ub, 1, none⟩ = some (.pointer (some ⟨wb, 0, none⟩)) := fun X hX => (R5.later hX).c1
        have S5'' := cA _ D5
        replace cA := Hid.mk cA
        replace hPt := Hid.mk hPt
        clear hcp h2nd
        go_upto_region 21 with fail
        go_region_held3 (fun X => X.cell? ⟨ub, 1, none⟩ = some (.pointer (some ⟨wb, 0, none⟩))) (with_reducible assumption) (first | (go_at_call 13; refine hRc.mono ?_; rintro e w6 ⟨p6, c6, rfl, ho6, hb6⟩; have B6 := D5.trans (hb6.mono D5.size); have S6 := cA.out _ B6; have hcc6 := own_none ho6) | (go_at_call 12; refine (hPt.out w6 B6 p6 c6 hcc6 ⟨fun x hx => (by simp at hx), .inl rfl⟩).mono ?_; rintro e w7 ⟨rfl, S7, R7, hb7⟩; have S7' := R7.c1))
        have hb7' : Below wc.heap.size wc w7 := hbr.trans ((hb5'.trans hb7).mono hbr.size)
        clear hPt cA hRc S5'' S5' S6 S7' ho6 B6 hb6 hcc6 R5 R7 hb7 D5 hb5' hb3 R2 hb2'
        go_wp2
        go_roundw
        case rel => exact ⟨1, by decide, rfl, hb7'⟩
        case measure => simp [intOf]
      · clear hbw
        have hcp := cp1 hsum (r := (kN, B)) hBl
        have hRg := fun (X : World) (S : Nat → Prop) (db : Nat) (D : Dk) (hD : DiskAt X wr.heap.size S db D) => arm_any (u := (B.length : Int) + 18 + 2) (by omega) (by omega) X hD
        replace hRg := Hid.mk hRg
        go_upto_region 18 with (first | (go_at_call 8; refine hBg.mono ?_; rintro e x1 ⟨S1, db, ub, rfl, hD1, hr1, hu1, hl1, hb1⟩) | (go_at_call 9; refine (hWo.out _ _ _ _ hb1 hD1 hu1 hl1 hr1).mono ?_; rintro e w2 ⟨rfl, S2, wb, hF2, hb2⟩; have R2 := Fresh.run hF2; have c1 := R2.c1; have c0 := R2.c0; have hb2' : Below wr.heap.size wr w2 := hb1.trans hb2) | (go_at_call 10; refine (hRg.out _ _ _ _ R2.disk).mono ?_; rintro e w3 ⟨rfl, hD3, hg3⟩; have R3 := Run.rig R2 hD3 hg3; have hb3 : Below wr.heap.size wr w3 := hb2'.trans (hg3.below hb2'.size (fun k e => e ▸ R2.ldb))))
        clear hBg hWo c1 c0 hF2 hD1 hr1 hu1 hl1 hb1 hb2
        obtain ⟨P1, hP1⟩ : ∃ P, putR (arm (openD dk0 sum).2.2 ((B.length : Int) + 18 + 2)) sum 1 0 false (kN, B) = P := ⟨_, rfl⟩
        have hn1 := putR_len (arm (openD dk0 sum).2.2 ((B.length : Int) + 18 + 2)) sum false (kN, B)
        rw [hP1] at hcp hn1
        have hPt := run_put R3 hsum (by decide) hb3.size (htr.next hb3) kN hkl B (by omega)
        rw [hP1, hcp.1] at hPt
        have D3 : Below w3.heap.size w3 w3.drew := (Below.refl _ _).drew
        have hRc := record_any kd a cap ha B (by omega) w3.drew (hBy.later (hbr.trans ((hb3.trans (D3.mono hb3.size)).mono hbr.size)))
        rw [hkN] at hRc
        have cA : ∀ X, Below w3.heap.size w3 X → X.cell? ⟨ub, 1, none⟩ = some (.pointer (some ⟨wb, 0, none⟩)) := fun X hX => (R3.later hX).c1
        have S3 := cA _ D3
        replace cA := Hid.mk cA
        replace hPt := Hid.mk hPt
        go_region_held3 (fun X => X.cell? ⟨ub, 1, none⟩ = some (.pointer (some ⟨wb, 0, none⟩))) (with_reducible assumption) (first | (go_at_call 13; refine hRc.mono ?_; rintro e w4 ⟨p4, c4, rfl, ho4, hb4⟩; have B4 := D3.trans (hb4.mono D3.size); have S4 := cA.out _ B4; have hby4 := Hid.mk (byts_of_own (n := B.length) (bs := B) hBy.1 ho4); have hcc4 := own_none ho4) | (go_at_call 12; refine (hPt.out w4 B4 p4 c4 hcc4 hby4.out).mono ?_; rintro e w5 ⟨rfl, S5, R5, hb5⟩; have S5' := R5.c1))
        have hb5' : Below wr.heap.size wr w5 := hb3.trans hb5
        clear hPt cA hRc S3 S4 ho4 hby4 hcc4 B4 hb4 hb5 R3 D3 hP1
        have hPt := run_put R5 hsum (by omega) hb5'.size (htr.next hb5') kN hkl [] (by decide)
        have h2nd := hcp.2
        unfold second at h2nd
        rw [h2nd] at hPt
        have D5 : Below w5.heap.size w5 w5.drew := (Below.refl _ _).drew
        have hRc := record_any kd none 0 (fun _ => rfl) [] (by decide) w5.drew ⟨fun x hx => by simp at hx, .inl rfl⟩
        rw [hkN] at hRc
        have cA : ∀ X, Below w5.heap.size w5 X → X.cell? ⟨ub, 1, none⟩ = some (.pointer (some ⟨wb, 0, none⟩)) := fun X hX => (R5.later hX).c1
        have S5'' := cA _ D5
        replace cA := Hid.mk cA
        replace hPt := Hid.mk hPt
        clear hcp h2nd
        go_upto_region 21 with fail
        go_region_held3 (fun X => X.cell? ⟨ub, 1, none⟩ = some (.pointer (some ⟨wb, 0, none⟩))) (with_reducible assumption) (first | (go_at_call 13; refine hRc.mono ?_; rintro e w6 ⟨p6, c6, rfl, ho6, hb6⟩; have B6 := D5.trans (hb6.mono D5.size); have S6 := cA.out _ B6; have hcc6 := own_none ho6) | (go_at_call 12; refine (hPt.out w6 B6 p6 c6 hcc6 ⟨fun x hx => (by simp at hx), .inl rfl⟩).mono ?_; rintro e w7 ⟨rfl, S7, R7, hb7⟩; have S7' := R7.c1))
        have hb7' : Below wc.heap.size wc w7 := hbr.trans ((hb5'.trans hb7).mono hbr.size)
        clear hPt cA hRc S5'' S5' S6 S7' ho6 B6 hb6 hcc6 R5 R7 hb7 D5 hb5' hb3 R2 hb2'
        go_wp2
        go_roundw
        case rel => exact ⟨2, by decide, rfl, hb7'⟩
        case measure => simp [intOf]
      · clear hbw
        have hcp := cp2 hsum (r := (kN, B)) hBl
        have hRg := fun (X : World) (S : Nat → Prop) (db : Nat) (D : Dk) (hD : DiskAt X wr.heap.size S db D) => arm_any (u := (B.length : Int) + 18 + 2 - 1) (by omega) (by omega) X hD
        replace hRg := Hid.mk hRg
        go_upto_region 18 with (first | (go_at_call 8; refine hBg.mono ?_; rintro e x1 ⟨S1, db, ub, rfl, hD1, hr1, hu1, hl1, hb1⟩) | (go_at_call 9; refine (hWo.out _ _ _ _ hb1 hD1 hu1 hl1 hr1).mono ?_; rintro e w2 ⟨rfl, S2, wb, hF2, hb2⟩; have R2 := Fresh.run hF2; have c1 := R2.c1; have c0 := R2.c0; have hb2' : Below wr.heap.size wr w2 := hb1.trans hb2) | (go_at_call 10; refine (hRg.out _ _ _ _ R2.disk).mono ?_; rintro e w3 ⟨rfl, hD3, hg3⟩; have R3 := Run.rig R2 hD3 hg3; have hb3 : Below wr.heap.size wr w3 := hb2'.trans (hg3.below hb2'.size (fun k e => e ▸ R2.ldb))))
        clear hBg hWo c1 c0 hF2 hD1 hr1 hu1 hl1 hb1 hb2
        obtain ⟨P1, hP1⟩ : ∃ P, putR (arm (openD dk0 sum).2.2 ((B.length : Int) + 18 + 2 - 1)) sum 1 0 false (kN, B) = P := ⟨_, rfl⟩
        have hn1 := putR_len (arm (openD dk0 sum).2.2 ((B.length : Int) + 18 + 2 - 1)) sum false (kN, B)
        rw [hP1] at hcp hn1
        have hPt := run_put R3 hsum (by decide) hb3.size (htr.next hb3) kN hkl B (by omega)
        rw [hP1, hcp.1] at hPt
        have D3 : Below w3.heap.size w3 w3.drew := (Below.refl _ _).drew
        have hRc := record_any kd a cap ha B (by omega) w3.drew (hBy.later (hbr.trans ((hb3.trans (D3.mono hb3.size)).mono hbr.size)))
        rw [hkN] at hRc
        have cA : ∀ X, Below w3.heap.size w3 X → X.cell? ⟨ub, 1, none⟩ = some (.pointer (some ⟨wb, 0, none⟩)) := fun X hX => (R3.later hX).c1
        have S3 := cA _ D3
        replace cA := Hid.mk cA
        replace hPt := Hid.mk hPt
        go_region_held3 (fun X => X.cell? ⟨ub, 1, none⟩ = some (.pointer (some ⟨wb, 0, none⟩))) (with_reducible assumption) (first | (go_at_call 13; refine hRc.mono ?_; rintro e w4 ⟨p4, c4, rfl, ho4, hb4⟩; have B4 := D3.trans (hb4.mono D3.size); have S4 := cA.out _ B4; have hby4 := Hid.mk (byts_of_own (n := B.length) (bs := B) hBy.1 ho4); have hcc4 := own_none ho4) | (go_at_call 12; refine (hPt.out w4 B4 p4 c4 hcc4 hby4.out).mono ?_; rintro e w5 ⟨rfl, S5, R5, hb5⟩; have S5' := R5.c1))
        have hb5' : Below wr.heap.size wr w5 := hb3.trans hb5
        clear hPt cA hRc S3 S4 ho4 hby4 hcc4 B4 hb4 hb5 R3 D3 hP1
        have hPt := run_put R5 hsum (by omega) hb5'.size (htr.next hb5') kN hkl [] (by decide)
        have h2nd := hcp.2
        unfold second at h2nd
        rw [h2nd] at hPt
        have D5 : Below w5.heap.size w5 w5.drew := (Below.refl _ _).drew
        have hRc := record_any kd none 0 (fun _ => rfl) [] (by decide) w5.drew ⟨fun x hx => by simp at hx, .inl rfl⟩
        rw [hkN] at hRc
        have cA : ∀ X, Below w5.heap.size w5 X → X.cell? ⟨ub, 1, none⟩ = some (.pointer (some ⟨wb, 0, none⟩)) := fun X hX => (R5.later hX).c1
        have S5'' := cA _ D5
        replace cA := Hid.mk cA
        replace hPt := Hid.mk hPt
        clear hcp h2nd
        go_upto_region 21 with fail
        go_region_held3 (fun X => X.cell? ⟨ub, 1, none⟩ = some (.pointer (some ⟨wb, 0, none⟩))) (with_reducible assumption) (first | (go_at_call 13; refine hRc.mono ?_; rintro e w6 ⟨p6, c6, rfl, ho6, hb6⟩; have B6 := D5.trans (hb6.mono D5.size); have S6 := cA.out _ B6; have hcc6 := own_none ho6) | (go_at_call 12; refine (hPt.out w6 B6 p6 c6 hcc6 ⟨fun x hx => (by simp at hx), .inl rfl⟩).mono ?_; rintro e w7 ⟨rfl, S7, R7, hb7⟩; have S7' := R7.c1))
        have hb7' : Below wc.heap.size wc w7 := hbr.trans ((hb5'.trans hb7).mono hbr.size)
        clear hPt cA hRc S5'' S5' S6 S7' ho6 B6 hb6 hcc6 R5 R7 hb7 D5 hb5' hb3 R2 hb2'
        go_wp2
        go_roundw
        case rel => exact ⟨3, by decide, rfl, hb7'⟩
        case measure => simp [intOf]
      · clear hbw
        have hcp := cp3 hsum (r := (kN, B)) hBl
        have hRg := fun (X : World) (S : Nat → Prop) (db : Nat) (D : Dk) (hD : DiskAt X wr.heap.size S db D) => fail_any (a := 2) (c := 1) (by decide) (by decide) (by decide) (by decide) X hD
        replace hRg := Hid.mk hRg
        go_upto_region 18 with (first | (go_at_call 8; refine hBg.mono ?_; rintro e x1 ⟨S1, db, ub, rfl, hD1, hr1, hu1, hl1, hb1⟩) | (go_at_call 9; refine (hWo.out _ _ _ _ hb1 hD1 hu1 hl1 hr1).mono ?_; rintro e w2 ⟨rfl, S2, wb, hF2, hb2⟩; have R2 := Fresh.run hF2; have c1 := R2.c1; have c0 := R2.c0; have hb2' : Below wr.heap.size wr w2 := hb1.trans hb2) | (go_at_call 11; refine (hRg.out _ _ _ _ R2.disk).mono ?_; rintro e w3 ⟨rfl, hD3, hg3⟩; have R3 := Run.rig R2 hD3 hg3; have hb3 : Below wr.heap.size wr w3 := hb2'.trans (hg3.below hb2'.size (fun k e => e ▸ R2.ldb))))
        clear hBg hWo c1 c0 hF2 hD1 hr1 hu1 hl1 hb1 hb2
        obtain ⟨P1, hP1⟩ : ∃ P, putR (fail (openD dk0 sum).2.2 2 1) sum 1 0 false (kN, B) = P := ⟨_, rfl⟩
        have hn1 := putR_len (fail (openD dk0 sum).2.2 2 1) sum false (kN, B)
        rw [hP1] at hcp hn1
        have hPt := run_put R3 hsum (by decide) hb3.size (htr.next hb3) kN hkl B (by omega)
        rw [hP1, hcp.1] at hPt
        have D3 : Below w3.heap.size w3 w3.drew := (Below.refl _ _).drew
        have hRc := record_any kd a cap ha B (by omega) w3.drew (hBy.later (hbr.trans ((hb3.trans (D3.mono hb3.size)).mono hbr.size)))
        rw [hkN] at hRc
        have cA : ∀ X, Below w3.heap.size w3 X → X.cell? ⟨ub, 1, none⟩ = some (.pointer (some ⟨wb, 0, none⟩)) := fun X hX => (R3.later hX).c1
        have S3 := cA _ D3
        replace cA := Hid.mk cA
        replace hPt := Hid.mk hPt
        go_region_held3 (fun X => X.cell? ⟨ub, 1, none⟩ = some (.pointer (some ⟨wb, 0, none⟩))) (with_reducible assumption) (first | (go_at_call 13; refine hRc.mono ?_; rintro e w4 ⟨p4, c4, rfl, ho4, hb4⟩; have B4 := D3.trans (hb4.mono D3.size); have S4 := cA.out _ B4; have hby4 := Hid.mk (byts_of_own (n := B.length) (bs := B) hBy.1 ho4); have hcc4 := own_none ho4) | (go_at_call 12; refine (hPt.out w4 B4 p4 c4 hcc4 hby4.out).mono ?_; rintro e w5 ⟨rfl, S5, R5, hb5⟩; have S5' := R5.c1))
        have hb5' : Below wr.heap.size wr w5 := hb3.trans hb5
        clear hPt cA hRc S3 S4 ho4 hby4 hcc4 B4 hb4 hb5 R3 D3 hP1
        have hPt := run_put R5 hsum (by omega) hb5'.size (htr.next hb5') kN hkl [] (by decide)
        have h2nd := hcp.2
        unfold second at h2nd
        rw [h2nd] at hPt
        have D5 : Below w5.heap.size w5 w5.drew := (Below.refl _ _).drew
        have hRc := record_any kd none 0 (fun _ => rfl) [] (by decide) w5.drew ⟨fun x hx => by simp at hx, .inl rfl⟩
        rw [hkN] at hRc
        have cA : ∀ X, Below w5.heap.size w5 X → X.cell? ⟨ub, 1, none⟩ = some (.pointer (some ⟨wb, 0, none⟩)) := fun X hX => (R5.later hX).c1
        have S5'' := cA _ D5
        replace cA := Hid.mk cA
        replace hPt := Hid.mk hPt
        clear hcp h2nd
        go_upto_region 21 with fail
        go_region_held3 (fun X => X.cell? ⟨ub, 1, none⟩ = some (.pointer (some ⟨wb, 0, none⟩))) (with_reducible assumption) (first | (go_at_call 13; refine hRc.mono ?_; rintro e w6 ⟨p6, c6, rfl, ho6, hb6⟩; have B6 := D5.trans (hb6.mono D5.size); have S6 := cA.out _ B6; have hcc6 := own_none ho6) | (go_at_call 12; refine (hPt.out w6 B6 p6 c6 hcc6 ⟨fun x hx => (by simp at hx), .inl rfl⟩).mono ?_; rintro e w7 ⟨rfl, S7, R7, hb7⟩; have S7' := R7.c1))
        have hb7' : Below wc.heap.size wc w7 := hbr.trans ((hb5'.trans hb7).mono hbr.size)
        clear hPt cA hRc S5'' S5' S6 S7' ho6 B6 hb6 hcc6 R5 R7 hb7 D5 hb5' hb3 R2 hb2'
        go_wp2
        go_roundw
        case rel => exact ⟨4, by decide, rfl, hb7'⟩
        case measure => simp [intOf]
      · clear hBg hWo
        go_wp2
        go_ret
        exact ⟨rfl, hbw⟩
end Go.Proofs.YtakcdgeanbpllaaGreatDoor.DJ

import Derived.Test.YtblfdjdhikfjhaaGreatJoin23
import Derived.Test.YtblfdjdhikfjhaaGreatJoin22
import Derived.Laws.BytesArg
import Derived.Sort.Walk0
namespace Go.Proofs.YtblfdjdhikfjhaaGreat.BZ
open Go.RowKit

/-- What is left is no longer than what there was. -/
def Sh {β : Type} (r : List UInt8 → Rd β) : Prop := ∀ l x t, r l = some (x, t) → t.length ≤ l.length
theorem Sh.bd {β γ : Type} {r : List UInt8 → Rd β} {k : β → List UInt8 → Rd γ} (h : Sh r) (hk : ∀ x, Sh (k x)) : Sh fun l => bd (r l) k := fun l y t2 e => by
  obtain ⟨x, t, h1, h2⟩ := bd_some e
  exact Nat.le_trans (hk x _ _ _ h2) (h _ _ _ h1)
theorem sh_go : ∀ (l : List UInt8) (i n : Nat) (x : Nat) (t : List UInt8), nGo l i n = some (x, t) → t.length ≤ l.length
  | [], i, n, x, t, h => by cases h
  | b :: r, i, n, x, t, h => by
    rw [nGo_cons] at h
    split at h
    · cases h
    split at h
    · cases h
      exact Nat.le_succ _
    · exact Nat.le_trans (sh_go r _ _ _ _ h) (Nat.le_succ _)
theorem sh_N : Sh rN := fun l x t h => sh_go l 0 0 x t h
theorem sh_pure {β : Type} (x : β) : Sh fun t => some (x, t) := fun l y t h => by
  cases h
  exact Nat.le_refl _
theorem sh_none {β : Type} : Sh fun _ => (none : Rd β) := fun l y t h => by cases h
theorem sh_if {β : Type} {P : Prop} [Decidable P] {r q : List UInt8 → Rd β} (h : Sh r) (k : Sh q) : Sh fun t => if P then r t else q t := by
  by_cases hp : P
  · simp only [if_pos hp]; exact h
  · simp only [if_neg hp]; exact k
theorem sh_I : Sh rI := sh_N.bd fun _ => sh_pure _
theorem sh_B (lo hi : Nat) : Sh (rB lo hi) := sh_N.bd fun _ => sh_if sh_none (sh_pure _)
theorem sh_raw (n : Nat) : Sh (rRaw n) := fun l x t h => by
  unfold rRaw at h
  split at h
  · cases h
  · cases h
    rw [List.length_drop]
    omega
theorem sh_one : Sh rOne := fun l x t h => by
  cases l with
  | nil => cases h
  | cons b r => cases h; exact Nat.le_succ _
theorem sh_Ch (m : Es) (id : Nat) : Sh (rCh m id) := (sh_B 0 1).bd fun _ => sh_if (sh_pure _) (sh_I.bd fun _ => sh_I.bd fun _ => sh_pure _)
theorem sh_Go : ∀ (n least : Nat) (m : Es), Sh (rGo n least m)
  | 0, _, m => sh_pure m
  | n + 1, _, m => (sh_B _ _).bd fun id => (sh_Ch m id).bd fun m2 => sh_if sh_none (sh_Go n (id + 1) m2)
theorem sh_D (m : Es) : Sh (rD m) := sh_N.bd fun n => sh_Go n 0 m
theorem sh_Nm (ahead : List (List UInt8)) : Sh (rNm ahead) := by
  refine (sh_B 1 8).bd fun n => (sh_raw n).bd fun s => ?_
  by_cases h : isNm s = true ∧ ∀ x, ahead.getLast? = some x → x < s
  · simp only [if_pos h]; exact sh_pure _
  · simp only [if_neg h]; exact sh_none
theorem sh_Cn : ∀ (k : Nat) (m : Es), Sh (rCn k m)
  | 0, _ => sh_pure _
  | k + 1, m => (sh_D m).bd fun v => (sh_Cn k v).bd fun _ => sh_pure _
theorem sh_Br (nm : List UInt8) : Sh (rBr nm) := (sh_D []).bd fun bs => (sh_B _ _).bd fun _ => (sh_B _ _).bd fun _ => (sh_D bs).bd fun v => (sh_Cn _ v).bd fun _ => sh_pure _
theorem Xq.short {β : Type} {r : List UInt8 → Rd β} (hS : Sh r) {t t2 : List UInt8} {b b2 : Bool} {x : β} {W : World} {rb : Nat} (h : Xq (r t) b b2 t2 x) (hR : RAt W rb t2 b2) : t2.length ≤ t.length := by
  cases hb2 : b2 with
  | true => rw [hR.1 hb2]; exact Nat.zero_le _
  | false =>
    cases hb : b with
    | true => rw [h.1 hb] at hb2; cases hb2
    | false =>
      obtain ⟨h1, h2⟩ := h.2 hb
      cases hM : r t with
      | none => rw [h2 hM] at hb2; cases hb2
      | some p =>
        obtain ⟨-, e, -⟩ := h1 _ _ hM
        rw [e]
        exact hS _ _ _ hM

def VB (hi : Nat) (_ _ : World) (x : Nat) (v : Value) : Prop := v = .int .u64 (x : Int) ∧ x ≤ hi
set_option maxRecDepth 4000 in
set_option maxHeartbeats 1000000 in
theorem rbet_any (rb lo hi : Nat) (W : World) {t : List UInt8} {bad : Bool} (hl : t.length ≤ 9223372036854775806) (h : RAt W rb t bad) : Calls Tryz.prog 51 #[.pointer (some ⟨rb, 0, none⟩), .int .u64 (lo : Int), .int .u64 (hi : Int)] W (Xc (rB lo hi) (VB hi) rb t bad W) := by
  have hn := rnum_any rb W hl h
  clear h
  go_enter Tryz.func51, Tryz.ntmps51
  go_wp2_with (go_at_call 73; fail)
  refine hn.mono ?_
  intro e w1 hx
  obtain ⟨n, t2, b2, rfl, hn64, hR, hG, hX⟩ := hx.out64
  have hf := rfail_any rb w1 hR
  have hfin : (n < lo ∨ hi < n) → ∀ w2, RAt w2 rb [] true → Gr rb w1 w2 → Xc (rB lo hi) (VB hi) rb t bad W (.returned (.int .u64 0)) w2 := fun hc w2 hR2 hG2 => ⟨0, _, _, _, rfl, ⟨rfl, Nat.zero_le _⟩, hR2, hG.trans hG2, hX.bd (Xq.fail fun _ => if_pos hc)⟩
  by_cases c1 : n < lo
  · have c1' : (n : Int) < (lo : Int) := by omega
    have hfin2 := hfin (.inl c1)
    clear hfin
    go_wp2_with (go_at_call 50; refine hf.mono ?_; rintro e w2 ⟨rfl, hR2, hG2⟩)
    exact bodyPost_ret (v := .int .u64 0) (by simp [results, Tryz.results51, go_sem]) rfl (hfin2 _ hR2 hG2)
  · have c1' : ¬ (n : Int) < (lo : Int) := by omega
    by_cases c2 : hi < n
    · have c2' : (hi : Int) < (n : Int) := by omega
      have hfin2 := hfin (.inr c2)
      clear hfin
      go_wp2_with (go_at_call 50; refine hf.mono ?_; rintro e w2 ⟨rfl, hR2, hG2⟩)
      exact bodyPost_ret (v := .int .u64 0) (by simp [results, Tryz.results51, go_sem]) rfl (hfin2 _ hR2 hG2)
    · have c2' : ¬ (hi : Int) < (n : Int) := by omega
      have hfin2 : Xc (rB lo hi) (VB hi) rb t bad W (.returned (.int .u64 (n : Int))) w1 := ⟨n, _, t2, b2, rfl, ⟨rfl, by omega⟩, hR, hG, hX.bd (by rw [if_neg (by omega)]; exact Xq.pure)⟩
      clear hfin hf
      go_wp2
      exact bodyPost_ret (v := .int .u64 (n : Int)) (by simp [results, Tryz.results51, go_sem]) rfl hfin2
theorem Xc.outB {M : List UInt8 → Rd Nat} {hi rb : Nat} {t : List UInt8} {bad : Bool} {W : World} {e : Ending} {W' : World} (h : Xc M (VB hi) rb t bad W e W') : ∃ (x : Nat) (t2 : List UInt8) (b2 : Bool), e = .returned (.int .u64 (x : Int)) ∧ Hid (x ≤ hi) ∧ RAt W' rb t2 b2 ∧ Gr rb W W' ∧ Xq (M t) bad b2 t2 x := by
  obtain ⟨x, v, t2, b2, rfl, ⟨rfl, hx⟩, h1, h2, h3⟩ := h
  exact ⟨x, t2, b2, rfl, hx, h1, h2, h3⟩

theorem compl64r (z : Int) (h1 : -9223372036854775808 ≤ z) (h2 : z ≤ 9223372036854775807) : bits .xor .i64 (-1) z = -z - 1 := by
  show IntKind.i64.wrap ((BitVec.ofInt 64 (-1) ^^^ BitVec.ofInt 64 z).toNat : Int) = _
  rw [show BitVec.ofInt 64 (-1) = BitVec.allOnes 64 from rfl, BitVec.allOnes_xor, BitVec.toNat_not, BitVec.toNat_ofInt]
  rw [IntKind.wrap_i64, show (2 : Nat) ^ 64 = 18446744073709551616 from rfl]
  omega
theorem bd_nat {n : Nat} (h : n < 18446744073709551616) : Rg (unz n) := by
  unfold Rg unz
  split <;> omega
set_option maxRecDepth 4000 in
set_option maxHeartbeats 1000000 in
theorem rint_any (rb : Nat) (W : World) {t : List UInt8} {bad : Bool} (hl : t.length ≤ 9223372036854775806) (h : RAt W rb t bad) : Calls Tryz.prog 108 #[.pointer (some ⟨rb, 0, none⟩)] W (Xc rI VI rb t bad W) := by
  have hn := rnum_any rb W hl h
  clear h
  go_enter Tryz.func108, Tryz.ntmps108
  go_wp2_with (go_at_call 73; fail)
  refine hn.mono ?_
  intro e w1 hx
  obtain ⟨n, t2, b2, rfl, hn64, hR, hG, hX⟩ := hx.out64
  have hn64 := hn64.out
  have hfin : Xc rI VI rb t bad W (.returned (.int .i64 (unz n))) w1 := ⟨unz n, _, t2, b2, rfl, ⟨rfl, bd_nat hn64⟩, hR, hG, hX.bd Xq.pure⟩
  clear hR hG hX hx hn
  have hq : ((n / 2 : Nat) : Int) = (n : Int) / 2 := by omega
  by_cases c : n % 2 = 1
  · have c' : (n : Int) % 2 = 1 := by omega
    have hu : unz n = -((n / 2 : Nat) : Int) - 1 := by unfold unz; rw [if_pos c]
    rw [hu] at hfin
    have hx := compl64r ((n / 2 : Nat) : Int) (by omega) (by omega)
    rw [hq] at hx hfin
    clear hq hu
    go_wp2
    exact bodyPost_ret (v := .int .i64 (-((n : Int) / 2) - 1)) (by simp [results, Tryz.results108, go_sem]) rfl hfin
  · have c' : ((n : Int) % 2 == 1) = false := by rw [beq_eq_false_iff_ne]; omega
    have hu : unz n = ((n / 2 : Nat) : Int) := by unfold unz; rw [if_neg c]
    rw [hu, hq] at hfin
    clear hq hu
    go_wp2
    exact bodyPost_ret (v := .int .i64 ((n : Int) / 2)) (by simp [results, Tryz.results108, go_sem]) rfl hfin

end Go.Proofs.YtblfdjdhikfjhaaGreat.BZ


namespace Go.Proofs.YtblfdjdhikfjhaaGreat.BZ
open Go.RowKit

theorem strOf (l : List UInt8) : strOfNums (l.map fun b => (b.toNat : Int)) = ⟨l.toArray⟩ := by
  refine ByteArray.ext (Array.toList_inj.1 ?_)
  rw [strOfNums_data, List.map_map]
  show _ = l
  conv => rhs; rw [← List.map_id l]
  refine List.map_congr_left fun b _ => ?_
  simp
theorem conv_rd {W : World} {rb : Nat} {a : Option Addr} {t : List UInt8} (h : BytL W rb a t) (cap : Nat) : (convert 27 9 (.slice a t.length cap)).run Tryz.prog W = .ok (.string ⟨t.toArray⟩) W := by
  rcases h with rfl | ⟨b, off, rfl, -, -, hc⟩
  · cases a with
    | none => exact run_convert_bytes_nil W 27 5 Tryz.underlying27 Tryz.underlying5 0 cap 9 Tryz.underlying9
    | some a =>
      rw [run_convert_bytes_string W 27 9 5 _ _ cap Tryz.underlying27 Tryz.underlying5 Tryz.underlying9]
      exact run_bytesToString W a 0 cap [] (run_loadCells_list W a [] (by simp))
  · rw [← strOf t]
    refine run_convert_bytes_arg W 27 5 Tryz.underlying27 Tryz.underlying5 b off t.length cap (t.map fun b => (b.toNat : Int)) (by simp) (fun i hi => ?_) 9 Tryz.underlying9
    rw [hc i hi]
    simp [hi]
theorem BytL.take {W : World} {rb : Nat} {a : Option Addr} {t : List UInt8} (h : BytL W rb a t) (n : Nat) : BytL W rb a (t.take n) := by
  rcases h with rfl | ⟨b, off, rfl, h1, h2, hc⟩
  · exact .inl (by simp)
  · exact .inr ⟨b, off, rfl, h1, h2, fun i hi => by rw [List.getElem_take]; exact hc i (by rw [List.length_take] at hi; omega)⟩
theorem slice_toU (a : Option Addr) (m cap k : Nat) (hk : k ≤ cap) : ∀ X, (Instr.slice 27 (.slice a m cap) none (some (.int .u64 (k : Int))) none).run Tryz.prog X = .ok (.slice a k cap) X := fun X => by
  have e : (if cap = 0 then a else a.map (fun p => p.add (0 * 1))) = a := by
    split
    · rfl
    · cases a with
      | none => rfl
      | some p => simp [Addr.add]
  rw [run_slice_h _ _ _ _ _ under_u8 .u64 (k : Int) (by omega) (by omega), size_u8, Result.andThen_ok, sliced, Int.toNat_natCast, e, Nat.sub_zero, Nat.sub_zero]

set_option maxRecDepth 4000 in
set_option maxHeartbeats 1000000 in
theorem rraw_any (rb n : Nat) (W : World) {t : List UInt8} {bad : Bool} (hl : t.length ≤ 9223372036854775806) (h : RAt W rb t bad) : Calls Tryz.prog 74 #[.pointer (some ⟨rb, 0, none⟩), .int .u64 (n : Int)] W (Xc (rRaw n) VS rb t bad W) := by
  have hf := rfail_any rb W h
  have hh := h
  obtain ⟨hbd, a, cap, h1, hlc, hcp, hB⟩ := h
  have c0 := cell_of_row _ _ 0 _ _ _ h1
  have f0 := frozen_of_row h1 0
  simp at c0
  by_cases hlt : t.length < n
  · have hlt' : (t.length : Int) < (n : Int) := by omega
    have hto : ∀ W', RAt W' rb [] true → Gr rb W W' → Xc (rRaw n) VS rb t bad W (.returned (.string ⟨#[]⟩)) W' := fun W' h1 h2 => ⟨[], _, _, _, rfl, ⟨rfl, by decide⟩, h1, h2, Xq.fail fun _ => by unfold rRaw; rw [if_pos hlt]⟩
    clear h1 hB hh
    go_enter Tryz.func74, Tryz.ntmps74
    go_wp2_with (go_at_call 50; refine hf.mono ?_; rintro e w1 ⟨rfl, hR1, hG1⟩)
    exact bodyPost_ret (v := .string ⟨#[]⟩) (by simp [results, Tryz.results74, go_sem]) rfl (hto _ hR1 hG1)
  · have hlt' : ¬ (t.length : Int) < (n : Int) := by omega
    have hnt : n ≤ t.length := by omega
    obtain ⟨ad, cp, hsl, hl2, hn2, hb2⟩ := slice_fromK .u64 a cap n t hnt hlc hcp
    have hst := slice_toU a t.length cap n (by omega)
    have hcv := conv_rd (hB.take n) cap
    rw [List.length_take, Nat.min_eq_left hnt] at hcv
    obtain ⟨hR, hG⟩ := hh.set (t2 := t.drop n) hl2 hn2 (hb2 W rb hB) (fun e => by rw [hbd e, List.drop_nil])
    have hfin : Xc (rRaw n) VS rb t bad W (.returned (.string ⟨(t.take n).toArray⟩)) (W.setCell ⟨rb, 0, none⟩ (.slice ad (t.drop n).length cp)) := ⟨t.take n, _, t.drop n, bad, rfl, ⟨rfl, by rw [List.length_take]; omega⟩, hR, hG, by unfold rRaw; rw [if_neg hlt]; exact Xq.pure⟩
    have hwr : IntKind.u64.wrap (t.length : Int) = (t.length : Int) := by rw [IntKind.wrap_u64]; omega
    clear hR hG hh hf hb2 hB h1 hl2 hn2
    generalize (t.drop n).length = m2 at *
    generalize t.length = m at *
    generalize (⟨(t.take n).toArray⟩ : ByteArray) = s at *
    go_enter Tryz.func74, Tryz.ntmps74
    go_wp2
    exact bodyPost_ret (v := .string s) (by simp [results, Tryz.results74, go_sem]) rfl hfin
theorem Xc.outS {M : List UInt8 → Rd (List UInt8)} {rb : Nat} {t : List UInt8} {bad : Bool} {W : World} {e : Ending} {W' : World} (h : Xc M VS rb t bad W e W') : ∃ (x : List UInt8) (t2 : List UInt8) (b2 : Bool), e = .returned (.string ⟨x.toArray⟩) ∧ Hid (x.length ≤ 9223372036854775806) ∧ RAt W' rb t2 b2 ∧ Gr rb W W' ∧ Xq (M t) bad b2 t2 x := by
  obtain ⟨x, v, t2, b2, rfl, ⟨rfl, hx⟩, h1, h2, h3⟩ := h
  exact ⟨x, t2, b2, rfl, hx, h1, h2, h3⟩

/-- The names ahead. -/
def AhAt (W : World) (rb : Nat) (v : Value) (l : List (List UInt8)) : Prop := (l = [] ∧ ∃ a cap, v = .slice a 0 cap) ∨ ∃ g off cap x, l.length ≤ 1000 ∧ l.getLast? = some x ∧ v = .slice (some ⟨g, off, none⟩) l.length cap ∧ g ≠ rb ∧ g < W.heap.size ∧ W.cell? ⟨g, off + (l.length - 1), none⟩ = some (.string ⟨x.toArray⟩)
theorem AhAt.gr {W W' : World} {rb : Nat} {v : Value} {l : List (List UInt8)} (h : AhAt W rb v l) (hg : Gr rb W W') : AhAt W' rb v l := by
  rcases h with h | ⟨g, off, cap, x, h0, h1, h2, h3, h4, h5⟩
  · exact .inl h
  · exact .inr ⟨g, off, cap, x, h0, h1, h2, h3, Nat.lt_of_lt_of_le h4 hg.size, (grown_cell hg h4 (fun e => h3 (Option.some.inj e).symm)).trans h5⟩

end Go.Proofs.YtblfdjdhikfjhaaGreat.BZ

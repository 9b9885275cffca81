import Derived.Test.YthbojlbgjmecoaaGreatJoin28
import Derived.Deep.RegionHeld3
import Derived.Test.YthbojlbgjmecoaaGreatIter
import Derived.Sort.KeysCollected
import Derived.Lib.EndianBits
import Derived.Laws.Shifts
/- Append. -/
namespace Go.Proofs.YthbojlbgjmecoaaGreat.DJ
open Go.RowKit

theorem en115 (x : Array Value) (w : World) : (callFunc 64 x).run Tryz.prog w = .ok (.enter 64 x) w := by
  kernel_rfl
theorem en118 (x : Array Value) (w : World) : (callFunc 67 x).run Tryz.prog w = .ok (.enter 67 x) w := by
  kernel_rfl
def full (fs : List Fl) (nm : List Nat) (n : Nat) : Prop := 2097152 < size fs nm + n ∨ (get fs nm = none ∧ 40 ≤ fs.length)
instance (fs : List Fl) (nm : List Nat) (n : Nat) : Decidable (full fs nm n) := by
  unfold full
  cases h : get fs nm with
  | none => simp only [true_and]; infer_instance
  | some f => exact decidable_of_iff (2097152 < size fs nm + n) (by simp)

theorem not_full {fs : List Fl} {nm : List Nat} {n : Nat} (h : ¬ full fs nm n) : size fs nm + n ≤ 2097152 ∧ (get fs nm = none → fs.length < 40) := ⟨Nat.not_lt.1 fun h' => h (.inl h'), fun hg => Nat.not_le.1 fun h' => h (.inr ⟨hg, h'⟩)⟩
theorem lay_any {lo db : Nat} {S : Nat → Prop} {d : Dk} {nm : List Nat} (hn : named nm) {data : List Nat} (hf : ¬ full d.fs nm data.length) (ad : Option Addr) (cap : Nat) (hcap : ad = none → cap = 0) (w : World) (hlo : lo ≤ w.heap.size) (hN : Byts w ad data) (hap : ∀ p, ad = some p → ¬ S p.block) (h : DiskAt w lo S db d) :
    Calls Tryz.prog 68 #[.pointer (some ⟨db, 0, none⟩), .string (strB nm), .slice ad data.length cap] w fun e w' => e = .returned (.tuple #[]) ∧ ∃ S', DiskAt w' lo S' db { d with fs := lay d.fs nm data } ∧ Dv S w S' w' := by
  obtain ⟨h1, h2⟩ := not_full hf
  cases hg : get d.fs nm with
  | none =>
    rw [size_none hg] at h1
    exact lay_no hg hn (h2 hg) (by omega) ad cap hcap w hlo hN hap h
  | some f =>
    rw [size_some hg] at h1
    obtain ⟨h3, rfl⟩ := get_some hg
    exact lay_yes h3 h1 ad cap hcap w hlo hN h

set_option maxRecDepth 4000 in
set_option maxHeartbeats 1000000 in
theorem append1_any {lo db : Nat} {S : Nat → Prop} {d : Dk} {nm : List Nat} {n : Nat} (hm : n ≤ 9223372036854775807) (hl : nm.length ≤ 4294967296) (hb : ∀ x ∈ nm, x < 256) (w : World) (x0 x1 x2 : Nat) (ad : Option Addr) (cap : Nat) (h0 : w.cell? ⟨x0, 0, none⟩ = some (.pointer (some ⟨db, 0, none⟩))) (h1 : w.cell? ⟨x1, 0, none⟩ = some (.string (strB nm))) (h2 : w.cell? ⟨x2, 0, none⟩ = some (.slice ad n cap)) (h : DiskAt w lo S db d) :
    Calls Tryz.prog 64 #[.pointer (some ⟨x0, 0, none⟩), .pointer (some ⟨x1, 0, none⟩), .pointer (some ⟨x2, 0, none⟩)] w fun e w' => e = .returned (.int .i64 (if full d.fs nm n then 194 else 0 : Nat)) ∧ w' = w := by
  have hf := room_any (more := n) hm hl hb w h
  have e : (if full d.fs nm n then 194 else 0 : Nat) = if 2097152 < size d.fs nm + n ∨ (get d.fs nm = none ∧ 40 ≤ d.fs.length) then 194 else 0 := by
    by_cases h9 : full d.fs nm n
    · rw [if_pos h9]
      exact (if_pos h9).symm
    · rw [if_neg h9]
      exact (if_neg h9).symm
  rw [e]
  generalize (if 2097152 < size d.fs nm + n ∨ (get d.fs nm = none ∧ 40 ≤ d.fs.length) then 194 else 0 : Nat) = z at *
  generalize strB nm = s at *
  clear h e
  go_enter Tryz.func64, Tryz.ntmps64
  go_wp2_with (go_at_call 65; refine hf.mono ?_; rintro e w9 ⟨rfl, rfl⟩)
  go_ret
  exact ⟨rfl, rfl⟩

set_option maxRecDepth 4000 in
set_option maxHeartbeats 1000000 in
theorem append2_any {lo db : Nat} {S : Nat → Prop} {d : Dk} {nm : List Nat} (hn : named nm) {data : List Nat} (hf : ¬ full d.fs nm data.length) (u : Nat) (w : World) (hlo : lo ≤ w.heap.size) (x0 x1 x2 : Nat) (ad : Option Addr) (cap : Nat) (hcap : ad = none → cap = 0) (hcl : data.length ≤ cap) (hN : Byts w ad data) (hap : ∀ p, ad = some p → ¬ S p.block) (h0 : w.cell? ⟨x0, 0, none⟩ = some (.pointer (some ⟨db, 0, none⟩))) (h1 : w.cell? ⟨x1, 0, none⟩ = some (.string (strB nm))) (h2 : w.cell? ⟨x2, 0, none⟩ = some (.slice ad data.length cap)) (hx : ∀ k, S k → k ≠ x0 ∧ k ≠ x1 ∧ k ≠ x2) (h : DiskAt w lo S db d) :
    Calls Tryz.prog 67 #[.int .i64 (u : Int), .pointer (some ⟨x0, 0, none⟩), .pointer (some ⟨x1, 0, none⟩), .pointer (some ⟨x2, 0, none⟩)] w fun e w' => e = .returned (.tuple #[]) ∧ ∃ S', DiskAt w' lo S' db { d with fs := lay d.fs nm (data.take u) } ∧ Dv S w S' w' := by
  have B0 : Below w.heap.size w w.drew := (Below.refl _ _).drew
  have hlen : data.length ≤ 2097152 := by
    have h2 := (not_full hf).1
    omega
  have hL := lay_any (data := data.take u) hn (by
    have h1 : (data.take u).length ≤ data.length := by rw [List.length_take]; omega
    rintro (h' | h')
    · exact hf (.inl (by omega))
    · exact hf (.inr h')) ad cap hcap w.drew (Nat.le_trans hlo B0.size) (byts_take (hN.later B0) u) hap (h.later B0)
  rw [List.length_take] at hL
  obtain ⟨k, hk⟩ : ∃ k, min u data.length = k := ⟨_, rfl⟩
  rw [hk] at hL
  have hki : Hid (min (u : Int) (data.length : Int) = (k : Int)) := ⟨by omega⟩
  have hmin := hki.out
  have hk0 : (0 : Int) ≤ (k : Int) := by omega
  have hkc : (k : Int) ≤ (cap : Int) := by omega
  generalize lay d.fs nm (data.take u) = fs' at *
  generalize strB nm = s at *
  have hs0 : w.drew.cell? ⟨x0, 0, none⟩ = some (.pointer (some ⟨db, 0, none⟩)) ∧ w.drew.cell? ⟨x1, 0, none⟩ = some (.string s) ∧ w.drew.cell? ⟨x2, 0, none⟩ = some (.slice ad data.length cap) := ⟨h0, h1, h2⟩
  have hkeep : ∀ S' X, Dv S w.drew S' X → X.cell? ⟨x0, 0, none⟩ = some (.pointer (some ⟨db, 0, none⟩)) ∧ X.cell? ⟨x1, 0, none⟩ = some (.string s) ∧ X.cell? ⟨x2, 0, none⟩ = some (.slice ad data.length cap) := fun S' X hv =>
    ⟨(hv.gr.cell (World.block_lt_of_cell? _ _ hs0.1) (fun e => (hx _ e).1 rfl)).trans hs0.1, (hv.gr.cell (World.block_lt_of_cell? _ _ hs0.2.1) (fun e => (hx _ e).2.1 rfl)).trans hs0.2.1, (hv.gr.cell (World.block_lt_of_cell? _ _ hs0.2.2) (fun e => (hx _ e).2.2 rfl)).trans hs0.2.2⟩
  clear h hk hf hN
  go_enter Tryz.func67, Tryz.ntmps67
  go_wp2
  go_region_held3 (fun X => X.cell? ⟨x0, 0, none⟩ = some (.pointer (some ⟨db, 0, none⟩)) ∧ X.cell? ⟨x1, 0, none⟩ = some (.string s) ∧ X.cell? ⟨x2, 0, none⟩ = some (.slice ad data.length cap)) (with_reducible assumption) ((go_at_call 68; refine hL.mono ?_; rintro e w9 ⟨rfl, S', h9, hv9⟩; have hs9 := hkeep _ _ hv9))
  go_wp2
  go_end0
  exact ⟨rfl, S', h9, Dv.trans (.below B0) hv9⟩

end Go.Proofs.YthbojlbgjmecoaaGreat.DJ


namespace Go.Proofs.YthbojlbgjmecoaaGreat.DJ
open Go.RowKit

theorem append_chg (d : Dk) (nm data : List Nat) : append d nm data = chg d nm (data.length + 1) (if full d.fs nm data.length then 194 else 0) (fun u => lay d.fs nm (data.take u)) := by
  unfold append chg
  by_cases h1 : (first d nm).1 ≠ 0
  · rw [if_pos h1, if_pos h1]
  · rw [if_neg h1, if_neg h1]
    by_cases h2 : full d.fs nm data.length
    · rw [if_pos h2, if_pos (show _ ∨ _ from h2)]; rfl
    · rw [if_neg h2, if_neg (show ¬ (_ ∨ _) from h2)]
      simp only [ne_eq, not_true_eq_false, if_false]
      unfold pays paidU paidD
      cases hu : (first d nm).2.units with
      | none =>
        simp only
        rw [if_neg (by omega), List.take_of_length_le (by omega)]
      | some u =>
        simp only
        by_cases h3 : data.length + 1 ≤ u
        · have hm : min (data.length + 1) u = data.length + 1 := by omega
          simp [h3, hm, List.take_of_length_le]
        · have hm : min (data.length + 1) u = u := by omega
          rw [if_neg h3]
          simp [hm, show u < data.length + 1 by omega, falls]

set_option maxRecDepth 4000 in
set_option maxHeartbeats 1000000 in
theorem append_any {lo db : Nat} {S : Nat → Prop} {d : Dk} {nm : List Nat} (hl : nm.length ≤ 4294967296) (hb : ∀ x ∈ nm, x < 256) {data : List Nat} (hlen : data.length ≤ 140737488355328) (ad : Option Addr) (cap : Nat) (hcap : ad = none → cap = 0) (hcl : data.length ≤ cap) (w : World) (hlo : lo ≤ w.heap.size) (hN : Byts w ad data) (hap : ∀ p, ad = some p → ¬ S p.block) (h : DiskAt w lo S db d) :
    Calls Tryz.prog 14 #[.pointer (some ⟨db, 0, none⟩), .string (strB nm), .slice ad data.length cap] w fun e w' => e = .returned (.int .i64 ((append d nm data).1 : Nat)) ∧ ∃ S', DiskAt w' lo S' db (append d nm data).2 ∧ Dv S w S' w' := by
  have hmf : ∀ (fn : Fn) (first cap : Array Value) (w : World), (Instr.makeFunc fn first cap).run Tryz.prog w = .ok (.func fn first cap) w := fun _ _ _ _ => rfl
  have hSl : ∀ k, S k → k < w.heap.size := fun k hk => by
    obtain ⟨mb, D, fb, vv, h⟩ := h
    exact h.hi k hk
  obtain ⟨W3, hW3⟩ : ∃ W3, ((w.alloc (.cells #[.pointer (some ⟨db, 0, none⟩)] 27)).alloc (.cells #[.string (strB nm)] 9)).alloc (.cells #[.slice ad data.length cap] 34) = W3 := ⟨_, rfl⟩
  have hw1 : Below w.heap.size w W3 := by
    rw [← hW3]
    exact (((Below.refl _ _).alloc (Nat.le_refl _) _).alloc (by simp) _).alloc (by simp; omega) _
  have b0 : W3.heap[w.heap.size]? = some (.cells #[.pointer (some ⟨db, 0, none⟩)] 27 (0, 0)) := by
    rw [← hW3]
    exact (Below.heap_alloc _ _ _ (by simp; omega)).trans ((Below.heap_alloc _ _ _ (by simp)).trans (heap_new w _))
  have b1 : W3.heap[w.heap.size + 1]? = some (.cells #[.string (strB nm)] 9 (0, 0)) := by
    rw [← hW3]
    have := heap_new (w.alloc (.cells #[.pointer (some ⟨db, 0, none⟩)] 27)) (.cells #[.string (strB nm)] 9)
    rw [World.size_alloc] at this
    exact (Below.heap_alloc _ _ _ (by simp)).trans this
  have b2 : W3.heap[w.heap.size + 1 + 1]? = some (.cells #[.slice ad data.length cap] 34 (0, 0)) := by
    rw [← hW3]
    have := heap_new ((w.alloc (.cells #[.pointer (some ⟨db, 0, none⟩)] 27)).alloc (.cells #[.string (strB nm)] 9)) (.cells #[.slice ad data.length cap] 34)
    rw [World.size_alloc, World.size_alloc] at this
    exact this
  have hlt : w.heap.size + 1 + 1 < W3.heap.size := (Array.getElem?_eq_some_iff.1 b2).1
  have box : ∀ X, GrS S W3 X → X.cell? ⟨w.heap.size, 0, none⟩ = some (.pointer (some ⟨db, 0, none⟩)) ∧ X.cell? ⟨w.heap.size + 1, 0, none⟩ = some (.string (strB nm)) ∧ X.cell? ⟨w.heap.size + 1 + 1, 0, none⟩ = some (.slice ad data.length cap) := fun X hX =>
    ⟨cell_of_row _ _ 0 _ _ _ ((hX.block _ (by omega) (fun e => by have := hSl _ e; omega)).trans b0), cell_of_row _ _ 0 _ _ _ ((hX.block _ (by omega) (fun e => by have := hSl _ e; omega)).trans b1), cell_of_row _ _ 0 _ _ _ ((hX.block _ (by omega) (fun e => by have := hSl _ e; omega)).trans b2)⟩
  have hD3 := h.later hw1
  have hB1 : (if full d.fs nm data.length then 194 else 0 : Nat) ≠ 190 := by
    by_cases h9 : full d.fs nm data.length
    · rw [if_pos h9]; decide
    · rw [if_neg h9]; decide
  have hc1 : data.length + 1 ≤ 9223372036854775807 := by omega
  have hch := change_any hb (cost := data.length + 1) (B := if full d.fs nm data.length then 194 else 0) hB1 hc1 (F := fun u => lay d.fs nm (data.take u)) 64 67 en115 en118 #[.pointer (some ⟨w.heap.size, 0, none⟩), .pointer (some ⟨w.heap.size + 1, 0, none⟩), .pointer (some ⟨w.heap.size + 1 + 1, 0, none⟩)] #[.pointer (some ⟨w.heap.size, 0, none⟩), .pointer (some ⟨w.heap.size + 1, 0, none⟩), .pointer (some ⟨w.heap.size + 1 + 1, 0, none⟩)] W3 hD3
    (fun X hX hD => by
      have := append1_any (n := data.length) (by omega) hl hb X _ _ _ ad cap (box X hX).1 (box X hX).2.1 (box X hX).2.2 hD
      rw [struck_fs] at this
      exact this)
    (fun hB hnm X u hu hX hD => by
      have hfs : (paidD (struck d) (data.length + 1)).fs = d.fs := by rw [paidD_fs, struck_fs]
      have hnf : ¬ full d.fs nm data.length := fun e => by rw [if_pos e] at hB; cases hB
      have := append2_any (d := paidD (struck d) (data.length + 1)) (nm := nm) hnm (data := data) (by rw [hfs]; exact hnf) u X (Nat.le_trans hlo (Nat.le_trans hw1.size hX.size)) _ _ _ ad cap hcap hcl (hX.byts (hN.later hw1) hap) hap (box X hX).1 (box X hX).2.1 (box X hX).2.2 (fun k hk => by have := hSl k hk; omega) hD
      rw [hfs] at this
      exact this)
  have hci : ((data.length + 1 : Nat) : Int) = 1 + (data.length : Int) := by omega
  rw [hci, ← append_chg] at hch
  obtain ⟨r, hr⟩ : ∃ r, append d nm data = r := ⟨_, rfl⟩
  rw [hr] at hch ⊢
  have B3 : Hid (Below w.heap.size w W3) := ⟨hw1⟩
  obtain ⟨k0, k1, k2⟩ := box W3 (.refl _ _)
  clear h hD3 box b0 b1 b2 hlt hw1 hr hSl hci hB1 hc1 hap hN hb hl hcl hcap hlo
  have hlen' : (data.length : Int) ≤ 140737488355328 := by omega
  have hlen0 : (0 : Int) ≤ (data.length : Int) := by omega
  generalize strB nm = s at *
  generalize data.length = n at *
  go_enter Tryz.func14, Tryz.ntmps14
  go_wp2_with (go_at_call 66; refine hch.mono ?_; rintro e w9 ⟨rfl, S', h9, hv9⟩)
  go_ret
  exact ⟨rfl, S', h9, Dv.trans (.below B3.out) hv9⟩
end Go.Proofs.YthbojlbgjmecoaaGreat.DJ


/- names: all names, rising. NewDisk of no files. -/
namespace Go.Proofs.YthbojlbgjmecoaaGreat.DJ
open Go.RowKit Go.Shelf

theorem strB_mk (l : List Nat) : strB l = ⟨(u8 l).toArray⟩ := ByteArray.ext (Array.toList_inj.1 (by rw [strB_data]))
theorem u8_inj {a b : List Nat} (ha : ∀ n ∈ a, n < 256) (hb : ∀ n ∈ b, n < 256) (h : u8 a = u8 b) : a = b := strB_inj ha hb (by rw [strB_mk, strB_mk, h])
def nmsOf (fs : List Fl) : List (List UInt8) := fs.map fun f => u8 f.nm
theorem names_perm {W : World} {lo db : Nat} {S : Nat → Prop} {d : Dk} {mb : Nat} {D : DataW Nat} {fb : List Nat → Nat} {vv : List Nat → Value} (h : Lay W lo S db d mb D fb vv) : (nmsOf d.fs).Perm (strKeys D) := by
  obtain ⟨es, rfl, hp⟩ := h.ties.tidy
  obtain ⟨es', e', hk⟩ := h.map.keysOf
  cases e'
  refine perm_strKeys hp (fun p hp' => ?_) ?_ (fun x => ?_)
  · obtain ⟨v, hv⟩ := hk p hp'
    obtain ⟨x, -, hx, -⟩ := Go.Maps.keyOf_str Tryz.underlying9 hv
    exact ⟨x, hx⟩
  · refine List.pairwise_map.2 (List.Pairwise.imp_of_mem (fun {a b} ha hb hab e => ?_) h.ok.srt)
    exact ltB_ne hab (u8_inj (named_lt (h.ok.nmd a ha)) (named_lt (h.ok.nmd b hb)) e)
  · constructor
    · intro hx
      obtain ⟨f, hf, rfl⟩ := List.mem_map.1 hx
      have := (h.ties.hasK (strB f.nm) (h.nmLen hf)).2 ⟨f, hf, rfl⟩
      rw [kl, strB_data] at this
      exact this
    · intro hx
      obtain ⟨p, hp1, hp2⟩ := List.any_eq_true.1 hx
      have hpx := WideAt.sameKey_eq hp2
      obtain ⟨v, hv⟩ := hk p hp1
      obtain ⟨y, -, hy, hyl⟩ := Go.Maps.keyOf_str Tryz.underlying9 hv
      rw [hpx] at hy
      have hxy : x = y := by simpa using hy
      obtain ⟨f, hf, e⟩ := (h.ties.hasK ⟨x.toArray⟩ (by rw [hxy]; simpa [ByteArray.size] using hyl)).1 (by rw [kl]; simpa using hx)
      refine List.mem_map.2 ⟨f, hf, ?_⟩
      rw [← strB_data, e]

/-- A row of names. -/
def nmV (fs : List Fl) : List Value := fs.map fun f => .string (strB f.nm)
theorem nmV_len (fs : List Fl) : (nmV fs).length = fs.length := by simp [nmV]

set_option maxRecDepth 4000 in
set_option maxHeartbeats 1000000 in
theorem names_any {lo db : Nat} {S : Nat → Prop} {d : Dk} (w : World) (h : DiskAt w lo S db d) : Calls Tryz.prog 34 #[.pointer (some ⟨db, 0, none⟩)] w fun e w' => ∃ v, e = .returned v ∧ w'.ownsRow w.heap.size 9 1 v d.fs.length (nmV d.fs) ∧ Below w.heap.size w w' := by
  obtain ⟨mb, D, fb, vv, h⟩ := h
  obtain ⟨c0, -⟩ := h.cells
  have hP := names_perm h
  have h6 := h.ok.len
  have hsz := h.ties.size
  have hsrt : (nmsOf d.fs).mergeSort (fun x y => decide (x ≤ y)) = nmsOf d.fs := List.mergeSort_of_pairwise (srt_u8 h.ok.srt (fun f hf => named_lt (h.ok.nmd f hf)))
  have hnv : (nmsOf d.fs).map encStr = nmV d.fs := by
    unfold nmsOf nmV
    rw [List.map_map]
    refine List.map_congr_left fun f _ => ?_
    simp only [Function.comp, encStr, strB_mk]
  have hK := callsIn_wide.1 (Tryz.maps_Keys_83 (some mb) w)
  have hS := callsIn_wide.1 (Tryz.slices_Sorted_keys_82_83 mb d.fs.length D bR w h.map (by rw [hsz]; exact Nat.le_trans h6 (by decide)) (by rw [hsz]; omega))
  have hb0 : Below w.heap.size w (w.alloc (.cells #[.map (some mb)] 94)) := (Below.refl _ _).alloc (Nat.le_refl _) _
  clear h
  go_enter Tryz.func34, Tryz.ntmps34
  go_wp2_with (first
    | (go_at_call 83; refine hK.mono ?_; rintro e w1 ⟨rfl, rfl⟩)
    | (go_at_call 82; refine hS.mono ?_; rintro e w2 ⟨v, ss, rfl, hpm, hrow, -, hb2⟩))
  go_ret
  have hpm2 := hpm.trans hP.symm
  have hlen : ss.length = d.fs.length := by rw [hpm2.length_eq]; simp [nmsOf]
  rw [hlen, mergeSort_of_perm hpm2, hsrt, hnv] at hrow
  refine ⟨v, rfl, ?_, below_step hb0 hb2⟩
  obtain ⟨q1, q2⟩ := hrow
  refine ⟨q1, ?_⟩
  rcases q2 with q2 | ⟨g, cap, cur, e, hg, rest⟩
  · exact .inl q2
  · exact .inr ⟨g, cap, cur, e, Nat.le_trans hb0.size hg, rest⟩
theorem name_at {w : World} {base g cap n : Nat} {fs : List Fl} {i : Nat} (h : w.ownsRow base 9 1 (.slice (some ⟨g, 0, none⟩) n cap) n (nmV fs)) (hl : i < fs.length) (hn : fs.length = n) : w.cell? ⟨g, i, none⟩ = some (.string (strB fs[i].nm)) := by
  refine (h.cellAt i (by omega)).trans ?_
  simp [nmV, hl]

def dk0 : Dk := ⟨[], false, none, 0, 0⟩
theorem ok0 : Ok dk0 := ⟨.nil, Nat.zero_le _, fun f hf => by simp [dk0] at hf, fun f hf => by simp [dk0] at hf, fun f hf => by simp [dk0] at hf, fun f hf => by simp [dk0] at hf⟩
theorem rigs0 : Rigs dk0 := ⟨fun u h => (by cases h), Nat.zero_le _, Nat.zero_le _, fun h => (by cases h)⟩
set_option maxRecDepth 4000 in
set_option maxHeartbeats 1000000 in
theorem newDisk_nil (cap : Nat) (a : Option Addr) (w : World) : Calls Tryz.prog 11 #[.slice a 0 cap] w fun e w' => ∃ S db, e = .returned (.tuple #[.pointer (some ⟨db, 0, none⟩), .int .i64 0]) ∧ DiskAt w' w.heap.size S db dk0 ∧ Below w.heap.size w w' := by
  have hmm := @run_makeMap Tryz.prog
  have ho := World.ownsMap_made w Tryz.prog 9 bR
  obtain ⟨W1, hW1⟩ : ∃ W1, w.alloc (.map #[] 0) = W1 := ⟨_, rfl⟩
  obtain ⟨W2, hW2⟩ : ∃ W2, W1.alloc (.cells #[.map (some w.heap.size), .bool false, .int .i64 0, .int .i64 0, .int .i64 0, .bool false] 98) = W2 := ⟨_, rfl⟩
  have e1 : W1.heap.size = w.heap.size + 1 := by rw [← hW1]; simp
  have e2 : W2.heap.size = w.heap.size + 2 := by rw [← hW2]; simp [e1]
  have hb1 : Below w.heap.size w W1 := by rw [← hW1]; exact (Below.refl _ _).alloc (Nat.le_refl _) _
  have hb2 : Below W1.heap.size W1 W2 := by rw [← hW2]; exact (Below.refl _ _).alloc (Nat.le_refl _) _
  have hr : W2.heap[w.heap.size + 1]? = some (dkRow w.heap.size dk0) := by
    rw [← hW2, ← e1]
    exact heap_new W1 _
  rw [hW1] at ho
  have hL : Lay W2 w.heap.size (fun k => k = w.heap.size ∨ k = w.heap.size + 1) (w.heap.size + 1) dk0 w.heap.size (.map []) (fun _ => 0) (fun _ => .pointer none) :=
    ⟨ok0, rigs0, hr, ownsMap_grS (S := fun _ => False) ho (.of_below hb2) (fun h => h), Ties.none _, fun f hf => by simp [dk0] at hf, .inr rfl, .inl rfl, fun f hf => by simp [dk0] at hf, fun f hf => by simp [dk0] at hf, fun k hk => by omega, fun k hk => by omega, fun f hf => by simp [dk0] at hf, fun f hf => by simp [dk0] at hf⟩
  have hD : Hid (∃ S, DiskAt W2 w.heap.size S (w.heap.size + 1) dk0) := ⟨_, _, _, _, _, hL⟩
  have hB : Hid (Below w.heap.size w W2) := ⟨below_step hb1 hb2⟩
  clear hL hr hb1 hb2 ho
  go_enter Tryz.func11, Tryz.ntmps11
  go_wp2
  go_loopw [15] (fun v wr => v = .int .i64 0 ∧ wr = W2) (fun _ _ => 0)
  case atStart => exact ⟨rfl, rfl⟩
  case round =>
    obtain ⟨rfl, rfl⟩ := hrel
    go_wp2
    go_ret2
    obtain ⟨S, hS⟩ := hD.out
    exact ⟨S, _, rfl, hS, hB.out⟩
end Go.Proofs.YthbojlbgjmecoaaGreat.DJ


/- wordAt, appendWord. -/
namespace Go.Proofs.YthbojlbgjmecoaaGreat.DJ
open Go.RowKit

theorem byts_at {W : World} {a : Option Addr} {bs : List Nat} (h : Byts W a bs) {i : Nat} (hi : i < bs.length) : ∃ b off, a = some ⟨b, off, none⟩ ∧ W.cell? ⟨b, off + i, none⟩ = some (.int .u8 (bs[i] : Int)) ∧ bs[i] < 256 := by
  obtain ⟨h0, h1 | ⟨b, off, rfl, hlt, hc⟩⟩ := h
  · rw [h1] at hi; simp at hi
  · exact ⟨b, off, rfl, hc i hi, h0 _ (List.getElem_mem hi)⟩

theorem or4 {x0 x1 x2 x3 : Nat} (l0 : x0 < 256) (l1 : x1 < 256) (l2 : x2 < 256) (l3 : x3 < 256) : bits .or .u32 (bits .or .u32 (bits .or .u32 (x0 : Int) ((x1 : Int) * 256)) ((x2 : Int) * 65536)) ((x3 : Int) * 16777216) = ((x0 + 256 * x1 + 65536 * x2 + 16777216 * x3 : Nat) : Int) := by
  rw [u32_or8 (x0 : Int) ((x1 : Int) * 256) (by omega) (by omega) (by omega) (by omega) (by omega)]
  rw [u32_or16 ((x0 : Int) + (x1 : Int) * 256) ((x2 : Int) * 65536) (by omega) (by omega) (by omega) (by omega) (by omega)]
  rw [u32_or24 ((x0 : Int) + (x1 : Int) * 256 + (x2 : Int) * 65536) ((x3 : Int) * 16777216) (by omega) (by omega) (by omega) (by omega) (by omega)]
  omega
end Go.Proofs.YthbojlbgjmecoaaGreat.DJ

import Derived.Test.YtakcdgeanbpllaaGreatDoorDmP
import Derived.Test.YtakcdgeanbpllaaGreatDoorIter
import Derived.Sort.KeysCollected
/- names: all names, rising. NewDisk of no files. -/
namespace Go.Proofs.YtakcdgeanbpllaaGreatDoor.DJ
open Go.RowKit Go.Shelf

theorem strB_mk (l : List Nat) : strB l = ⟨(u8 l).toArray⟩ := ByteArray.ext (Array.toList_inj.1 (by rw [strB_data]))
theorem u8_inj {a b : List Nat} (ha : ∀ n ∈ a, n < 256) (hb : ∀ n ∈ b, n < 256) (h : u8 a = u8 b) : a = b := strB_inj ha hb (by rw [strB_mk, strB_mk, h])
def nmsOf (fs : List Fl) : List (List UInt8) := fs.map fun f => u8 f.nm
theorem names_perm {W : World} {lo db : Nat} {S : Nat → Prop} {d : Dk} {mb : Nat} {D : DataW Nat} {fb : List Nat → Nat} {vv : List Nat → Value} (h : Lay W lo S db d mb D fb vv) : (nmsOf d.fs).Perm (strKeys D) := by
  obtain ⟨es, rfl, hp⟩ := h.ties.tidy
  obtain ⟨es', e', hk⟩ := h.map.keysOf
  cases e'
  refine perm_strKeys hp (fun p hp' => ?_) ?_ (fun x => ?_)
  · obtain ⟨v, hv⟩ := hk p hp'
    obtain ⟨x, -, hx, -⟩ := Go.Maps.keyOf_str Tryz.underlying9 hv
    exact ⟨x, hx⟩
  · refine List.pairwise_map.2 (List.Pairwise.imp_of_mem (fun {a b} ha hb hab e => ?_) h.ok.srt)
    exact ltB_ne hab (u8_inj (named_lt (h.ok.nmd a ha)) (named_lt (h.ok.nmd b hb)) e)
  · constructor
    · intro hx
      obtain ⟨f, hf, rfl⟩ := List.mem_map.1 hx
      have := (h.ties.hasK (strB f.nm) (h.nmLen hf)).2 ⟨f, hf, rfl⟩
      rw [kl, strB_data] at this
      exact this
    · intro hx
      obtain ⟨p, hp1, hp2⟩ := List.any_eq_true.1 hx
      have hpx := WideAt.sameKey_eq hp2
      obtain ⟨v, hv⟩ := hk p hp1
      obtain ⟨y, -, hy, hyl⟩ := Go.Maps.keyOf_str Tryz.underlying9 hv
      rw [hpx] at hy
      have hxy : x = y := by simpa using hy
      obtain ⟨f, hf, e⟩ := (h.ties.hasK ⟨x.toArray⟩ (by rw [hxy]; simpa [ByteArray.size] using hyl)).1 (by rw [kl]; simpa using hx)
      refine List.mem_map.2 ⟨f, hf, ?_⟩
      rw [← strB_data, e]

/-- A row of names. -/
def nmV (fs : List Fl) : List Value := fs.map fun f => .string (strB f.nm)
theorem nmV_len (fs : List Fl) : (nmV fs).length = fs.length := by simp [nmV]

set_option maxRecDepth 4000 in
set_option maxHeartbeats 1000000 in
theorem names_any {lo db : Nat} {S : Nat → Prop} {d : Dk} (w : World) (h : DiskAt w lo S db d) : Calls Tryz.prog 34 #[.pointer (some ⟨db, 0, none⟩)] w fun e w' => ∃ v, e = .returned v ∧ w'.ownsRow w.heap.size 9 1 v d.fs.length (nmV d.fs) ∧ Below w.heap.size w w' := by
  obtain ⟨mb, D, fb, vv, h⟩ := h
  obtain ⟨c0, -⟩ := h.cells
  have hP := names_perm h
  have h6 := h.ok.len
  have hsz := h.ties.size
  have hsrt : (nmsOf d.fs).mergeSort (fun x y => decide (x ≤ y)) = nmsOf d.fs := List.mergeSort_of_pairwise (srt_u8 h.ok.srt (fun f hf => named_lt (h.ok.nmd f hf)))
  have hnv : (nmsOf d.fs).map encStr = nmV d.fs := by
    unfold nmsOf nmV
    rw [List.map_map]
    refine List.map_congr_left fun f _ => ?_
    simp only [Function.comp, encStr, strB_mk]
  have hK := callsIn_wide.1 (Tryz.maps_Keys_61 (some mb) w)
  have hS := callsIn_wide.1 (Tryz.slices_Sorted_keys_60_61 mb d.fs.length D bR w h.map (by rw [hsz]; exact Nat.le_trans h6 (by decide)) (by rw [hsz]; omega))
  have hb0 : Below w.heap.size w (w.alloc (.cells #[.map (some mb)] 72)) := (Below.refl _ _).alloc (Nat.le_refl _) _
  clear h
  go_enter Tryz.func34, Tryz.ntmps34
  go_wp2_with (first
    | (go_at_call 61; refine hK.mono ?_; rintro e w1 ⟨rfl, rfl⟩)
    | (go_at_call 60; refine hS.mono ?_; rintro e w2 ⟨v, ss, rfl, hpm, hrow, -, hb2⟩))
  go_ret
  have hpm2 := hpm.trans hP.symm
  have hlen : ss.length = d.fs.length := by rw [hpm2.length_eq]; simp [nmsOf]
  rw [hlen, mergeSort_of_perm hpm2, hsrt, hnv] at hrow
  refine ⟨v, rfl, ?_, below_step hb0 hb2⟩
  obtain ⟨q1, q2⟩ := hrow
  refine ⟨q1, ?_⟩
  rcases q2 with q2 | ⟨g, cap, cur, e, hg, rest⟩
  · exact .inl q2
  · exact .inr ⟨g, cap, cur, e, Nat.le_trans hb0.size hg, rest⟩
theorem name_at {w : World} {base g cap n : Nat} {fs : List Fl} {i : Nat} (h : w.ownsRow base 9 1 (.slice (some ⟨g, 0, none⟩) n cap) n (nmV fs)) (hl : i < fs.length) (hn : fs.length = n) : w.cell? ⟨g, i, none⟩ = some (.string (strB fs[i].nm)) := by
  refine (h.cellAt i (by omega)).trans ?_
  simp [nmV, hl]

def dk0 : Dk := ⟨[], false, none, 0, 0⟩
theorem ok0 : Ok dk0 := ⟨.nil, Nat.zero_le _, fun f hf => by simp [dk0] at hf, fun f hf => by simp [dk0] at hf, fun f hf => by simp [dk0] at hf, fun f hf => by simp [dk0] at hf⟩
theorem rigs0 : Rigs dk0 := ⟨fun u h => (by cases h), Nat.zero_le _, Nat.zero_le _, fun h => (by cases h)⟩
set_option maxRecDepth 4000 in
set_option maxHeartbeats 1000000 in
theorem newDisk_nil (cap : Nat) (a : Option Addr) (w : World) : Calls Tryz.prog 26 #[.slice a 0 cap] w fun e w' => ∃ S db, e = .returned (.tuple #[.pointer (some ⟨db, 0, none⟩), .int .i64 0]) ∧ DiskAt w' w.heap.size S db dk0 ∧ Below w.heap.size w w' := by
  have hmm := @run_makeMap Tryz.prog
  have ho := World.ownsMap_made w Tryz.prog 9 bR
  obtain ⟨W1, hW1⟩ : ∃ W1, w.alloc (.map #[] 0) = W1 := ⟨_, rfl⟩
  obtain ⟨W2, hW2⟩ : ∃ W2, W1.alloc (.cells #[.map (some w.heap.size), .bool false, .int .i64 0, .int .i64 0, .int .i64 0, .bool false] 76) = W2 := ⟨_, rfl⟩
  have e1 : W1.heap.size = w.heap.size + 1 := by rw [← hW1]; simp
  have e2 : W2.heap.size = w.heap.size + 2 := by rw [← hW2]; simp [e1]
  have hb1 : Below w.heap.size w W1 := by rw [← hW1]; exact (Below.refl _ _).alloc (Nat.le_refl _) _
  have hb2 : Below W1.heap.size W1 W2 := by rw [← hW2]; exact (Below.refl _ _).alloc (Nat.le_refl _) _
  have hr : W2.heap[w.heap.size + 1]? = some (dkRow w.heap.size dk0) := by
    rw [← hW2, ← e1]
    exact heap_new W1 _
  rw [hW1] at ho
  have hL : Lay W2 w.heap.size (fun k => k = w.heap.size ∨ k = w.heap.size + 1) (w.heap.size + 1) dk0 w.heap.size (.map []) (fun _ => 0) (fun _ => .pointer none) :=
    ⟨ok0, rigs0, hr, ownsMap_grS (S := fun _ => False) ho (.of_below hb2) (fun h => h), Ties.none _, fun f hf => by simp [dk0] at hf, .inr rfl, .inl rfl, fun f hf => by simp [dk0] at hf, fun f hf => by simp [dk0] at hf, fun k hk => by omega, fun k hk => by omega, fun f hf => by simp [dk0] at hf, fun f hf => by simp [dk0] at hf⟩
  have hD : Hid (∃ S, DiskAt W2 w.heap.size S (w.heap.size + 1) dk0) := ⟨_, _, _, _, _, hL⟩
  have hB : Hid (Below w.heap.size w W2) := ⟨below_step hb1 hb2⟩
  clear hL hr hb1 hb2 ho
  go_enter Tryz.func26, Tryz.ntmps26
  go_wp2
  go_loopw [15] (fun v wr => v = .int .i64 0 ∧ wr = W2) (fun _ _ => 0)
  case atStart => exact ⟨rfl, rfl⟩
  case round =>
    obtain ⟨rfl, rfl⟩ := hrel
    go_wp2
    go_ret2
    obtain ⟨S, hS⟩ := hD.out
    exact ⟨S, _, rfl, hS, hB.out⟩
end Go.Proofs.YtakcdgeanbpllaaGreatDoor.DJ

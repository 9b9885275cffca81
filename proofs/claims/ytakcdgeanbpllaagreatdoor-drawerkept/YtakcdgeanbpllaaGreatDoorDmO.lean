import Derived.Test.YtakcdgeanbpllaaGreatDoorDmN
import Derived.Deep.RegionHeld3
/- Append. -/
namespace Go.Proofs.YtakcdgeanbpllaaGreatDoor.DJ
open Go.RowKit

theorem en115 (x : Array Value) (w : World) : (callFunc 115 x).run Tryz.prog w = .ok (.enter 115 x) w := by
  kernel_rfl
theorem en118 (x : Array Value) (w : World) : (callFunc 118 x).run Tryz.prog w = .ok (.enter 118 x) w := by
  kernel_rfl
def full (fs : List Fl) (nm : List Nat) (n : Nat) : Prop := 2097152 < size fs nm + n ∨ (get fs nm = none ∧ 40 ≤ fs.length)
instance (fs : List Fl) (nm : List Nat) (n : Nat) : Decidable (full fs nm n) := by
  unfold full
  cases h : get fs nm with
  | none => simp only [true_and]; infer_instance
  | some f => exact decidable_of_iff (2097152 < size fs nm + n) (by simp)

theorem not_full {fs : List Fl} {nm : List Nat} {n : Nat} (h : ¬ full fs nm n) : size fs nm + n ≤ 2097152 ∧ (get fs nm = none → fs.length < 40) := ⟨Nat.not_lt.1 fun h' => h (.inl h'), fun hg => Nat.not_le.1 fun h' => h (.inr ⟨hg, h'⟩)⟩
theorem lay_any {lo db : Nat} {S : Nat → Prop} {d : Dk} {nm : List Nat} (hn : named nm) {data : List Nat} (hf : ¬ full d.fs nm data.length) (ad : Option Addr) (cap : Nat) (hcap : ad = none → cap = 0) (w : World) (hlo : lo ≤ w.heap.size) (hN : Byts w ad data) (hap : ∀ p, ad = some p → ¬ S p.block) (h : DiskAt w lo S db d) :
    Calls Tryz.prog 119 #[.pointer (some ⟨db, 0, none⟩), .string (strB nm), .slice ad data.length cap] w fun e w' => e = .returned (.tuple #[]) ∧ ∃ S', DiskAt w' lo S' db { d with fs := lay d.fs nm data } ∧ Dv S w S' w' := by
  obtain ⟨h1, h2⟩ := not_full hf
  cases hg : get d.fs nm with
  | none =>
    rw [size_none hg] at h1
    exact lay_no hg hn (h2 hg) (by omega) ad cap hcap w hlo hN hap h
  | some f =>
    rw [size_some hg] at h1
    obtain ⟨h3, rfl⟩ := get_some hg
    exact lay_yes h3 h1 ad cap hcap w hlo hN h

set_option maxRecDepth 4000 in
set_option maxHeartbeats 1000000 in
theorem append1_any {lo db : Nat} {S : Nat → Prop} {d : Dk} {nm : List Nat} {n : Nat} (hm : n ≤ 9223372036854775807) (hl : nm.length ≤ 4294967296) (hb : ∀ x ∈ nm, x < 256) (w : World) (x0 x1 x2 : Nat) (ad : Option Addr) (cap : Nat) (h0 : w.cell? ⟨x0, 0, none⟩ = some (.pointer (some ⟨db, 0, none⟩))) (h1 : w.cell? ⟨x1, 0, none⟩ = some (.string (strB nm))) (h2 : w.cell? ⟨x2, 0, none⟩ = some (.slice ad n cap)) (h : DiskAt w lo S db d) :
    Calls Tryz.prog 115 #[.pointer (some ⟨x0, 0, none⟩), .pointer (some ⟨x1, 0, none⟩), .pointer (some ⟨x2, 0, none⟩)] w fun e w' => e = .returned (.int .i64 (if full d.fs nm n then 194 else 0 : Nat)) ∧ w' = w := by
  have hf := room_any (more := n) hm hl hb w h
  have e : (if full d.fs nm n then 194 else 0 : Nat) = if 2097152 < size d.fs nm + n ∨ (get d.fs nm = none ∧ 40 ≤ d.fs.length) then 194 else 0 := by
    by_cases h9 : full d.fs nm n
    · rw [if_pos h9]
      exact (if_pos h9).symm
    · rw [if_neg h9]
      exact (if_neg h9).symm
  rw [e]
  generalize (if 2097152 < size d.fs nm + n ∨ (get d.fs nm = none ∧ 40 ≤ d.fs.length) then 194 else 0 : Nat) = z at *
  generalize strB nm = s at *
  clear h e
  go_enter Tryz.func115, Tryz.ntmps115
  go_wp2_with (go_at_call 116; refine hf.mono ?_; rintro e w9 ⟨rfl, rfl⟩)
  go_ret
  exact ⟨rfl, rfl⟩

set_option maxRecDepth 4000 in
set_option maxHeartbeats 1000000 in
theorem append2_any {lo db : Nat} {S : Nat → Prop} {d : Dk} {nm : List Nat} (hn : named nm) {data : List Nat} (hf : ¬ full d.fs nm data.length) (u : Nat) (w : World) (hlo : lo ≤ w.heap.size) (x0 x1 x2 : Nat) (ad : Option Addr) (cap : Nat) (hcap : ad = none → cap = 0) (hcl : data.length ≤ cap) (hN : Byts w ad data) (hap : ∀ p, ad = some p → ¬ S p.block) (h0 : w.cell? ⟨x0, 0, none⟩ = some (.pointer (some ⟨db, 0, none⟩))) (h1 : w.cell? ⟨x1, 0, none⟩ = some (.string (strB nm))) (h2 : w.cell? ⟨x2, 0, none⟩ = some (.slice ad data.length cap)) (hx : ∀ k, S k → k ≠ x0 ∧ k ≠ x1 ∧ k ≠ x2) (h : DiskAt w lo S db d) :
    Calls Tryz.prog 118 #[.int .i64 (u : Int), .pointer (some ⟨x0, 0, none⟩), .pointer (some ⟨x1, 0, none⟩), .pointer (some ⟨x2, 0, none⟩)] w fun e w' => e = .returned (.tuple #[]) ∧ ∃ S', DiskAt w' lo S' db { d with fs := lay d.fs nm (data.take u) } ∧ Dv S w S' w' := by
  have B0 : Below w.heap.size w w.drew := (Below.refl _ _).drew
  have hlen : data.length ≤ 2097152 := by
    have h2 := (not_full hf).1
    omega
  have hL := lay_any (data := data.take u) hn (by
    have h1 : (data.take u).length ≤ data.length := by rw [List.length_take]; omega
    rintro (h' | h')
    · exact hf (.inl (by omega))
    · exact hf (.inr h')) ad cap hcap w.drew (Nat.le_trans hlo B0.size) (byts_take (hN.later B0) u) hap (h.later B0)
  rw [List.length_take] at hL
  obtain ⟨k, hk⟩ : ∃ k, min u data.length = k := ⟨_, rfl⟩
  rw [hk] at hL
  have hki : Hid (min (u : Int) (data.length : Int) = (k : Int)) := ⟨by omega⟩
  have hmin := hki.out
  have hk0 : (0 : Int) ≤ (k : Int) := by omega
  have hkc : (k : Int) ≤ (cap : Int) := by omega
  generalize lay d.fs nm (data.take u) = fs' at *
  generalize strB nm = s at *
  have hs0 : w.drew.cell? ⟨x0, 0, none⟩ = some (.pointer (some ⟨db, 0, none⟩)) ∧ w.drew.cell? ⟨x1, 0, none⟩ = some (.string s) ∧ w.drew.cell? ⟨x2, 0, none⟩ = some (.slice ad data.length cap) := ⟨h0, h1, h2⟩
  have hkeep : ∀ S' X, Dv S w.drew S' X → X.cell? ⟨x0, 0, none⟩ = some (.pointer (some ⟨db, 0, none⟩)) ∧ X.cell? ⟨x1, 0, none⟩ = some (.string s) ∧ X.cell? ⟨x2, 0, none⟩ = some (.slice ad data.length cap) := fun S' X hv =>
    ⟨(hv.gr.cell (World.block_lt_of_cell? _ _ hs0.1) (fun e => (hx _ e).1 rfl)).trans hs0.1, (hv.gr.cell (World.block_lt_of_cell? _ _ hs0.2.1) (fun e => (hx _ e).2.1 rfl)).trans hs0.2.1, (hv.gr.cell (World.block_lt_of_cell? _ _ hs0.2.2) (fun e => (hx _ e).2.2 rfl)).trans hs0.2.2⟩
  clear h hk hf hN
  go_enter Tryz.func118, Tryz.ntmps118
  go_wp2
  go_region_held3 (fun X => X.cell? ⟨x0, 0, none⟩ = some (.pointer (some ⟨db, 0, none⟩)) ∧ X.cell? ⟨x1, 0, none⟩ = some (.string s) ∧ X.cell? ⟨x2, 0, none⟩ = some (.slice ad data.length cap)) (with_reducible assumption) ((go_at_call 119; refine hL.mono ?_; rintro e w9 ⟨rfl, S', h9, hv9⟩; have hs9 := hkeep _ _ hv9))
  go_wp2
  go_end0
  exact ⟨rfl, S', h9, Dv.trans (.below B0) hv9⟩

end Go.Proofs.YtakcdgeanbpllaaGreatDoor.DJ

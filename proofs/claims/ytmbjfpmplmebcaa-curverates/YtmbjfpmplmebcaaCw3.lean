import Derived.Test.YtmbjfpmplmebcaaCw2
namespace Go.Proofs.Ytmbjfpmplmebcaa.CF
open Go.RowKit

/-- Points: places and the bits of their heights. -/
abbrev Dots := List (Int × Nat)
def Ok (D : Dots) : Prop := ∀ d ∈ D, (-9223372036854775808 ≤ d.1 ∧ d.1 ≤ 9223372036854775807) ∧ d.2 < 4294967296
/-- A list of the program's points. -/
def PtAt (w : World) (a : Option Addr) (D : Dots) : Prop := D = [] ∨ ∃ b off, a = some ⟨b, off, none⟩ ∧ b < w.heap.size ∧ ∀ i (h : i < D.length), w.cell? ⟨b, off + i * 2, none⟩ = some (.int .i64 D[i].1) ∧ w.cell? ⟨b, off + i * 2 + 1, none⟩ = some (.float .f32 D[i].2)
/-- A list of the document's points. -/
def RtAt (w : World) (a : Option Addr) (D : Dots) : Prop := D = [] ∨ ∃ b off, a = some ⟨b, off, none⟩ ∧ b < w.heap.size ∧ ∀ i (h : i < D.length), w.cell? ⟨b, off + i * 2, none⟩ = some (.int .i64 D[i].1) ∧ w.cell? ⟨b, off + i * 2 + 1, none⟩ = some (.int .u32 (D[i].2 : Int))
theorem PtAt.later {w w' : World} {a : Option Addr} {D : Dots} (h : PtAt w a D) (hb : Below w.heap.size w w') : PtAt w' a D := by
  rcases h with h | ⟨b, off, ha, hlt, hc⟩
  · exact .inl h
  · exact .inr ⟨b, off, ha, Nat.lt_of_lt_of_le hlt hb.size, fun i hi => ⟨(hb.cell (p := ⟨b, off + i * 2, none⟩) hlt).trans (hc i hi).1, (hb.cell (p := ⟨b, off + i * 2 + 1, none⟩) hlt).trans (hc i hi).2⟩⟩
theorem RtAt.later {w w' : World} {a : Option Addr} {D : Dots} (h : RtAt w a D) (hb : Below w.heap.size w w') : RtAt w' a D := by
  rcases h with h | ⟨b, off, ha, hlt, hc⟩
  · exact .inl h
  · exact .inr ⟨b, off, ha, Nat.lt_of_lt_of_le hlt hb.size, fun i hi => ⟨(hb.cell (p := ⟨b, off + i * 2, none⟩) hlt).trans (hc i hi).1, (hb.cell (p := ⟨b, off + i * 2 + 1, none⟩) hlt).trans (hc i hi).2⟩⟩
set_option maxRecDepth 4000 in
set_option maxHeartbeats 1000000 in
theorem sameDots_self (D : Dots) (hD : Ok D) (hl : D.length ≤ 9223372036854775807) (a a2 : Option Addr) (c c2 : Nat) (w : World) (h : PtAt w a D) (h2 : RtAt w a2 D) : Calls Try.prog 13 #[.slice a D.length c, .slice a2 D.length c2] w fun e w' => e = .returned (.bool true) ∧ Below w.heap.size w w' := by
  have hne : ((D.length : Int) != (D.length : Int)) = false := by simp
  go_enter Try.func13, Try.ntmps13
  go_wp2
  go_loopw [5] (fun v wr => ∃ k : Nat, k ≤ D.length ∧ v = .int .i64 (k : Int) ∧ Below w.heap.size w wr) (fun v _ => D.length - (intOf v).toNat)
  case atStart => exact ⟨0, by omega, rfl, Below.refl _ _⟩
  case round =>
    obtain ⟨k, hk, rfl, hB⟩ := hrel
    by_cases hlt : k < D.length
    · have hlt' : (k : Int) < (D.length : Int) := by omega
      have hk0 : (0 : Int) ≤ (k : Int) := by omega
      obtain ⟨b, off, rfl, -, hc⟩ := (h.later hB).resolve_left (fun e => by rw [e] at hlt; simp at hlt)
      obtain ⟨b2, off2, rfl, -, hc2⟩ := (h2.later hB).resolve_left (fun e => by rw [e] at hlt; simp at hlt)
      obtain ⟨p0, p1⟩ := hc k hlt
      obtain ⟨q0, q1⟩ := hc2 k hlt
      have hd := (hD _ (List.getElem_mem hlt)).2
      generalize D[k].1 = x at *
      generalize D[k].2 = y at *
      have hn := fun X => near_self y hd X
      have hx : (x != x) = false := by simp
      clear hc hc2 hd hD
      go_wp2_with fail
      go_quiet ((go_at_call 32; exact Calls.quiet_of_same (hn _)))
      go_wp2
      go_roundw
      case rel => exact ⟨k + 1, by omega, by go_num, below_drewN hB _⟩
      case measure => simp [intOf]; omega
    · have hlt' : ¬ (k : Int) < (D.length : Int) := by omega
      go_wp2
      go_ret
      exact ⟨rfl, hB⟩
end Go.Proofs.Ytmbjfpmplmebcaa.CF

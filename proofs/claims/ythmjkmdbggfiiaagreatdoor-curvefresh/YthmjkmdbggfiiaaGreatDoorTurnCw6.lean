import Derived.Test.YthmjkmdbggfiiaaGreatDoorJoin21
namespace Go.Proofs.YthmjkmdbggfiiaaGreatDoor.CF
open Go.RowKit
attribute [local go_sem] run_store_float

def bw (x : Int) : Bool := decide (-9999999999999 ≤ x ∧ x ≤ 9999999999999)
theorem bw_eq (x : Int) : bw x = (!decide (x < -9999999999999) && !decide (9999999999999 < x)) := by
  unfold bw
  by_cases h1 : x < -9999999999999
  · rw [decide_eq_true h1, decide_eq_false (by omega)]; rfl
  · by_cases h2 : 9999999999999 < x
    · rw [decide_eq_false h1, decide_eq_true h2, decide_eq_false (by omega)]; rfl
    · rw [decide_eq_false h1, decide_eq_false h2, decide_eq_true (by omega)]; rfl
def bf (y : Nat) : Bool := decide (y % 2147483648 < 2139095040)
theorem within_any (x : Int) (w : World) : Calls Tryz.prog 84 #[.int .i64 x] w fun e w' => e = .returned (.bool (bw x)) ∧ w' = w := by
  unfold bw
  by_cases h1 : -9999999999999 ≤ x
  · by_cases h2 : x ≤ 9999999999999
    · rw [decide_eq_true ⟨h1, h2⟩]
      go_enter Tryz.func84, Tryz.ntmps84
      go_wp2
      go_ret
      exact ⟨rfl, rfl⟩
    · rw [decide_eq_false (fun h => h2 h.2)]
      have h3 : decide (x ≤ 9999999999999) = false := decide_eq_false h2
      go_enter Tryz.func84, Tryz.ntmps84
      go_wp2
      go_ret
      exact ⟨by simp, rfl⟩
  · rw [decide_eq_false (fun h => h1 h.1)]
    have h3 : decide (-9999999999999 ≤ x) = false := decide_eq_false h1
    go_enter Tryz.func84, Tryz.ntmps84
    go_wp2
    go_ret
    exact ⟨by simp, rfl⟩
theorem finP_any (y : Nat) (hy : y < 4294967296) (w : World) : Calls Tryz.prog 53 #[.float .f32 y] w fun e w' => e = .returned (.bool (bf y)) ∧ w' = w := by
  have hf := fin_iff hy
  obtain ⟨o1, h1⟩ : ∃ o, o = (Ieee.single.order 4286578687 y == some .lt || Ieee.single.order 4286578687 y == some .eq) := ⟨_, rfl⟩
  obtain ⟨o2, h2⟩ : ∃ o, o = (Ieee.single.order y 2139095039 == some .lt || Ieee.single.order y 2139095039 == some .eq) := ⟨_, rfl⟩
  rw [← h1, ← h2] at hf
  have k1 : (FloatKind.f32.format.order 4286578687 y == some .lt || FloatKind.f32.format.order 4286578687 y == some .eq) = o1 := h1.symm
  have k2 : (FloatKind.f32.format.order y 2139095039 == some .lt || FloatKind.f32.format.order y 2139095039 == some .eq) = o2 := h2.symm
  have hf2 : (o1 && o2) = bf y := hf
  rw [← hf2]
  clear h1 h2 hf hf2
  cases o1 <;> cases o2 <;> (go_enter Tryz.func53, Tryz.ntmps53; go_wp2; go_ret; exact ⟨rfl, rfl⟩)
/-- Is the k-th point as it must be? -/
def gB (D : Dots) (k : Nat) : Bool := bw (D.getD k (0, 0)).1 && bf (D.getD k (0, 0)).2 && (k == 0 || decide ((D.getD (k - 1) (0, 0)).1 < (D.getD k (0, 0)).1))
/-- Are they in order? -/
def inO (D : Dots) : Bool := (List.range D.length).all (gB D)
theorem inO_true {D : Dots} : inO D = true ↔ ∀ k, k < D.length → gB D k = true := by
  unfold inO
  rw [List.all_eq_true]
  exact ⟨fun h k hk => h k (List.mem_range.2 hk), fun h k hk => h k (List.mem_range.1 hk)⟩
theorem inO_no {D : Dots} {k : Nat} (hk : k < D.length) (h : gB D k = false) : inO D = false := by
  cases hi : inO D with
  | false => rfl
  | true => have := inO_true.1 hi k hk; rw [h] at this; cases this
theorem PtAt.cells {w : World} {a : Option Addr} {D : Dots} (h : PtAt w a D) {k : Nat} (hk : k < D.length) : ∃ b off, a = some ⟨b, off, none⟩ ∧ ∀ i, i < D.length → w.cell? ⟨b, off + i * 2, none⟩ = some (.int .i64 (D.getD i (0, 0)).1) ∧ w.cell? ⟨b, off + i * 2 + 1, none⟩ = some (.float .f32 (D.getD i (0, 0)).2) := by
  obtain ⟨b, off, rfl, -, hc⟩ := h.resolve_left (fun e => by rw [e] at hk; simp at hk)
  refine ⟨b, off, rfl, fun i hi => ?_⟩
  have e : D.getD i (0, 0) = D[i] := by simp [List.getD, hi]
  rw [e]
  exact hc i hi
theorem RtAt.cells {w : World} {a : Option Addr} {D : Dots} (h : RtAt w a D) {k : Nat} (hk : k < D.length) : ∃ b off, a = some ⟨b, off, none⟩ ∧ ∀ i, i < D.length → w.cell? ⟨b, off + i * 2, none⟩ = some (.int .i64 (D.getD i (0, 0)).1) ∧ w.cell? ⟨b, off + i * 2 + 1, none⟩ = some (.int .u32 ((D.getD i (0, 0)).2 : Int)) := by
  obtain ⟨b, off, rfl, -, hc⟩ := h.resolve_left (fun e => by rw [e] at hk; simp at hk)
  refine ⟨b, off, rfl, fun i hi => ?_⟩
  have e : D.getD i (0, 0) = D[i] := by simp [List.getD, hi]
  rw [e]
  exact hc i hi
theorem Ok.getD {D : Dots} (h : Ok D) (k : Nat) : (-9223372036854775808 ≤ (D.getD k (0, 0)).1 ∧ (D.getD k (0, 0)).1 ≤ 9223372036854775807) ∧ (D.getD k (0, 0)).2 < 4294967296 := by
  by_cases hk : k < D.length
  · have e : D.getD k (0, 0) = D[k] := by simp [List.getD, hk]
    rw [e]
    exact h _ (List.getElem_mem hk)
  · have e : D.getD k (0, 0) = (0, 0) := by simp [List.getD, hk]
    rw [e]
    exact ⟨by decide, by decide⟩
set_option maxRecDepth 8000 in
set_option maxHeartbeats 2000000 in
theorem inOrder_any (D : Dots) (hD : Ok D) (hl : D.length ≤ 9223372036854775806) (a : Option Addr) (c : Nat) (w : World) (h : PtAt w a D) : Calls Tryz.prog 49 #[.slice a D.length c] w fun e w' => e = .returned (.bool (inO D)) ∧ Below w.heap.size w w' := by
  obtain ⟨o, ho⟩ : ∃ o, o = inO D := ⟨_, rfl⟩
  rw [← ho]
  have hyes : Hid ((∀ k, k < D.length → gB D k = true) → o = true) := ⟨fun h => by rw [ho]; exact inO_true.2 h⟩
  have hno : Hid (∀ k, k < D.length → gB D k = false → o = false) := ⟨fun k hk h => by rw [ho]; exact inO_no hk h⟩
  clear ho
  go_enter Tryz.func49, Tryz.ntmps49
  go_wp2
  go_loopw [7] (fun v wr => ∃ k : Nat, k ≤ D.length ∧ v = .int .i64 (k : Int) ∧ Below w.heap.size w wr ∧ Hid (∀ j, j < k → gB D j = true)) (fun v _ => D.length - (intOf v).toNat)
  case atStart => exact ⟨0, by omega, rfl, Below.refl _ _, ⟨fun j hj => absurd hj (by omega)⟩⟩
  case round =>
    obtain ⟨k, hk, rfl, hB, hg⟩ := hrel
    by_cases hlt : k < D.length
    · have hlt' : (k : Int) < (D.length : Int) := by omega
      have hk0 : (0 : Int) ≤ (k : Int) := by omega
      obtain ⟨b, off, rfl, hc⟩ := (h.later hB).cells hlt
      have hbl : b < wr.heap.size := World.block_lt_of_cell? _ _ (hc k hlt).1
      obtain ⟨p0, p1⟩ := hc k hlt
      obtain ⟨-, hy⟩ := hD.getD k
      obtain ⟨G, hG⟩ : ∃ G, G = gB D k := ⟨_, rfl⟩
      have hGno : Hid (G = false → o = false) := ⟨fun e => hno.out k hlt (by rw [← hG]; exact e)⟩
      have hGyes : Hid (G = true → ∀ j, j < k + 1 → gB D j = true) := ⟨fun e j hj => by
        rcases Nat.lt_succ_iff_lt_or_eq.1 hj with h1 | h1
        · exact hg.out j h1
        · subst h1; rw [← hG]; exact e⟩
      unfold gB at hG
      by_cases hz : k = 0
      · subst hz
        rw [Nat.zero_mul, Nat.add_zero] at p0 p1
        rw [show ((0 == 0) : Bool) = true from rfl, Bool.true_or, Bool.and_true] at hG
        generalize (D.getD 0 (0, 0)).1 = x at *
        generalize (D.getD 0 (0, 0)).2 = y at *
        have hB2 : Below w.heap.size w (wr.alloc (.cells #[.int .i64 x, .float .f32 y] 64)) := hB.alloc hB.size _
        have hwi := fun W => within_any x W
        have hfi := fun W => finP_any y hy W
        generalize bw x = b1 at *
        generalize bf y = b2 at *
        clear hc hD h hg hno hy hyes
        go_upto_region 4 with fail
        obtain ⟨X, hX⟩ : ∃ X, wr.alloc (.cells #[.int .i64 x, .float .f32 y] 64) = X := ⟨_, rfl⟩
        have t0 : X.cell? ⟨wr.heap.size, 0, none⟩ = some (.int .i64 x) := by rw [← hX]; simp
        have t1 : X.cell? ⟨wr.heap.size, 1, none⟩ = some (.float .f32 y) := by rw [← hX]; simp
        rw [hX] at hB2 ⊢
        clear hX
        cases b1
        · have ho := hGno.out (by rw [hG]; rfl)
          clear hG hGno hGyes
          go_quiet ((go_at_call 84; exact Calls.quiet_of_same (hwi _)))
          go_wp2
          go_ret
          exact ⟨by rw [ho]; rfl, below_drewN hB2 _⟩
        · cases b2
          · have ho := hGno.out (by rw [hG]; rfl)
            clear hG hGno hGyes
            go_quiet (first | (go_at_call 84; exact Calls.quiet_of_same (hwi _)) | (go_at_call 53; exact Calls.quiet_of_same (hfi _)))
            go_wp2
            go_ret
            exact ⟨by rw [ho]; rfl, below_drewN hB2 _⟩
          · have hgy := Hid.mk (hGyes.out (by rw [hG]; rfl))
            clear hG hGno hGyes
            go_quiet (first | (go_at_call 84; exact Calls.quiet_of_same (hwi _)) | (go_at_call 53; exact Calls.quiet_of_same (hfi _)))
            go_wp2
            go_roundw
            case rel => exact ⟨0 + 1, by omega, by go_num, below_drewN hB2 _, hgy⟩
            case measure => simp [intOf]; omega
      · obtain ⟨j, rfl⟩ : ∃ j, k = j + 1 := ⟨k - 1, by omega⟩
        obtain ⟨r0, -⟩ := hc j (by omega)
        rw [Nat.add_sub_cancel] at hG
        generalize (D.getD (j + 1) (0, 0)).1 = x at *
        generalize (D.getD (j + 1) (0, 0)).2 = y at *
        generalize (D.getD j (0, 0)).1 = z at *
        have hB2 : Below w.heap.size w (wr.alloc (.cells #[.int .i64 x, .float .f32 y] 64)) := hB.alloc hB.size _
        have s0 : (wr.alloc (.cells #[.int .i64 x, .float .f32 y] 64)).cell? ⟨b, off + j * 2, none⟩ = some (.int .i64 z) := (World.cell?_alloc_old _ _ _ (Nat.ne_of_lt hbl)).trans r0
        have hwi := fun W => within_any x W
        have hfi := fun W => finP_any y hy W
        obtain ⟨ib, hib⟩ : ∃ ib, ib = decide (z < x) := ⟨_, rfl⟩
        have hib2 : decide (x ≤ z) = !ib := by rw [hib]; by_cases hxz : x ≤ z
                                               · rw [decide_eq_true hxz, decide_eq_false (by omega)]; rfl
                                               · rw [decide_eq_false hxz, decide_eq_true (by omega)]; rfl
        rw [show ((j + 1 == 0) : Bool) = false from rfl, Bool.false_or, ← hib] at hG
        generalize bw x = b1 at *
        generalize bf y = b2 at *
        clear hc hib hD h hg hno hy hyes
        go_upto_region 4 with fail
        obtain ⟨X, hX⟩ : ∃ X, wr.alloc (.cells #[.int .i64 x, .float .f32 y] 64) = X := ⟨_, rfl⟩
        have t0 : X.cell? ⟨wr.heap.size, 0, none⟩ = some (.int .i64 x) := by rw [← hX]; simp
        have t1 : X.cell? ⟨wr.heap.size, 1, none⟩ = some (.float .f32 y) := by rw [← hX]; simp
        rw [hX] at hB2 s0 ⊢
        clear hX
        cases b1
        · have ho := hGno.out (by rw [hG]; rfl)
          clear hG hGno hGyes
          go_quiet ((go_at_call 84; exact Calls.quiet_of_same (hwi _)))
          go_wp2
          go_ret
          exact ⟨by rw [ho]; rfl, below_drewN hB2 _⟩
        · cases b2
          · have ho := hGno.out (by rw [hG]; rfl)
            clear hG hGno hGyes
            go_quiet (first | (go_at_call 84; exact Calls.quiet_of_same (hwi _)) | (go_at_call 53; exact Calls.quiet_of_same (hfi _)))
            go_wp2
            go_ret
            exact ⟨by rw [ho]; rfl, below_drewN hB2 _⟩
          · cases ib
            · have ho := hGno.out (by rw [hG]; rfl)
              clear hG hGno hGyes
              go_quiet (first | (go_at_call 84; exact Calls.quiet_of_same (hwi _)) | (go_at_call 53; exact Calls.quiet_of_same (hfi _)))
              go_wp2
              go_ret
              exact ⟨by rw [ho]; rfl, below_drewN hB2 _⟩
            · have hgy := Hid.mk (hGyes.out (by rw [hG]; rfl))
              clear hG hGno hGyes
              go_quiet (first | (go_at_call 84; exact Calls.quiet_of_same (hwi _)) | (go_at_call 53; exact Calls.quiet_of_same (hfi _)))
              go_wp2
              go_roundw
              case rel => exact ⟨j + 1 + 1, by omega, by go_num, below_drewN hB2 _, hgy⟩
              case measure => simp [intOf]; omega
    · have hlt' : ¬ (k : Int) < (D.length : Int) := by omega
      have he := hyes.out (fun j hj => hg.out j (by omega))
      clear hyes hno hg
      go_wp2
      go_ret
      exact ⟨rfl, hB⟩
end Go.Proofs.YthmjkmdbggfiiaaGreatDoor.CF

import Derived.Test.YtoippgmecnlhcaaGreatDoorTurnRHoldTok
import Derived.Test.YtoippgmecnlhcaaGreatDoorTurnWAnyP
import Derived.Test.YtoippgmecnlhcaaGreatDoorJoin45
namespace Go.Proofs.YtoippgmecnlhcaaGreatDoor.Q
open Go.RowKit Go.Shelf

def tkL (t : Tk) : List Value := [.int .i64 t.1, .int .i64 t.2.1, .string ⟨t.2.2.1.toArray⟩, .int .i64 t.2.2.2.1, .int .i64 t.2.2.2.2]
def tkLs (L : List Tk) : List Value := L.flatMap tkL
theorem tkLs_app (a b : List Tk) : tkLs (a ++ b) = tkLs a ++ tkLs b := by simp [tkLs]
theorem tkLs_one (t : Tk) : tkLs [t] = tkL t := by simp [tkLs]
theorem tkLs_get (L : List Tk) (j i : Nat) (hj : j < L.length) (hi : i < 5) : (tkLs L)[j * 5 + i]? = (tkL L[j])[i]? := by
  induction L generalizing j with
  | nil => simp at hj
  | cons x L ih =>
    have hl : (tkL x).length = 5 := rfl
    show (tkL x ++ tkLs L)[j * 5 + i]? = _
    cases j with
    | zero =>
      rw [List.getElem?_append_left (by omega)]
      simp
    | succ j =>
      rw [List.getElem?_append_right (by omega), hl, show (j + 1) * 5 + i - 5 = j * 5 + i from by omega, ih j (by simpa using hj)]
      simp
theorem tk_one (t : Tk) : ∀ u ∈ tkL t, u.oneCell' = true := by
  intro u hu
  simp only [tkL, List.mem_cons, List.not_mem_nil, or_false] at hu
  rcases hu with rfl | rfl | rfl | rfl | rfl <;> rfl
theorem tk_two (s t : Tk) : ∀ u ∈ tkL s ++ tkL t, u.oneCell' = true := by
  intro u hu
  rcases List.mem_append.1 hu with h | h
  · exact tk_one s u h
  · exact tk_one t u h
theorem cells5_at (W : World) (n : Nat) (hn : n = W.heap.size) (a b c d e : Value) (t : TypeId) : ∀ j u, ([a, b, c, d, e] : List Value)[j]? = some u → (W.alloc (.cells #[a, b, c, d, e] t)).cell? ((⟨n, 0, none⟩ : Addr).add j) = some u := by
  subst hn
  intro j u h
  match j, h with
  | 0, h => simpa [Addr.add] using h
  | 1, h => simpa [Addr.add] using h
  | 2, h => simpa [Addr.add] using h
  | 3, h => simpa [Addr.add] using h
  | 4, h => simpa [Addr.add] using h
  | j + 5, h => simp at h
theorem cells10_at (W : World) (n : Nat) (hn : n = W.heap.size) (a b c d e a' b' c' d' e' : Value) (t : TypeId) : ∀ j u, ([a, b, c, d, e, a', b', c', d', e'] : List Value)[j]? = some u → (W.alloc (.cells #[a, b, c, d, e, a', b', c', d', e'] t)).cell? ((⟨n, 0, none⟩ : Addr).add j) = some u := by
  subst hn
  intro j u h
  match j, h with
  | 0, h => simpa [Addr.add] using h
  | 1, h => simpa [Addr.add] using h
  | 2, h => simpa [Addr.add] using h
  | 3, h => simpa [Addr.add] using h
  | 4, h => simpa [Addr.add] using h
  | 5, h => simpa [Addr.add] using h
  | 6, h => simpa [Addr.add] using h
  | 7, h => simpa [Addr.add] using h
  | 8, h => simpa [Addr.add] using h
  | 9, h => simpa [Addr.add] using h
  | j + 10, h => simp at h
def mkTk (k : Nat) : Tk := (markT k, 0, [], 0, 0)
def tmarks (k : Nat) : List Tk := (List.range k).map mkTk
theorem tmarks_two (k : Nat) (h : k % 2 = 0) : tmarks (k + 2) = tmarks k ++ [(-7701, 0, [], 0, 0), (-7702, 0, [], 0, 0)] := by
  unfold tmarks
  rw [List.range_succ, List.range_succ]
  simp [mkTk, markT, h]
  omega
theorem infoST : (Tryz.prog.info? 22).map (fun i => (i.zero, i.size, i.bytes)) = some (some (.slice none 0 0), 1, 24) := by kernel_rfl
theorem own_capT {w : World} {base n size g cap : Nat} {e : TypeId} {xs : List Value} (h : w.ownsRow base e size (.slice (some ⟨g, 0, none⟩) n cap) n xs) : n ≤ cap := by
  obtain ⟨_, h | ⟨g', cap', cur, h1, _, _, h2, _⟩⟩ := h
  · simp at h
  · simp at h1
    omega
theorem one_cellT (W : World) (n : Nat) (hn : n = W.heap.size) (a : Value) (t : TypeId) : ∀ j u, ([a] : List Value)[j]? = some u → (W.alloc (.cells #[a] t)).cell? ((⟨n, 0, none⟩ : Addr).add j) = some u := by
  subst hn
  intro j u h
  match j, h with
  | 0, h => simpa [Addr.add] using h
  | j + 1, h => simp at h

def ToksIs (R : Nat) (L : List Tk) (W : World) (e : Ending) (W' : World) : Prop := ∃ (g g2 cap2 capN : Nat) (Wm : World), e = .returned (.slice (some ⟨g, 0, none⟩) L.length (L.length + 40)) ∧ Below W.heap.size W Wm ∧ W' = Wm.setCell ⟨R, 7, none⟩ (.slice (some ⟨g2, 0, none⟩) 1 cap2) ∧ Wm.ownsRow W.heap.size 60 5 (.slice (some ⟨g, 0, none⟩) (L.length + 40) capN) (L.length + 40) (tkLs (L ++ tmarks 40)) ∧ Wm.cell? ⟨g2, 0, none⟩ = some (.slice (some ⟨g, 0, none⟩) (L.length + 40) capN) ∧ W.heap.size ≤ g2

set_option maxRecDepth 100000 in
set_option maxHeartbeats 4000000 in
theorem tokens_room (R : Nat) (v : Value) (L : List Tk) (W : World) (h8 : L.length ≤ 70000) (hv : TkRow W v L) (r1 : W.cell? ⟨R, 7, none⟩ = some (.slice none 0 0)) (r2 : W.frozen? ⟨R, 7, none⟩ = false) :
    Calls Tryz.prog 12 #[.pointer (some ⟨R, 0, none⟩), v] W (ToksIs R L W) := by
  obtain ⟨i0, hi, hz0, hz1, hz2⟩ := info_parts infoT
  have hrow0 := World.ownsRow_lit (base := W.heap.size) (e := 60) (size := 5) W #[] 0 (Nat.le_refl _) (by unfold maxLen; omega) rfl
  obtain ⟨aa, ca, rfl, hda⟩ := hv
  go_enter Tryz.func12, Tryz.ntmps12
  go_wp2
  go_loopw [5, 6] (fun v x wr => ∃ k : Nat, k ≤ L.length ∧ x = .int .i64 k ∧ wr.ownsRow W.heap.size 60 5 v k (tkLs (L.take k)) ∧ Below W.heap.size W wr) (fun _ x _ => L.length - (intOf x).toNat)
  case atStart => exact ⟨0, by omega, rfl, hrow0, (Below.refl _ _).alloc (Nat.le_refl _) _⟩
  case round =>
    obtain ⟨k, hk, rfl, ho1, hB1⟩ := hrel
    by_cases hlt : k < L.length
    · have hlt' : (k : Int) < L.length := by omega
      have hj0 : (0 : Int) ≤ (k : Int) := by omega
      rcases hda with h0 | ⟨ga, oa, rfl, hga, hca⟩
      · rw [h0] at hlt; simp at hlt
      obtain ⟨a0, a1, a2, a3, a4⟩ := hca k hlt
      have htk : Hid (tkLs (L.take (k + 1)) = tkLs (L.take k) ++ tkL L[k]) := by
        unfold Hid
        rw [List.take_succ_eq_append_getElem hlt, tkLs_app, tkLs_one]
      generalize L[k] = x at *
      have a0' := (hB1.cell (p := ⟨ga, _, none⟩) hga).trans a0
      have a1' := (hB1.cell (p := ⟨ga, _, none⟩) hga).trans a1
      have a2' := (hB1.cell (p := ⟨ga, _, none⟩) hga).trans a2
      have a3' := (hB1.cell (p := ⟨ga, _, none⟩) hga).trans a3
      have a4' := (hB1.cell (p := ⟨ga, _, none⟩) hga).trans a4
      clear a0 a1 a2 a3 a4 hca
      go_wp2_with (at_builtin; refine wpList_append_own _ rfl _ _ 22 rfl W.heap.size 60 i0 _ 5 48 Tryz.underlying22 hi hz0 hz1 hz2 rfl (by decide) _ _ _ rfl (ho1.alloc _) ⟨wr.heap.size, 0, none⟩ 1 1 (tkL x) rfl rfl (cells5_at _ _ rfl _ _ _ _ _ _) (tk_one x) (by unfold maxLen; omega) (by omega) (by have := hB1.size; simp; omega) ?_; intro v' w2 hown' hgrow _)
      go_roundw
      case rel => exact ⟨k + 1, by omega, by go_num, by rw [htk.out]; exact hown', (hB1.alloc hB1.size _).grown hgrow (by have := hB1.size; simp; omega) (fun j hj => (ho1.lt j hj).1)⟩
      case measure => simp [intOf]; omega
    · obtain rfl : k = L.length := by omega
      rw [List.take_length] at ho1
      clear hda
      go_wp2
      go_loopw [5, 7] (fun v x wr => ∃ k : Nat, k ≤ 20 ∧ x = .int .i64 ((2 * k : Nat) : Int) ∧ wr.ownsRow W.heap.size 60 5 v (L.length + 2 * k) (tkLs (L ++ tmarks (2 * k))) ∧ Below W.heap.size W wr) (fun _ x _ => (41 - intOf x).toNat)
      case atStart => exact ⟨0, by omega, rfl, by simpa [tmarks] using ho1, hB1⟩
      case round =>
        obtain ⟨k, hk, rfl, ho, hB⟩ := hrel
        by_cases hk2 : k < 20
        · have hkk : ((2 * k : Nat) : Int) < 40 := by omega
          go_wp2_with (at_builtin; refine wpList_append_own _ rfl _ _ 22 rfl W.heap.size 60 i0 _ 5 48 Tryz.underlying22 hi hz0 hz1 hz2 rfl (by decide) _ _ _ rfl (ho.alloc _) ⟨wr.heap.size, 0, none⟩ 2 2 (tkL (-7701, 0, [], 0, 0) ++ tkL (-7702, 0, [], 0, 0)) rfl rfl (cells10_at _ _ rfl _ _ _ _ _ _ _ _ _ _ _) (tk_two _ _) (by unfold maxLen; omega) (by omega) (by have := hB.size; simp; omega) ?_; intro v' w2 hown' hgrow _)
          go_roundw
          case rel =>
            refine ⟨k + 1, by omega, by go_num, ?_, (hB.alloc hB.size _).grown hgrow (by have := hB.size; simp; omega) (fun j hj => (ho.lt j hj).1)⟩
            rw [show 2 * (k + 1) = 2 * k + 2 by omega, tmarks_two _ (by omega), ← List.append_assoc, ← Nat.add_assoc, tkLs_app _ [(-7701, 0, [], 0, 0), (-7702, 0, [], 0, 0)]]
            exact hown'
          case measure => simp [intOf]; omega
        · obtain rfl : k = 20 := by omega
          obtain ⟨g, capN, rfl⟩ := own_lit ho (by omega)
          have hcN := own_capT ho
          have q1 := (hB.cell (p := ⟨R, 7, none⟩) (World.block_lt_of_cell? _ _ r1)).trans r1
          have q2 := (hB.frozen (p := ⟨R, 7, none⟩) (World.block_lt_of_cell? _ _ r1)).trans r2
          have hRlt := World.block_lt_of_cell? _ _ r1
          obtain ⟨j0, kj, y0, y1, y2⟩ := info_parts infoST
          have hbb := hB.alloc hB.size (.cells #[.slice (some ⟨g, 0, none⟩) (L.length + 2 * 20) capN] 22)
          go_wp2_with (at_builtin; refine wpList_append_own _ rfl _ _ 43 rfl W.heap.size 22 j0 (.slice none 0 0) 1 24 Tryz.underlying43 kj y0 y1 y2 rfl (by decide) (.slice none 0 0) 0 [] rfl (World.ownsRow_nil _ _ _ _) ⟨wr.heap.size, 0, none⟩ 1 1 [.slice (some ⟨g, 0, none⟩) (L.length + 2 * 20) capN] rfl rfl (one_cellT _ _ rfl _ _) (by simp [Value.oneCell']) (by unfold maxLen; omega) (by omega) (by have := hB.size; simp; omega) ?_; intro v' w2 hown' hgrow _; obtain ⟨g2, cap2, rfl⟩ := own_lit hown' (by omega); have hbw := hbb.grown hgrow (by have := hB.size; simp; omega) (by simp [Value.ownBlock]); have q3 := (hbw.cell (p := ⟨R, 7, none⟩) hRlt).trans r1; have q4 := (hbw.frozen (p := ⟨R, 7, none⟩) hRlt).trans r2)
          have hk3 := (ho.alloc (.cells #[.slice (some ⟨g, 0, none⟩) (L.length + 2 * 20) capN] 22)).kept hgrow (.inr (by simp [Value.ownBlock]))
          have hc3 := hown'.cellAt 0 (by omega)
          go_ret
          exact ⟨g, g2, cap2, capN, w2, rfl, hbw, rfl, hk3, by simpa using hc3, (hown'.lt g2 rfl).1⟩

end Go.Proofs.YtoippgmecnlhcaaGreatDoor.Q


namespace Go.Proofs.YtoippgmecnlhcaaGreatDoor.Q
open Go.RowKit Go.Shelf

theorem outV_lit (o : Option (List UInt8)) : ∃ (T : ByteArray) (z : Int), outV o = .tuple #[.string T, .int .i64 z] := by
  cases o with
  | none => exact ⟨_, _, rfl⟩
  | some T => exact ⟨_, _, rfl⟩

set_option maxRecDepth 4000 in
set_option maxHeartbeats 1000000 in
/-- Of two rows that hold the same tokens, same says so. -/
theorem same_tks (va vb : Value) (L : List Tk) (hl : L.length ≤ 1000000000) (w : World) (ha : TkRow w va L) (hb : TkRow w vb L) : Calls Tryz.prog 9 #[va, vb] w fun e w' => e = .returned (.bool true) ∧ Below w.heap.size w w' := by
  obtain ⟨aa, ca, rfl, hda⟩ := ha
  obtain ⟨ab, cb, rfl, hdb⟩ := hb
  have heq := eqTok
  go_enter Tryz.func9, Tryz.ntmps9
  go_wp2
  go_loopw [5] (fun i wr => ∃ j : Nat, j ≤ L.length ∧ i = .int .i64 j ∧ Below w.heap.size w wr) (fun i _ => L.length - (intOf i).toNat)
  case atStart => exact ⟨0, by omega, rfl, Below.refl _ _⟩
  case round =>
    obtain ⟨j, hj, rfl, hB⟩ := hrel
    by_cases hlt : j < L.length
    · have hlt' : (j : Int) < L.length := by omega
      have hj0 : (0 : Int) ≤ (j : Int) := by omega
      rcases hda with h0 | ⟨ga, oa, rfl, hga, hca⟩
      · rw [h0] at hlt; simp at hlt
      rcases hdb with h0 | ⟨gb, ob, rfl, hgb, hcb⟩
      · rw [h0] at hlt; simp at hlt
      obtain ⟨a0, a1, a2, a3, a4⟩ := hca j hlt
      obtain ⟨b0, b1, b2, b3, b4⟩ := hcb j hlt
      generalize L[j] = x at *
      have a0' := (hB.cell (p := ⟨ga, _, none⟩) hga).trans a0
      have a1' := (hB.cell (p := ⟨ga, _, none⟩) hga).trans a1
      have a2' := (hB.cell (p := ⟨ga, _, none⟩) hga).trans a2
      have a3' := (hB.cell (p := ⟨ga, _, none⟩) hga).trans a3
      have a4' := (hB.cell (p := ⟨ga, _, none⟩) hga).trans a4
      have b0' := (hB.cell (p := ⟨gb, _, none⟩) hgb).trans b0
      have b1' := (hB.cell (p := ⟨gb, _, none⟩) hgb).trans b1
      have b2' := (hB.cell (p := ⟨gb, _, none⟩) hgb).trans b2
      have b3' := (hB.cell (p := ⟨gb, _, none⟩) hgb).trans b3
      have b4' := (hB.cell (p := ⟨gb, _, none⟩) hgb).trans b4
      clear a0 a1 a2 a3 a4 b0 b1 b2 b3 b4 hca hcb
      go_wp2_with fail
      go_quiet (fail)
      have hBq := below_drewN hB nq
      go_wp2
      go_roundw
      case rel => exact ⟨j + 1, by omega, by go_num, hBq⟩
      case measure => simp [intOf]; omega
    · have hlt' : ¬ (j : Int) < L.length := by omega
      go_wp2
      go_ret
      exact ⟨rfl, hB⟩

/-- The Room with its one list of tokens. -/
structure St (X : World) (R g g2 cap2 capN : Nat) (L : List Tk) : Prop where
  row : ∀ j (h : j < L.length), X.cell? ⟨g, j * 5, none⟩ = some (.int .i64 (L[j]).1) ∧ X.cell? ⟨g, j * 5 + 1, none⟩ = some (.int .i64 (L[j]).2.1) ∧ X.cell? ⟨g, j * 5 + 2, none⟩ = some (.string ⟨(L[j]).2.2.1.toArray⟩) ∧ X.cell? ⟨g, j * 5 + 3, none⟩ = some (.int .i64 (L[j]).2.2.2.1) ∧ X.cell? ⟨g, j * 5 + 4, none⟩ = some (.int .i64 (L[j]).2.2.2.2)
  frz : ∀ i, X.frozen? ⟨g, i, none⟩ = false
  mks : ∀ k, k < 40 → X.cell? ⟨g, (L.length + k) * 5, none⟩ = some (.int .i64 (markT k)) ∧ X.cell? ⟨g, (L.length + k) * 5 + 1, none⟩ = some (.int .i64 0) ∧ X.cell? ⟨g, (L.length + k) * 5 + 2, none⟩ = some (.string ⟨#[]⟩) ∧ X.cell? ⟨g, (L.length + k) * 5 + 3, none⟩ = some (.int .i64 0) ∧ X.cell? ⟨g, (L.length + k) * 5 + 4, none⟩ = some (.int .i64 0)
  room : RoomBut X R 7
  c : X.cell? ⟨R, 7, none⟩ = some (.slice (some ⟨g2, 0, none⟩) 1 cap2)
  d : X.cell? ⟨g2, 0, none⟩ = some (.slice (some ⟨g, 0, none⟩) (L.length + 40) capN)
  n1 : R ≠ g
  n2 : g2 ≠ g
  lt : g < X.heap.size
theorem St.later {X X' : World} {R g g2 cap2 capN : Nat} {L : List Tk} (h : St X R g g2 cap2 capN L) (hb : Below X.heap.size X X') : St X' R g g2 cap2 capN L := by
  have o : ∀ i u, X.cell? ⟨g, i, none⟩ = some u → X'.cell? ⟨g, i, none⟩ = some u := fun i u hu => (hb.cell (p := ⟨g, i, none⟩) h.lt).trans hu
  refine ⟨fun j hj => ?_, fun i => (hb.frozen (p := ⟨g, i, none⟩) h.lt).trans (h.frz i), fun k hk => ?_, h.room.later hb, (hb.cell (p := ⟨R, 7, none⟩) (World.block_lt_of_cell? _ _ h.c)).trans h.c, (hb.cell (p := ⟨g2, 0, none⟩) (World.block_lt_of_cell? _ _ h.d)).trans h.d, h.n1, h.n2, Nat.lt_of_lt_of_le h.lt hb.size⟩
  · obtain ⟨q0, q1, q2, q3, q4⟩ := h.row j hj
    exact ⟨o _ _ q0, o _ _ q1, o _ _ q2, o _ _ q3, o _ _ q4⟩
  · obtain ⟨q0, q1, q2, q3, q4⟩ := h.mks k hk
    exact ⟨o _ _ q0, o _ _ q1, o _ _ q2, o _ _ q3, o _ _ q4⟩
theorem St.tk {X : World} {R g g2 cap2 capN : Nat} {L : List Tk} (h : St X R g g2 cap2 capN L) (c : Nat) : TkRow X (.slice (some ⟨g, 0, none⟩) L.length c) L := by
  refine ⟨_, _, rfl, .inr ⟨g, 0, rfl, h.lt, fun j hj => ?_⟩⟩
  have := h.row j hj
  simp only [Nat.zero_add]
  exact this
theorem St.hold {X : World} {R g g2 cap2 capN : Nat} {L : List Tk} (h : St X R g g2 cap2 capN L) (hl : L.length ≤ 70000) : Calls Tryz.prog 13 #[.pointer (some ⟨R, 0, none⟩)] X fun e W' => e = .returned (.bool true) ∧ Below X.heap.size X W' :=
  hold_tokens R X h.room (fun Y hb => by
    have h2 := h.later hb
    exact holdTokens_one R g2 g cap2 capN L.length Y h2.c h2.d (by omega) h2.mks)
theorem St.set {X : World} {R g g2 cap2 capN : Nat} {L : List Tk} (h : St X R g g2 cap2 capN L) (k : Nat) (hk : k < L.length) (z : Int) : St (X.setCell ⟨g, k * 5, none⟩ (.int .i64 z)) R g g2 cap2 capN (L.set k (z, L[k].2)) := by
  have far : ∀ b o, b ≠ g → (X.setCell ⟨g, k * 5, none⟩ (.int .i64 z)).cell? ⟨b, o, none⟩ = X.cell? ⟨b, o, none⟩ := fun b o hb => World.cell?_setCell_other _ _ _ _ (fun e => hb (by cases e; rfl))
  have oth : ∀ i u, i ≠ k * 5 → X.cell? ⟨g, i, none⟩ = some u → (X.setCell ⟨g, k * 5, none⟩ (.int .i64 z)).cell? ⟨g, i, none⟩ = some u := fun i u hi hu => (World.cell?_setCell_other _ _ _ _ (fun e => hi (by cases e; rfl))).trans hu
  have hsm := World.cell?_setCell_same X ⟨g, k * 5, none⟩ (.int .i64 z) (h.row k hk).1
  refine ⟨fun j hj => ?_, fun i => by rw [World.frozen?_setCell]; exact h.frz i, fun i hi => ?_, fun i hi hi7 => (far R i h.n1).trans (h.room i hi hi7), (far R 7 h.n1).trans h.c, ?_, h.n1, h.n2, ?_⟩
  · rw [List.length_set] at hj
    obtain ⟨q0, q1, q2, q3, q4⟩ := h.row j hj
    by_cases e : k = j
    · subst e
      rw [List.getElem_set_self]
      exact ⟨hsm, oth _ _ (by omega) q1, oth _ _ (by omega) q2, oth _ _ (by omega) q3, oth _ _ (by omega) q4⟩
    · rw [List.getElem_set_ne e]
      exact ⟨oth _ _ (by omega) q0, oth _ _ (by omega) q1, oth _ _ (by omega) q2, oth _ _ (by omega) q3, oth _ _ (by omega) q4⟩
  · rw [List.length_set]
    obtain ⟨q0, q1, q2, q3, q4⟩ := h.mks i hi
    exact ⟨oth _ _ (by omega) q0, oth _ _ (by omega) q1, oth _ _ (by omega) q2, oth _ _ (by omega) q3, oth _ _ (by omega) q4⟩
  · rw [List.length_set]
    exact (far g2 0 h.n2).trans h.d
  · exact World.block_lt_of_cell? _ _ hsm
theorem st_new {X Wm : World} {R g g2 cap2 capN : Nat} {L : List Tk} (hR : R < X.heap.size) (hRm : RoomBut X R 7) (hc : X.cell? ⟨R, 7, none⟩ = some (.slice none 0 0)) (hB : Below X.heap.size X Wm) (ho : Wm.ownsRow X.heap.size 60 5 (.slice (some ⟨g, 0, none⟩) (L.length + 40) capN) (L.length + 40) (tkLs (L ++ tmarks 40))) (hd : Wm.cell? ⟨g2, 0, none⟩ = some (.slice (some ⟨g, 0, none⟩) (L.length + 40) capN)) (h2 : X.heap.size ≤ g2) : St (Wm.setCell ⟨R, 7, none⟩ (.slice (some ⟨g2, 0, none⟩) 1 cap2)) R g g2 cap2 capN L := by
  have hg := ho.lt g rfl
  have n1 : R ≠ g := by omega
  have far : ∀ b o, b ≠ R → (Wm.setCell ⟨R, 7, none⟩ (.slice (some ⟨g2, 0, none⟩) 1 cap2)).cell? ⟨b, o, none⟩ = Wm.cell? ⟨b, o, none⟩ := fun b o hb => World.cell?_setCell_other _ _ _ _ (fun e => hb (by cases e; rfl))
  have hcm := (hB.cell (p := ⟨R, 7, none⟩) hR).trans hc
  have hlen : (tmarks 40).length = 40 := by simp [tmarks]
  have key : ∀ j (hj : j < (L ++ tmarks 40).length) i u, i < 5 → (tkL (L ++ tmarks 40)[j])[i]? = some u → (Wm.setCell ⟨R, 7, none⟩ (.slice (some ⟨g2, 0, none⟩) 1 cap2)).cell? ⟨g, j * 5 + i, none⟩ = some u := fun j hj i u hi hu => by
    have hj' : j < L.length + 40 := by rw [List.length_append, hlen] at hj; exact hj
    exact (far g _ (Ne.symm n1)).trans ((ho.cellAt (j * 5 + i) (by omega)).trans ((tkLs_get _ j i hj hi).trans hu))
  have h0 : ∃ z : Int, Wm.cell? ⟨g, 0, none⟩ = some (.int .i64 z) := by
    have hj2 : 0 < (L ++ tmarks 40).length := by rw [List.length_append, hlen]; omega
    exact ⟨_, (ho.cellAt 0 (by omega)).trans (tkLs_get _ 0 0 hj2 (by omega))⟩
  have hne : g2 ≠ g := fun e => by
    obtain ⟨z, hz⟩ := h0
    rw [e, hz] at hd
    cases hd
  refine ⟨fun j hj => ?_, fun i => by rw [World.frozen?_setCell]; exact ho.frozenAt i, fun k hk => ?_, fun i hi hi7 => ?_, World.cell?_setCell_same _ _ _ hcm, (far g2 0 (by omega)).trans hd, n1, hne, ?_⟩
  · have hj2 : j < (L ++ tmarks 40).length := by rw [List.length_append]; omega
    have he : (L ++ tmarks 40)[j] = L[j] := List.getElem_append_left hj
    have k0 := key j hj2
    rw [he] at k0
    exact ⟨k0 0 _ (by omega) rfl, k0 1 _ (by omega) rfl, k0 2 _ (by omega) rfl, k0 3 _ (by omega) rfl, k0 4 _ (by omega) rfl⟩
  · have hj2 : L.length + k < (L ++ tmarks 40).length := by rw [List.length_append, hlen]; omega
    have he : (L ++ tmarks 40)[L.length + k] = mkTk k := by
      rw [List.getElem_append_right (by omega)]
      simp [tmarks]
    have k0 := key (L.length + k) hj2
    rw [he] at k0
    exact ⟨k0 0 _ (by omega) rfl, k0 1 _ (by omega) rfl, k0 2 _ (by omega) rfl, k0 3 _ (by omega) rfl, k0 4 _ (by omega) rfl⟩
  · exact (World.cell?_setCell_other _ _ _ _ (by intro h; injection h; omega)).trans ((hB.cell (p := ⟨R, i, none⟩) hR).trans (hRm i hi hi7))
  · obtain ⟨z, hz⟩ := h0
    exact World.block_lt_of_cell? _ _ ((far g 0 (Ne.symm n1)).trans hz)

end Go.Proofs.YtoippgmecnlhcaaGreatDoor.Q

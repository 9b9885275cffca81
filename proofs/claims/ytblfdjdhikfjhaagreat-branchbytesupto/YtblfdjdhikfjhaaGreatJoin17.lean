import Derived.Test.YtblfdjdhikfjhaaGreatTurnBList
import Derived.Test.YtblfdjdhikfjhaaGreatTurnBBook
import Derived.Laws.StructEq
import Derived.BigQuiet
namespace Go.Proofs.YtblfdjdhikfjhaaGreat
open Go.RowKit

/-- Entries laid over others. -/
def putE (E : Es) (L : Es) : Es := L.foldl (fun E p => ins E p.1 p.2) E
theorem putE_snoc (E L : Es) (p : Nat × (Int × Int)) : putE E (L ++ [p]) = ins (putE E L) p.1 p.2 := by simp [putE]
theorem putE_rises {E : Es} (h : Rises E) (L : Es) : Rises (putE E L) := by
  induction L generalizing E with
  | nil => exact h
  | cons a L ih => exact ih (rises_ins h a.1 a.2)
theorem MapE.rises {W : World} {b : Nat} {L : Es} (h : MapE W b L) : Rises L := by
  obtain ⟨t, h1, rfl⟩ := h
  exact ents_rises 7 h1.2.2.2.2 0
theorem MapE.small {W : World} {b : Nat} {L : Es} (h : MapE W b L) : ∀ e ∈ L, e.1 < 4294967296 := by
  obtain ⟨t, h1, rfl⟩ := h
  intro e he
  have := (ents_range h1.2.2.2.2 he).2
  omega
theorem ins_take : ∀ {L : Es}, Rises L → ∀ (n id : Nat) (v : Int × Int), (ins (L.take n) id v).take n = (ins L id v).take n
  | [], _, n, id, v => by simp
  | x :: L, h, 0, id, v => by simp
  | x :: L, h, m + 1, id, v => by
    have hL := List.pairwise_cons.1 h
    by_cases h1 : x.1 < id
    · have e : ∀ T : Es, ins (x :: T) id v = x :: ins T id v := fun T => by
        have h2 : ¬ id < x.1 := by omega
        simp [ins, h1, h2]
      rw [List.take_succ_cons, e, e, List.take_succ_cons, List.take_succ_cons, ins_take hL.2 m id v]
    · have hlt : ∀ y ∈ L, id < y.1 := fun y hy => by have := hL.1 y hy; omega
      have e1 : ∀ T : Es, (∀ y ∈ T, id < y.1) → T.filter (fun e => decide (e.1 < id)) = [] := fun T hT => List.filter_eq_nil_iff.2 fun y hy => by have := hT y hy; simp; omega
      have e2 : ∀ T : Es, (∀ y ∈ T, id < y.1) → T.filter (fun e => decide (id < e.1)) = T := fun T hT => List.filter_eq_self.2 fun y hy => by simpa using hT y hy
      have hT : ∀ y ∈ L.take m, id < y.1 := fun y hy => hlt y (List.mem_of_mem_take hy)
      by_cases h2 : id < x.1
      · have e : ∀ T : Es, (∀ y ∈ T, id < y.1) → ins (x :: T) id v = (id, v) :: x :: T := fun T hT => by
          rw [ins, List.filter_cons_of_neg (by simpa using h1), List.filter_cons_of_pos (by simpa using h2), e1 T hT, e2 T hT]
          rfl
        rw [List.take_succ_cons, e _ hT, e _ hlt, List.take_succ_cons, List.take_succ_cons]
        cases m with
        | zero => rfl
        | succ j => rw [List.take_succ_cons, List.take_succ_cons, List.take_take, Nat.min_eq_left (Nat.le_succ j)]
      · have e : ∀ T : Es, (∀ y ∈ T, id < y.1) → ins (x :: T) id v = (id, v) :: T := fun T hT => by
          rw [ins, List.filter_cons_of_neg (by simpa using h1), List.filter_cons_of_neg (by simpa using h2), e1 T hT, e2 T hT]
          rfl
        rw [List.take_succ_cons, e _ hT, e _ hlt, List.take_succ_cons, List.take_succ_cons, List.take_take, Nat.min_self]
theorem putE_take (n : Nat) : ∀ (X : Es) {E F : Es}, Rises E → Rises F → E.take n = F.take n → (putE E X).take n = (putE F X).take n
  | [], E, F, _, _, h => h
  | a :: X, E, F, hE, hF, h => putE_take n X (rises_ins hE a.1 a.2) (rises_ins hF a.1 a.2) (by rw [← ins_take hE n, h, ins_take hF n])
theorem ins_last {L : Es} {id : Nat} {v : Int × Int} (h : ∀ e ∈ L, e.1 < id) : ins L id v = L ++ [(id, v)] := by
  rw [ins, List.filter_eq_self.2 (fun y hy => by simpa using h y hy), List.filter_eq_nil_iff.2 (fun y hy => by have := h y hy; simp; omega)]
theorem putE_nil {L : Es} (h : Rises L) : putE [] L = L := by
  have : ∀ j, j ≤ L.length → putE [] (L.take j) = L.take j := by
    intro j
    induction j with
    | zero => intro _; simp [putE]
    | succ j ih =>
      intro hj
      rw [List.take_succ_eq_append_getElem (by omega), putE_snoc, ih (by omega), ins_last]
      intro e he
      obtain ⟨i, hi, rfl⟩ := List.mem_iff_getElem.1 he
      rw [List.length_take] at hi
      rw [List.getElem_take]
      exact List.pairwise_iff_getElem.1 h i j (by omega) (by omega) (by omega)
  simpa using this L.length (Nat.le_refl _)

/-- A list of entries that may be laid into a map. -/
def EntB (W : World) (v : Value) (L : Es) : Prop := EntsAt W v L ∧ L.length ≤ 9223372036854775807 ∧ ∀ e ∈ L, e.1 < 4294967296
theorem EntB.later {W W' : World} {v : Value} {L : Es} (h : EntB W v L) (hb : Below W.heap.size W W') : EntB W' v L := ⟨h.1.later hb, h.2⟩

set_option maxRecDepth 4000 in
set_option maxHeartbeats 2000000 in
theorem mapOf_any (m0 : Nat) (E : Es) (v : Value) (T : Es) (w : World) (hE : MapE w m0 E) (h : EntB w v T) : Calls Tryz.prog 13 #[.pointer (some ⟨m0, 0, none⟩), v] w fun e w' => ∃ mb, e = .returned (.pointer (some ⟨mb, 0, none⟩)) ∧ MapE w' mb (putE E T) ∧ Below w.heap.size w w' := by
  obtain ⟨⟨a, cap, rfl, q4⟩, q2, q3⟩ := h
  go_enter Tryz.func13, Tryz.ntmps13
  go_wp2
  go_loopw [0, 5] (fun m iv W => ∃ (j mb : Nat), j ≤ T.length ∧ m = .pointer (some ⟨mb, 0, none⟩) ∧ iv = .int .i64 (j : Int) ∧ MapE W mb (putE E (T.take j)) ∧ Below w.heap.size w W) (fun _ iv _ => T.length - (intOf iv).toNat)
  case atStart => exact ⟨0, m0, by omega, rfl, rfl, by simpa [putE] using hE, Below.refl _ _⟩
  case round =>
    obtain ⟨j, mb, hj, rfl, rfl, hMj, hB⟩ := hrel
    by_cases hlt : j < T.length
    · have hlt' : (j : Int) < (T.length : Int) := by omega
      have hltd : decide ((j : Int) < (T.length : Int)) = true := decide_eq_true hlt'
      have hj0 : (0 : Int) ≤ (j : Int) := by omega
      rcases q4 with h0 | ⟨g, off, rfl, hg, hc⟩
      · rw [h0] at hlt; simp at hlt
      have hx32 := q3 _ (List.getElem_mem hlt)
      have hstep : putE E (T.take (j + 1)) = ins (putE E (T.take j)) T[j].1 T[j].2 := by rw [List.take_succ_eq_append_getElem hlt, putE_snoc]
      obtain ⟨c0, c1, c2⟩ := hc j hlt
      obtain ⟨id, hid⟩ : ∃ id, id = T[j].1 := ⟨_, rfl⟩
      obtain ⟨vv, hvv⟩ : ∃ vv, vv = T[j].2 := ⟨_, rfl⟩
      rw [← hid] at c0 hx32 hstep
      rw [← hvv] at c1 c2 hstep
      have hS2 : Hid (putE E (T.take (j + 1)) = ins (putE E (T.take j)) id vv) := hstep
      clear hid hvv hstep hc q3
      obtain ⟨t, hMt, het⟩ := hMj
      have hHet : Hid (t.ents 7 0 = putE E (T.take j)) := het
      clear het
      have hS0 : ∀ X, Below w.heap.size w X → X.cell? ⟨g, off + j * 3, none⟩ = some (.int .u32 (id : Int)) ∧ X.cell? ⟨g, off + j * 3 + 1, none⟩ = some (.int .i64 vv.1) ∧ X.cell? ⟨g, off + j * 3 + 1 + 1, none⟩ = some (.int .i64 vv.2) := fun X hX => ⟨(hX.cell (p := ⟨g, _, none⟩) hg).trans c0, (hX.cell (p := ⟨g, _, none⟩) hg).trans c1, (hX.cell (p := ⟨g, _, none⟩) hg).trans c2⟩
      have hD := hB.drew
      have hS1 := hS0 _ hD
      have hput := mput_any mb id hx32 vv t _ (hMt.later ((Below.refl wr.heap.size wr).drew))
      clear c0 c1 c2 hMt hE
      go_wp2
      go_region_held3 (fun X => X.cell? ⟨g, off + j * 3, none⟩ = some (.int .u32 (id : Int)) ∧ X.cell? ⟨g, off + j * 3 + 1, none⟩ = some (.int .i64 vv.1) ∧ X.cell? ⟨g, off + j * 3 + 1 + 1, none⟩ = some (.int .i64 vv.2)) (with_reducible assumption)
        (first | (go_at_call 34; refine hput.mono ?_; rintro e w5 ⟨mb5, t5, rfl, hM5, he5, hb5⟩; have hB25 := below_step hD hb5; have hS5 := hS0 _ hB25))
      go_wp2
      go_roundw
      case rel => exact ⟨j + 1, mb5, by omega, rfl, by go_num, ⟨t5, hM5, by rw [he5, hHet.out, hS2.out]⟩, hB25⟩
      case measure => simp [intOf]; omega
    · have hlt' : ¬ (j : Int) < (T.length : Int) := by omega
      have hltd : decide ((j : Int) < (T.length : Int)) = false := decide_eq_false hlt'
      obtain rfl : j = T.length := by omega
      rw [List.take_length] at hMj
      go_wp2
      go_ret
      exact ⟨mb, rfl, hMj, hB⟩

end Go.Proofs.YtblfdjdhikfjhaaGreat


namespace Go.Proofs.YtblfdjdhikfjhaaGreat
open Go.RowKit

set_option maxRecDepth 4000 in
set_option maxHeartbeats 1000000 in
/-- Of two lists with the same entries sameEntries says yes. -/
theorem same_ents (va vb : Value) (L : Es) (hl : L.length ≤ 9223372036854775806) (w : World) (ha : EntsAt w va L) (hb : EntsAt w vb L) : Calls Tryz.prog 56 #[va, vb] w fun e w' => e = .returned (.bool true) ∧ Below w.heap.size w w' := by
  obtain ⟨aa, ca, rfl, hda⟩ := ha
  obtain ⟨ab, cb, rfl, hdb⟩ := hb
  go_enter Tryz.func56, Tryz.ntmps56
  go_wp2
  go_loopw [5] (fun i wr => ∃ j : Nat, j ≤ L.length ∧ i = .int .i64 j ∧ Below w.heap.size w wr) (fun i _ => L.length - (intOf i).toNat)
  case atStart => exact ⟨0, by omega, rfl, Below.refl _ _⟩
  case round =>
    obtain ⟨j, hj, rfl, hB⟩ := hrel
    by_cases hlt : j < L.length
    · have hlt' : (j : Int) < L.length := by omega
      have hj0 : (0 : Int) ≤ (j : Int) := by omega
      rcases hda with h0 | ⟨ga, oa, rfl, hga, hca⟩
      · rw [h0] at hlt; simp at hlt
      rcases hdb with h0 | ⟨gb, ob, rfl, hgb, hcb⟩
      · rw [h0] at hlt; simp at hlt
      obtain ⟨a0, a1, a2⟩ := hca j hlt
      obtain ⟨b0, b1, b2⟩ := hcb j hlt
      generalize L[j].1 = k at *
      generalize L[j].2.1 = x at *
      generalize L[j].2.2 = y at *
      replace a0 := (hB.cell (p := ⟨ga, _, none⟩) hga).trans a0
      replace a1 := (hB.cell (p := ⟨ga, _, none⟩) hga).trans a1
      replace a2 := (hB.cell (p := ⟨ga, _, none⟩) hga).trans a2
      replace b0 := (hB.cell (p := ⟨gb, _, none⟩) hgb).trans b0
      replace b1 := (hB.cell (p := ⟨gb, _, none⟩) hgb).trans b1
      replace b2 := (hB.cell (p := ⟨gb, _, none⟩) hgb).trans b2
      clear hca hcb
      go_wp2
      go_quiet (fail)
      go_wp2
      go_roundw
      case rel => exact ⟨j + 1, by omega, by go_num, below_drewN hB nq⟩
      case measure => simp [intOf]; omega
    · have hlt' : ¬ (j : Int) < L.length := by omega
      go_wp2
      go_ret
      exact ⟨rfl, hB⟩

/-- A step of a script. -/
structure OpR where
  kind : Int
  b : Int
  n : Int
  name : ByteArray
  inV : Value
  In : Es
def OpIn (W : World) (o : OpR) : Prop := EntB W o.inV o.In ∧ o.name.size ≤ 140737488355328
def OpsB (W : World) (v : Value) (Os : List OpR) : Prop := ∃ a cap, v = .slice a Os.length cap ∧ Os.length ≤ 9223372036854775807 ∧ (Os = [] ∨ ∃ g off, a = some ⟨g, off, none⟩ ∧ g < W.heap.size ∧ ∀ i (h : i < Os.length), (W.cell? ⟨g, off + i * 5, none⟩ = some (.int .i64 Os[i].kind) ∧ W.cell? ⟨g, off + i * 5 + 1, none⟩ = some (.int .i64 Os[i].b) ∧ W.cell? ⟨g, off + i * 5 + 2, none⟩ = some (.int .i64 Os[i].n) ∧ W.cell? ⟨g, off + i * 5 + 3, none⟩ = some (.string Os[i].name) ∧ W.cell? ⟨g, off + i * 5 + 4, none⟩ = some Os[i].inV) ∧ OpIn W Os[i])
theorem OpIn.later {W W' : World} {o : OpR} (h : OpIn W o) (hb : Below W.heap.size W W') : OpIn W' o := ⟨h.1.later hb, h.2⟩
theorem OpsB.later {W W' : World} {v : Value} {Os : List OpR} (h : OpsB W v Os) (hb : Below W.heap.size W W') : OpsB W' v Os := by
  obtain ⟨a, cap, rfl, h1, h | ⟨g, off, rfl, hg, hc⟩⟩ := h
  · exact ⟨a, cap, rfl, h1, .inl h⟩
  · have e : ∀ j, W'.cell? ⟨g, j, none⟩ = W.cell? ⟨g, j, none⟩ := fun j => hb.cell (p := ⟨g, j, none⟩) hg
    exact ⟨_, cap, rfl, h1, .inr ⟨g, off, rfl, Nat.lt_of_lt_of_le hg hb.size, fun i hi => ⟨⟨(e _).trans (hc i hi).1.1, (e _).trans (hc i hi).1.2.1, (e _).trans (hc i hi).1.2.2.1, (e _).trans (hc i hi).1.2.2.2.1, (e _).trans (hc i hi).1.2.2.2.2⟩, (hc i hi).2.later hb⟩⟩⟩
theorem EntsAt.len {W : World} {v : Value} {L : Es} (h : EntsAt W v L) : ∃ a cap, v = .slice a L.length cap := by
  obtain ⟨a, cap, rfl, -⟩ := h
  exact ⟨a, cap, rfl⟩

/-- A number of 64 bits. -/
def AnI (e : Ending) : Prop := ∃ n : Int, e = .returned (.int .i64 n) ∧ -9223372036854775808 ≤ n ∧ n ≤ 9223372036854775807
set_option maxRecDepth 4000 in
set_option maxHeartbeats 1000000 in
theorem laid_any (va vl : Value) (L : Es) (Os : List OpR) (w : World) (ha : EntB w va L) (hl : OpsB w vl Os) : Calls Tryz.prog 8 #[va, vl] w fun e w' => AnI e ∧ Below w.heap.size w w' := by
  obtain ⟨a, cap, rfl⟩ := ha.1.len
  have hLl := ha.2.1
  obtain ⟨a2, cap2, rfl, hOl, hO⟩ := hl
  clear ha
  go_enter Tryz.func8, Tryz.ntmps8
  go_wp2
  go_loopw [5, 6] (fun n i wr => ∃ (j : Nat) (m : Int), j ≤ Os.length ∧ i = .int .i64 j ∧ n = .int .i64 m ∧ (-9223372036854775808 ≤ m ∧ m ≤ 9223372036854775807) ∧ Below w.heap.size w wr) (fun _ i _ => Os.length - (intOf i).toNat)
  case atStart => exact ⟨0, _, by omega, rfl, rfl, by omega, Below.refl _ _⟩
  case round =>
    obtain ⟨j, m, hj, rfl, rfl, hm, hB⟩ := hrel
    by_cases hlt : j < Os.length
    · have hlt' : (j : Int) < Os.length := by omega
      have hj0 : (0 : Int) ≤ (j : Int) := by omega
      rcases hO with h0 | ⟨g, off, rfl, hg, hc⟩
      · rw [h0] at hlt; simp at hlt
      obtain ⟨⟨-, -, -, -, c4⟩, hI⟩ := hc j hlt
      obtain ⟨a3, cap3, e3⟩ := hI.1.1.len
      rw [e3] at c4
      replace c4 := (hB.cell (p := ⟨g, _, none⟩) hg).trans c4
      clear hc hI e3
      go_wp2
      go_roundw
      case rel => exact ⟨j + 1, _, by omega, by go_num, rfl, by first | (rw [IntKind.wrap_i64]; omega) | (unfold wrap64; omega), hB⟩
      case measure => simp [intOf]; omega
    · have hlt' : ¬ (j : Int) < Os.length := by omega
      go_wp2
      go_ret
      exact ⟨⟨_, rfl, hm⟩, hB⟩

end Go.Proofs.YtblfdjdhikfjhaaGreat

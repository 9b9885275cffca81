import Derived.Test.YtnmcniibcjjflaaDoorTurnGather2
import Derived.Test.YtnmcniibcjjflaaDoorTurnRow2a
import Derived.Test.YtnmcniibcjjflaaDoorTurnRefBracket2
namespace Go.Proofs.YtnmcniibcjjflaaDoor
open Go.RowKit Go.Shelf

/-- All but the iterator's block lies as it lay. -/
structure Off1 (G : Nat) (w X : World) : Prop where
  os : X.os = w.os
  tape : X.tape = w.tape
  output : X.output = w.output
  size : w.heap.size ≤ X.heap.size
  block : ∀ k, k < w.heap.size → k ≠ G → X.heap[k]? = w.heap[k]?

theorem giv_kp {G T cap : Nat} {av : Option Addr} {vs : List (Int × Int)} {w : World} (hG : G ≠ T) (hV : Vals w av vs) (hT : w.heap.size ≤ T) (X Y : World) (hg : X.grownBy Y (some T)) : KpG G av cap vs X Y := by
  rintro t ⟨h0, h1, h2, h3, h4⟩
  have hb : ∀ k, k < X.heap.size → k ≠ T → Y.heap[k]? = X.heap[k]? := fun k hk hn => hg.block k hk (fun e => hn (Option.some.inj e))
  have hGl : G < X.heap.size := World.block_lt_of_cell? _ _ h0
  refine ⟨(World.cell?_of_block (hb G hGl hG)).trans h0, (World.cell?_of_block (hb G hGl hG)).trans h1, (World.frozen?_of_block (hb G hGl hG)).trans h2, ⟨h3.1, ?_⟩, (World.frozen?_of_block (hb G hGl hG)).trans h4⟩
  rcases h3.2 with h | ⟨b, off, rfl, hbl, hc⟩
  · exact .inl h
  · by_cases hvs : vs = []
    · exact .inl hvs
    · have hbT : b ≠ T := by
        rcases hV.2 with h | ⟨b', off', he, hlt, -⟩
        · exact absurd h hvs
        · injection he with he; injection he with he1; omega
      exact .inr ⟨b, off, rfl, Nat.lt_of_lt_of_le hbl hg.size, fun i hi => ⟨(World.cell?_of_block (hb b hbl hbT)).trans (hc i hi).1, (World.cell?_of_block (hb b hbl hbT)).trans (hc i hi).2⟩⟩

theorem off_down {G T : Nat} {w W0 X : World} (hB : Below w.heap.size w W0) (h : Off G T W0 X) (hT : w.heap.size ≤ T) : Off1 G w X :=
  ⟨h.os.trans hB.os, h.tape.trans hB.tape, h.output.trans hB.output, Nat.le_trans hB.size h.size, fun k hk hn => (h.block k (Nat.lt_of_lt_of_le hk hB.size) hn (by omega)).trans (hB.block k hk)⟩
theorem sum_end {G cap : Nat} {av : Option Addr} {vs : List (Int × Int)} {w w2 w3 : World} {t : Int} (hV : Vals w av vs) (hG : G < w.heap.size) (hO : Off1 G w w2) (hb : Below w2.heap.size w2 w3) (a b : Value) (h : Giv w2 G av cap vs t) :
    Off1 G w ((w3.setCell ⟨w.heap.size, 0, none⟩ a).setCell ⟨w.heap.size, 1, none⟩ b) ∧ Giv ((w3.setCell ⟨w.heap.size, 0, none⟩ a).setCell ⟨w.heap.size, 1, none⟩ b) G av cap vs t := by
  refine ⟨⟨hb.os.trans hO.os, hb.tape.trans hO.tape, hb.output.trans hO.output, Nat.le_trans (Nat.le_trans hO.size hb.size) (by simp), fun k hk hn => ?_⟩, ?_⟩
  · rw [Below.heap_setCell _ _ _ k (by show k ≠ w.heap.size; omega), Below.heap_setCell _ _ _ k (by show k ≠ w.heap.size; omega), hb.block k (Nat.lt_of_lt_of_le hk hO.size)]
    exact hO.block k hk hn
  · have h3 : Giv w3 G av cap vs t := h.stepB (B := 0) ⟨none, ⟨hb.os, hb.tape, hb.output, hb.size, fun k hk _ => hb.block k hk⟩, fun r e => by cases e⟩
    exact giv_kp (w := w) (by omega) hV (Nat.le_refl _) _ _ (grown_set _ _ 1 b) t (giv_kp (w := w) (by omega) hV (Nat.le_refl _) _ _ (grown_set _ _ 0 a) t h3)

set_option maxRecDepth 10000 in
set_option maxHeartbeats 600000 in
theorem sum_num (G : Nat) (kind : Int) (hk : kind = 1 ∨ kind = 2) (av : Option Addr) (cap : Nat) (vs : List (Int × Int)) (hl : vs.length ≤ 20000) (w : World) (hK : Kinds w) (hG : Giv w G av cap vs 0) (hGk : G ≠ 0) (hVs : ∀ X v, Vals X av vs → Vals (X.setCell ⟨G, 1, none⟩ v) av vs) (r : (Int × Int) × Nat) (hr : Hid (r = M.tk kind 0 0 vs)) :
    Calls Tryd.prog 8 #[.int .i64 kind, .func (.func 7) #[.pointer (some ⟨G, 0, none⟩)] #[]] w fun e w' => e = .returned (.agg #[.int .i64 r.1.1, .int .i64 r.1.2]) ∧ Off1 G w w' ∧ Giv w' G av cap vs (r.2 : Int) := by
  have hT := fun W hK => takes_any kind 1 W hK
  rw [takes_1, decide_eq_true hk] at hT
  have hnil : ∀ W : World, (binOp BinOp.neq 44 (.func (.func 7) #[.pointer (some ⟨G, 0, none⟩)] #[]) .nilFunc).run Tryd.prog W = .ok (.bool true) W := fun _ => by kernel_rfl
  go_enter Tryd.func8, Tryd.ntmps8
  go_wp2_with (first | (go_at_call 17; refine (hT _ (hK.later ((Below.refl _ _).alloc (Nat.le_refl _) _))).mono ?_; rintro e w' ⟨rfl, rfl⟩) | (go_at_call 19; fail))
  have hGl : G < w.heap.size := World.block_lt_of_cell? _ _ hG.1
  have hs1 : (w.alloc (.cells #[.int .i64 0, .int .i64 0] 24)).heap.size = w.heap.size + 1 := by simp
  have hTal : Tal ((w.alloc (.cells #[.int .i64 0, .int .i64 0] 24)).alloc (.cells #[.int .i64 kind, .int .u64 0, .int .u64 0, .int .i64 0, .int .i64 0] 47)) (w.heap.size + 1) kind 0 0 0 := by
    have e : lowOf 0 = 0 := rfl
    have e2 : highOf 0 = 0 := rfl
    unfold Tal
    rw [e, e2, ← hs1]
    simp
  have hG0 := (hG.stepB (stepB_alloc 0 _ (.cells #[.int .i64 0, .int .i64 0] 24))).stepB (stepB_alloc 0 _ (.cells #[.int .i64 kind, .int .u64 0, .int .u64 0, .int .i64 0, .int .i64 0] 47))
  have hB0 := ((Below.refl w.heap.size w).alloc (Nat.le_refl _) (.cells #[.int .i64 0, .int .i64 0] 24)).alloc (by simp) (.cells #[.int .i64 kind, .int .u64 0, .int .u64 0, .int .i64 0, .int .i64 0] 47)
  have hK0 := hK.later hB0
  have hR0 := (Box.new w (.int .i64 0) (.int .i64 0) 24).alloc (.cells #[.int .i64 kind, .int .u64 0, .int .u64 0, .int .i64 0, .int .i64 0] 47)
  have hkl := hK.1
  generalize (w.alloc (.cells #[.int .i64 0, .int .i64 0] 24)).alloc (.cells #[.int .i64 kind, .int .u64 0, .int .u64 0, .int .i64 0, .int .i64 0] 47) = W0 at *
  refine ((callsIn_wide (n := 9)).1 (gather_any 9 (by omega) (w.heap.size + 1) G kind hk av cap vs hl W0 hK0 hTal hG0 (by omega) (by omega) hGk (giv_kp (by omega) hG.2.2.2.1 (by omega)) hVs)).mono ?_
  rintro e w2 ⟨rfl, hOff, S, f0, f1, j, hT2, hG2, hc⟩
  have hR2 : Box w2 w.heap.size (.int .i64 0) (.int .i64 0) := by
    have hb := hOff.block w.heap.size hR0.lt (by omega) (by omega)
    exact ⟨(World.cell?_of_block hb).trans hR0.1, (World.cell?_of_block hb).trans hR0.2.1, (World.frozen?_of_block hb).trans hR0.2.2.1, (World.frozen?_of_block hb).trans hR0.2.2.2⟩
  have hK2 : Kinds w2 := by
    have hb := hOff.block _ hK0.1 (fun e => hGk e.symm) (by omega)
    refine ⟨Nat.lt_of_lt_of_le hK0.1 hOff.size, fun i hi => ?_⟩
    obtain ⟨a, b, c⟩ := hK0.2 i hi
    exact ⟨(World.cell?_of_block hb).trans a, (World.cell?_of_block hb).trans b, (World.cell?_of_block hb).trans c⟩
  replace hOff := off_down hB0 hOff (by omega)
  clear hTal hG0 hB0 hK0 hR0 hT hnil
  rcases hc with ⟨rfl, s0, s1, hres⟩ | ⟨hf, hres⟩
  · have HR : Hid (r.1 = M.fit true kind S) := by unfold Hid; rw [hr.out, hres.out]
    have HJ : Hid (r.2 = j) := by unfold Hid; rw [hr.out, hres.out]
    clear hr hres
    go_wp2_with (go_at_call 20; refine (result_sum (w.heap.size + 1) kind S f1 w2 hK2 hT2 ⟨by omega, by omega⟩ r.1 HR).mono ?_; rintro e w3 ⟨rfl, hb3⟩; obtain ⟨r0, r1, q0, q1⟩ := hR2.later hb3)
    exact bodyPost_ret (v := .agg #[.int .i64 r.1.1, .int .i64 r.1.2]) (by simp [results, Tryd.results8, go_sem, r0, r1]) rfl ⟨rfl, sum_end hG.2.2.2.1 hGl hOff hb3 _ _ (by rw [HJ.out]; exact hG2)⟩
  · have HJ : Hid (r.2 = j) := by unfold Hid; rw [hr.out, hres.out]
    have e1 : f0 = r.1.1 := by rw [hr.out, hres.out]
    have e2 : f1 = r.1.2 := by rw [hr.out, hres.out]
    subst e1 e2
    clear hr hres
    go_wp2_with (go_at_call 20; refine (result_fault (w.heap.size + 1) kind S r.1.1 r.1.2 w2 hT2 hf).mono ?_; rintro e w3 ⟨rfl, hb3⟩; obtain ⟨r0, r1, q0, q1⟩ := hR2.later hb3)
    exact bodyPost_ret (v := .agg #[.int .i64 r.1.1, .int .i64 r.1.2]) (by simp [results, Tryd.results8, go_sem, r0, r1]) rfl ⟨rfl, sum_end hG.2.2.2.1 hGl hOff hb3 _ _ (by rw [HJ.out]; exact hG2)⟩

end Go.Proofs.YtnmcniibcjjflaaDoor


namespace Go.Proofs.YtnmcniibcjjflaaDoor
open Go.RowKit Go.Shelf

set_option maxHeartbeats 600000 in
theorem sum_kind (kind : Int) (l : Value) (hk : ¬ (kind = 1 ∨ kind = 2)) (w : World) (hK : Kinds w) :
    Calls Tryd.prog 8 #[.int .i64 kind, l] w fun e w' => e = .returned (.agg #[.int .i64 6, .int .i64 5]) ∧ Below w.heap.size w w' := by
  have hT := fun W hK => takes_any kind 1 W hK
  rw [takes_1, decide_eq_false hk] at hT
  have hR := Box.new w (.int .i64 0) (.int .i64 0) 24
  have hB := (Below.refl w.heap.size w).alloc (Nat.le_refl _) (.cells #[.int .i64 0, .int .i64 0] 24)
  go_enter Tryd.func8, Tryd.ntmps8
  go_wp2_with (first | (go_at_call 17; refine (hT _ (hK.later ((Below.refl _ _).alloc (Nat.le_refl _) _))).mono ?_; rintro e w' ⟨rfl, rfl⟩) | (go_at_call 18; refine (fault_any _ _).mono ?_; rintro e w3 ⟨rfl, hb3⟩; obtain ⟨r0, r1, q0, q1⟩ := hR.later hb3; have hB3 := below_step hB hb3; clear hb3))
  exact bodyPost_ret (v := .agg #[.int .i64 6, .int .i64 5]) (by simp [results, Tryd.results8, go_sem, r0, r1]) rfl ⟨rfl, (hB3.setCell (by simp) _).setCell (by simp) _⟩

set_option maxRecDepth 10000 in
set_option maxHeartbeats 600000 in
theorem sum_nil (kind : Int) (hk : kind = 1 ∨ kind = 2) (w : World) (hK : Kinds w) (r : Int × Int) (hr : Hid (r = M.fit true kind 0)) :
    Calls Tryd.prog 8 #[.int .i64 kind, .nilFunc] w fun e w' => e = .returned (.agg #[.int .i64 r.1, .int .i64 r.2]) ∧ Below w.heap.size w w' := by
  have hT := fun W hK => takes_any kind 1 W hK
  rw [takes_1, decide_eq_true hk] at hT
  have hnil : ∀ W : World, (binOp BinOp.neq 44 .nilFunc .nilFunc).run Tryd.prog W = .ok (.bool false) W := fun _ => by kernel_rfl
  have hs1 : (w.alloc (.cells #[.int .i64 0, .int .i64 0] 24)).heap.size = w.heap.size + 1 := by simp
  have hTal : Tal ((w.alloc (.cells #[.int .i64 0, .int .i64 0] 24)).alloc (.cells #[.int .i64 kind, .int .u64 0, .int .u64 0, .int .i64 0, .int .i64 0] 47)) (w.heap.size + 1) kind 0 0 0 := by
    have e : lowOf 0 = 0 := rfl
    have e2 : highOf 0 = 0 := rfl
    unfold Tal
    rw [e, e2, ← hs1]
    simp
  have hB0 := ((Below.refl w.heap.size w).alloc (Nat.le_refl _) (.cells #[.int .i64 0, .int .i64 0] 24)).alloc (by simp) (.cells #[.int .i64 kind, .int .u64 0, .int .u64 0, .int .i64 0, .int .i64 0] 47)
  have hK0 := hK.later hB0
  have hR0 := (Box.new w (.int .i64 0) (.int .i64 0) 24).alloc (.cells #[.int .i64 kind, .int .u64 0, .int .u64 0, .int .i64 0, .int .i64 0] 47)
  have hres := result_sum (w.heap.size + 1) kind 0 0 _ hK0 hTal (by omega) r hr
  go_enter Tryd.func8, Tryd.ntmps8
  go_wp2_with (first | (go_at_call 17; refine (hT _ (hK.later ((Below.refl _ _).alloc (Nat.le_refl _) _))).mono ?_; rintro e w' ⟨rfl, rfl⟩) | (go_at_call 20; refine hres.mono ?_; rintro e w3 ⟨rfl, hb3⟩; obtain ⟨r0, r1, q0, q1⟩ := hR0.later hb3; have hB3 := below_step hB0 hb3; clear hb3))
  exact bodyPost_ret (v := .agg #[.int .i64 r.1, .int .i64 r.2]) (by simp [results, Tryd.results8, go_sem, r0, r1]) rfl ⟨rfl, (hB3.setCell (by simp) _).setCell (by simp) _⟩

/-- P1.12: what Sum answers, and how much it takes. -/
def tkn (kind : Int) (vs : List (Int × Int)) : (Int × Int) × Nat := if kind = 1 ∨ kind = 2 then M.tk kind 0 0 vs else ((6, 5), 0)

theorem sum_any (G : Nat) (kind : Int) (av : Option Addr) (cap : Nat) (vs : List (Int × Int)) (hl : vs.length ≤ 20000) (w : World) (hK : Kinds w) (hG : Giv w G av cap vs 0) (hGk : G ≠ 0) (hVs : ∀ X v, Vals X av vs → Vals (X.setCell ⟨G, 1, none⟩ v) av vs) (r : (Int × Int) × Nat) (hr : Hid (r = tkn kind vs)) :
    Calls Tryd.prog 8 #[.int .i64 kind, .func (.func 7) #[.pointer (some ⟨G, 0, none⟩)] #[]] w fun e w' => e = .returned (.agg #[.int .i64 r.1.1, .int .i64 r.1.2]) ∧ Off1 G w w' ∧ Giv w' G av cap vs (r.2 : Int) := by
  by_cases hk : kind = 1 ∨ kind = 2
  · exact sum_num G kind hk av cap vs hl w hK hG hGk hVs r (by unfold Hid; rw [hr.out, tkn, if_pos hk])
  · obtain rfl : r = ((6, 5), 0) := by rw [hr.out, tkn, if_neg hk]
    refine (sum_kind kind _ hk w hK).mono ?_
    rintro e w' ⟨rfl, hb⟩
    exact ⟨rfl, ⟨hb.os, hb.tape, hb.output, hb.size, fun k hk _ => hb.block k hk⟩, hG.stepB (B := 0) ⟨none, ⟨hb.os, hb.tape, hb.output, hb.size, fun k hk _ => hb.block k hk⟩, fun r e => by cases e⟩⟩

theorem sum_none (kind : Int) (w : World) (hK : Kinds w) (r : (Int × Int) × Nat) (hr : Hid (r = tkn kind [])) :
    Calls Tryd.prog 8 #[.int .i64 kind, .nilFunc] w fun e w' => e = .returned (.agg #[.int .i64 r.1.1, .int .i64 r.1.2]) ∧ Below w.heap.size w w' := by
  by_cases hk : kind = 1 ∨ kind = 2
  · exact sum_nil kind hk w hK r.1 (by unfold Hid; rw [hr.out, tkn, if_pos hk]; rfl)
  · obtain rfl : r = ((6, 5), 0) := by rw [hr.out, tkn, if_neg hk]
    exact sum_kind kind _ hk w hK

theorem taken_ref (kind : Int) (a : Option Addr) (cap : Nat) (vs : List (Int × Int)) (w : World) (hV : Vals w a vs) (hl : vs.length ≤ 20000) (r : (Int × Int) × Nat) (hr : Hid (r = tkn kind vs)) :
    Calls Tryd.prog 6 #[.int .i64 kind, .slice a vs.length cap] w fun e w' => e = .returned (.tuple #[.agg #[.int .i64 r.1.1, .int .i64 r.1.2], .int .i64 (r.2 : Int)]) ∧ Below w.heap.size w w' :=
  taken_any_ref kind a cap vs w hV (by omega) r hr

end Go.Proofs.YtnmcniibcjjflaaDoor


namespace Go.Proofs.YtnmcniibcjjflaaDoor
open Go.RowKit Go.Shelf

theorem vals_other {w : World} {av : Option Addr} {vs : List (Int × Int)} {G : Nat} (hV : Vals w av vs) (hG : w.heap.size ≤ G) (X : World) (v : Value) (h : Vals X av vs) : Vals (X.setCell ⟨G, 1, none⟩ v) av vs := by
  refine ⟨h.1, ?_⟩
  rcases h.2 with h | ⟨b, off, rfl, hbl, hc⟩
  · exact .inl h
  · by_cases hvs : vs = []
    · exact .inl hvs
    · have hb : b ≠ G := by
        rcases hV.2 with h | ⟨b', off', he, hlt, -⟩
        · exact absurd h hvs
        · injection he with he; injection he with he1; omega
      have hh : (X.setCell ⟨G, 1, none⟩ v).heap[b]? = X.heap[b]? := Below.heap_setCell _ _ _ b hb
      exact .inr ⟨b, off, rfl, Nat.lt_of_lt_of_le hbl (by simp), fun i hi => ⟨(World.cell?_of_block hh).trans (hc i hi).1, (World.cell?_of_block hh).trans (hc i hi).2⟩⟩

theorem cells4_atV (W : World) (n : Nat) (hn : n = W.heap.size) (a b c d : Value) (t : TypeId) : ∀ j u, ([a, b, c, d] : List Value)[j]? = some u → (W.alloc (.cells #[a, b, c, d] t)).cell? ((⟨n, 0, none⟩ : Addr).add j) = some u := by
  subst hn
  intro j u h
  match j, h with
  | 0, h => simpa [Addr.add] using h
  | 1, h => simpa [Addr.add] using h
  | 2, h => simpa [Addr.add] using h
  | 3, h => simpa [Addr.add] using h
  | j + 4, h => simp at h

theorem own_capV {w : World} {base n size g cap : Nat} {e : TypeId} {xs : List Value} (h : w.ownsRow base e size (.slice (some ⟨g, 0, none⟩) n cap) n xs) : n ≤ cap := by
  obtain ⟨_, h | ⟨g', cap', cur, h1, _, _, h2, _⟩⟩ := h
  · simp at h
  · simp at h1
    omega

theorem infoV : (Tryd.prog.info? 24).map (fun i => (i.zero, i.size, i.bytes)) = some (some (.agg #[.int .i64 0, .int .i64 0]), 2, 16) := by kernel_rfl
theorem Vals.flat {w : World} {b off : Nat} {L : List (Int × Int)} (h : Vals w (some ⟨b, off, none⟩) L) : ∀ j u, (flat2 L)[j]? = some u → w.cell? ((⟨b, off, none⟩ : Addr).add j) = some u := by
  intro j u hj
  have hl : j < L.length * 2 := by rw [← flat2_len]; exact (List.getElem?_eq_some_iff.1 hj).1
  obtain ⟨q0, q1⟩ := flat2_at L (j / 2) (by omega)
  obtain ⟨b', off', he, -, hc⟩ := h.at (i := 0) (by omega)
  injection he with he
  injection he with he1 he2
  subst he1 he2
  obtain ⟨c0, c1⟩ := hc (j / 2) (by omega)
  have ea : (⟨b, off, none⟩ : Addr).add j = ⟨b, off + j, none⟩ := by simp [Addr.add]
  rw [ea]
  rcases (show j % 2 = 0 ∨ j % 2 = 1 by omega) with e | e
  · have ej : j / 2 * 2 = j := by omega
    rw [ej] at q0 c0
    rw [c0, ← q0, hj]
  · have ej : j / 2 * 2 + 1 = j := by omega
    rw [Nat.add_assoc, ej] at c1
    rw [ej] at q1
    rw [c1, ← q1, hj]

set_option maxRecDepth 100000 in
set_option maxHeartbeats 600000 in
theorem sums_long (kind : Int) (a : Option Addr) (cap : Nat) (vs : List (Int × Int)) (W : World) (h8 : 16384 < vs.length) :
    Calls Tryd.prog 3 #[.int .i64 kind, .slice a vs.length cap] W fun e W' => e = .returned (.bool true) ∧ Below W.heap.size W W' := by
  have g0 : (16384 : Int) < vs.length := by omega
  go_enter Tryd.func3, Tryd.ntmps3
  go_wp2
  go_ret
  exact ⟨rfl, Below.refl _ _⟩

end Go.Proofs.YtnmcniibcjjflaaDoor

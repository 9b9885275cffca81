import Derived.Test.YtoeabponjdkpjaaDoorRBands
import Derived.Test.YtoeabponjdkpjaaDoorRefBracket2
import Derived.Test.YtoeabponjdkpjaaDoorHeld
import Derived.Deep.RegionHeld3
namespace Go.Proofs.YtoeabponjdkpjaaDoor
open Go.RowKit

/-- A row of pairs of its own. -/
def R2 (W : World) (g : Nat) (L : List (Int × Int)) : Prop := ∀ i, i < L.length → W.cell? ⟨g, i * 2, none⟩ = some (.int .i64 (L.getD i (0, 0)).1) ∧ W.cell? ⟨g, i * 2 + 1, none⟩ = some (.int .i64 (L.getD i (0, 0)).2) ∧ W.frozen? ⟨g, i * 2 + 1, none⟩ = false
theorem R2.later {W W' : World} {g : Nat} {L : List (Int × Int)} (h : R2 W g L) (hb : Below W.heap.size W W') : R2 W' g L := fun i hi => by
  have l := World.block_lt_of_cell? _ _ (h i hi).1
  exact ⟨(hb.cell (p := ⟨g, i * 2, none⟩) l).trans (h i hi).1, (hb.cell (p := ⟨g, i * 2 + 1, none⟩) l).trans (h i hi).2.1, (hb.frozen (p := ⟨g, i * 2 + 1, none⟩) l).trans (h i hi).2.2⟩
theorem R2.other {W : World} {g : Nat} {L : List (Int × Int)} (h : R2 W g L) {k o : Nat} (hk : k ≠ g) (v : Value) : R2 (W.setCell ⟨k, o, none⟩ v) g L := fun i hi =>
  ⟨(World.cell?_setCell_other _ _ _ _ (fun e => hk (congrArg Addr.block e))).trans (h i hi).1, (World.cell?_setCell_other _ _ _ _ (fun e => hk (congrArg Addr.block e))).trans (h i hi).2.1, by rw [World.frozen?_setCell]; exact (h i hi).2.2⟩
theorem R2.set {W : World} {g : Nat} {L : List (Int × Int)} (h : R2 W g L) (k : Nat) (v : Int) : R2 (W.setCell ⟨g, k * 2 + 1, none⟩ (.int .i64 v)) g (L.set k ((L.getD k (0, 0)).1, v)) := fun i hi => by
  have hi' : i < L.length := by simpa using hi
  obtain ⟨h0, h1, h2⟩ := h i hi'
  refine ⟨?_, ?_, by rw [World.frozen?_setCell]; exact h2⟩
  · rw [World.cell?_setCell_other _ _ _ _ (by intro h; injection h; omega), h0]
    by_cases e : i = k
    · subst e; simp [List.getD, hi']
    · simp [List.getD, Ne.symm e]
  · by_cases e : i = k
    · subst e
      rw [World.cell?_setCell_same _ _ _ h1]
      simp [List.getD, hi']
    · rw [World.cell?_setCell_other _ _ _ _ (by intro h; injection h; omega), h1]
      simp [List.getD, Ne.symm e]
theorem r2_of_own {w : World} {base g n cap : Nat} {L : List (Int × Int)} (hn : n = L.length) (h : w.ownsRow base 39 2 (.slice (some ⟨g, 0, none⟩) n cap) n (flat2 L)) : R2 w g L := fun i hi => by
  subst hn
  exact ⟨(own_at h hi).1, (own_at h hi).2, h.frozenAt _⟩
theorem R2.left {w : World} {g : Nat} {L M : List (Int × Int)} (h : R2 w g (L ++ M)) : R2 w g L := fun i hi => by
  have := h i (by simp; omega)
  rwa [show (L ++ M).getD i (0, 0) = L.getD i (0, 0) by simp [List.getD, List.getElem?_append_left hi]] at this
theorem R2.right {w : World} {g N : Nat} {L M : List (Int × Int)} (hN : L.length = N) (h : R2 w g (L ++ M)) (k : Nat) (hk : k < M.length) : w.cell? ⟨g, (N + k) * 2, none⟩ = some (.int .i64 (M.getD k (0, 0)).1) ∧ w.cell? ⟨g, (N + k) * 2 + 1, none⟩ = some (.int .i64 (M.getD k (0, 0)).2) := by
  subst hN
  have := h (L.length + k) (by simp; omega)
  rw [show (L ++ M).getD (L.length + k) (0, 0) = M.getD k (0, 0) by rw [List.getD_eq_getElem?_getD, List.getD_eq_getElem?_getD, List.getElem?_append_right (by omega)]; congr 2; omega] at this
  exact ⟨this.1, this.2.1⟩
theorem R2.vals {w : World} {g : Nat} {L : List (Int × Int)} (h : R2 w g L) (hm : L.length ≤ 16384) : Vals w (some ⟨g, 0, none⟩) L := by
  refine ⟨by unfold maxLen; omega, ?_⟩
  by_cases e : L = []
  · exact .inl e
  · exact .inr ⟨g, 0, rfl, World.block_lt_of_cell? _ _ (h 0 (List.length_pos_iff.2 e)).1, fun i hi => by rw [Nat.zero_add]; exact ⟨(h i hi).1, (h i hi).2.1⟩⟩
theorem R2.flat {w : World} {g : Nat} {L : List (Int × Int)} (h : R2 w g L) : ∀ j u, (flat2 L)[j]? = some u → w.cell? ((⟨g, 0, none⟩ : Addr).add j) = some u := by
  intro j u hj
  have hl : j < L.length * 2 := by rw [← flat2_len]; exact (List.getElem?_eq_some_iff.1 hj).1
  obtain ⟨q0, q1⟩ := flat2_at L (j / 2) (by omega)
  obtain ⟨c0, c1, -⟩ := h (j / 2) (by omega)
  have ea : (⟨g, 0, none⟩ : Addr).add j = ⟨g, j, none⟩ := by simp [Addr.add]; omega
  rw [ea]
  rcases (show j % 2 = 0 ∨ j % 2 = 1 by omega) with e | e
  · have ej : j / 2 * 2 = j := by omega
    rw [ej] at q0 c0
    rw [c0, ← q0, hj]
  · have ej : j / 2 * 2 + 1 = j := by omega
    rw [ej] at q1 c1
    rw [c1, ← q1, hj]
theorem flat2_one (L : List (Int × Int)) : ∀ u ∈ flat2 L, u.oneCell' = true := by
  intro u hu
  simp [flat2] at hu
  obtain ⟨a, b, -, h | h⟩ := hu <;> subst h <;> rfl

/-- What the law keeps of the room: the one list lent, its marks behind it. -/
def Lent (R g2 cap2 g capN N : Nat) (L : List (Int × Int)) (X : World) : Prop := L.length = N ∧ RoomBut X R 6 ∧ X.cell? ⟨R, 6, none⟩ = some (.slice (some ⟨g2, 0, none⟩) 1 cap2) ∧ X.cell? ⟨g2, 0, none⟩ = some (.slice (some ⟨g, 0, none⟩) (N + 40) capN) ∧ R2 X g (L ++ bmarks 40)
theorem Lent.later {R g2 cap2 g capN N : Nat} {L : List (Int × Int)} {X X' : World} (h : Lent R g2 cap2 g capN N L X) (hb : Below X.heap.size X X') : Lent R g2 cap2 g capN N L X' :=
  ⟨h.1, h.2.1.later hb, (hb.cell (p := ⟨R, 6, none⟩) (World.block_lt_of_cell? _ _ h.2.2.1)).trans h.2.2.1, (hb.cell (p := ⟨g2, 0, none⟩) (World.block_lt_of_cell? _ _ h.2.2.2.1)).trans h.2.2.2.1, h.2.2.2.2.later hb⟩
theorem Lent.hold {R g2 cap2 g capN N : Nat} {L : List (Int × Int)} {X : World} (h : Lent R g2 cap2 g capN N L X) (hN : N ≤ 16384) :
    Calls Tryd.prog 22 #[.pointer (some ⟨R, 0, none⟩)] X fun e W' => e = .returned (.bool true) ∧ Below X.heap.size X W' := by
  refine hold_bands R X h.2.1 (fun Y hb => ?_)
  obtain ⟨hl, -, h6, hg2, hr⟩ := h.later hb
  refine holdBands_one R g2 g cap2 capN N Y h6 hg2 (by omega) (fun k hk => ?_)
  have := hr.right hl k (by rw [bmarks_len]; exact hk)
  rw [bmarks_at hk] at this
  exact this

theorem room_new (W : World) (k : Nat) (hk : k < 21) : (W.alloc (.cells #[.slice none 0 0, .slice none 0 0, .slice none 0 0, .slice none 0 0, .slice none 0 0, .slice none 0 0, .slice none 0 0, .slice none 0 0, .slice none 0 0, .slice none 0 0, .slice none 0 0, .slice none 0 0, .slice none 0 0, .slice none 0 0, .slice none 0 0, .slice none 0 0, .slice none 0 0, .slice none 0 0, .slice none 0 0, .slice none 0 0, .slice none 0 0] 73)).cell? ⟨W.heap.size, k, none⟩ = some (.slice none 0 0) ∧ (W.alloc (.cells #[.slice none 0 0, .slice none 0 0, .slice none 0 0, .slice none 0 0, .slice none 0 0, .slice none 0 0, .slice none 0 0, .slice none 0 0, .slice none 0 0, .slice none 0 0, .slice none 0 0, .slice none 0 0, .slice none 0 0, .slice none 0 0, .slice none 0 0, .slice none 0 0, .slice none 0 0, .slice none 0 0, .slice none 0 0, .slice none 0 0, .slice none 0 0] 73)).frozen? ⟨W.heap.size, k, none⟩ = false := by
  refine ⟨?_, by simp⟩
  have e : (#[.slice none 0 0, .slice none 0 0, .slice none 0 0, .slice none 0 0, .slice none 0 0, .slice none 0 0, .slice none 0 0, .slice none 0 0, .slice none 0 0, .slice none 0 0, .slice none 0 0, .slice none 0 0, .slice none 0 0, .slice none 0 0, .slice none 0 0, .slice none 0 0, .slice none 0 0, .slice none 0 0, .slice none 0 0, .slice none 0 0, .slice none 0 0] : Array Value) = Array.replicate 21 (.slice none 0 0) := rfl
  rw [e]
  simp [hk]

theorem lent_new {W2 W4 : World} {R : Nat} {bs : List (Int × Int)} {e : Ending} (hR : R = W2.heap.size) (h : BandsIs R bs (W2.alloc (.cells #[.slice none 0 0, .slice none 0 0, .slice none 0 0, .slice none 0 0, .slice none 0 0, .slice none 0 0, .slice none 0 0, .slice none 0 0, .slice none 0 0, .slice none 0 0, .slice none 0 0, .slice none 0 0, .slice none 0 0, .slice none 0 0, .slice none 0 0, .slice none 0 0, .slice none 0 0, .slice none 0 0, .slice none 0 0, .slice none 0 0, .slice none 0 0] 73)) e W4) :
    ∃ g g2 cap2 capN, e = .returned (.slice (some ⟨g, 0, none⟩) bs.length (bs.length + 40)) ∧ Lent R g2 cap2 g capN bs.length bs W4 ∧ Below W2.heap.size W2 W4 ∧ R < g := by
  subst hR
  have hr := room_new W2
  have hsz : (W2.alloc (.cells #[.slice none 0 0, .slice none 0 0, .slice none 0 0, .slice none 0 0, .slice none 0 0, .slice none 0 0, .slice none 0 0, .slice none 0 0, .slice none 0 0, .slice none 0 0, .slice none 0 0, .slice none 0 0, .slice none 0 0, .slice none 0 0, .slice none 0 0, .slice none 0 0, .slice none 0 0, .slice none 0 0, .slice none 0 0, .slice none 0 0, .slice none 0 0] 73)).heap.size = W2.heap.size + 1 := by simp
  have hBr : Below W2.heap.size W2 (W2.alloc (.cells #[.slice none 0 0, .slice none 0 0, .slice none 0 0, .slice none 0 0, .slice none 0 0, .slice none 0 0, .slice none 0 0, .slice none 0 0, .slice none 0 0, .slice none 0 0, .slice none 0 0, .slice none 0 0, .slice none 0 0, .slice none 0 0, .slice none 0 0, .slice none 0 0, .slice none 0 0, .slice none 0 0, .slice none 0 0, .slice none 0 0, .slice none 0 0] 73)) := (Below.refl _ _).alloc (Nat.le_refl _) _
  generalize W2.alloc (.cells #[.slice none 0 0, .slice none 0 0, .slice none 0 0, .slice none 0 0, .slice none 0 0, .slice none 0 0, .slice none 0 0, .slice none 0 0, .slice none 0 0, .slice none 0 0, .slice none 0 0, .slice none 0 0, .slice none 0 0, .slice none 0 0, .slice none 0 0, .slice none 0 0, .slice none 0 0, .slice none 0 0, .slice none 0 0, .slice none 0 0, .slice none 0 0] 73) = W3 at *
  obtain ⟨g, g2, cap2, capN, Wm, rfl, hBm, rfl, ho, hc, hg2⟩ := h
  have hgl := ho.lt g rfl
  have hRg : W2.heap.size ≠ g := by omega
  have hRg2 : W2.heap.size ≠ g2 := by omega
  have hcell : ∀ k, k < 21 → Wm.cell? ⟨W2.heap.size, k, none⟩ = some (.slice none 0 0) := fun k hk => (hBm.cell (p := ⟨W2.heap.size, k, none⟩) (by show W2.heap.size < W3.heap.size; omega)).trans (hr k hk).1
  refine ⟨g, g2, cap2, capN, rfl, ⟨rfl, fun k hk hk6 => (World.cell?_setCell_other _ _ _ _ (by intro h; injection h; omega)).trans (hcell k hk), World.cell?_setCell_same _ _ _ (hcell 6 (by omega)), (World.cell?_setCell_other _ _ _ _ (fun h => hRg2 (congrArg Addr.block h))).trans hc, (r2_of_own (by simp [bmarks_len]) ho).other hRg _⟩, (below_of hBr hBm).setCell (p := ⟨W2.heap.size, 6, none⟩) (Nat.le_refl _) _, by omega⟩

/-- What Bracket says of a list. -/
def Says (k0 n0 : Int) (L : List (Int × Int)) (r : Int × Int) : Prop := r = M.ans (M.refuse (takesB k0 8) k0 n0 []) (brk L (M.wh false 4 (M.took n0 L) 1000000))
theorem says_money {k0 n0 : Int} {L : List (Int × Int)} {r : Int × Int} (hr : Hid (Says k0 n0 L r)) (a : Option Addr) (cap : Nat) (w : World) (hK : Kinds w) (hV : Vals w a L) :
    Calls Tryd.prog 14 #[.slice a L.length cap, .agg #[.int .i64 k0, .int .i64 n0]] w fun e w' => e = .returned (.agg #[.int .i64 r.1, .int .i64 r.2]) ∧ Below w.heap.size w w' := bracket_any a cap L k0 n0 w hK hV _ rfl r hr
theorem says_ref {k0 n0 : Int} {L : List (Int × Int)} {r : Int × Int} (hr : Hid (Says k0 n0 L r)) (a : Option Addr) (cap : Nat) (w : World) (hV : Vals w a L) :
    Calls Tryd.prog 20 #[.slice a L.length cap, .agg #[.int .i64 k0, .int .i64 n0]] w fun e w' => e = .returned (.agg #[.int .i64 r.1, .int .i64 r.2]) ∧ Below w.heap.size w w' := rbracket_any a cap L k0 n0 w hV _ rfl r hr

theorem keptB {w2 : World} {a b R g2 cap2 g capN N : Nat} {L : List (Int × Int)} {u0 u1 v0 v1 : Value} (X X' : World) (h : X.cell? ⟨a, 0, none⟩ = some u0 ∧ X.cell? ⟨a, 1, none⟩ = some u1 ∧ X.cell? ⟨b, 0, none⟩ = some v0 ∧ X.cell? ⟨b, 1, none⟩ = some v1 ∧ Kinds X ∧ Below w2.heap.size w2 X ∧ Lent R g2 cap2 g capN N L X) (hb : Below X.heap.size X X') :
    X'.cell? ⟨a, 0, none⟩ = some u0 ∧ X'.cell? ⟨a, 1, none⟩ = some u1 ∧ X'.cell? ⟨b, 0, none⟩ = some v0 ∧ X'.cell? ⟨b, 1, none⟩ = some v1 ∧ Kinds X' ∧ Below w2.heap.size w2 X' ∧ Lent R g2 cap2 g capN N L X' := by
  obtain ⟨h0, h1, h2, h3, h4, h5, h6⟩ := h
  have l0 := World.block_lt_of_cell? _ _ h0
  have l2 := World.block_lt_of_cell? _ _ h2
  exact ⟨(hb.cell (p := ⟨a, 0, none⟩) l0).trans h0, (hb.cell (p := ⟨a, 1, none⟩) l0).trans h1, (hb.cell (p := ⟨b, 0, none⟩) l2).trans h2, (hb.cell (p := ⟨b, 1, none⟩) l2).trans h3, h4.later hb, below_step h5 hb, h6.later hb⟩
theorem heldT {P : World → Prop} (hst : ∀ X w1, P X → Below X.heap.size X w1 → P w1) {X : World} {f : Nat} {args : Array Value} {E : Ending} (h : P X)
    (hc : P X → Calls Tryd.prog f args X fun e w' => e = E ∧ Below X.heap.size X w') : Calls Tryd.prog f args X fun e w' => e = E ∧ P w' :=
  (hc h).mono fun _ _ ⟨he, hb⟩ => ⟨he, hst X _ h hb⟩

theorem Lent.set {R g2 cap2 g capN N : Nat} {L : List (Int × Int)} {X : World} (h : Lent R g2 cap2 g capN N L X) (K : Nat) (hK : K < N) (v : Int) : Lent R g2 cap2 g capN N (L.set K ((L.getD K (0, 0)).1, v)) (X.setCell ⟨g, K * 2 + 1, none⟩ (.int .i64 v)) := by
  obtain ⟨hl, hR, h6, hg2, hr⟩ := h
  have hc := (hr 0 (by simp; omega)).1
  have n1 : g ≠ R := by
    rintro rfl
    have := hR 0 (by omega) (by omega)
    simp at hc
    rw [hc] at this
    cases this
  have n2 : g ≠ g2 := by
    rintro rfl
    simp at hc
    rw [hc] at hg2
    cases hg2
  refine ⟨by simpa using hl, fun k hk hk6 => (World.cell?_setCell_other _ _ _ _ (fun e => n1 (congrArg Addr.block e))).trans (hR k hk hk6), (World.cell?_setCell_other _ _ _ _ (fun e => n1 (congrArg Addr.block e))).trans h6, (World.cell?_setCell_other _ _ _ _ (fun e => n2 (congrArg Addr.block e))).trans hg2, ?_⟩
  have := hr.set K v
  have e : (L ++ bmarks 40).getD K (0, 0) = L.getD K (0, 0) := by simp [List.getD, List.getElem?_append_left (show K < L.length by omega)]
  rw [e, List.set_append_left _ _ (by omega)] at this
  exact this

theorem grown_of_belowB {W W' : World} (h : Below W.heap.size W W') : W.grownBy W' none := ⟨h.os, h.tape, h.output, h.size, fun k hk _ => h.block k hk⟩
theorem own_laterB {w w' : World} {base n size : Nat} {e : TypeId} {v : Value} {xs : List Value} (h : w.ownsRow base e size v n xs) (hb : Below w.heap.size w w') : w'.ownsRow base e size v n xs := h.kept (grown_of_belowB hb) (by cases v.ownBlock <;> simp)
theorem keptN {w2 : World} {a R g2 cap2 g capN N gn cn base : Nat} {L : List (Int × Int)} {u0 u1 : Value} (X X' : World) (h : X.cell? ⟨a, 0, none⟩ = some u0 ∧ X.cell? ⟨a, 1, none⟩ = some u1 ∧ Kinds X ∧ Below w2.heap.size w2 X ∧ Lent R g2 cap2 g capN N L X ∧ X.ownsRow base 39 2 (.slice (some ⟨gn, 0, none⟩) L.length cn) L.length (flat2 L)) (hb : Below X.heap.size X X') :
    X'.cell? ⟨a, 0, none⟩ = some u0 ∧ X'.cell? ⟨a, 1, none⟩ = some u1 ∧ Kinds X' ∧ Below w2.heap.size w2 X' ∧ Lent R g2 cap2 g capN N L X' ∧ X'.ownsRow base 39 2 (.slice (some ⟨gn, 0, none⟩) L.length cn) L.length (flat2 L) := by
  obtain ⟨h0, h1, h4, h5, h6, h7⟩ := h
  have l0 := World.block_lt_of_cell? _ _ h0
  exact ⟨(hb.cell (p := ⟨a, 0, none⟩) l0).trans h0, (hb.cell (p := ⟨a, 1, none⟩) l0).trans h1, h4.later hb, below_step h5 hb, h6.later hb, own_laterB h7 hb⟩
theorem says_moneyN {k0 n0 : Int} {L : List (Int × Int)} {r : Int × Int} (hr : Hid (Says k0 n0 L r)) {N : Nat} (hN : L.length = N) (a : Option Addr) (cap : Nat) (w : World) (hK : Kinds w) (hV : Vals w a L) :
    Calls Tryd.prog 14 #[.slice a N cap, .agg #[.int .i64 k0, .int .i64 n0]] w fun e w' => e = .returned (.agg #[.int .i64 r.1, .int .i64 r.2]) ∧ Below w.heap.size w w' := by
  subst hN
  exact says_money hr a cap w hK hV
theorem says_refN {k0 n0 : Int} {L : List (Int × Int)} {r : Int × Int} (hr : Hid (Says k0 n0 L r)) {N : Nat} (hN : L.length = N) (a : Option Addr) (cap : Nat) (w : World) (hV : Vals w a L) :
    Calls Tryd.prog 20 #[.slice a N cap, .agg #[.int .i64 k0, .int .i64 n0]] w fun e w' => e = .returned (.agg #[.int .i64 r.1, .int .i64 r.2]) ∧ Below w.heap.size w w' := by
  subst hN
  exact says_ref hr a cap w hV

set_option maxRecDepth 100000 in
set_option maxHeartbeats 600000 in
theorem brackets_some (b off cap : Nat) (bs : List (Int × Int)) (k0 n0 : Int) (W : World) (hK : Kinds W) (hV : Vals W (some ⟨b, off, none⟩) bs) (h8 : bs.length ≤ 16384) (hpos : 0 < bs.length) (r : Int × Int) (hr : Hid (Says k0 n0 bs r)) :
    Calls Tryd.prog 7 #[.slice (some ⟨b, off, none⟩) bs.length cap, .agg #[.int .i64 k0, .int .i64 n0]] W fun e W' => e = .returned (.bool true) ∧ Below W.heap.size W W' := by
  have g0 : ¬ (16384 : Int) < bs.length := by omega
  go_enter Tryd.func7, Tryd.ntmps7
  have hX0 := Box.new W (.int .i64 k0) (.int .i64 n0) 24
  have hB0 := (Below.refl W.heap.size W).alloc (Nat.le_refl _) (.cells #[.int .i64 k0, .int .i64 n0] 24)
  have hV0 := hV.later hB0
  have hK0 := hK.later hB0
  go_wp2_with (first | (go_at_call 20; refine (says_ref hr _ _ _ hV0).mono ?_; rintro _ W1 ⟨rfl, hB1⟩) | (go_at_call 21; fail))
  have hX1 := hX0.later hB1
  have hV1 := hV0.later hB1
  have hK1 := hK0.later hB1
  have hBW1 := below_step hB0 hB1
  clear hX0 hV0 hK0 hB0 hB1
  have hBa := (Below.refl W1.heap.size W1).alloc (Nat.le_refl _) (.cells #[.int .i64 r.1, .int .i64 r.2] 24)
  have hX2 := hX1.later hBa
  have hV2 := hV1.later hBa
  have hK2 := hK1.later hBa
  have hBW2 := below_step hBW1 hBa
  have hY2 := Box.new W1 (.int .i64 r.1) (.int .i64 r.2) 24
  have hs1 : W1.heap.size + 1 = (W1.alloc (.cells #[.int .i64 r.1, .int .i64 r.2] 24)).heap.size := by simp
  have hs2 : W1.heap.size < (W1.alloc (.cells #[.int .i64 r.1, .int .i64 r.2] 24)).heap.size := by simp
  have hs3 : W.heap.size < (W1.alloc (.cells #[.int .i64 r.1, .int .i64 r.2] 24)).heap.size := hX2.lt
  clear hX1 hV1 hK1 hBW1 hBa
  generalize W1.alloc (.cells #[.int .i64 r.1, .int .i64 r.2] 24) = W2 at *
  generalize hH1 : W1.heap.size = H1 at *
  obtain ⟨R, hR⟩ : ∃ R, H1 + 1 = R := ⟨_, rfl⟩
  rw [hR]
  rw [hR] at hs1
  clear hR
  subst hs1
  have hr := room_new W2
  have hBr : Below W2.heap.size W2 (W2.alloc (.cells #[.slice none 0 0, .slice none 0 0, .slice none 0 0, .slice none 0 0, .slice none 0 0, .slice none 0 0, .slice none 0 0, .slice none 0 0, .slice none 0 0, .slice none 0 0, .slice none 0 0, .slice none 0 0, .slice none 0 0, .slice none 0 0, .slice none 0 0, .slice none 0 0, .slice none 0 0, .slice none 0 0, .slice none 0 0, .slice none 0 0, .slice none 0 0] 73)) := (Below.refl _ _).alloc (Nat.le_refl _) _
  refine (bands_any W2.heap.size (some ⟨b, off, none⟩) cap bs _ (hV2.later hBr) h8 (by exact (hr 6 (by omega)).1) (by exact (hr 6 (by omega)).2)).mono ?_
  clear hr hBr
  intro e W4 hIs
  obtain ⟨g, g2, cap2, capN, rfl, hL4, hB4, hRg⟩ := lent_new rfl hIs
  clear hIs hH1
  have hX4 := hX2.later hB4
  have hY4 := hY2.later hB4
  have hK4 := hK2.later hB4
  obtain ⟨x0, x1, -, -⟩ := id hX4
  obtain ⟨y0, y1, -, -⟩ := id hY4
  have hP4 : W4.cell? ⟨W.heap.size, 0, none⟩ = some (.int .i64 k0) ∧ W4.cell? ⟨W.heap.size, 1, none⟩ = some (.int .i64 n0) ∧ W4.cell? ⟨H1, 0, none⟩ = some (.int .i64 r.1) ∧ W4.cell? ⟨H1, 1, none⟩ = some (.int .i64 r.2) ∧ Kinds W4 ∧ Below W2.heap.size W2 W4 ∧ Lent W2.heap.size g2 cap2 g capN bs.length bs W4 := ⟨x0, x1, y0, y1, hK4, hB4, hL4⟩
  clear hX4 hY4 hK4 x0 x1 y0 y1 hB4 hL4
  have hPd := keptB _ _ hP4 (Below.refl _ _).drew
  clear hP4
  go_wp2
  go_region_held3 (fun X => X.cell? ⟨W.heap.size, 0, none⟩ = some (.int .i64 k0) ∧ X.cell? ⟨W.heap.size, 1, none⟩ = some (.int .i64 n0) ∧ X.cell? ⟨H1, 0, none⟩ = some (.int .i64 r.1) ∧ X.cell? ⟨H1, 1, none⟩ = some (.int .i64 r.2) ∧ Kinds X ∧ Below W2.heap.size W2 X ∧ Lent W2.heap.size g2 cap2 g capN bs.length bs X) (with_reducible assumption)
    (first | (go_at_call 14; refine (heldT (P := (fun X => X.cell? ⟨W.heap.size, 0, none⟩ = some (.int .i64 k0) ∧ X.cell? ⟨W.heap.size, 1, none⟩ = some (.int .i64 n0) ∧ X.cell? ⟨H1, 0, none⟩ = some (.int .i64 r.1) ∧ X.cell? ⟨H1, 1, none⟩ = some (.int .i64 r.2) ∧ Kinds X ∧ Below W2.heap.size W2 X ∧ Lent W2.heap.size g2 cap2 g capN bs.length bs X)) (keptB (w2 := W2)) ?_ (fun h => says_money hr _ _ _ h.2.2.2.2.1 (h.2.2.2.2.2.2.2.2.2.2.left.vals h8))).mono ?_; with_reducible assumption; rintro e w5 ⟨rfl, hP5⟩) | (go_at_call 22; refine (heldT (P := (fun X => X.cell? ⟨W.heap.size, 0, none⟩ = some (.int .i64 k0) ∧ X.cell? ⟨W.heap.size, 1, none⟩ = some (.int .i64 n0) ∧ X.cell? ⟨H1, 0, none⟩ = some (.int .i64 r.1) ∧ X.cell? ⟨H1, 1, none⟩ = some (.int .i64 r.2) ∧ Kinds X ∧ Below W2.heap.size W2 X ∧ Lent W2.heap.size g2 cap2 g capN bs.length bs X)) (keptB (w2 := W2)) ?_ (fun h => h.2.2.2.2.2.2.hold h8)).mono ?_; with_reducible assumption; rintro e w6 ⟨rfl, hP6⟩))
  clear hPd hP5
  go_wp2
  obtain ⟨-, -, -, -, -, hB6, hL6⟩ := hP6
  go_loopw [8] (fun v wr => ∃ k : Nat, k ≤ bs.length ∧ v = .int .i64 k ∧ Below W2.heap.size W2 wr ∧ Lent W2.heap.size g2 cap2 g capN bs.length bs wr) (fun v _ => bs.length - (intOf v).toNat)
  case atStart => exact ⟨0, by omega, rfl, hB6, hL6⟩
  case round =>
    obtain ⟨k, hk, rfl, hBi, hLi⟩ := hrel
    clear hB6 hL6
    by_cases hlt : k < bs.length
    · have hlt' : (k : Int) < bs.length := by omega
      obtain ⟨c0, c1, -⟩ := hLi.2.2.2.2.left k hlt
      obtain ⟨b', off', hab, -, hbc⟩ := (hV2.later hBi).at hlt
      injection hab with hab
      injection hab with hab1 hab2
      subst hab1 hab2
      obtain ⟨d0, d1⟩ := hbc k hlt
      generalize (bs.getD k (0, 0)).1 = f at *
      generalize (bs.getD k (0, 0)).2 = q at *
      clear hbc hX2 hY2 hV2 hK2
      go_wp2
      go_quiet (fail)
      go_wp2
      go_roundw
      case rel => exact ⟨k + 1, by omega, by go_num, below_drewN hBi nq, hLi.later (below_drewN (Below.refl _ _) nq)⟩
      case measure => simp [intOf]; omega
    · obtain rfl : k = bs.length := by omega
      obtain ⟨K, hKK⟩ : ∃ K : Nat, bs.length = K + 1 := ⟨bs.length - 1, by omega⟩
      have hK1 : (bs.length : Int) - 1 = K := by omega
      have hl0 : ((bs.length : Int) == 0) = false := by rw [beq_eq_false_iff_ne]; omega
      have hl1 : ¬ (bs.length : Int) = 0 := by omega
      have hKlt : (K : Int) < bs.length := by omega
      have hKw : wrap64 ((bs.length : Int) - 1) = K := by rw [hK1]; unfold wrap64; omega
      have HKK : Hid (bs.length = K + 1) := hKK
      clear hlt hk hKK
      obtain ⟨wo, rfl⟩ : ∃ wo : World, wo = wr := ⟨_, rfl⟩
      go_wp2
      go_loopw [10] (fun v wr => ∃ (j : Nat) (L : List (Int × Int)), j ≤ 2 ∧ v = .int .i64 j ∧ Below W2.heap.size W2 wr ∧ Lent W2.heap.size g2 cap2 g capN bs.length L wr) (fun v _ => 2 - (intOf v).toNat)
      case atStart => exact ⟨0, bs, by omega, rfl, hBi, hLi⟩
      case round =>
        obtain ⟨j, L, hj, rfl, hBj, hLj⟩ := hrel
        clear hBi hLi
        by_cases hj2 : j < 2
        · have hj2' : (j : Int) < 2 := by omega
          have hLl := hLj.1
          have hKL : K < L.length := by have := HKK.out; omega
          obtain ⟨c0, c1, c2⟩ := hLj.2.2.2.2.left K hKL
          obtain ⟨q, hq⟩ : ∃ q, (L.getD K (0, 0)).2 = q := ⟨_, rfl⟩
          rw [hq] at c1
          clear hq
          have hLs := hLj.set K (by have := HKK.out; omega) (bits BinOp.xor IntKind.i64 q 1)
          have hBs := hBj.setCell (p := ⟨g, K * 2 + 1, none⟩) (show W2.heap.size ≤ g by omega) (.int .i64 (bits BinOp.xor IntKind.i64 q 1))
          generalize L.set K ((L.getD K (0, 0)).1, bits BinOp.xor IntKind.i64 q 1) = L' at *
          have hsY : (wr.setCell ⟨g, K * 2 + 1, none⟩ (.int .i64 (bits BinOp.xor IntKind.i64 q 1))).heap.size = wr.heap.size := by simp
          have hL'l := hLs.1
          have hrow0 := World.ownsRow_lit (base := wr.heap.size) (e := 39) (size := 2) (wr.setCell ⟨g, K * 2 + 1, none⟩ (.int .i64 (bits BinOp.xor IntKind.i64 q 1))) #[] 0 (by rw [hsY]; exact Nat.le_refl _) (by unfold maxLen; omega) rfl
          rw [hsY] at hrow0
          obtain ⟨i0, hi, hz0, hz1, hz2⟩ := info_parts infoB
          obtain ⟨s, hs⟩ : ∃ s, Hid (Says k0 n0 L' s) := ⟨_, rfl⟩
          have hBZ : Below wr.heap.size (wr.setCell ⟨g, K * 2 + 1, none⟩ (.int .i64 (bits BinOp.xor IntKind.i64 q 1))) ((wr.setCell ⟨g, K * 2 + 1, none⟩ (.int .i64 (bits BinOp.xor IntKind.i64 q 1))).alloc (.cells #[] 39)) := (Below.refl _ _).alloc (by rw [hsY]; exact Nat.le_refl _) _
          have hRZ := (hLs.later (by rw [hsY]; exact hBZ)).2.2.2.2.left
          have hLb : L'.length ≤ 16384 := by omega
          go_wp2_with (at_builtin; refine wpList_append_own _ rfl _ _ 33 rfl wr.heap.size 39 i0 _ 2 16 Tryd.underlying33 hi hz0 hz1 hz2 rfl (by decide) _ 0 [] rfl hrow0 ⟨g, 0, none⟩ bs.length (bs.length + 40) (flat2 L') rfl (by rw [flat2_len, hL'l]) hRZ.flat (flat2_one _) (by unfold maxLen; omega) (by omega) (by simp) ?_; intro v' w2 hown' hgrow _; rw [Nat.zero_add] at hown'; obtain ⟨gn, cn, rfl⟩ := own_some hown' (by omega))
          have hBYw := hBZ.grown hgrow (by simp) (fun k hk => (hrow0.lt k hk).1)
          rw [← hsY] at hBYw
          have hB2w := below_of hBs hBYw
          have hLw := hLs.later hBYw
          have hPw : w2.cell? ⟨W.heap.size, 0, none⟩ = some (.int .i64 k0) ∧ w2.cell? ⟨W.heap.size, 1, none⟩ = some (.int .i64 n0) ∧ Kinds w2 ∧ Below W2.heap.size W2 w2 ∧ Lent W2.heap.size g2 cap2 g capN bs.length L' w2 ∧ w2.ownsRow wr.heap.size 39 2 (.slice (some ⟨gn, 0, none⟩) L'.length cn) L'.length (flat2 L') := ⟨(hX2.later hB2w).1, (hX2.later hB2w).2.1, hK2.later hB2w, hB2w, hLw, by rw [hL'l]; exact hown'⟩
          have hPd := keptN _ _ hPw (Below.refl _ _).drew
          clear hPw hBYw hB2w hLw hown' hgrow hLs hBs hBZ hRZ hrow0 c0 c1 c2 hLj hBj hX2 hY2 hV2 hK2
          have hmx : L'.length ≤ maxLen := by unfold maxLen; omega
          go_region_held3 (fun X => X.cell? ⟨W.heap.size, 0, none⟩ = some (.int .i64 k0) ∧ X.cell? ⟨W.heap.size, 1, none⟩ = some (.int .i64 n0) ∧ Kinds X ∧ Below W2.heap.size W2 X ∧ Lent W2.heap.size g2 cap2 g capN bs.length L' X ∧ X.ownsRow wr.heap.size 39 2 (.slice (some ⟨gn, 0, none⟩) L'.length cn) L'.length (flat2 L')) (with_reducible assumption)
            (first | (go_at_call 14; refine (heldT (P := (fun X => X.cell? ⟨W.heap.size, 0, none⟩ = some (.int .i64 k0) ∧ X.cell? ⟨W.heap.size, 1, none⟩ = some (.int .i64 n0) ∧ Kinds X ∧ Below W2.heap.size W2 X ∧ Lent W2.heap.size g2 cap2 g capN bs.length L' X ∧ X.ownsRow wr.heap.size 39 2 (.slice (some ⟨gn, 0, none⟩) L'.length cn) L'.length (flat2 L'))) (keptN (w2 := W2)) ?_ (fun h => says_moneyN hs hL'l _ _ _ h.2.2.1 (h.2.2.2.2.1.2.2.2.2.left.vals hLb))).mono ?_; with_reducible assumption; rintro e w5 ⟨rfl, hP5⟩) | (go_at_call 20; refine (heldT (P := (fun X => X.cell? ⟨W.heap.size, 0, none⟩ = some (.int .i64 k0) ∧ X.cell? ⟨W.heap.size, 1, none⟩ = some (.int .i64 n0) ∧ Kinds X ∧ Below W2.heap.size W2 X ∧ Lent W2.heap.size g2 cap2 g capN bs.length L' X ∧ X.ownsRow wr.heap.size 39 2 (.slice (some ⟨gn, 0, none⟩) L'.length cn) L'.length (flat2 L'))) (keptN (w2 := W2)) ?_ (fun h => says_refN hs hL'l _ _ _ (vals_of_own h.2.2.2.2.2 hmx))).mono ?_; with_reducible assumption; rintro e w6 ⟨rfl, hP6⟩))
          obtain ⟨-, -, -, hB7, hL7, -⟩ := hP6
          clear hPd hP5
          go_wp2
          go_roundw
          case rel => exact ⟨j + 1, L', by omega, by go_num, hB7, hL7⟩
          case measure => simp [intOf]; omega
        · obtain rfl : j = 2 := by omega
          go_wp2_with (go_at_call 22; refine (hLj.hold h8).mono ?_; rintro _ X7 ⟨rfl, hb7⟩)
          go_ret
          exact ⟨rfl, below_of hBW2 (below_of hBj hb7)⟩

set_option maxRecDepth 100000 in
set_option maxHeartbeats 600000 in
theorem brackets_nil (a : Option Addr) (cap : Nat) (k0 n0 : Int) (W : World) (hK : Kinds W) (hV : Vals W a []) (r : Int × Int) (hr : Hid (Says k0 n0 [] r)) :
    Calls Tryd.prog 7 #[.slice a 0 cap, .agg #[.int .i64 k0, .int .i64 n0]] W fun e W' => e = .returned (.bool true) ∧ Below W.heap.size W W' := by
  go_enter Tryd.func7, Tryd.ntmps7
  have hX0 := Box.new W (.int .i64 k0) (.int .i64 n0) 24
  have hB0 := (Below.refl W.heap.size W).alloc (Nat.le_refl _) (.cells #[.int .i64 k0, .int .i64 n0] 24)
  have hV0 := hV.later hB0
  have hK0 := hK.later hB0
  go_wp2_with (first | (go_at_call 20; refine (says_ref hr _ _ _ hV0).mono ?_; rintro _ W1 ⟨rfl, hB1⟩) | (go_at_call 21; fail))
  have hX1 := hX0.later hB1
  have hV1 := hV0.later hB1
  have hK1 := hK0.later hB1
  have hBW1 := below_step hB0 hB1
  clear hX0 hV0 hK0 hB0 hB1
  have hBa := (Below.refl W1.heap.size W1).alloc (Nat.le_refl _) (.cells #[.int .i64 r.1, .int .i64 r.2] 24)
  have hX2 := hX1.later hBa
  have hV2 := hV1.later hBa
  have hK2 := hK1.later hBa
  have hBW2 := below_step hBW1 hBa
  have hY2 := Box.new W1 (.int .i64 r.1) (.int .i64 r.2) 24
  have hs1 : W1.heap.size + 1 = (W1.alloc (.cells #[.int .i64 r.1, .int .i64 r.2] 24)).heap.size := by simp
  have hs2 : W1.heap.size < (W1.alloc (.cells #[.int .i64 r.1, .int .i64 r.2] 24)).heap.size := by simp
  have hs3 : W.heap.size < (W1.alloc (.cells #[.int .i64 r.1, .int .i64 r.2] 24)).heap.size := hX2.lt
  clear hX1 hV1 hK1 hBW1 hBa
  generalize W1.alloc (.cells #[.int .i64 r.1, .int .i64 r.2] 24) = W2 at *
  generalize hH1 : W1.heap.size = H1 at *
  obtain ⟨R, hR⟩ : ∃ R, H1 + 1 = R := ⟨_, rfl⟩
  rw [hR]
  rw [hR] at hs1
  clear hR
  subst hs1
  have hr := room_new W2
  have hBr : Below W2.heap.size W2 (W2.alloc (.cells #[.slice none 0 0, .slice none 0 0, .slice none 0 0, .slice none 0 0, .slice none 0 0, .slice none 0 0, .slice none 0 0, .slice none 0 0, .slice none 0 0, .slice none 0 0, .slice none 0 0, .slice none 0 0, .slice none 0 0, .slice none 0 0, .slice none 0 0, .slice none 0 0, .slice none 0 0, .slice none 0 0, .slice none 0 0, .slice none 0 0, .slice none 0 0] 73)) := (Below.refl _ _).alloc (Nat.le_refl _) _
  refine (bands_any W2.heap.size a cap [] _ (hV2.later hBr) (by simp) (by exact (hr 6 (by omega)).1) (by exact (hr 6 (by omega)).2)).mono ?_
  clear hr hBr
  intro e W4 hIs
  obtain ⟨g, g2, cap2, capN, rfl, hL4, hB4, hRg⟩ := lent_new rfl hIs
  clear hIs hH1
  have hX4 := hX2.later hB4
  have hY4 := hY2.later hB4
  have hK4 := hK2.later hB4
  obtain ⟨x0, x1, -, -⟩ := id hX4
  obtain ⟨y0, y1, -, -⟩ := id hY4
  have hP4 : W4.cell? ⟨W.heap.size, 0, none⟩ = some (.int .i64 k0) ∧ W4.cell? ⟨W.heap.size, 1, none⟩ = some (.int .i64 n0) ∧ W4.cell? ⟨H1, 0, none⟩ = some (.int .i64 r.1) ∧ W4.cell? ⟨H1, 1, none⟩ = some (.int .i64 r.2) ∧ Kinds W4 ∧ Below W2.heap.size W2 W4 ∧ Lent W2.heap.size g2 cap2 g capN 0 [] W4 := ⟨x0, x1, y0, y1, hK4, hB4, hL4⟩
  clear hX4 hY4 hK4 x0 x1 y0 y1 hB4 hL4
  have hPd := keptB _ _ hP4 (Below.refl _ _).drew
  clear hP4
  go_wp2
  go_region_held3 (fun X => X.cell? ⟨W.heap.size, 0, none⟩ = some (.int .i64 k0) ∧ X.cell? ⟨W.heap.size, 1, none⟩ = some (.int .i64 n0) ∧ X.cell? ⟨H1, 0, none⟩ = some (.int .i64 r.1) ∧ X.cell? ⟨H1, 1, none⟩ = some (.int .i64 r.2) ∧ Kinds X ∧ Below W2.heap.size W2 X ∧ Lent W2.heap.size g2 cap2 g capN 0 [] X) (with_reducible assumption)
    (first | (go_at_call 14; refine (heldT (P := (fun X => X.cell? ⟨W.heap.size, 0, none⟩ = some (.int .i64 k0) ∧ X.cell? ⟨W.heap.size, 1, none⟩ = some (.int .i64 n0) ∧ X.cell? ⟨H1, 0, none⟩ = some (.int .i64 r.1) ∧ X.cell? ⟨H1, 1, none⟩ = some (.int .i64 r.2) ∧ Kinds X ∧ Below W2.heap.size W2 X ∧ Lent W2.heap.size g2 cap2 g capN 0 [] X)) (keptB (w2 := W2)) ?_ (fun h => says_money hr _ _ _ h.2.2.2.2.1 (h.2.2.2.2.2.2.2.2.2.2.left.vals (by simp)))).mono ?_; with_reducible assumption; rintro e w5 ⟨rfl, hP5⟩) | (go_at_call 22; refine (heldT (P := (fun X => X.cell? ⟨W.heap.size, 0, none⟩ = some (.int .i64 k0) ∧ X.cell? ⟨W.heap.size, 1, none⟩ = some (.int .i64 n0) ∧ X.cell? ⟨H1, 0, none⟩ = some (.int .i64 r.1) ∧ X.cell? ⟨H1, 1, none⟩ = some (.int .i64 r.2) ∧ Kinds X ∧ Below W2.heap.size W2 X ∧ Lent W2.heap.size g2 cap2 g capN 0 [] X)) (keptB (w2 := W2)) ?_ (fun h => h.2.2.2.2.2.2.hold (by omega))).mono ?_; with_reducible assumption; rintro e w6 ⟨rfl, hP6⟩))
  clear hPd hP5
  go_wp2
  obtain ⟨-, -, -, -, -, hB6, hL6⟩ := hP6
  refine wp_loop_rounds 1 ?_
  rw [rounds_succ]
  go_wp2
  go_ret
  exact ⟨rfl, below_of hBW2 hB6⟩

set_option maxHeartbeats 600000 in
theorem brackets_long (a : Option Addr) (cap : Nat) (bs : List (Int × Int)) (k0 n0 : Int) (W : World) (h8 : 16384 < bs.length) :
    Calls Tryd.prog 7 #[.slice a bs.length cap, .agg #[.int .i64 k0, .int .i64 n0]] W fun e W' => e = .returned (.bool true) ∧ Below W.heap.size W W' := by
  have g0 : (16384 : Int) < bs.length := by omega
  go_enter Tryd.func7, Tryd.ntmps7
  go_wp2
  go_ret
  exact ⟨rfl, (Below.refl _ _).alloc (Nat.le_refl _) _⟩

theorem brackets_walk (a : Option Addr) (cap : Nat) (bs : List (Int × Int)) (k0 n0 : Int) (W : World) (hK : Kinds W) (hV : Vals W a bs) :
    Calls Tryd.prog 7 #[.slice a bs.length cap, .agg #[.int .i64 k0, .int .i64 n0]] W fun e W' => e = .returned (.bool true) ∧ Below W.heap.size W W' := by
  by_cases h8 : bs.length ≤ 16384
  · have hV' := hV
    obtain ⟨_, rfl | ⟨b, off, rfl, hlt, hc⟩⟩ := hV
    · exact brackets_nil a cap k0 n0 W hK hV' _ rfl
    · by_cases hp : 0 < bs.length
      · exact brackets_some b off cap bs k0 n0 W hK hV' h8 hp _ rfl
      · obtain rfl : bs = [] := List.eq_nil_of_length_eq_zero (by omega)
        exact brackets_nil _ cap k0 n0 W hK hV' _ rfl
  · exact brackets_long a cap bs k0 n0 W (by omega)

end Go.Proofs.YtoeabponjdkpjaaDoor

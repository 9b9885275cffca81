import Derived.Test.YtnmcniibcjjflaaDoorTurnRDoes2
import Derived.Deep.RegionHeld3
namespace Go.Proofs.YtnmcniibcjjflaaDoor
open Go.RowKit Go.Shelf

/-- One step of a script. -/
structure Opn where
  kind : Int
  k0 : Int
  n0 : Int
  k1 : Int
  n1 : Int
  k2 : Int
  n2 : Int
  num : Int
  den : Int
  mode : Int
  ba : Option Addr
  bcap : Nat
  bs : List (Int × Int)
  la : Option Addr
  lcap : Nat
  vs : List (Int × Int)

def OpAt (W : World) (b off : Nat) (o : Opn) : Prop :=
  (W.cell? ⟨b, off, none⟩ = some (.int .i64 o.kind) ∧ W.cell? ⟨b, off + 1, none⟩ = some (.int .i64 o.k0) ∧ W.cell? ⟨b, off + 2, none⟩ = some (.int .i64 o.n0) ∧ W.cell? ⟨b, off + 3, none⟩ = some (.int .i64 o.k1) ∧ W.cell? ⟨b, off + 4, none⟩ = some (.int .i64 o.n1) ∧ W.cell? ⟨b, off + 5, none⟩ = some (.int .i64 o.k2) ∧ W.cell? ⟨b, off + 6, none⟩ = some (.int .i64 o.n2) ∧ W.cell? ⟨b, off + 7, none⟩ = some (.int .i64 o.num) ∧ W.cell? ⟨b, off + 8, none⟩ = some (.int .i64 o.den) ∧ W.cell? ⟨b, off + 9, none⟩ = some (.int .i64 o.mode) ∧ W.cell? ⟨b, off + 10, none⟩ = some (.slice o.ba o.bs.length o.bcap) ∧ W.cell? ⟨b, off + 11, none⟩ = some (.slice o.la o.vs.length o.lcap)) ∧ Vals W o.ba o.bs ∧ Vals W o.la o.vs

def Ops (W : World) (a : Option Addr) (os : List Opn) : Prop :=
  os.length ≤ maxLen ∧ (os = [] ∨ ∃ b off, a = some ⟨b, off, none⟩ ∧ b < W.heap.size ∧ ∀ i (h : i < os.length), OpAt W b (off + i * 12) os[i])

theorem OpAt.later {W W' : World} {b off : Nat} {o : Opn} (h : OpAt W b off o) (hb : b < W.heap.size) (hB : Below W.heap.size W W') : OpAt W' b off o := by
  obtain ⟨⟨h0, h1, h2, h3, h4, h5, h6, h7, h8, h9, h10, h11⟩, hx, hy⟩ := h
  have e : ∀ j, W'.cell? ⟨b, j, none⟩ = W.cell? ⟨b, j, none⟩ := fun j => hB.cell (p := ⟨b, j, none⟩) hb
  exact ⟨⟨(e _).trans h0, (e _).trans h1, (e _).trans h2, (e _).trans h3, (e _).trans h4, (e _).trans h5, (e _).trans h6, (e _).trans h7, (e _).trans h8, (e _).trans h9, (e _).trans h10, (e _).trans h11⟩, hx.later hB, hy.later hB⟩

theorem Ops.at {W W' : World} {a : Option Addr} {os : List Opn} (h : Ops W a os) (hB : Below W.heap.size W W') {i : Nat} (hi : i < os.length) : ∃ b off, a = some ⟨b, off, none⟩ ∧ b < W.heap.size ∧ OpAt W' b (off + i * 12) os[i] := by
  obtain ⟨-, rfl | ⟨b, off, rfl, hb, hc⟩⟩ := h
  · simp at hi
  · exact ⟨b, off, rfl, hb, (hc i hi).later hb hB⟩

abbrev PlayS (W : World) (H : Nat) (o : Opn) (X : World) : Prop := X.cell? ⟨H, 0, none⟩ = some (.int .i64 o.kind) ∧ X.cell? ⟨H, 1, none⟩ = some (.int .i64 o.k0) ∧ X.cell? ⟨H, 2, none⟩ = some (.int .i64 o.n0) ∧ X.cell? ⟨H, 3, none⟩ = some (.int .i64 o.k1) ∧ X.cell? ⟨H, 4, none⟩ = some (.int .i64 o.n1) ∧ X.cell? ⟨H, 5, none⟩ = some (.int .i64 o.k2) ∧ X.cell? ⟨H, 6, none⟩ = some (.int .i64 o.n2) ∧ X.cell? ⟨H, 7, none⟩ = some (.int .i64 o.num) ∧ X.cell? ⟨H, 8, none⟩ = some (.int .i64 o.den) ∧ X.cell? ⟨H, 9, none⟩ = some (.int .i64 o.mode) ∧ X.cell? ⟨H, 10, none⟩ = some (.slice o.ba o.bs.length o.bcap) ∧ X.cell? ⟨H, 11, none⟩ = some (.slice o.la o.vs.length o.lcap) ∧ Kinds X ∧ Vals X o.ba o.bs ∧ Vals X o.la o.vs ∧ Below W.heap.size W X
theorem PlayS.later {W : World} {H : Nat} {o : Opn} {X Y : World} (h : PlayS W H o X) (hb : Below X.heap.size X Y) : PlayS W H o Y := by
  obtain ⟨c0, c1, c2, c3, c4, c5, c6, c7, c8, c9, c10, c11, hK, hV, hL, hB⟩ := h
  have hH := World.block_lt_of_cell? _ _ c0
  have e : ∀ j, Y.cell? ⟨H, j, none⟩ = X.cell? ⟨H, j, none⟩ := fun j => hb.cell (p := ⟨H, j, none⟩) hH
  exact ⟨(e _).trans c0, (e _).trans c1, (e _).trans c2, (e _).trans c3, (e _).trans c4, (e _).trans c5, (e _).trans c6, (e _).trans c7, (e _).trans c8, (e _).trans c9, (e _).trans c10, (e _).trans c11, hK.later hb, hV.later hb, hL.later hb, below_step hB hb⟩
theorem held_play {W : World} {H : Nat} {o : Opn} {X : World} {f : Nat} {args : Array Value} {R : Ending} (h : X.cell? ⟨H, 0, none⟩ = some (.int .i64 o.kind) ∧ X.cell? ⟨H, 1, none⟩ = some (.int .i64 o.k0) ∧ X.cell? ⟨H, 2, none⟩ = some (.int .i64 o.n0) ∧ X.cell? ⟨H, 3, none⟩ = some (.int .i64 o.k1) ∧ X.cell? ⟨H, 4, none⟩ = some (.int .i64 o.n1) ∧ X.cell? ⟨H, 5, none⟩ = some (.int .i64 o.k2) ∧ X.cell? ⟨H, 6, none⟩ = some (.int .i64 o.n2) ∧ X.cell? ⟨H, 7, none⟩ = some (.int .i64 o.num) ∧ X.cell? ⟨H, 8, none⟩ = some (.int .i64 o.den) ∧ X.cell? ⟨H, 9, none⟩ = some (.int .i64 o.mode) ∧ X.cell? ⟨H, 10, none⟩ = some (.slice o.ba o.bs.length o.bcap) ∧ X.cell? ⟨H, 11, none⟩ = some (.slice o.la o.vs.length o.lcap) ∧ Kinds X ∧ Vals X o.ba o.bs ∧ Vals X o.la o.vs ∧ Below W.heap.size W X) (hc : Kinds X → Vals X o.ba o.bs → Vals X o.la o.vs → Calls Tryd.prog f args X fun e w' => e = R ∧ Below X.heap.size X w') :
    Calls Tryd.prog f args X fun e Y => e = R ∧ Y.cell? ⟨H, 0, none⟩ = some (.int .i64 o.kind) ∧ Y.cell? ⟨H, 1, none⟩ = some (.int .i64 o.k0) ∧ Y.cell? ⟨H, 2, none⟩ = some (.int .i64 o.n0) ∧ Y.cell? ⟨H, 3, none⟩ = some (.int .i64 o.k1) ∧ Y.cell? ⟨H, 4, none⟩ = some (.int .i64 o.n1) ∧ Y.cell? ⟨H, 5, none⟩ = some (.int .i64 o.k2) ∧ Y.cell? ⟨H, 6, none⟩ = some (.int .i64 o.n2) ∧ Y.cell? ⟨H, 7, none⟩ = some (.int .i64 o.num) ∧ Y.cell? ⟨H, 8, none⟩ = some (.int .i64 o.den) ∧ Y.cell? ⟨H, 9, none⟩ = some (.int .i64 o.mode) ∧ Y.cell? ⟨H, 10, none⟩ = some (.slice o.ba o.bs.length o.bcap) ∧ Y.cell? ⟨H, 11, none⟩ = some (.slice o.la o.vs.length o.lcap) ∧ Kinds Y ∧ Vals Y o.ba o.bs ∧ Vals Y o.la o.vs ∧ Below W.heap.size W Y :=
  (hc h.2.2.2.2.2.2.2.2.2.2.2.2.1 h.2.2.2.2.2.2.2.2.2.2.2.2.2.1 h.2.2.2.2.2.2.2.2.2.2.2.2.2.2.1).mono fun _ _ ⟨he, hb⟩ => ⟨he, PlayS.later (W := W) h hb⟩
theorem PlayS.new {W w : World} {o : Opn} (hK : Kinds w) (hV : Vals w o.ba o.bs) (hL : Vals w o.la o.vs) (hB : Below W.heap.size W w) (t : TypeId) : PlayS W w.heap.size o (w.alloc (.cells (opl o.kind o.k0 o.n0 o.k1 o.n1 o.k2 o.n2 o.num o.den o.mode (.slice o.ba o.bs.length o.bcap) (.slice o.la o.vs.length o.lcap)) t)) := by
  have hb := (Below.refl w.heap.size w).alloc (Nat.le_refl _) (.cells (opl o.kind o.k0 o.n0 o.k1 o.n1 o.k2 o.n2 o.num o.den o.mode (.slice o.ba o.bs.length o.bcap) (.slice o.la o.vs.length o.lcap)) t)
  refine ⟨?_, ?_, ?_, ?_, ?_, ?_, ?_, ?_, ?_, ?_, ?_, ?_, hK.later hb, hV.later hb, hL.later hb, below_step hB hb⟩ <;> simp

set_option maxHeartbeats 1000000 in
theorem plays_walk (a : Option Addr) (cap : Nat) (os : List Opn) (W : World) (hK : Kinds W) (hO : Ops W a os) :
    Calls Tryd.prog 5 #[.slice a os.length cap] W fun e W' => e = .returned (.bool true) ∧ Below W.heap.size W W' := by
  go_enter Tryd.func5, Tryd.ntmps5
  go_wp2
  go_loopw [3] (fun x wr => ∃ j : Nat, j ≤ os.length ∧ x = .int .i64 j ∧ Kinds wr ∧ Below W.heap.size W wr) (fun x _ => os.length - (intOf x).toNat)
  case atStart => exact ⟨0, by omega, rfl, hK, Below.refl _ _⟩
  case round =>
    obtain ⟨j, hj, rfl, hKj, hBj⟩ := hrel
    by_cases hlt : j < os.length
    · have hlt' : (j : Int) < os.length := by omega
      by_cases h60 : j < 60
      · have h60' : (j : Int) < 60 := by omega
        obtain ⟨b, off, rfl, hb, ⟨c0, c1, c2, c3, c4, c5, c6, c7, c8, c9, c10, c11⟩, hVb, hVl⟩ := hO.at hBj hlt
        generalize os[j] = o at *
        by_cases hg1 : o.bs.length ≤ 16384
        · have hg1' : ¬ (16384 : Int) < o.bs.length := by omega
          by_cases hg2 : o.vs.length ≤ 16384
          · have hg2' : ¬ (16384 : Int) < o.vs.length := by omega
            obtain ⟨r, hr⟩ : ∃ r, Hid (r = ansOp o.kind o.k0 o.n0 o.k1 o.n1 o.k2 o.n2 o.num o.den o.mode o.bs o.vs) := ⟨_, rfl⟩
            have hS := PlayS.new hKj hVb hVl hBj 38
            have hS1 := hS.later (Below.refl _ _).drew
            clear hS
            go_wp2_with (go_at_call 11; fail)
            clear c0 c1 c2 c3 c4 c5 c6 c7 c8 c9 c10 c11 hVb hVl hKj hBj
            generalize wr.heap.size = H at *
            go_region_held3 (fun X => X.cell? ⟨H, 0, none⟩ = some (.int .i64 o.kind) ∧ X.cell? ⟨H, 1, none⟩ = some (.int .i64 o.k0) ∧ X.cell? ⟨H, 2, none⟩ = some (.int .i64 o.n0) ∧ X.cell? ⟨H, 3, none⟩ = some (.int .i64 o.k1) ∧ X.cell? ⟨H, 4, none⟩ = some (.int .i64 o.n1) ∧ X.cell? ⟨H, 5, none⟩ = some (.int .i64 o.k2) ∧ X.cell? ⟨H, 6, none⟩ = some (.int .i64 o.n2) ∧ X.cell? ⟨H, 7, none⟩ = some (.int .i64 o.num) ∧ X.cell? ⟨H, 8, none⟩ = some (.int .i64 o.den) ∧ X.cell? ⟨H, 9, none⟩ = some (.int .i64 o.mode) ∧ X.cell? ⟨H, 10, none⟩ = some (.slice o.ba o.bs.length o.bcap) ∧ X.cell? ⟨H, 11, none⟩ = some (.slice o.la o.vs.length o.lcap) ∧ Kinds X ∧ Vals X o.ba o.bs ∧ Vals X o.la o.vs ∧ Below W.heap.size W X) (with_reducible assumption)
              (first | (go_at_call 11; refine (held_play (W := W) (H := H) (o := o) ?_ (fun h1 h2 h3 => does_any o.kind o.k0 o.n0 o.k1 o.n1 o.k2 o.n2 o.num o.den o.mode o.bs o.vs o.ba o.bcap o.la o.lcap _ h1 (fun _ => by omega) h2 h3 r hr)).mono ?_; with_reducible assumption; rintro e w5 ⟨rfl, hS5⟩) | (go_at_call 13; refine (held_play (W := W) (H := H) (o := o) ?_ (fun _ h2 h3 => rdoes_any o.kind o.k0 o.n0 o.k1 o.n1 o.k2 o.n2 o.num o.den o.mode o.bs o.vs o.ba o.bcap o.la o.lcap _ (fun _ => by omega) h2 h3 r hr)).mono ?_; with_reducible assumption; rintro e w5 ⟨rfl, hS5⟩))
            go_wp2
            go_roundw
            case rel => exact ⟨j + 1, by omega, by go_num, hS5.2.2.2.2.2.2.2.2.2.2.2.2.1, hS5.2.2.2.2.2.2.2.2.2.2.2.2.2.2.2⟩
            case measure => simp [intOf]; omega
          · have hg2' : (16384 : Int) < o.vs.length := by omega
            go_wp2
            go_ret
            exact ⟨rfl, hBj.alloc hBj.size _⟩
        · have hg1' : (16384 : Int) < o.bs.length := by omega
          go_wp2
          go_ret
          exact ⟨rfl, hBj.alloc hBj.size _⟩
      · have h60' : ¬ (j : Int) < 60 := by omega
        go_wp2
        go_ret
        exact ⟨rfl, hBj⟩
    · have hlt' : ¬ (j : Int) < os.length := by omega
      go_wp2
      go_ret
      exact ⟨rfl, hBj⟩

end Go.Proofs.YtnmcniibcjjflaaDoor

import Derived.Test.YthnmjafoplfikaaGreatDoorTurnYSf
import Derived.Test.YthnmjafoplfikaaGreatDoorJoin51
namespace Go.Proofs.YthnmjafoplfikaaGreatDoor
open Go.RowKit

def HdEq (n1 n2 : List UInt8) (y1 y2 : Int) (o1 o2 : List (List UInt8 × List (List UInt8))) (t1 t2 : List (List UInt8 × List (Int × Int))) (g1 g2 : List (List UInt8 × Int)) : Prop := n1 = n2 ∧ y1 = y2 ∧ o1 = o2 ∧ t1 = t2 ∧ g1 = g2
theorem sameHeads_q (n1 n2 : List UInt8) (y1 y2 : Int) (o1 o2 : List (List UInt8 × List (List UInt8))) (t1 t2 : List (List UInt8 × List (Int × Int))) (g1 g2 : List (List UInt8 × Int)) (a31 a41 a51 a61 a71 a32 a42 a52 a62 a72 : Option Addr) (c31 c41 c51 c61 c71 c32 c42 c52 c62 c72 l61 l71 l62 l72 : Nat) (W : World) (hz : (o1.length ≤ 9223372036854775807 ∧ ∀ x ∈ o1, x.2.length ≤ 9223372036854775807) ∧ (t1.length ≤ 9223372036854775807 ∧ ∀ x ∈ t1, x.2.length ≤ 9223372036854775807) ∧ g1.length ≤ 9223372036854775807) (hO1 : RowR eO W AnyB o1 a31) (hO2 : RowR eO W AnyB o2 a32) (hT1 : RowR eT W AnyB t1 a41) (hT2 : RowR eT W AnyB t2 a42) (hG1 : RowR eG W AnyB g1 a51) (hG2 : RowR eG W AnyB g2 a52) (hq : HdEq n1 n2 y1 y2 o1 o2 t1 t2 g1 g2) : Calls Tryz.prog 36 #[.agg #[.string ⟨n1.toArray⟩, .int .i64 y1, .slice a31 o1.length c31, .slice a41 t1.length c41, .slice a51 g1.length c51, .slice a61 l61 c61, .slice a71 l71 c71], .agg #[.string ⟨n2.toArray⟩, .int .i64 y2, .slice a32 o2.length c32, .slice a42 t2.length c42, .slice a52 g2.length c52, .slice a62 l62 c62, .slice a72 l72 c72]] W (SmP (HdEq n1 n2 y1 y2 o1 o2 t1 t2 g1 g2) W) := by
  obtain ⟨rfl, rfl, rfl, rfl, rfl⟩ := hq
  refine (sameParts_eq ⟨n1, y1, o1, t1, g1, [], []⟩ a31 a41 a51 a61 a71 a32 a42 a52 a62 a72 c31 c41 c51 c61 c71 c32 c42 c52 c62 c72 l61 l71 l62 l72 W hz hO1 hO2 hT1 hT2 hG1 hG2).mono ?_
  rintro e w ⟨rfl, hb⟩
  exact ⟨hb, true, rfl, ⟨fun _ => ⟨rfl, rfl, rfl, rfl, rfl⟩, fun _ => rfl⟩⟩
def PkEq (n1 n2 : List UInt8) (y1 y2 : Int) (o1 o2 : List (List UInt8 × List (List UInt8))) (t1 t2 : List (List UInt8 × List (Int × Int))) (g1 g2 : List (List UInt8 × Int)) (l1 l2 : List Ln) (k1 k2 : List Ck) : Prop := HdEq n1 n2 y1 y2 o1 o2 t1 t2 g1 g2 ∧ l1 = l2 ∧ k1 = k2
set_option maxRecDepth 8000 in
set_option maxHeartbeats 1000000 in
theorem samePack_any (n1 n2 : List UInt8) (y1 y2 : Int) (o1 o2 : List (List UInt8 × List (List UInt8))) (t1 t2 : List (List UInt8 × List (Int × Int))) (g1 g2 : List (List UInt8 × Int)) (l1 l2 : List Ln) (k1 k2 : List Ck) (a31 a41 a51 a61 a71 a32 a42 a52 a62 a72 : Option Addr) (c31 c41 c51 c61 c71 c32 c42 c52 c62 c72 : Nat) (W : World) (hz : (o1.length ≤ 9223372036854775807 ∧ ∀ x ∈ o1, x.2.length ≤ 9223372036854775807) ∧ (t1.length ≤ 9223372036854775807 ∧ ∀ x ∈ t1, x.2.length ≤ 9223372036854775807) ∧ g1.length ≤ 9223372036854775807) (hz2 : (l1.length ≤ 9223372036854775807 ∧ ∀ x ∈ l1, SzL x) ∧ k1.length ≤ 9223372036854775807 ∧ ∀ x ∈ k1, SzE x.when_) (hO1 : RowR eO W AnyB o1 a31) (hO2 : RowR eO W AnyB o2 a32) (hT1 : RowR eT W AnyB t1 a41) (hT2 : RowR eT W AnyB t2 a42) (hG1 : RowR eG W AnyB g1 a51) (hG2 : RowR eG W AnyB g2 a52) (hL1 : RowR eL W AnyB l1 a61) (hL2 : RowR eL W AnyB l2 a62) (hK1 : RowR eK W AnyB k1 a71) (hK2 : RowR eK W AnyB k2 a72) (hq : HdEq n1 n2 y1 y2 o1 o2 t1 t2 g1 g2) : Calls Tryz.prog 14 #[.agg #[.string ⟨n1.toArray⟩, .int .i64 y1, .slice a31 o1.length c31, .slice a41 t1.length c41, .slice a51 g1.length c51, .slice a61 l1.length c61, .slice a71 k1.length c71], .agg #[.string ⟨n2.toArray⟩, .int .i64 y2, .slice a32 o2.length c32, .slice a42 t2.length c42, .slice a52 g2.length c52, .slice a62 l2.length c62, .slice a72 k2.length c72]] W (SmP (PkEq n1 n2 y1 y2 o1 o2 t1 t2 g1 g2 l1 l2 k1 k2) W) := by
  have hB : Below W.heap.size W ((W.alloc (.cells #[.string ⟨n1.toArray⟩, .int .i64 y1, .slice a31 o1.length c31, .slice a41 t1.length c41, .slice a51 g1.length c51, .slice a61 l1.length c61, .slice a71 k1.length c71] 28)).alloc (.cells #[.string ⟨n2.toArray⟩, .int .i64 y2, .slice a32 o2.length c32, .slice a42 t2.length c42, .slice a52 g2.length c52, .slice a62 l2.length c62, .slice a72 k2.length c72] 28)) := ((Below.refl _ _).alloc (Nat.le_refl _) _).alloc (by simp) _
  obtain ⟨Q, hQ⟩ : ∃ Q, SmP (PkEq n1 n2 y1 y2 o1 o2 t1 t2 g1 g2 l1 l2 k1 k2) W = Q := ⟨_, rfl⟩
  rw [hQ]
  have hQ := Hid.mk hQ
  have hno : Hid (∀ W', ¬ (PkEq n1 n2 y1 y2 o1 o2 t1 t2 g1 g2 l1 l2 k1 k2) → Below W.heap.size W W' → Q (.returned (.bool false)) W') := ⟨fun W' hne hb => by
    rw [← hQ.out]
    exact ⟨hb, false, rfl, by simp only [Bool.false_eq_true, false_iff]; exact hne⟩⟩
  have hs1 : (W.alloc (.cells #[.string ⟨n1.toArray⟩, .int .i64 y1, .slice a31 o1.length c31, .slice a41 t1.length c41, .slice a51 g1.length c51, .slice a61 l1.length c61, .slice a71 k1.length c71] 28)).heap.size = W.heap.size + 1 := by simp
  have hsz : ((W.alloc (.cells #[.string ⟨n1.toArray⟩, .int .i64 y1, .slice a31 o1.length c31, .slice a41 t1.length c41, .slice a51 g1.length c51, .slice a61 l1.length c61, .slice a71 k1.length c71] 28)).alloc (.cells #[.string ⟨n2.toArray⟩, .int .i64 y2, .slice a32 o2.length c32, .slice a42 t2.length c42, .slice a52 g2.length c52, .slice a62 l2.length c62, .slice a72 k2.length c72] 28)).heap.size = W.heap.size + 1 + 1 := by simp
  have hx1 := ((bx_new W #[.string ⟨n1.toArray⟩, .int .i64 y1, .slice a31 o1.length c31, .slice a41 t1.length c41, .slice a51 g1.length c51, .slice a61 l1.length c61, .slice a71 k1.length c71] 28).kept (World.grownBy_alloc (W.alloc (.cells #[.string ⟨n1.toArray⟩, .int .i64 y1, .slice a31 o1.length c31, .slice a41 t1.length c41, .slice a51 g1.length c51, .slice a61 l1.length c61, .slice a71 k1.length c71] 28)) (.cells #[.string ⟨n2.toArray⟩, .int .i64 y2, .slice a32 o2.length c32, .slice a42 t2.length c42, .slice a52 g2.length c52, .slice a62 l2.length c62, .slice a72 k2.length c72] 28) none) (by simp)).2.1
  have hx2 := (bx_new (W.alloc (.cells #[.string ⟨n1.toArray⟩, .int .i64 y1, .slice a31 o1.length c31, .slice a41 t1.length c41, .slice a51 g1.length c51, .slice a61 l1.length c61, .slice a71 k1.length c71] 28)) #[.string ⟨n2.toArray⟩, .int .i64 y2, .slice a32 o2.length c32, .slice a42 t2.length c42, .slice a52 g2.length c52, .slice a62 l2.length c62, .slice a72 k2.length c72] 28).2.1
  rw [hs1] at hx2
  have xl : ((W.alloc (.cells #[.string ⟨n1.toArray⟩, .int .i64 y1, .slice a31 o1.length c31, .slice a41 t1.length c41, .slice a51 g1.length c51, .slice a61 l1.length c61, .slice a71 k1.length c71] 28)).alloc (.cells #[.string ⟨n2.toArray⟩, .int .i64 y2, .slice a32 o2.length c32, .slice a42 t2.length c42, .slice a52 g2.length c52, .slice a62 l2.length c62, .slice a72 k2.length c72] 28)).cell? ⟨W.heap.size, 5, none⟩ = some (.slice a61 l1.length c61) := hx1 5 (by simp)
  have yl : ((W.alloc (.cells #[.string ⟨n1.toArray⟩, .int .i64 y1, .slice a31 o1.length c31, .slice a41 t1.length c41, .slice a51 g1.length c51, .slice a61 l1.length c61, .slice a71 k1.length c71] 28)).alloc (.cells #[.string ⟨n2.toArray⟩, .int .i64 y2, .slice a32 o2.length c32, .slice a42 t2.length c42, .slice a52 g2.length c52, .slice a62 l2.length c62, .slice a72 k2.length c72] 28)).cell? ⟨W.heap.size + 1, 5, none⟩ = some (.slice a62 l2.length c62) := hx2 5 (by simp)
  have xk : ((W.alloc (.cells #[.string ⟨n1.toArray⟩, .int .i64 y1, .slice a31 o1.length c31, .slice a41 t1.length c41, .slice a51 g1.length c51, .slice a61 l1.length c61, .slice a71 k1.length c71] 28)).alloc (.cells #[.string ⟨n2.toArray⟩, .int .i64 y2, .slice a32 o2.length c32, .slice a42 t2.length c42, .slice a52 g2.length c52, .slice a62 l2.length c62, .slice a72 k2.length c72] 28)).cell? ⟨W.heap.size, 6, none⟩ = some (.slice a71 k1.length c71) := hx1 6 (by simp)
  have yk : ((W.alloc (.cells #[.string ⟨n1.toArray⟩, .int .i64 y1, .slice a31 o1.length c31, .slice a41 t1.length c41, .slice a51 g1.length c51, .slice a61 l1.length c61, .slice a71 k1.length c71] 28)).alloc (.cells #[.string ⟨n2.toArray⟩, .int .i64 y2, .slice a32 o2.length c32, .slice a42 t2.length c42, .slice a52 g2.length c52, .slice a62 l2.length c62, .slice a72 k2.length c72] 28)).cell? ⟨W.heap.size + 1, 6, none⟩ = some (.slice a72 k2.length c72) := hx2 6 (by simp)
  have hh := sameHeads_q n1 n2 y1 y2 o1 o2 t1 t2 g1 g2 a31 a41 a51 a61 a71 a32 a42 a52 a62 a72 c31 c41 c51 c61 c71 c32 c42 c52 c62 c72 l1.length k1.length l2.length k2.length ((W.alloc (.cells #[.string ⟨n1.toArray⟩, .int .i64 y1, .slice a31 o1.length c31, .slice a41 t1.length c41, .slice a51 g1.length c51, .slice a61 l1.length c61, .slice a71 k1.length c71] 28)).alloc (.cells #[.string ⟨n2.toArray⟩, .int .i64 y2, .slice a32 o2.length c32, .slice a42 t2.length c42, .slice a52 g2.length c52, .slice a62 l2.length c62, .slice a72 k2.length c72] 28)) hz (row_bel hO1 hB (Nat.le_refl _)) (row_bel hO2 hB (Nat.le_refl _)) (row_bel hT1 hB (Nat.le_refl _)) (row_bel hT2 hB (Nat.le_refl _)) (row_bel hG1 hB (Nat.le_refl _)) (row_bel hG2 hB (Nat.le_refl _)) hq
  have hL1 := row_bel hL1 hB (Nat.le_refl _)
  have hL2 := row_bel hL2 hB (Nat.le_refl _)
  have hK1 := row_bel hK1 hB (Nat.le_refl _)
  have hK2 := row_bel hK2 hB (Nat.le_refl _)
  obtain ⟨⟨zl, zl2⟩, zk, zk2⟩ := hz2
  clear hx1 hx2 hs1 hO1 hO2 hT1 hT2 hG1 hG2 hz
  have hcon : ∀ (r : Bool), (r = true ↔ HdEq n1 n2 y1 y2 o1 o2 t1 t2 g1 g2) → Calls Tryz.prog 36 #[.agg #[.string ⟨n1.toArray⟩, .int .i64 y1, .slice a31 o1.length c31, .slice a41 t1.length c41, .slice a51 g1.length c51, .slice a61 l1.length c61, .slice a71 k1.length c71], .agg #[.string ⟨n2.toArray⟩, .int .i64 y2, .slice a32 o2.length c32, .slice a42 t2.length c42, .slice a52 g2.length c52, .slice a62 l2.length c62, .slice a72 k2.length c72]] ((W.alloc (.cells #[.string ⟨n1.toArray⟩, .int .i64 y1, .slice a31 o1.length c31, .slice a41 t1.length c41, .slice a51 g1.length c51, .slice a61 l1.length c61, .slice a71 k1.length c71] 28)).alloc (.cells #[.string ⟨n2.toArray⟩, .int .i64 y2, .slice a32 o2.length c32, .slice a42 t2.length c42, .slice a52 g2.length c52, .slice a62 l2.length c62, .slice a72 k2.length c72] 28)) fun e W' => Below ((W.alloc (.cells #[.string ⟨n1.toArray⟩, .int .i64 y1, .slice a31 o1.length c31, .slice a41 t1.length c41, .slice a51 g1.length c51, .slice a61 l1.length c61, .slice a71 k1.length c71] 28)).alloc (.cells #[.string ⟨n2.toArray⟩, .int .i64 y2, .slice a32 o2.length c32, .slice a42 t2.length c42, .slice a52 g2.length c52, .slice a62 l2.length c62, .slice a72 k2.length c72] 28)).heap.size ((W.alloc (.cells #[.string ⟨n1.toArray⟩, .int .i64 y1, .slice a31 o1.length c31, .slice a41 t1.length c41, .slice a51 g1.length c51, .slice a61 l1.length c61, .slice a71 k1.length c71] 28)).alloc (.cells #[.string ⟨n2.toArray⟩, .int .i64 y2, .slice a32 o2.length c32, .slice a42 t2.length c42, .slice a52 g2.length c52, .slice a62 l2.length c62, .slice a72 k2.length c72] 28)) W' ∧ e = .returned (.bool r) := fun r hr => hh.mono (by
    rintro e W' ⟨h1, r2, rfl, h2⟩
    refine ⟨h1, ?_⟩
    have : r2 = r := by
      cases r <;> cases r2 <;> simp at hr h2 ⊢
      · exact hr h2
      · exact h2 hr
    rw [this])
  clear hh
  by_cases hhd : HdEq n1 n2 y1 y2 o1 o2 t1 t2 g1 g2
  rotate_left
  · have hh := hcon false (by simp [hhd])
    have hno2 := Hid.mk (fun w1 hb => hno.out w1 (fun h => hhd h.1) hb)
    clear hno hcon hhd
    go_enter Tryz.func14, Tryz.ntmps14
    go_wp2_with (go_at_call 36; go_loud (refine hh.mono ?_; clear hh; rintro e w1 ⟨hB1, rfl⟩; have q1 := (bel_cell hB1 (show W.heap.size < ((W.alloc (.cells #[.string ⟨n1.toArray⟩, .int .i64 y1, .slice a31 o1.length c31, .slice a41 t1.length c41, .slice a51 g1.length c51, .slice a61 l1.length c61, .slice a71 k1.length c71] 28)).alloc (.cells #[.string ⟨n2.toArray⟩, .int .i64 y2, .slice a32 o2.length c32, .slice a42 t2.length c42, .slice a52 g2.length c52, .slice a62 l2.length c62, .slice a72 k2.length c72] 28)).heap.size by rw [hsz]; omega) 5).trans xl; have q2 := (bel_cell hB1 (show W.heap.size + 1 < ((W.alloc (.cells #[.string ⟨n1.toArray⟩, .int .i64 y1, .slice a31 o1.length c31, .slice a41 t1.length c41, .slice a51 g1.length c51, .slice a61 l1.length c61, .slice a71 k1.length c71] 28)).alloc (.cells #[.string ⟨n2.toArray⟩, .int .i64 y2, .slice a32 o2.length c32, .slice a42 t2.length c42, .slice a52 g2.length c52, .slice a62 l2.length c62, .slice a72 k2.length c72] 28)).heap.size by rw [hsz]; omega) 5).trans yl; have q3 := (bel_cell hB1 (show W.heap.size < ((W.alloc (.cells #[.string ⟨n1.toArray⟩, .int .i64 y1, .slice a31 o1.length c31, .slice a41 t1.length c41, .slice a51 g1.length c51, .slice a61 l1.length c61, .slice a71 k1.length c71] 28)).alloc (.cells #[.string ⟨n2.toArray⟩, .int .i64 y2, .slice a32 o2.length c32, .slice a42 t2.length c42, .slice a52 g2.length c52, .slice a62 l2.length c62, .slice a72 k2.length c72] 28)).heap.size by rw [hsz]; omega) 6).trans xk; have q4 := (bel_cell hB1 (show W.heap.size + 1 < ((W.alloc (.cells #[.string ⟨n1.toArray⟩, .int .i64 y1, .slice a31 o1.length c31, .slice a41 t1.length c41, .slice a51 g1.length c51, .slice a61 l1.length c61, .slice a71 k1.length c71] 28)).alloc (.cells #[.string ⟨n2.toArray⟩, .int .i64 y2, .slice a32 o2.length c32, .slice a42 t2.length c42, .slice a52 g2.length c52, .slice a62 l2.length c62, .slice a72 k2.length c72] 28)).heap.size by rw [hsz]; omega) 6).trans yk; have hfin := hno2.out w1 (Below.tr hB hB1 (by rw [hsz]; omega)); clear hno2))
    exact hfin
  have hh := hcon true (by simp [hhd])
  have hhd := Hid.mk hhd
  clear hcon
  by_cases h_l : l1.length = l2.length
  rotate_left
  · have e_l : ((l1.length : Int) != (l2.length : Int)) = true := by simp; omega
    have hno2 := Hid.mk (fun w1 hb => hno.out w1 (fun h => h_l (by rw [h.2.1])) hb)
    clear hno h_l
    go_enter Tryz.func14, Tryz.ntmps14
    go_wp2_with (go_at_call 36; go_loud (refine hh.mono ?_; clear hh; rintro e w1 ⟨hB1, rfl⟩; have q1 := (bel_cell hB1 (show W.heap.size < ((W.alloc (.cells #[.string ⟨n1.toArray⟩, .int .i64 y1, .slice a31 o1.length c31, .slice a41 t1.length c41, .slice a51 g1.length c51, .slice a61 l1.length c61, .slice a71 k1.length c71] 28)).alloc (.cells #[.string ⟨n2.toArray⟩, .int .i64 y2, .slice a32 o2.length c32, .slice a42 t2.length c42, .slice a52 g2.length c52, .slice a62 l2.length c62, .slice a72 k2.length c72] 28)).heap.size by rw [hsz]; omega) 5).trans xl; have q2 := (bel_cell hB1 (show W.heap.size + 1 < ((W.alloc (.cells #[.string ⟨n1.toArray⟩, .int .i64 y1, .slice a31 o1.length c31, .slice a41 t1.length c41, .slice a51 g1.length c51, .slice a61 l1.length c61, .slice a71 k1.length c71] 28)).alloc (.cells #[.string ⟨n2.toArray⟩, .int .i64 y2, .slice a32 o2.length c32, .slice a42 t2.length c42, .slice a52 g2.length c52, .slice a62 l2.length c62, .slice a72 k2.length c72] 28)).heap.size by rw [hsz]; omega) 5).trans yl; have q3 := (bel_cell hB1 (show W.heap.size < ((W.alloc (.cells #[.string ⟨n1.toArray⟩, .int .i64 y1, .slice a31 o1.length c31, .slice a41 t1.length c41, .slice a51 g1.length c51, .slice a61 l1.length c61, .slice a71 k1.length c71] 28)).alloc (.cells #[.string ⟨n2.toArray⟩, .int .i64 y2, .slice a32 o2.length c32, .slice a42 t2.length c42, .slice a52 g2.length c52, .slice a62 l2.length c62, .slice a72 k2.length c72] 28)).heap.size by rw [hsz]; omega) 6).trans xk; have q4 := (bel_cell hB1 (show W.heap.size + 1 < ((W.alloc (.cells #[.string ⟨n1.toArray⟩, .int .i64 y1, .slice a31 o1.length c31, .slice a41 t1.length c41, .slice a51 g1.length c51, .slice a61 l1.length c61, .slice a71 k1.length c71] 28)).alloc (.cells #[.string ⟨n2.toArray⟩, .int .i64 y2, .slice a32 o2.length c32, .slice a42 t2.length c42, .slice a52 g2.length c52, .slice a62 l2.length c62, .slice a72 k2.length c72] 28)).heap.size by rw [hsz]; omega) 6).trans yk; have hfin := hno2.out w1 (Below.tr hB hB1 (by rw [hsz]; omega)); clear hno2))
    exact hfin
  have e_l : ((l1.length : Int) != (l2.length : Int)) = false := by simp; omega
  have hl_l := Hid.mk h_l
  clear h_l
  by_cases h_k : k1.length = k2.length
  rotate_left
  · have e_k : ((k1.length : Int) != (k2.length : Int)) = true := by simp; omega
    have hno2 := Hid.mk (fun w1 hb => hno.out w1 (fun h => h_k (by rw [h.2.2])) hb)
    clear hno h_k
    go_enter Tryz.func14, Tryz.ntmps14
    go_wp2_with (go_at_call 36; go_loud (refine hh.mono ?_; clear hh; rintro e w1 ⟨hB1, rfl⟩; have q1 := (bel_cell hB1 (show W.heap.size < ((W.alloc (.cells #[.string ⟨n1.toArray⟩, .int .i64 y1, .slice a31 o1.length c31, .slice a41 t1.length c41, .slice a51 g1.length c51, .slice a61 l1.length c61, .slice a71 k1.length c71] 28)).alloc (.cells #[.string ⟨n2.toArray⟩, .int .i64 y2, .slice a32 o2.length c32, .slice a42 t2.length c42, .slice a52 g2.length c52, .slice a62 l2.length c62, .slice a72 k2.length c72] 28)).heap.size by rw [hsz]; omega) 5).trans xl; have q2 := (bel_cell hB1 (show W.heap.size + 1 < ((W.alloc (.cells #[.string ⟨n1.toArray⟩, .int .i64 y1, .slice a31 o1.length c31, .slice a41 t1.length c41, .slice a51 g1.length c51, .slice a61 l1.length c61, .slice a71 k1.length c71] 28)).alloc (.cells #[.string ⟨n2.toArray⟩, .int .i64 y2, .slice a32 o2.length c32, .slice a42 t2.length c42, .slice a52 g2.length c52, .slice a62 l2.length c62, .slice a72 k2.length c72] 28)).heap.size by rw [hsz]; omega) 5).trans yl; have q3 := (bel_cell hB1 (show W.heap.size < ((W.alloc (.cells #[.string ⟨n1.toArray⟩, .int .i64 y1, .slice a31 o1.length c31, .slice a41 t1.length c41, .slice a51 g1.length c51, .slice a61 l1.length c61, .slice a71 k1.length c71] 28)).alloc (.cells #[.string ⟨n2.toArray⟩, .int .i64 y2, .slice a32 o2.length c32, .slice a42 t2.length c42, .slice a52 g2.length c52, .slice a62 l2.length c62, .slice a72 k2.length c72] 28)).heap.size by rw [hsz]; omega) 6).trans xk; have q4 := (bel_cell hB1 (show W.heap.size + 1 < ((W.alloc (.cells #[.string ⟨n1.toArray⟩, .int .i64 y1, .slice a31 o1.length c31, .slice a41 t1.length c41, .slice a51 g1.length c51, .slice a61 l1.length c61, .slice a71 k1.length c71] 28)).alloc (.cells #[.string ⟨n2.toArray⟩, .int .i64 y2, .slice a32 o2.length c32, .slice a42 t2.length c42, .slice a52 g2.length c52, .slice a62 l2.length c62, .slice a72 k2.length c72] 28)).heap.size by rw [hsz]; omega) 6).trans yk; have hfin := hno2.out w1 (Below.tr hB hB1 (by rw [hsz]; omega)); clear hno2))
    exact hfin
  have e_k : ((k1.length : Int) != (k2.length : Int)) = false := by simp; omega
  have hl_k := Hid.mk h_k
  clear h_k
  go_enter Tryz.func14, Tryz.ntmps14
  go_wp2_with (go_at_call 36; go_loud (refine hh.mono ?_; clear hh; rintro e w1 ⟨hB1, rfl⟩; have q1 := (bel_cell hB1 (show W.heap.size < ((W.alloc (.cells #[.string ⟨n1.toArray⟩, .int .i64 y1, .slice a31 o1.length c31, .slice a41 t1.length c41, .slice a51 g1.length c51, .slice a61 l1.length c61, .slice a71 k1.length c71] 28)).alloc (.cells #[.string ⟨n2.toArray⟩, .int .i64 y2, .slice a32 o2.length c32, .slice a42 t2.length c42, .slice a52 g2.length c52, .slice a62 l2.length c62, .slice a72 k2.length c72] 28)).heap.size by rw [hsz]; omega) 5).trans xl; have q2 := (bel_cell hB1 (show W.heap.size + 1 < ((W.alloc (.cells #[.string ⟨n1.toArray⟩, .int .i64 y1, .slice a31 o1.length c31, .slice a41 t1.length c41, .slice a51 g1.length c51, .slice a61 l1.length c61, .slice a71 k1.length c71] 28)).alloc (.cells #[.string ⟨n2.toArray⟩, .int .i64 y2, .slice a32 o2.length c32, .slice a42 t2.length c42, .slice a52 g2.length c52, .slice a62 l2.length c62, .slice a72 k2.length c72] 28)).heap.size by rw [hsz]; omega) 5).trans yl; have q3 := (bel_cell hB1 (show W.heap.size < ((W.alloc (.cells #[.string ⟨n1.toArray⟩, .int .i64 y1, .slice a31 o1.length c31, .slice a41 t1.length c41, .slice a51 g1.length c51, .slice a61 l1.length c61, .slice a71 k1.length c71] 28)).alloc (.cells #[.string ⟨n2.toArray⟩, .int .i64 y2, .slice a32 o2.length c32, .slice a42 t2.length c42, .slice a52 g2.length c52, .slice a62 l2.length c62, .slice a72 k2.length c72] 28)).heap.size by rw [hsz]; omega) 6).trans xk; have q4 := (bel_cell hB1 (show W.heap.size + 1 < ((W.alloc (.cells #[.string ⟨n1.toArray⟩, .int .i64 y1, .slice a31 o1.length c31, .slice a41 t1.length c41, .slice a51 g1.length c51, .slice a61 l1.length c61, .slice a71 k1.length c71] 28)).alloc (.cells #[.string ⟨n2.toArray⟩, .int .i64 y2, .slice a32 o2.length c32, .slice a42 t2.length c42, .slice a52 g2.length c52, .slice a62 l2.length c62, .slice a72 k2.length c72] 28)).heap.size by rw [hsz]; omega) 6).trans yk))
  go_loopw [5] (fun iv wr => ∃ i : Nat, iv = .int .i64 (i : Int) ∧ i ≤ l1.length ∧ Below ((W.alloc (.cells #[.string ⟨n1.toArray⟩, .int .i64 y1, .slice a31 o1.length c31, .slice a41 t1.length c41, .slice a51 g1.length c51, .slice a61 l1.length c61, .slice a71 k1.length c71] 28)).alloc (.cells #[.string ⟨n2.toArray⟩, .int .i64 y2, .slice a32 o2.length c32, .slice a42 t2.length c42, .slice a52 g2.length c52, .slice a62 l2.length c62, .slice a72 k2.length c72] 28)).heap.size ((W.alloc (.cells #[.string ⟨n1.toArray⟩, .int .i64 y1, .slice a31 o1.length c31, .slice a41 t1.length c41, .slice a51 g1.length c51, .slice a61 l1.length c61, .slice a71 k1.length c71] 28)).alloc (.cells #[.string ⟨n2.toArray⟩, .int .i64 y2, .slice a32 o2.length c32, .slice a42 t2.length c42, .slice a52 g2.length c52, .slice a62 l2.length c62, .slice a72 k2.length c72] 28)) wr ∧ Hid (∀ j (h1 : j < l1.length) (h2 : j < l2.length), j < i → l1[j] = l2[j])) (fun iv _ => l1.length - (intOf iv).toNat)
  case atStart => exact ⟨0, rfl, Nat.zero_le _, hB1, ⟨fun j _ _ h => absurd h (Nat.not_lt_zero _)⟩⟩
  case round =>
    clear q1 q2 q3 q4
    obtain ⟨i, rfl, hi, hBr, hall⟩ := hrel
    have q1 := (bel_cell hBr (show W.heap.size < ((W.alloc (.cells #[.string ⟨n1.toArray⟩, .int .i64 y1, .slice a31 o1.length c31, .slice a41 t1.length c41, .slice a51 g1.length c51, .slice a61 l1.length c61, .slice a71 k1.length c71] 28)).alloc (.cells #[.string ⟨n2.toArray⟩, .int .i64 y2, .slice a32 o2.length c32, .slice a42 t2.length c42, .slice a52 g2.length c52, .slice a62 l2.length c62, .slice a72 k2.length c72] 28)).heap.size by rw [hsz]; omega) 5).trans xl
    have q2 := (bel_cell hBr (show W.heap.size + 1 < ((W.alloc (.cells #[.string ⟨n1.toArray⟩, .int .i64 y1, .slice a31 o1.length c31, .slice a41 t1.length c41, .slice a51 g1.length c51, .slice a61 l1.length c61, .slice a71 k1.length c71] 28)).alloc (.cells #[.string ⟨n2.toArray⟩, .int .i64 y2, .slice a32 o2.length c32, .slice a42 t2.length c42, .slice a52 g2.length c52, .slice a62 l2.length c62, .slice a72 k2.length c72] 28)).heap.size by rw [hsz]; omega) 5).trans yl
    by_cases hlt : i < l1.length
    · have hlt' : (i : Int) < (l1.length : Int) := by omega
      have hiy : i < l2.length := by have := hl_l.out; omega
      have hlt2 : (i : Int) < (l2.length : Int) := by omega
      have hi0 : (0 : Int) ≤ (i : Int) := by omega
      obtain ⟨g, o, hga⟩ := hL1.some hlt
      obtain ⟨g', o', hgb⟩ := hL2.some hiy
      have hBd : Below wr.heap.size wr wr.drew := (Below.refl _ _).drew
      have hFr := row_bel (row_bel hL1 hBr (Nat.le_refl _)) hBd (Nat.le_refl _)
      have hGr := row_bel (row_bel hL2 hBr (Nat.le_refl _)) hBd (Nat.le_refl _)
      rw [hga] at hFr q1
      rw [hgb] at hGr q2
      clear hga hgb
      obtain ⟨cx0, -, -, ⟨ax, cx, rfl, -, hRx⟩, hcx⟩ := hFr.item hlt
      obtain ⟨cy0, -, -, ⟨ay, cy, rfl, -, hRy⟩, hcy⟩ := hGr.item hiy
      have hzi := zl2 _ (List.getElem_mem hlt)
      have hstep : l1[i] = l2[i] → ∀ j (h1 : j < l1.length) (h2 : j < l2.length), j < i + 1 → l1[j] = l2[j] := fun he j h1 h2 hj => by
        by_cases hji : j < i
        · exact hall.out j h1 h2 hji
        · obtain rfl : j = i := by omega
          exact he
      have hne : ¬ l1[i] = l2[i] → ¬ (PkEq n1 n2 y1 y2 o1 o2 t1 t2 g1 g2 l1 l2 k1 k2) := fun h e => by
        have e2 := e.2.1
        subst e2
        exact h rfl
      have hstep := Hid.mk hstep
      have hne := Hid.mk hne
      generalize l1[i] = x at hcx hRx hzi hstep hne
      generalize l2[i] = y at hcy hRy hstep hne
      have hS0 : wr.drew.cell? ⟨W.heap.size, 5, none⟩ = some (.slice (some ⟨g, o, none⟩) l1.length c61) ∧ wr.drew.cell? ⟨W.heap.size + 1, 5, none⟩ = some (.slice (some ⟨g', o', none⟩) l2.length c62) ∧ wr.drew.cell? ⟨g, o + i * 7, none⟩ = some (.string ⟨x.name.toArray⟩) ∧ wr.drew.cell? ⟨g, o + i * 7 + 1, none⟩ = some (.bool x.input) ∧ wr.drew.cell? ⟨g, o + i * 7 + 2, none⟩ = some (.bool x.must) ∧ wr.drew.cell? ⟨g, o + i * 7 + 3, none⟩ = some (.int .i64 x.type) ∧ wr.drew.cell? ⟨g, o + i * 7 + 4, none⟩ = some (.int .i64 x.opts) ∧ wr.drew.cell? ⟨g, o + i * 7 + 5, none⟩ = some (.int .i64 x.group) ∧ wr.drew.cell? ⟨g, o + i * 7 + 6, none⟩ = some (.slice ax x.cls.length cx) ∧ wr.drew.cell? ⟨g', o' + i * 7, none⟩ = some (.string ⟨y.name.toArray⟩) ∧ wr.drew.cell? ⟨g', o' + i * 7 + 1, none⟩ = some (.bool y.input) ∧ wr.drew.cell? ⟨g', o' + i * 7 + 2, none⟩ = some (.bool y.must) ∧ wr.drew.cell? ⟨g', o' + i * 7 + 3, none⟩ = some (.int .i64 y.type) ∧ wr.drew.cell? ⟨g', o' + i * 7 + 4, none⟩ = some (.int .i64 y.opts) ∧ wr.drew.cell? ⟨g', o' + i * 7 + 5, none⟩ = some (.int .i64 y.group) ∧ wr.drew.cell? ⟨g', o' + i * 7 + 6, none⟩ = some (.slice ay y.cls.length cy) := ⟨q1, q2, hcx 0 (by decide), hcx 1 (by decide), hcx 2 (by decide), hcx 3 (by decide), hcx 4 (by decide), hcx 5 (by decide), hcx 6 (by decide), hcy 0 (by decide), hcy 1 (by decide), hcy 2 (by decide), hcy 3 (by decide), hcy 4 (by decide), hcy 5 (by decide), hcy 6 (by decide)⟩
      have hg1 : g < wr.drew.heap.size := World.block_lt_of_cell? _ _ (hcx 0 (by decide))
      have hg2 : g' < wr.drew.heap.size := World.block_lt_of_cell? _ _ (hcy 0 (by decide))
      have hw1 : W.heap.size + 1 < wr.drew.heap.size := by have := hBr.size; rw [hsz] at this; exact this
      have hcall := sameLine_any x.name y.name x.input y.input x.must y.must x.type y.type x.opts y.opts x.group y.group x.cls y.cls ax ay cx cy wr.drew hzi hRx hRy
      have hkeep : ∀ X, Below wr.drew.heap.size wr.drew X → X.cell? ⟨W.heap.size, 5, none⟩ = some (.slice (some ⟨g, o, none⟩) l1.length c61) ∧ X.cell? ⟨W.heap.size + 1, 5, none⟩ = some (.slice (some ⟨g', o', none⟩) l2.length c62) ∧ X.cell? ⟨g, o + i * 7, none⟩ = some (.string ⟨x.name.toArray⟩) ∧ X.cell? ⟨g, o + i * 7 + 1, none⟩ = some (.bool x.input) ∧ X.cell? ⟨g, o + i * 7 + 2, none⟩ = some (.bool x.must) ∧ X.cell? ⟨g, o + i * 7 + 3, none⟩ = some (.int .i64 x.type) ∧ X.cell? ⟨g, o + i * 7 + 4, none⟩ = some (.int .i64 x.opts) ∧ X.cell? ⟨g, o + i * 7 + 5, none⟩ = some (.int .i64 x.group) ∧ X.cell? ⟨g, o + i * 7 + 6, none⟩ = some (.slice ax x.cls.length cx) ∧ X.cell? ⟨g', o' + i * 7, none⟩ = some (.string ⟨y.name.toArray⟩) ∧ X.cell? ⟨g', o' + i * 7 + 1, none⟩ = some (.bool y.input) ∧ X.cell? ⟨g', o' + i * 7 + 2, none⟩ = some (.bool y.must) ∧ X.cell? ⟨g', o' + i * 7 + 3, none⟩ = some (.int .i64 y.type) ∧ X.cell? ⟨g', o' + i * 7 + 4, none⟩ = some (.int .i64 y.opts) ∧ X.cell? ⟨g', o' + i * 7 + 5, none⟩ = some (.int .i64 y.group) ∧ X.cell? ⟨g', o' + i * 7 + 6, none⟩ = some (.slice ay y.cls.length cy) := fun X hX => by
        have k := fun {b : Nat} (hb : b < wr.drew.heap.size) (j : Nat) => bel_cell hX hb j
        obtain ⟨s0, s1, s2, s3, s4, s5, s6, s7, s8, s9, s10, s11, s12, s13, s14, s15⟩ := hS0
        exact ⟨(k (by omega) _).trans s0, (k hw1 _).trans s1, (k hg1 _).trans s2, (k hg1 _).trans s3, (k hg1 _).trans s4, (k hg1 _).trans s5, (k hg1 _).trans s6, (k hg1 _).trans s7, (k hg1 _).trans s8, (k hg2 _).trans s9, (k hg2 _).trans s10, (k hg2 _).trans s11, (k hg2 _).trans s12, (k hg2 _).trans s13, (k hg2 _).trans s14, (k hg2 _).trans s15⟩
      clear hcx hcy hFr hGr hRx hRy hall
      go_wp2
      go_region_held3 (fun X => X.cell? ⟨W.heap.size, 5, none⟩ = some (.slice (some ⟨g, o, none⟩) l1.length c61) ∧ X.cell? ⟨W.heap.size + 1, 5, none⟩ = some (.slice (some ⟨g', o', none⟩) l2.length c62) ∧ X.cell? ⟨g, o + i * 7, none⟩ = some (.string ⟨x.name.toArray⟩) ∧ X.cell? ⟨g, o + i * 7 + 1, none⟩ = some (.bool x.input) ∧ X.cell? ⟨g, o + i * 7 + 2, none⟩ = some (.bool x.must) ∧ X.cell? ⟨g, o + i * 7 + 3, none⟩ = some (.int .i64 x.type) ∧ X.cell? ⟨g, o + i * 7 + 4, none⟩ = some (.int .i64 x.opts) ∧ X.cell? ⟨g, o + i * 7 + 5, none⟩ = some (.int .i64 x.group) ∧ X.cell? ⟨g, o + i * 7 + 6, none⟩ = some (.slice ax x.cls.length cx) ∧ X.cell? ⟨g', o' + i * 7, none⟩ = some (.string ⟨y.name.toArray⟩) ∧ X.cell? ⟨g', o' + i * 7 + 1, none⟩ = some (.bool y.input) ∧ X.cell? ⟨g', o' + i * 7 + 2, none⟩ = some (.bool y.must) ∧ X.cell? ⟨g', o' + i * 7 + 3, none⟩ = some (.int .i64 y.type) ∧ X.cell? ⟨g', o' + i * 7 + 4, none⟩ = some (.int .i64 y.opts) ∧ X.cell? ⟨g', o' + i * 7 + 5, none⟩ = some (.int .i64 y.group) ∧ X.cell? ⟨g', o' + i * 7 + 6, none⟩ = some (.slice ay y.cls.length cy)) (assumption)
        (first | (go_at_call 37; refine hcall.mono ?_; rintro e w5 ⟨hB5, r, rfl, hr⟩; have hS5 := hkeep w5 hB5))
      have hB5 := Below.tr (Below.tr hBr hBd hBr.size) hB5 (by have := hBr.size; have := hBd.size; omega)
      cases r with
      | true =>
        have hst := Hid.mk (hstep.out (by have := hr.1 (by trivial); obtain ⟨_, _, _, _, _, _, _⟩ := x; obtain ⟨_, _, _, _, _, _, _⟩ := y; exact this))
        clear hstep hne hr hkeep hS0 hno
        go_wp2
        go_roundw
        case rel => exact ⟨i + 1, by go_num, by omega, hB5, hst⟩
        case measure => simp [intOf]; omega
      | false =>
        have hfin := hno.out w5 (hne.out (fun h => by have := hr.2 (by rw [h]); cases this)) (Below.tr hB hB5 (by rw [hsz]; omega))
        clear hstep hne hr hkeep hS0 hno
        go_wp2
        exact hfin
    · have hlt' : ¬ (i : Int) < (l1.length : Int) := by omega
      have heq_l : Hid (l1 = l2) := ⟨list_all hl_l.out (fun j h1 h2 => hall.out j h1 h2 (by omega))⟩
      have hBr1 := hBr
      clear hall hBr hi hlt
      go_wp2
      go_loopw [6] (fun iv wr => ∃ i : Nat, iv = .int .i64 (i : Int) ∧ i ≤ k1.length ∧ Below ((W.alloc (.cells #[.string ⟨n1.toArray⟩, .int .i64 y1, .slice a31 o1.length c31, .slice a41 t1.length c41, .slice a51 g1.length c51, .slice a61 l1.length c61, .slice a71 k1.length c71] 28)).alloc (.cells #[.string ⟨n2.toArray⟩, .int .i64 y2, .slice a32 o2.length c32, .slice a42 t2.length c42, .slice a52 g2.length c52, .slice a62 l2.length c62, .slice a72 k2.length c72] 28)).heap.size ((W.alloc (.cells #[.string ⟨n1.toArray⟩, .int .i64 y1, .slice a31 o1.length c31, .slice a41 t1.length c41, .slice a51 g1.length c51, .slice a61 l1.length c61, .slice a71 k1.length c71] 28)).alloc (.cells #[.string ⟨n2.toArray⟩, .int .i64 y2, .slice a32 o2.length c32, .slice a42 t2.length c42, .slice a52 g2.length c52, .slice a62 l2.length c62, .slice a72 k2.length c72] 28)) wr ∧ Hid (∀ j (h1 : j < k1.length) (h2 : j < k2.length), j < i → k1[j] = k2[j])) (fun iv _ => k1.length - (intOf iv).toNat)
      case atStart => exact ⟨0, rfl, Nat.zero_le _, hBr1, ⟨fun j _ _ h => absurd h (Nat.not_lt_zero _)⟩⟩
      case round =>
        obtain ⟨i, rfl, hi, hBr, hall⟩ := hrel
        have q1 := (bel_cell hBr (show W.heap.size < ((W.alloc (.cells #[.string ⟨n1.toArray⟩, .int .i64 y1, .slice a31 o1.length c31, .slice a41 t1.length c41, .slice a51 g1.length c51, .slice a61 l1.length c61, .slice a71 k1.length c71] 28)).alloc (.cells #[.string ⟨n2.toArray⟩, .int .i64 y2, .slice a32 o2.length c32, .slice a42 t2.length c42, .slice a52 g2.length c52, .slice a62 l2.length c62, .slice a72 k2.length c72] 28)).heap.size by rw [hsz]; omega) 6).trans xk
        have q2 := (bel_cell hBr (show W.heap.size + 1 < ((W.alloc (.cells #[.string ⟨n1.toArray⟩, .int .i64 y1, .slice a31 o1.length c31, .slice a41 t1.length c41, .slice a51 g1.length c51, .slice a61 l1.length c61, .slice a71 k1.length c71] 28)).alloc (.cells #[.string ⟨n2.toArray⟩, .int .i64 y2, .slice a32 o2.length c32, .slice a42 t2.length c42, .slice a52 g2.length c52, .slice a62 l2.length c62, .slice a72 k2.length c72] 28)).heap.size by rw [hsz]; omega) 6).trans yk
        by_cases hlt : i < k1.length
        · have hlt' : (i : Int) < (k1.length : Int) := by omega
          have hiy : i < k2.length := by have := hl_k.out; omega
          have hlt2 : (i : Int) < (k2.length : Int) := by omega
          have hi0 : (0 : Int) ≤ (i : Int) := by omega
          obtain ⟨g, o, hga⟩ := hK1.some hlt
          obtain ⟨g', o', hgb⟩ := hK2.some hiy
          have hFr := row_bel hK1 hBr (Nat.le_refl _)
          have hGr := row_bel hK2 hBr (Nat.le_refl _)
          rw [hga] at hFr q1
          rw [hgb] at hGr q2
          clear hga hgb
          obtain ⟨cx0, -, -, ⟨ax, cx, rfl, -, -, hFx⟩, hcx⟩ := hFr.item hlt
          obtain ⟨cy0, -, -, ⟨ay, cy, rfl, -, -, hFy⟩, hcy⟩ := hGr.item hiy
          have hzi := zk2 _ (List.getElem_mem hlt)
          have hstep : k1[i] = k2[i] → ∀ j (h1 : j < k1.length) (h2 : j < k2.length), j < i + 1 → k1[j] = k2[j] := fun he j h1 h2 hj => by
            by_cases hji : j < i
            · exact hall.out j h1 h2 hji
            · obtain rfl : j = i := by omega
              exact he
          have hne : ¬ k1[i] = k2[i] → ¬ (PkEq n1 n2 y1 y2 o1 o2 t1 t2 g1 g2 l1 l2 k1 k2) := fun h e => by
            have e2 := e.2.2
            subst e2
            exact h rfl
          have hstep := Hid.mk hstep
          have hne := Hid.mk hne
          generalize k1[i] = x at hcx hFx hzi hstep hne
          generalize k2[i] = y at hcy hFy hstep hne
          obtain ⟨xn, xh, xg, xw, xt⟩ := x
          obtain ⟨yn, yh, yg, yw, yt⟩ := y
          have kx0 : wr.cell? ⟨g, o + i * 9, none⟩ = some (.string ⟨xn.toArray⟩) := hcx 0 (by decide)
          have kx1 : wr.cell? ⟨g, o + i * 9 + 1, none⟩ = some (.bool xh) := hcx 1 (by decide)
          have kx2 : wr.cell? ⟨g, o + i * 9 + 2, none⟩ = some (.int .i64 xg) := hcx 2 (by decide)
          have kx3 : wr.cell? ⟨g, o + i * 9 + 3, none⟩ = some (.int .i64 xw.op) := hcx 3 (by decide)
          have kx4 : wr.cell? ⟨g, o + i * 9 + 4, none⟩ = some (.int .i64 xw.num) := hcx 4 (by decide)
          have kx5 : wr.cell? ⟨g, o + i * 9 + 5, none⟩ = some (.int .i64 xw.den) := hcx 5 (by decide)
          have kx6 : wr.cell? ⟨g, o + i * 9 + 6, none⟩ = some (.int .i64 xw.mode) := hcx 6 (by decide)
          have kx7 : wr.cell? ⟨g, o + i * 9 + 7, none⟩ = some (.slice ax xw.args.len cx) := hcx 7 (by decide)
          have kx8 : wr.cell? ⟨g, o + i * 9 + 8, none⟩ = some (.string ⟨xt.toArray⟩) := hcx 8 (by decide)
          have ky0 : wr.cell? ⟨g', o' + i * 9, none⟩ = some (.string ⟨yn.toArray⟩) := hcy 0 (by decide)
          have ky1 : wr.cell? ⟨g', o' + i * 9 + 1, none⟩ = some (.bool yh) := hcy 1 (by decide)
          have ky2 : wr.cell? ⟨g', o' + i * 9 + 2, none⟩ = some (.int .i64 yg) := hcy 2 (by decide)
          have ky3 : wr.cell? ⟨g', o' + i * 9 + 3, none⟩ = some (.int .i64 yw.op) := hcy 3 (by decide)
          have ky4 : wr.cell? ⟨g', o' + i * 9 + 4, none⟩ = some (.int .i64 yw.num) := hcy 4 (by decide)
          have ky5 : wr.cell? ⟨g', o' + i * 9 + 5, none⟩ = some (.int .i64 yw.den) := hcy 5 (by decide)
          have ky6 : wr.cell? ⟨g', o' + i * 9 + 6, none⟩ = some (.int .i64 yw.mode) := hcy 6 (by decide)
          have ky7 : wr.cell? ⟨g', o' + i * 9 + 7, none⟩ = some (.slice ay yw.args.len cy) := hcy 7 (by decide)
          have ky8 : wr.cell? ⟨g', o' + i * 9 + 8, none⟩ = some (.string ⟨yt.toArray⟩) := hcy 8 (by decide)
          have hgs : g < wr.heap.size := World.block_lt_of_cell? _ _ kx0
          have hgs' : g' < wr.heap.size := World.block_lt_of_cell? _ _ ky0
          have hw1 : W.heap.size + 1 < wr.heap.size := World.block_lt_of_cell? _ _ q2
          have hw0 : W.heap.size < wr.heap.size := by omega
          clear hcx hcy hFr hGr hall
          have hBv := (hBr.alloc hBr.size (.cells #[.string ⟨xn.toArray⟩, .bool xh, .int .i64 xg, .int .i64 xw.op, .int .i64 xw.num, .int .i64 xw.den, .int .i64 xw.mode, .slice ax xw.args.len cx, .string ⟨xt.toArray⟩] 75)).alloc (by have := hBr.size; simp at this ⊢; omega) (.cells #[.string ⟨yn.toArray⟩, .bool yh, .int .i64 yg, .int .i64 yw.op, .int .i64 yw.num, .int .i64 yw.den, .int .i64 yw.mode, .slice ay yw.args.len cy, .string ⟨yt.toArray⟩] 75)
          have hBn : Below wr.heap.size wr ((wr.alloc (.cells #[.string ⟨xn.toArray⟩, .bool xh, .int .i64 xg, .int .i64 xw.op, .int .i64 xw.num, .int .i64 xw.den, .int .i64 xw.mode, .slice ax xw.args.len cx, .string ⟨xt.toArray⟩] 75)).alloc (.cells #[.string ⟨yn.toArray⟩, .bool yh, .int .i64 yg, .int .i64 yw.op, .int .i64 yw.num, .int .i64 yw.den, .int .i64 yw.mode, .slice ay yw.args.len cy, .string ⟨yt.toArray⟩] 75)) := ((Below.refl _ _).alloc (Nat.le_refl _) _).alloc (by simp) _
          have hnov := Hid.mk (fun h => hno.out _ h (Below.tr hB hBv (by rw [hsz]; omega)))
          have hc1 := sameExpr_any _ xw yw ax ay cx cy ((wr.alloc (.cells #[.string ⟨xn.toArray⟩, .bool xh, .int .i64 xg, .int .i64 xw.op, .int .i64 xw.num, .int .i64 xw.den, .int .i64 xw.mode, .slice ax xw.args.len cx, .string ⟨xt.toArray⟩] 75)).alloc (.cells #[.string ⟨yn.toArray⟩, .bool yh, .int .i64 yg, .int .i64 yw.op, .int .i64 yw.num, .int .i64 yw.den, .int .i64 yw.mode, .slice ay yw.args.len cy, .string ⟨yt.toArray⟩] 75)) (Nat.le_refl _) hzi (fo_bel hFx hBn (Nat.le_refl _)) (fo_bel hFy hBn (Nat.le_refl _))
          clear hFx hFy hBn hzi
          by_cases h_xn : xn = yn
          rotate_left
          · have e3 : (xn == yn) = false := by simp [h_xn]
            have e4 : (xn != yn) = true := by simp [h_xn]
            have hfin := hnov.out (hne.out (fun h => h_xn (by cases h; rfl)))
            clear hno hnov hne hstep hc1 hBv h_xn
            go_wp2
            exact hfin
          subst h_xn
          by_cases h_xh : xh = yh
          rotate_left
          · have hfin := hnov.out (hne.out (fun h => h_xh (by cases h; rfl)))
            clear hno hnov hne hstep hc1 hBv
            cases xh <;> cases yh
            · exact absurd rfl h_xh
            · go_wp2
              exact hfin
            · go_wp2
              exact hfin
            · exact absurd rfl h_xh
          subst h_xh
          by_cases h_xg : xg = yg
          rotate_left
          · have e3 : (xg == yg) = false := by simp [h_xg]
            have e4 : (xg != yg) = true := by simp [h_xg]
            have hfin := hnov.out (hne.out (fun h => h_xg (by cases h; rfl)))
            clear hno hnov hne hstep hc1 hBv h_xg
            go_wp2
            exact hfin
          subst h_xg
          by_cases h_xt : xt = yt
          rotate_left
          · have e3 : (xt == yt) = false := by simp [h_xt]
            have e4 : (xt != yt) = true := by simp [h_xt]
            have hfin := hnov.out (hne.out (fun h => h_xt (by cases h; rfl)))
            clear hno hnov hne hstep hc1 hBv h_xt
            go_wp2
            exact hfin
          subst h_xt
          have hsv2 : ((wr.alloc (.cells #[.string ⟨xn.toArray⟩, .bool xh, .int .i64 xg, .int .i64 xw.op, .int .i64 xw.num, .int .i64 xw.den, .int .i64 xw.mode, .slice ax xw.args.len cx, .string ⟨xt.toArray⟩] 75)).alloc (.cells #[.string ⟨xn.toArray⟩, .bool xh, .int .i64 xg, .int .i64 yw.op, .int .i64 yw.num, .int .i64 yw.den, .int .i64 yw.mode, .slice ay yw.args.len cy, .string ⟨xt.toArray⟩] 75)).heap.size = wr.heap.size + 1 + 1 := by simp
          go_wp2_with (go_at_call 38; go_loud (refine hc1.mono ?_; clear hc1; rintro e w5 ⟨hB5, r1, rfl, hr1⟩; have hBz := Below.tr hBv hB5 (by rw [hsv2]; have := hBr.size; omega); cases r1))
          · have hfin := hno.out w5 (hne.out (fun h => by have := hr1.2 (by cases h; rfl); cases this)) (Below.tr hB hBz (by rw [hsz]; omega))
            clear hno hne hstep hr1
            go_wp2
            exact hfin
          · have hst := Hid.mk (hstep.out (by rw [hr1.1 (by trivial)]))
            clear hno hne hstep hr1
            go_wp2
            go_roundw
            case rel => exact ⟨i + 1, by go_num, by omega, hBz, hst⟩
            case measure => simp [intOf]; omega
        · have hlt' : ¬ (i : Int) < (k1.length : Int) := by omega
          have heq_k : k1 = k2 := list_all hl_k.out (fun j h1 h2 => hall.out j h1 h2 (by omega))
          have hfin : Q (.returned (.bool true)) wr := by
            rw [← hQ.out]
            exact ⟨Below.tr hB hBr (by rw [hsz]; omega), true, rfl, fun _ => ⟨hhd.out, heq_l.out, heq_k⟩, fun _ => rfl⟩
          clear hall heq_k hno
          go_wp2
          exact hfin

end Go.Proofs.YthnmjafoplfikaaGreatDoor

import Derived.Test.YtjgkjdalnjlefaaPoE
import Derived.Test.YtjgkjdalnjlefaaRows
import Derived.ProofKit
import Derived.OpenShut
import Derived.SizedLaws
import Derived.Deep.Slices
import Derived.Test.YtjgkjdalnjlefaaPkQj
import Derived.Laws.OwnMore
import Derived.Maps.AppendAt
import Derived.Deep.RegionHeldLaw
import Derived.Test.YtjgkjdalnjlefaaPSum0
namespace Go.Proofs.Ytjgkjdalnjlefaa
open Go.RowKit

def HdEq (n1 n2 : List UInt8) (y1 y2 : Int) (o1 o2 : List (List UInt8 × List (List UInt8))) (t1 t2 : List (List UInt8 × List (Int × Int))) (g1 g2 : List (List UInt8 × Int)) : Prop := n1 = n2 ∧ y1 = y2 ∧ o1 = o2 ∧ t1 = t2 ∧ g1 = g2
set_option maxRecDepth 8000 in
set_option maxHeartbeats 1000000 in
theorem sameHeads_any (n1 n2 : List UInt8) (y1 y2 : Int) (o1 o2 : List (List UInt8 × List (List UInt8))) (t1 t2 : List (List UInt8 × List (Int × Int))) (g1 g2 : List (List UInt8 × Int)) (a31 a41 a51 a61 a71 a32 a42 a52 a62 a72 : Option Addr) (c31 c41 c51 c61 c71 c32 c42 c52 c62 c72 l61 l71 l62 l72 : Nat) (W : World) (hz : (o1.length ≤ 9223372036854775807 ∧ ∀ x ∈ o1, x.2.length ≤ 9223372036854775807) ∧ (t1.length ≤ 9223372036854775807 ∧ ∀ x ∈ t1, x.2.length ≤ 9223372036854775807) ∧ g1.length ≤ 9223372036854775807) (hO1 : RowR eO W AnyB o1 a31) (hO2 : RowR eO W AnyB o2 a32) (hT1 : RowR eT W AnyB t1 a41) (hT2 : RowR eT W AnyB t2 a42) (hG1 : RowR eG W AnyB g1 a51) (hG2 : RowR eG W AnyB g2 a52) : Calls Try.prog 27 #[.agg #[.string ⟨n1.toArray⟩, .int .i64 y1, .slice a31 o1.length c31, .slice a41 t1.length c41, .slice a51 g1.length c51, .slice a61 l61 c61, .slice a71 l71 c71], .agg #[.string ⟨n2.toArray⟩, .int .i64 y2, .slice a32 o2.length c32, .slice a42 t2.length c42, .slice a52 g2.length c52, .slice a62 l62 c62, .slice a72 l72 c72]] W (SmP (HdEq n1 n2 y1 y2 o1 o2 t1 t2 g1 g2) W) := by
  have hB : Below W.heap.size W ((W.alloc (.cells #[.string ⟨n1.toArray⟩, .int .i64 y1, .slice a31 o1.length c31, .slice a41 t1.length c41, .slice a51 g1.length c51, .slice a61 l61 c61, .slice a71 l71 c71] 29)).alloc (.cells #[.string ⟨n2.toArray⟩, .int .i64 y2, .slice a32 o2.length c32, .slice a42 t2.length c42, .slice a52 g2.length c52, .slice a62 l62 c62, .slice a72 l72 c72] 29)) := ((Below.refl _ _).alloc (Nat.le_refl _) _).alloc (by simp) _
  obtain ⟨Q, hQ⟩ : ∃ Q, SmP (HdEq n1 n2 y1 y2 o1 o2 t1 t2 g1 g2) W = Q := ⟨_, rfl⟩
  rw [hQ]
  have hQ := Hid.mk hQ
  have hno : ∀ W', ¬ (HdEq n1 n2 y1 y2 o1 o2 t1 t2 g1 g2) → Below W.heap.size W W' → Q (.returned (.bool false)) W' := fun W' hne hb => by
    rw [← hQ.out]
    exact ⟨hb, false, rfl, by simp only [Bool.false_eq_true, false_iff]; exact hne⟩
  by_cases h_n : n1 = n2
  rotate_left
  · have e1 : (n1 == n2) = false := by simp [h_n]
    have e2 : (n1 != n2) = true := by simp [h_n]
    have hfin := hno _ (fun h => h_n h.1) hB
    clear hno h_n hO1 hO2 hT1 hT2 hG1 hG2 hz
    go_enter Try.func27, Try.ntmps27
    go_wp2
    exact hfin
  subst h_n
  by_cases h_y : y1 = y2
  rotate_left
  · have e1 : (y1 == y2) = false := by simp [h_y]
    have e2 : (y1 != y2) = true := by simp [h_y]
    have hfin := hno _ (fun h => h_y h.2.1) hB
    clear hno h_y hO1 hO2 hT1 hT2 hG1 hG2 hz
    go_enter Try.func27, Try.ntmps27
    go_wp2
    exact hfin
  subst h_y
  by_cases h_o : o1.length = o2.length
  rotate_left
  · have e_o : ((o1.length : Int) != (o2.length : Int)) = true := by simp; omega
    have hfin := hno _ (fun h => h_o (by rw [h.2.2.1])) hB
    clear hno h_o hO1 hO2 hT1 hT2 hG1 hG2 hz
    go_enter Try.func27, Try.ntmps27
    go_wp2
    exact hfin
  have e_o : ((o1.length : Int) != (o2.length : Int)) = false := by simp; omega
  have hl_o := Hid.mk h_o
  clear h_o
  by_cases h_t : t1.length = t2.length
  rotate_left
  · have e_t : ((t1.length : Int) != (t2.length : Int)) = true := by simp; omega
    have hfin := hno _ (fun h => h_t (by rw [h.2.2.2.1])) hB
    clear hno h_t hO1 hO2 hT1 hT2 hG1 hG2 hz
    go_enter Try.func27, Try.ntmps27
    go_wp2
    exact hfin
  have e_t : ((t1.length : Int) != (t2.length : Int)) = false := by simp; omega
  have hl_t := Hid.mk h_t
  clear h_t
  by_cases h_g : g1.length = g2.length
  rotate_left
  · have e_g : ((g1.length : Int) != (g2.length : Int)) = true := by simp; omega
    have hfin := hno _ (fun h => h_g (by rw [h.2.2.2.2])) hB
    clear hno h_g hO1 hO2 hT1 hT2 hG1 hG2 hz
    go_enter Try.func27, Try.ntmps27
    go_wp2
    exact hfin
  have e_g : ((g1.length : Int) != (g2.length : Int)) = false := by simp; omega
  have hl_g := Hid.mk h_g
  clear h_g
  have hs1 : (W.alloc (.cells #[.string ⟨n1.toArray⟩, .int .i64 y1, .slice a31 o1.length c31, .slice a41 t1.length c41, .slice a51 g1.length c51, .slice a61 l61 c61, .slice a71 l71 c71] 29)).heap.size = W.heap.size + 1 := by simp
  have hsz : ((W.alloc (.cells #[.string ⟨n1.toArray⟩, .int .i64 y1, .slice a31 o1.length c31, .slice a41 t1.length c41, .slice a51 g1.length c51, .slice a61 l61 c61, .slice a71 l71 c71] 29)).alloc (.cells #[.string ⟨n1.toArray⟩, .int .i64 y1, .slice a32 o2.length c32, .slice a42 t2.length c42, .slice a52 g2.length c52, .slice a62 l62 c62, .slice a72 l72 c72] 29)).heap.size = W.heap.size + 1 + 1 := by simp
  have hx1 := ((bx_new W #[.string ⟨n1.toArray⟩, .int .i64 y1, .slice a31 o1.length c31, .slice a41 t1.length c41, .slice a51 g1.length c51, .slice a61 l61 c61, .slice a71 l71 c71] 29).kept (World.grownBy_alloc (W.alloc (.cells #[.string ⟨n1.toArray⟩, .int .i64 y1, .slice a31 o1.length c31, .slice a41 t1.length c41, .slice a51 g1.length c51, .slice a61 l61 c61, .slice a71 l71 c71] 29)) (.cells #[.string ⟨n1.toArray⟩, .int .i64 y1, .slice a32 o2.length c32, .slice a42 t2.length c42, .slice a52 g2.length c52, .slice a62 l62 c62, .slice a72 l72 c72] 29) none) (by simp)).2.1
  have hx2 := (bx_new (W.alloc (.cells #[.string ⟨n1.toArray⟩, .int .i64 y1, .slice a31 o1.length c31, .slice a41 t1.length c41, .slice a51 g1.length c51, .slice a61 l61 c61, .slice a71 l71 c71] 29)) #[.string ⟨n1.toArray⟩, .int .i64 y1, .slice a32 o2.length c32, .slice a42 t2.length c42, .slice a52 g2.length c52, .slice a62 l62 c62, .slice a72 l72 c72] 29).2.1
  rw [hs1] at hx2
  have xo : ((W.alloc (.cells #[.string ⟨n1.toArray⟩, .int .i64 y1, .slice a31 o1.length c31, .slice a41 t1.length c41, .slice a51 g1.length c51, .slice a61 l61 c61, .slice a71 l71 c71] 29)).alloc (.cells #[.string ⟨n1.toArray⟩, .int .i64 y1, .slice a32 o2.length c32, .slice a42 t2.length c42, .slice a52 g2.length c52, .slice a62 l62 c62, .slice a72 l72 c72] 29)).cell? ⟨W.heap.size, 2, none⟩ = _ := hx1 2 (by simp)
  have yo : ((W.alloc (.cells #[.string ⟨n1.toArray⟩, .int .i64 y1, .slice a31 o1.length c31, .slice a41 t1.length c41, .slice a51 g1.length c51, .slice a61 l61 c61, .slice a71 l71 c71] 29)).alloc (.cells #[.string ⟨n1.toArray⟩, .int .i64 y1, .slice a32 o2.length c32, .slice a42 t2.length c42, .slice a52 g2.length c52, .slice a62 l62 c62, .slice a72 l72 c72] 29)).cell? ⟨W.heap.size + 1, 2, none⟩ = _ := hx2 2 (by simp)
  have xt : ((W.alloc (.cells #[.string ⟨n1.toArray⟩, .int .i64 y1, .slice a31 o1.length c31, .slice a41 t1.length c41, .slice a51 g1.length c51, .slice a61 l61 c61, .slice a71 l71 c71] 29)).alloc (.cells #[.string ⟨n1.toArray⟩, .int .i64 y1, .slice a32 o2.length c32, .slice a42 t2.length c42, .slice a52 g2.length c52, .slice a62 l62 c62, .slice a72 l72 c72] 29)).cell? ⟨W.heap.size, 3, none⟩ = _ := hx1 3 (by simp)
  have yt : ((W.alloc (.cells #[.string ⟨n1.toArray⟩, .int .i64 y1, .slice a31 o1.length c31, .slice a41 t1.length c41, .slice a51 g1.length c51, .slice a61 l61 c61, .slice a71 l71 c71] 29)).alloc (.cells #[.string ⟨n1.toArray⟩, .int .i64 y1, .slice a32 o2.length c32, .slice a42 t2.length c42, .slice a52 g2.length c52, .slice a62 l62 c62, .slice a72 l72 c72] 29)).cell? ⟨W.heap.size + 1, 3, none⟩ = _ := hx2 3 (by simp)
  have xg : ((W.alloc (.cells #[.string ⟨n1.toArray⟩, .int .i64 y1, .slice a31 o1.length c31, .slice a41 t1.length c41, .slice a51 g1.length c51, .slice a61 l61 c61, .slice a71 l71 c71] 29)).alloc (.cells #[.string ⟨n1.toArray⟩, .int .i64 y1, .slice a32 o2.length c32, .slice a42 t2.length c42, .slice a52 g2.length c52, .slice a62 l62 c62, .slice a72 l72 c72] 29)).cell? ⟨W.heap.size, 4, none⟩ = _ := hx1 4 (by simp)
  have yg : ((W.alloc (.cells #[.string ⟨n1.toArray⟩, .int .i64 y1, .slice a31 o1.length c31, .slice a41 t1.length c41, .slice a51 g1.length c51, .slice a61 l61 c61, .slice a71 l71 c71] 29)).alloc (.cells #[.string ⟨n1.toArray⟩, .int .i64 y1, .slice a32 o2.length c32, .slice a42 t2.length c42, .slice a52 g2.length c52, .slice a62 l62 c62, .slice a72 l72 c72] 29)).cell? ⟨W.heap.size + 1, 4, none⟩ = _ := hx2 4 (by simp)
  have hO1 := row_bel hO1 hB (Nat.le_refl _)
  have hO2 := row_bel hO2 hB (Nat.le_refl _)
  have hT1 := row_bel hT1 hB (Nat.le_refl _)
  have hT2 := row_bel hT2 hB (Nat.le_refl _)
  have hG1 := row_bel hG1 hB (Nat.le_refl _)
  have hG2 := row_bel hG2 hB (Nat.le_refl _)
  obtain ⟨⟨zo, zo2⟩, ⟨zt, zt2⟩, zg⟩ := hz
  have hno2 := Hid.mk hno
  clear hx1 hx2 hs1 hno
  have hno := hno2
  clear hno2
  go_enter Try.func27, Try.ntmps27
  go_wp2
  go_loopw [5] (fun iv wr => ∃ i : Nat, iv = .int .i64 (i : Int) ∧ i ≤ o1.length ∧ Below ((W.alloc (.cells #[.string ⟨n1.toArray⟩, .int .i64 y1, .slice a31 o1.length c31, .slice a41 t1.length c41, .slice a51 g1.length c51, .slice a61 l61 c61, .slice a71 l71 c71] 29)).alloc (.cells #[.string ⟨n1.toArray⟩, .int .i64 y1, .slice a32 o2.length c32, .slice a42 t2.length c42, .slice a52 g2.length c52, .slice a62 l62 c62, .slice a72 l72 c72] 29)).heap.size ((W.alloc (.cells #[.string ⟨n1.toArray⟩, .int .i64 y1, .slice a31 o1.length c31, .slice a41 t1.length c41, .slice a51 g1.length c51, .slice a61 l61 c61, .slice a71 l71 c71] 29)).alloc (.cells #[.string ⟨n1.toArray⟩, .int .i64 y1, .slice a32 o2.length c32, .slice a42 t2.length c42, .slice a52 g2.length c52, .slice a62 l62 c62, .slice a72 l72 c72] 29)) wr ∧ Hid (∀ j (h1 : j < o1.length) (h2 : j < o2.length), j < i → o1[j] = o2[j])) (fun iv _ => o1.length - (intOf iv).toNat)
  case atStart => exact ⟨0, rfl, Nat.zero_le _, Below.refl _ _, ⟨fun j _ _ h => absurd h (Nat.not_lt_zero _)⟩⟩
  case round =>
    obtain ⟨w0, hw00⟩ : ∃ w0, w0 = wr := ⟨wr, rfl⟩
    subst hw00
    obtain ⟨i, rfl, hi, hBr, hall⟩ := hrel
    have q1 := (bel_cell hBr (show W.heap.size < ((W.alloc (.cells #[.string ⟨n1.toArray⟩, .int .i64 y1, .slice a31 o1.length c31, .slice a41 t1.length c41, .slice a51 g1.length c51, .slice a61 l61 c61, .slice a71 l71 c71] 29)).alloc (.cells #[.string ⟨n1.toArray⟩, .int .i64 y1, .slice a32 o2.length c32, .slice a42 t2.length c42, .slice a52 g2.length c52, .slice a62 l62 c62, .slice a72 l72 c72] 29)).heap.size by rw [hsz]; omega) 2).trans xo
    have q2 := (bel_cell hBr (show W.heap.size + 1 < ((W.alloc (.cells #[.string ⟨n1.toArray⟩, .int .i64 y1, .slice a31 o1.length c31, .slice a41 t1.length c41, .slice a51 g1.length c51, .slice a61 l61 c61, .slice a71 l71 c71] 29)).alloc (.cells #[.string ⟨n1.toArray⟩, .int .i64 y1, .slice a32 o2.length c32, .slice a42 t2.length c42, .slice a52 g2.length c52, .slice a62 l62 c62, .slice a72 l72 c72] 29)).heap.size by rw [hsz]; omega) 2).trans yo
    by_cases hlt : i < o1.length
    · have hlt' : (i : Int) < (o1.length : Int) := by omega
      have hiy : i < o2.length := by have := hl_o.out; omega
      have hlt2 : (i : Int) < (o2.length : Int) := by omega
      have hi0 : (0 : Int) ≤ (i : Int) := by omega
      obtain ⟨g, o, hga⟩ := hO1.some hlt
      obtain ⟨g', o', hgb⟩ := hO2.some hiy
      have hFr := row_bel hO1 hBr (Nat.le_refl _)
      have hGr := row_bel hO2 hBr (Nat.le_refl _)
      rw [hga] at hFr q1
      rw [hgb] at hGr q2
      clear hga hgb
      obtain ⟨cx0, -, -, ⟨ax, cx, rfl, hRx⟩, hcx⟩ := hFr.item hlt
      obtain ⟨cy0, -, -, ⟨ay, cy, rfl, hRy⟩, hcy⟩ := hGr.item hiy
      have hzi := zo2 _ (List.getElem_mem hlt)
      have hstep : o1[i] = o2[i] → ∀ j (h1 : j < o1.length) (h2 : j < o2.length), j < i + 1 → o1[j] = o2[j] := fun he j h1 h2 hj => by
        by_cases hji : j < i
        · exact hall.out j h1 h2 hji
        · obtain rfl : j = i := by omega
          exact he
      have hne : ¬ o1[i] = o2[i] → ¬ (HdEq n1 n1 y1 y1 o1 o2 t1 t2 g1 g2) := fun h e => by
        have e2 := e.2.2.1
        subst e2
        exact h rfl
      have hstep := Hid.mk hstep
      have hne := Hid.mk hne
      generalize o1[i] = x at hcx hRx hzi hstep hne
      generalize o2[i] = y at hcy hRy hstep hne
      obtain ⟨nx, lx⟩ := x
      obtain ⟨ny, ly⟩ := y
      have kx0 : w0.cell? ⟨g, o + i * 2, none⟩ = some (.string ⟨nx.toArray⟩) := hcx 0 (by decide)
      have kx1 : w0.cell? ⟨g, o + i * 2 + 1, none⟩ = some (.slice ax lx.length cx) := hcx 1 (by decide)
      have ky0 : w0.cell? ⟨g', o' + i * 2, none⟩ = some (.string ⟨ny.toArray⟩) := hcy 0 (by decide)
      have ky1 : w0.cell? ⟨g', o' + i * 2 + 1, none⟩ = some (.slice ay ly.length cy) := hcy 1 (by decide)
      have hgs : g < w0.heap.size := World.block_lt_of_cell? _ _ kx0
      have hgs' : g' < w0.heap.size := World.block_lt_of_cell? _ _ ky0
      have hw1 : W.heap.size + 1 < w0.heap.size := World.block_lt_of_cell? _ _ q2
      have hw0 : W.heap.size < w0.heap.size := by omega
      clear hcx hcy hFr hGr hall
      have hBv := (hBr.alloc hBr.size (.cells #[.string ⟨nx.toArray⟩, .slice ax lx.length cx] 105)).alloc (by have := hBr.size; simp at this ⊢; omega) (.cells #[.string ⟨ny.toArray⟩, .slice ay ly.length cy] 105)
      have hBn : Below w0.heap.size w0 ((w0.alloc (.cells #[.string ⟨nx.toArray⟩, .slice ax lx.length cx] 105)).alloc (.cells #[.string ⟨ny.toArray⟩, .slice ay ly.length cy] 105)) := ((Below.refl _ _).alloc (Nat.le_refl _) _).alloc (by simp) _
      have hnov := fun h => hno.out _ h (Below.tr hB hBv (by rw [hsz]; omega))
      by_cases hn : nx = ny
      rotate_left
      · have e1 : (nx == ny) = false := by simp [hn]
        have e2 : (nx != ny) = true := by simp [hn]
        have hfin := hnov (hne.out (fun h => hn (by cases h; rfl)))
        clear hno hnov hne hstep hn hBv hzi hRx hRy
        go_wp2
        exact hfin
      subst hn
      by_cases hll : lx.length = ly.length
      rotate_left
      · have e1 : ((lx.length : Int) != (ly.length : Int)) = true := by simp; omega
        have hfin := hnov (hne.out (fun h => hll (by cases h; rfl)))
        clear hno hnov hne hstep hll hBv hzi hRx hRy
        go_wp2
        exact hfin
      have e1 : ((lx.length : Int) != (ly.length : Int)) = false := by simp; omega
      have hll2 := Hid.mk hll
      clear hll
      have hsv : (w0.alloc (.cells #[.string ⟨nx.toArray⟩, .slice ax lx.length cx] 105)).heap.size = w0.heap.size + 1 := by simp
      have hsv2 : ((w0.alloc (.cells #[.string ⟨nx.toArray⟩, .slice ax lx.length cx] 105)).alloc (.cells #[.string ⟨nx.toArray⟩, .slice ay ly.length cy] 105)).heap.size = w0.heap.size + 1 + 1 := by simp
      have hbx := ((bx_new w0 #[.string ⟨nx.toArray⟩, .slice ax lx.length cx] 105).kept (World.grownBy_alloc (w0.alloc (.cells #[.string ⟨nx.toArray⟩, .slice ax lx.length cx] 105)) (.cells #[.string ⟨nx.toArray⟩, .slice ay ly.length cy] 105) none) (by simp)).2.1 1 (by simp)
      have hby := (bx_new (w0.alloc (.cells #[.string ⟨nx.toArray⟩, .slice ax lx.length cx] 105)) #[.string ⟨nx.toArray⟩, .slice ay ly.length cy] 105).2.1 1 (by simp)
      rw [hsv] at hby
      have hRx := row_bel hRx hBn (Nat.le_refl _)
      have hRy := row_bel hRy hBn (Nat.le_refl _)
      have hzi : lx.length ≤ 9223372036854775807 := hzi
      clear hnov hBn hsv
      go_wp2
      go_loopw [8] (fun kv wr => ∃ k : Nat, kv = .int .i64 (k : Int) ∧ k ≤ lx.length ∧ Below ((w0.alloc (.cells #[.string ⟨nx.toArray⟩, .slice ax lx.length cx] 105)).alloc (.cells #[.string ⟨nx.toArray⟩, .slice ay ly.length cy] 105)).heap.size ((w0.alloc (.cells #[.string ⟨nx.toArray⟩, .slice ax lx.length cx] 105)).alloc (.cells #[.string ⟨nx.toArray⟩, .slice ay ly.length cy] 105)) wr ∧ Hid (∀ j (h1 : j < lx.length) (h2 : j < ly.length), j < k → lx[j] = ly[j])) (fun kv _ => lx.length - (intOf kv).toNat)
      case atStart => exact ⟨0, rfl, Nat.zero_le _, Below.refl _ _, ⟨fun j _ _ h => absurd h (Nat.not_lt_zero _)⟩⟩
      case round =>
        obtain ⟨k, rfl, hk, hBk, hallk⟩ := hrel
        have z1 := (bel_cell hBk (show w0.heap.size < ((w0.alloc (.cells #[.string ⟨nx.toArray⟩, .slice ax lx.length cx] 105)).alloc (.cells #[.string ⟨nx.toArray⟩, .slice ay ly.length cy] 105)).heap.size by rw [hsv2]; omega) 1).trans hbx
        have z2 := (bel_cell hBk (show w0.heap.size + 1 < ((w0.alloc (.cells #[.string ⟨nx.toArray⟩, .slice ax lx.length cx] 105)).alloc (.cells #[.string ⟨nx.toArray⟩, .slice ay ly.length cy] 105)).heap.size by rw [hsv2]; omega) 1).trans hby
        have hBk2 := Below.tr hBv hBk (by rw [hsv2]; have := hBr.size; omega)
        by_cases hkt : k < lx.length
        · have hkt' : (k : Int) < (lx.length : Int) := by omega
          have hky : k < ly.length := by have := hll2.out; omega
          have hkt2 : (k : Int) < (ly.length : Int) := by omega
          have hk0 : (0 : Int) ≤ (k : Int) := by omega
          obtain ⟨p, r, hpa⟩ := hRx.some hkt
          obtain ⟨p', r', hpb⟩ := hRy.some hky
          have hFk := row_bel hRx hBk (Nat.le_refl _)
          have hGk := row_bel hRy hBk (Nat.le_refl _)
          rw [hpa] at hFk z1
          rw [hpb] at hGk z2
          clear hpa hpb
          obtain ⟨cxk, -, -, hEx, hcxk⟩ := hFk.item hkt
          obtain ⟨cyk, -, -, hEy, hcyk⟩ := hGk.item hky
          have hstk : lx[k] = ly[k] → ∀ j (h1 : j < lx.length) (h2 : j < ly.length), j < k + 1 → lx[j] = ly[j] := fun he j h1 h2 hj => by
            by_cases hji : j < k
            · exact hallk.out j h1 h2 hji
            · obtain rfl : j = k := by omega
              exact he
          have hnk : ¬ lx[k] = ly[k] → ¬ (HdEq n1 n1 y1 y1 o1 o2 t1 t2 g1 g2) := fun h => hne.out (fun e => by cases e; exact h rfl)
          have hstk := Hid.mk hstk
          have hnk := Hid.mk hnk
          generalize lx[k] = u at hEx hstk hnk
          generalize ly[k] = v at hEy hstk hnk
          have hEx : cxk = [.string ⟨u.toArray⟩] := hEx
          have hEy : cyk = [.string ⟨v.toArray⟩] := hEy
          subst hEx
          subst hEy
          have ku : wr.cell? ⟨p, r + k, none⟩ = some (.string ⟨u.toArray⟩) := by have h := hcxk 0 (by decide); rw [show eS.k = 1 from rfl, Nat.mul_one] at h; exact h
          have kv : wr.cell? ⟨p', r' + k, none⟩ = some (.string ⟨v.toArray⟩) := by have h := hcyk 0 (by decide); rw [show eS.k = 1 from rfl, Nat.mul_one] at h; exact h
          have hS0 : wr.drew.cell? ⟨w0.heap.size, 1, none⟩ = some (.slice (some ⟨p, r, none⟩) lx.length cx) ∧ wr.drew.cell? ⟨w0.heap.size + 1, 1, none⟩ = some (.slice (some ⟨p', r', none⟩) ly.length cy) ∧ wr.drew.cell? ⟨p, r + k, none⟩ = some (.string ⟨u.toArray⟩) ∧ wr.drew.cell? ⟨p', r' + k, none⟩ = some (.string ⟨v.toArray⟩) := ⟨z1, z2, ku, kv⟩
          have hBd : Below wr.heap.size wr wr.drew := (Below.refl _ _).drew
          have hBk3 := Below.tr hBk hBd hBk.size
          have hBk4 := Below.tr hBk2 hBd hBk2.size
          clear hcxk hcyk hFk hGk hRx hRy hallk
          by_cases huv : u = v
          · have hst := Hid.mk (hstk.out huv)
            subst huv
            clear hstk hnk hno hne hstep
            go_wp2
            go_region_held3 (fun X => X.cell? ⟨w0.heap.size, 1, none⟩ = some (.slice (some ⟨p, r, none⟩) lx.length cx) ∧ X.cell? ⟨w0.heap.size + 1, 1, none⟩ = some (.slice (some ⟨p', r', none⟩) ly.length cy) ∧ X.cell? ⟨p, r + k, none⟩ = some (.string ⟨u.toArray⟩) ∧ X.cell? ⟨p', r' + k, none⟩ = some (.string ⟨u.toArray⟩)) (assumption) (fail)
            go_wp2
            go_roundw
            case rel => exact ⟨k + 1, by go_num, by omega, hBk3, hst⟩
            case measure => simp [intOf]; omega
          · have e3 : (u == v) = false := by simp [huv]
            have e4 : (u != v) = true := by simp [huv]
            have hfin := hno.out _ (hnk.out huv) (Below.tr hB hBk4 (by rw [hsz]; omega))
            clear hstk hnk hno hne hstep huv
            go_wp2
            go_region_held3 (fun X => X.cell? ⟨w0.heap.size, 1, none⟩ = some (.slice (some ⟨p, r, none⟩) lx.length cx) ∧ X.cell? ⟨w0.heap.size + 1, 1, none⟩ = some (.slice (some ⟨p', r', none⟩) ly.length cy) ∧ X.cell? ⟨p, r + k, none⟩ = some (.string ⟨u.toArray⟩) ∧ X.cell? ⟨p', r' + k, none⟩ = some (.string ⟨v.toArray⟩)) (assumption) (fail)
            go_wp2
            exact hfin
        · have hkt' : ¬ (k : Int) < (lx.length : Int) := by omega
          have hst := Hid.mk (hstep.out (by rw [list_all hll2.out (fun j h1 h2 => hallk.out j h1 h2 (by omega))]))
          clear hallk hstep hne hno
          go_wp2
          go_roundw
          case rel => exact ⟨i + 1, by go_num, by omega, hBk2, hst⟩
          case measure => simp [intOf]; omega
    · have hlt' : ¬ (i : Int) < (o1.length : Int) := by omega
      have heq_o : Hid (o1 = o2) := ⟨list_all hl_o.out (fun j h1 h2 => hall.out j h1 h2 (by omega))⟩
      clear hall
      have hBr1 := hBr
      clear hBr hi hlt
      go_wp2
      go_loopw [9] (fun iv wr => ∃ i : Nat, iv = .int .i64 (i : Int) ∧ i ≤ t1.length ∧ Below ((W.alloc (.cells #[.string ⟨n1.toArray⟩, .int .i64 y1, .slice a31 o1.length c31, .slice a41 t1.length c41, .slice a51 g1.length c51, .slice a61 l61 c61, .slice a71 l71 c71] 29)).alloc (.cells #[.string ⟨n1.toArray⟩, .int .i64 y1, .slice a32 o2.length c32, .slice a42 t2.length c42, .slice a52 g2.length c52, .slice a62 l62 c62, .slice a72 l72 c72] 29)).heap.size ((W.alloc (.cells #[.string ⟨n1.toArray⟩, .int .i64 y1, .slice a31 o1.length c31, .slice a41 t1.length c41, .slice a51 g1.length c51, .slice a61 l61 c61, .slice a71 l71 c71] 29)).alloc (.cells #[.string ⟨n1.toArray⟩, .int .i64 y1, .slice a32 o2.length c32, .slice a42 t2.length c42, .slice a52 g2.length c52, .slice a62 l62 c62, .slice a72 l72 c72] 29)) wr ∧ Hid (∀ j (h1 : j < t1.length) (h2 : j < t2.length), j < i → t1[j] = t2[j])) (fun iv _ => t1.length - (intOf iv).toNat)
      case atStart => exact ⟨0, rfl, Nat.zero_le _, hBr1, ⟨fun j _ _ h => absurd h (Nat.not_lt_zero _)⟩⟩
      case round =>
        obtain ⟨w0, hw00⟩ : ∃ w0, w0 = wr := ⟨wr, rfl⟩
        subst hw00
        obtain ⟨i, rfl, hi, hBr, hall⟩ := hrel
        have q1 := (bel_cell hBr (show W.heap.size < ((W.alloc (.cells #[.string ⟨n1.toArray⟩, .int .i64 y1, .slice a31 o1.length c31, .slice a41 t1.length c41, .slice a51 g1.length c51, .slice a61 l61 c61, .slice a71 l71 c71] 29)).alloc (.cells #[.string ⟨n1.toArray⟩, .int .i64 y1, .slice a32 o2.length c32, .slice a42 t2.length c42, .slice a52 g2.length c52, .slice a62 l62 c62, .slice a72 l72 c72] 29)).heap.size by rw [hsz]; omega) 3).trans xt
        have q2 := (bel_cell hBr (show W.heap.size + 1 < ((W.alloc (.cells #[.string ⟨n1.toArray⟩, .int .i64 y1, .slice a31 o1.length c31, .slice a41 t1.length c41, .slice a51 g1.length c51, .slice a61 l61 c61, .slice a71 l71 c71] 29)).alloc (.cells #[.string ⟨n1.toArray⟩, .int .i64 y1, .slice a32 o2.length c32, .slice a42 t2.length c42, .slice a52 g2.length c52, .slice a62 l62 c62, .slice a72 l72 c72] 29)).heap.size by rw [hsz]; omega) 3).trans yt
        by_cases hlt : i < t1.length
        · have hlt' : (i : Int) < (t1.length : Int) := by omega
          have hiy : i < t2.length := by have := hl_t.out; omega
          have hlt2 : (i : Int) < (t2.length : Int) := by omega
          have hi0 : (0 : Int) ≤ (i : Int) := by omega
          obtain ⟨g, o, hga⟩ := hT1.some hlt
          obtain ⟨g', o', hgb⟩ := hT2.some hiy
          have hFr := row_bel hT1 hBr (Nat.le_refl _)
          have hGr := row_bel hT2 hBr (Nat.le_refl _)
          rw [hga] at hFr q1
          rw [hgb] at hGr q2
          clear hga hgb
          obtain ⟨cx0, -, -, ⟨ax, cx, rfl, hRx⟩, hcx⟩ := hFr.item hlt
          obtain ⟨cy0, -, -, ⟨ay, cy, rfl, hRy⟩, hcy⟩ := hGr.item hiy
          have hzi := zt2 _ (List.getElem_mem hlt)
          have hstep : t1[i] = t2[i] → ∀ j (h1 : j < t1.length) (h2 : j < t2.length), j < i + 1 → t1[j] = t2[j] := fun he j h1 h2 hj => by
            by_cases hji : j < i
            · exact hall.out j h1 h2 hji
            · obtain rfl : j = i := by omega
              exact he
          have hne : ¬ t1[i] = t2[i] → ¬ (HdEq n1 n1 y1 y1 o1 o2 t1 t2 g1 g2) := fun h e => by
            have e2 := e.2.2.2.1
            subst e2
            exact h rfl
          have hstep := Hid.mk hstep
          have hne := Hid.mk hne
          generalize t1[i] = x at hcx hRx hzi hstep hne
          generalize t2[i] = y at hcy hRy hstep hne
          obtain ⟨nx, lx⟩ := x
          obtain ⟨ny, ly⟩ := y
          have kx0 : w0.cell? ⟨g, o + i * 2, none⟩ = some (.string ⟨nx.toArray⟩) := hcx 0 (by decide)
          have kx1 : w0.cell? ⟨g, o + i * 2 + 1, none⟩ = some (.slice ax lx.length cx) := hcx 1 (by decide)
          have ky0 : w0.cell? ⟨g', o' + i * 2, none⟩ = some (.string ⟨ny.toArray⟩) := hcy 0 (by decide)
          have ky1 : w0.cell? ⟨g', o' + i * 2 + 1, none⟩ = some (.slice ay ly.length cy) := hcy 1 (by decide)
          have hgs : g < w0.heap.size := World.block_lt_of_cell? _ _ kx0
          have hgs' : g' < w0.heap.size := World.block_lt_of_cell? _ _ ky0
          have hw1 : W.heap.size + 1 < w0.heap.size := World.block_lt_of_cell? _ _ q2
          have hw0 : W.heap.size < w0.heap.size := by omega
          clear hcx hcy hFr hGr hall
          have hBv := (hBr.alloc hBr.size (.cells #[.string ⟨nx.toArray⟩, .slice ax lx.length cx] 75)).alloc (by have := hBr.size; simp at this ⊢; omega) (.cells #[.string ⟨ny.toArray⟩, .slice ay ly.length cy] 75)
          have hBn : Below w0.heap.size w0 ((w0.alloc (.cells #[.string ⟨nx.toArray⟩, .slice ax lx.length cx] 75)).alloc (.cells #[.string ⟨ny.toArray⟩, .slice ay ly.length cy] 75)) := ((Below.refl _ _).alloc (Nat.le_refl _) _).alloc (by simp) _
          have hnov := fun h => hno.out _ h (Below.tr hB hBv (by rw [hsz]; omega))
          by_cases hn : nx = ny
          rotate_left
          · have e1 : (nx == ny) = false := by simp [hn]
            have e2 : (nx != ny) = true := by simp [hn]
            have hfin := hnov (hne.out (fun h => hn (by cases h; rfl)))
            clear hno hnov hne hstep hn hBv hzi hRx hRy
            go_wp2
            exact hfin
          subst hn
          by_cases hll : lx.length = ly.length
          rotate_left
          · have e1 : ((lx.length : Int) != (ly.length : Int)) = true := by simp; omega
            have hfin := hnov (hne.out (fun h => hll (by cases h; rfl)))
            clear hno hnov hne hstep hll hBv hzi hRx hRy
            go_wp2
            exact hfin
          have e1 : ((lx.length : Int) != (ly.length : Int)) = false := by simp; omega
          have hll2 := Hid.mk hll
          clear hll
          have hsv : (w0.alloc (.cells #[.string ⟨nx.toArray⟩, .slice ax lx.length cx] 75)).heap.size = w0.heap.size + 1 := by simp
          have hsv2 : ((w0.alloc (.cells #[.string ⟨nx.toArray⟩, .slice ax lx.length cx] 75)).alloc (.cells #[.string ⟨nx.toArray⟩, .slice ay ly.length cy] 75)).heap.size = w0.heap.size + 1 + 1 := by simp
          have hbx := ((bx_new w0 #[.string ⟨nx.toArray⟩, .slice ax lx.length cx] 75).kept (World.grownBy_alloc (w0.alloc (.cells #[.string ⟨nx.toArray⟩, .slice ax lx.length cx] 75)) (.cells #[.string ⟨nx.toArray⟩, .slice ay ly.length cy] 75) none) (by simp)).2.1 1 (by simp)
          have hby := (bx_new (w0.alloc (.cells #[.string ⟨nx.toArray⟩, .slice ax lx.length cx] 75)) #[.string ⟨nx.toArray⟩, .slice ay ly.length cy] 75).2.1 1 (by simp)
          rw [hsv] at hby
          have hRx := row_bel hRx hBn (Nat.le_refl _)
          have hRy := row_bel hRy hBn (Nat.le_refl _)
          have hzi : lx.length ≤ 9223372036854775807 := hzi
          clear hnov hBn hsv
          go_wp2
          go_loopw [12] (fun kv wr => ∃ k : Nat, kv = .int .i64 (k : Int) ∧ k ≤ lx.length ∧ Below ((w0.alloc (.cells #[.string ⟨nx.toArray⟩, .slice ax lx.length cx] 75)).alloc (.cells #[.string ⟨nx.toArray⟩, .slice ay ly.length cy] 75)).heap.size ((w0.alloc (.cells #[.string ⟨nx.toArray⟩, .slice ax lx.length cx] 75)).alloc (.cells #[.string ⟨nx.toArray⟩, .slice ay ly.length cy] 75)) wr ∧ Hid (∀ j (h1 : j < lx.length) (h2 : j < ly.length), j < k → lx[j] = ly[j])) (fun kv _ => lx.length - (intOf kv).toNat)
          case atStart => exact ⟨0, rfl, Nat.zero_le _, Below.refl _ _, ⟨fun j _ _ h => absurd h (Nat.not_lt_zero _)⟩⟩
          case round =>
            obtain ⟨k, rfl, hk, hBk, hallk⟩ := hrel
            have z1 := (bel_cell hBk (show w0.heap.size < ((w0.alloc (.cells #[.string ⟨nx.toArray⟩, .slice ax lx.length cx] 75)).alloc (.cells #[.string ⟨nx.toArray⟩, .slice ay ly.length cy] 75)).heap.size by rw [hsv2]; omega) 1).trans hbx
            have z2 := (bel_cell hBk (show w0.heap.size + 1 < ((w0.alloc (.cells #[.string ⟨nx.toArray⟩, .slice ax lx.length cx] 75)).alloc (.cells #[.string ⟨nx.toArray⟩, .slice ay ly.length cy] 75)).heap.size by rw [hsv2]; omega) 1).trans hby
            have hBk2 := Below.tr hBv hBk (by rw [hsv2]; have := hBr.size; omega)
            by_cases hkt : k < lx.length
            · have hkt' : (k : Int) < (lx.length : Int) := by omega
              have hky : k < ly.length := by have := hll2.out; omega
              have hkt2 : (k : Int) < (ly.length : Int) := by omega
              have hk0 : (0 : Int) ≤ (k : Int) := by omega
              obtain ⟨p, r, hpa⟩ := hRx.some hkt
              obtain ⟨p', r', hpb⟩ := hRy.some hky
              have hFk := row_bel hRx hBk (Nat.le_refl _)
              have hGk := row_bel hRy hBk (Nat.le_refl _)
              rw [hpa] at hFk z1
              rw [hpb] at hGk z2
              clear hpa hpb
              obtain ⟨cxk, -, -, hEx, hcxk⟩ := hFk.item hkt
              obtain ⟨cyk, -, -, hEy, hcyk⟩ := hGk.item hky
              have hstk : lx[k] = ly[k] → ∀ j (h1 : j < lx.length) (h2 : j < ly.length), j < k + 1 → lx[j] = ly[j] := fun he j h1 h2 hj => by
                by_cases hji : j < k
                · exact hallk.out j h1 h2 hji
                · obtain rfl : j = k := by omega
                  exact he
              have hnk : ¬ lx[k] = ly[k] → ¬ (HdEq n1 n1 y1 y1 o1 o2 t1 t2 g1 g2) := fun h => hne.out (fun e => by cases e; exact h rfl)
              have hstk := Hid.mk hstk
              have hnk := Hid.mk hnk
              generalize lx[k] = u at hEx hstk hnk
              generalize ly[k] = v at hEy hstk hnk
              obtain ⟨ua, ub⟩ := u
              obtain ⟨va, vb⟩ := v
              have hEx : cxk = [.int .i64 ua, .int .i64 ub] := hEx.1
              have hEy : cyk = [.int .i64 va, .int .i64 vb] := hEy.1
              subst hEx
              subst hEy
              have hS0 : wr.drew.cell? ⟨w0.heap.size, 1, none⟩ = some (.slice (some ⟨p, r, none⟩) lx.length cx) ∧ wr.drew.cell? ⟨w0.heap.size + 1, 1, none⟩ = some (.slice (some ⟨p', r', none⟩) ly.length cy) ∧ wr.drew.cell? ⟨p, r + k * 2, none⟩ = some (.int .i64 ua) ∧ wr.drew.cell? ⟨p, r + k * 2 + 1, none⟩ = some (.int .i64 ub) ∧ wr.drew.cell? ⟨p', r' + k * 2, none⟩ = some (.int .i64 va) ∧ wr.drew.cell? ⟨p', r' + k * 2 + 1, none⟩ = some (.int .i64 vb) := ⟨z1, z2, hcxk 0 (by decide), hcxk 1 (by decide), hcyk 0 (by decide), hcyk 1 (by decide)⟩
              have hBd : Below wr.heap.size wr wr.drew := (Below.refl _ _).drew
              have hBk3 := Below.tr hBk hBd hBk.size
              have hBk4 := Below.tr hBk2 hBd hBk2.size
              clear hcxk hcyk hFk hGk hRx hRy hallk
              by_cases h_ua : ua = va
              rotate_left
              · have e3 : (ua == va) = false := by simp [h_ua]
                have e4 : (ua != va) = true := by simp [h_ua]
                have hfin := hno.out _ (hnk.out (fun h => h_ua (by cases h; rfl))) (Below.tr hB hBk4 (by rw [hsz]; omega))
                clear hstk hnk hno hne hstep h_ua
                go_wp2
                go_region_held3 (fun X => X.cell? ⟨w0.heap.size, 1, none⟩ = some (.slice (some ⟨p, r, none⟩) lx.length cx) ∧ X.cell? ⟨w0.heap.size + 1, 1, none⟩ = some (.slice (some ⟨p', r', none⟩) ly.length cy) ∧ X.cell? ⟨p, r + k * 2, none⟩ = some (.int .i64 ua) ∧ X.cell? ⟨p, r + k * 2 + 1, none⟩ = some (.int .i64 ub) ∧ X.cell? ⟨p', r' + k * 2, none⟩ = some (.int .i64 va) ∧ X.cell? ⟨p', r' + k * 2 + 1, none⟩ = some (.int .i64 vb)) (assumption) (fail)
                go_wp2
                exact hfin
              subst h_ua
              by_cases h_ub : ub = vb
              rotate_left
              · have e3 : (ub == vb) = false := by simp [h_ub]
                have e4 : (ub != vb) = true := by simp [h_ub]
                have hfin := hno.out _ (hnk.out (fun h => h_ub (by cases h; rfl))) (Below.tr hB hBk4 (by rw [hsz]; omega))
                clear hstk hnk hno hne hstep h_ub
                go_wp2
                go_region_held3 (fun X => X.cell? ⟨w0.heap.size, 1, none⟩ = some (.slice (some ⟨p, r, none⟩) lx.length cx) ∧ X.cell? ⟨w0.heap.size + 1, 1, none⟩ = some (.slice (some ⟨p', r', none⟩) ly.length cy) ∧ X.cell? ⟨p, r + k * 2, none⟩ = some (.int .i64 ua) ∧ X.cell? ⟨p, r + k * 2 + 1, none⟩ = some (.int .i64 ub) ∧ X.cell? ⟨p', r' + k * 2, none⟩ = some (.int .i64 ua) ∧ X.cell? ⟨p', r' + k * 2 + 1, none⟩ = some (.int .i64 vb)) (assumption) (fail)
                go_wp2
                exact hfin
              subst h_ub
              have hst := Hid.mk (hstk.out rfl)
              clear hstk hnk hno hne hstep
              go_wp2
              go_region_held3 (fun X => X.cell? ⟨w0.heap.size, 1, none⟩ = some (.slice (some ⟨p, r, none⟩) lx.length cx) ∧ X.cell? ⟨w0.heap.size + 1, 1, none⟩ = some (.slice (some ⟨p', r', none⟩) ly.length cy) ∧ X.cell? ⟨p, r + k * 2, none⟩ = some (.int .i64 ua) ∧ X.cell? ⟨p, r + k * 2 + 1, none⟩ = some (.int .i64 ub) ∧ X.cell? ⟨p', r' + k * 2, none⟩ = some (.int .i64 ua) ∧ X.cell? ⟨p', r' + k * 2 + 1, none⟩ = some (.int .i64 ub)) (assumption) (fail)
              go_wp2
              go_roundw
              case rel => exact ⟨k + 1, by go_num, by omega, hBk3, hst⟩
              case measure => simp [intOf]; omega
            · have hkt' : ¬ (k : Int) < (lx.length : Int) := by omega
              have hst := Hid.mk (hstep.out (by rw [list_all hll2.out (fun j h1 h2 => hallk.out j h1 h2 (by omega))]))
              clear hallk hstep hne hno
              go_wp2
              go_roundw
              case rel => exact ⟨i + 1, by go_num, by omega, hBk2, hst⟩
              case measure => simp [intOf]; omega
        · have hlt' : ¬ (i : Int) < (t1.length : Int) := by omega
          have heq_t : Hid (t1 = t2) := ⟨list_all hl_t.out (fun j h1 h2 => hall.out j h1 h2 (by omega))⟩
          clear hall
          have hBr2 := hBr
          clear hBr hi hlt
          go_wp2
          go_loopw [13] (fun iv wr => ∃ i : Nat, iv = .int .i64 (i : Int) ∧ i ≤ g1.length ∧ Below ((W.alloc (.cells #[.string ⟨n1.toArray⟩, .int .i64 y1, .slice a31 o1.length c31, .slice a41 t1.length c41, .slice a51 g1.length c51, .slice a61 l61 c61, .slice a71 l71 c71] 29)).alloc (.cells #[.string ⟨n1.toArray⟩, .int .i64 y1, .slice a32 o2.length c32, .slice a42 t2.length c42, .slice a52 g2.length c52, .slice a62 l62 c62, .slice a72 l72 c72] 29)).heap.size ((W.alloc (.cells #[.string ⟨n1.toArray⟩, .int .i64 y1, .slice a31 o1.length c31, .slice a41 t1.length c41, .slice a51 g1.length c51, .slice a61 l61 c61, .slice a71 l71 c71] 29)).alloc (.cells #[.string ⟨n1.toArray⟩, .int .i64 y1, .slice a32 o2.length c32, .slice a42 t2.length c42, .slice a52 g2.length c52, .slice a62 l62 c62, .slice a72 l72 c72] 29)) wr ∧ Hid (∀ j (h1 : j < g1.length) (h2 : j < g2.length), j < i → g1[j] = g2[j])) (fun iv _ => g1.length - (intOf iv).toNat)
          case atStart => exact ⟨0, rfl, Nat.zero_le _, hBr2, ⟨fun j _ _ h => absurd h (Nat.not_lt_zero _)⟩⟩
          case round =>
            obtain ⟨i, rfl, hi, hBr, hall⟩ := hrel
            have q1 := (bel_cell hBr (show W.heap.size < ((W.alloc (.cells #[.string ⟨n1.toArray⟩, .int .i64 y1, .slice a31 o1.length c31, .slice a41 t1.length c41, .slice a51 g1.length c51, .slice a61 l61 c61, .slice a71 l71 c71] 29)).alloc (.cells #[.string ⟨n1.toArray⟩, .int .i64 y1, .slice a32 o2.length c32, .slice a42 t2.length c42, .slice a52 g2.length c52, .slice a62 l62 c62, .slice a72 l72 c72] 29)).heap.size by rw [hsz]; omega) 4).trans xg
            have q2 := (bel_cell hBr (show W.heap.size + 1 < ((W.alloc (.cells #[.string ⟨n1.toArray⟩, .int .i64 y1, .slice a31 o1.length c31, .slice a41 t1.length c41, .slice a51 g1.length c51, .slice a61 l61 c61, .slice a71 l71 c71] 29)).alloc (.cells #[.string ⟨n1.toArray⟩, .int .i64 y1, .slice a32 o2.length c32, .slice a42 t2.length c42, .slice a52 g2.length c52, .slice a62 l62 c62, .slice a72 l72 c72] 29)).heap.size by rw [hsz]; omega) 4).trans yg
            by_cases hlt : i < g1.length
            · have hlt' : (i : Int) < (g1.length : Int) := by omega
              have hiy : i < g2.length := by have := hl_g.out; omega
              have hlt2 : (i : Int) < (g2.length : Int) := by omega
              have hi0 : (0 : Int) ≤ (i : Int) := by omega
              obtain ⟨g, o, hga⟩ := hG1.some hlt
              obtain ⟨g', o', hgb⟩ := hG2.some hiy
              have hFr := row_bel hG1 hBr (Nat.le_refl _)
              have hGr := row_bel hG2 hBr (Nat.le_refl _)
              rw [hga] at hFr q1
              rw [hgb] at hGr q2
              clear hga hgb
              obtain ⟨cx0, -, -, hEx, hcx⟩ := hFr.item hlt
              obtain ⟨cy0, -, -, hEy, hcy⟩ := hGr.item hiy
              have hstep : g1[i] = g2[i] → ∀ j (h1 : j < g1.length) (h2 : j < g2.length), j < i + 1 → g1[j] = g2[j] := fun he j h1 h2 hj => by
                by_cases hji : j < i
                · exact hall.out j h1 h2 hji
                · obtain rfl : j = i := by omega
                  exact he
              have hne : ¬ g1[i] = g2[i] → ¬ (HdEq n1 n1 y1 y1 o1 o2 t1 t2 g1 g2) := fun h e => by
                have e2 := e.2.2.2.2
                subst e2
                exact h rfl
              have hstep := Hid.mk hstep
              have hne := Hid.mk hne
              generalize g1[i] = x at hEx hstep hne
              generalize g2[i] = y at hEy hstep hne
              obtain ⟨ua, ub⟩ := x
              obtain ⟨va, vb⟩ := y
              have hEx : cx0 = [.string ⟨ua.toArray⟩, .int .i64 ub] := hEx.1
              have hEy : cy0 = [.string ⟨va.toArray⟩, .int .i64 vb] := hEy.1
              subst hEx
              subst hEy
              have hS0 : wr.drew.cell? ⟨W.heap.size, 4, none⟩ = some (.slice (some ⟨g, o, none⟩) g1.length c51) ∧ wr.drew.cell? ⟨W.heap.size + 1, 4, none⟩ = some (.slice (some ⟨g', o', none⟩) g2.length c52) ∧ wr.drew.cell? ⟨g, o + i * 2, none⟩ = some (.string ⟨ua.toArray⟩) ∧ wr.drew.cell? ⟨g, o + i * 2 + 1, none⟩ = some (.int .i64 ub) ∧ wr.drew.cell? ⟨g', o' + i * 2, none⟩ = some (.string ⟨va.toArray⟩) ∧ wr.drew.cell? ⟨g', o' + i * 2 + 1, none⟩ = some (.int .i64 vb) := ⟨q1, q2, hcx 0 (by decide), hcx 1 (by decide), hcy 0 (by decide), hcy 1 (by decide)⟩
              have hBd : Below wr.heap.size wr wr.drew := (Below.refl _ _).drew
              have hBk3 := Below.tr hBr hBd hBr.size
              clear hcx hcy hFr hGr hall
              by_cases h_ua : ua = va
              rotate_left
              · have e3 : (ua == va) = false := by simp [h_ua]
                have e4 : (ua != va) = true := by simp [h_ua]
                have hfin := hno.out _ (hne.out (fun h => h_ua (by cases h; rfl))) (Below.tr hB hBk3 (by rw [hsz]; omega))
                clear hstep hne hno h_ua
                go_wp2
                go_region_held3 (fun X => X.cell? ⟨W.heap.size, 4, none⟩ = some (.slice (some ⟨g, o, none⟩) g1.length c51) ∧ X.cell? ⟨W.heap.size + 1, 4, none⟩ = some (.slice (some ⟨g', o', none⟩) g2.length c52) ∧ X.cell? ⟨g, o + i * 2, none⟩ = some (.string ⟨ua.toArray⟩) ∧ X.cell? ⟨g, o + i * 2 + 1, none⟩ = some (.int .i64 ub) ∧ X.cell? ⟨g', o' + i * 2, none⟩ = some (.string ⟨va.toArray⟩) ∧ X.cell? ⟨g', o' + i * 2 + 1, none⟩ = some (.int .i64 vb)) (assumption) (fail)
                go_wp2
                exact hfin
              subst h_ua
              by_cases h_ub : ub = vb
              rotate_left
              · have e3 : (ub == vb) = false := by simp [h_ub]
                have e4 : (ub != vb) = true := by simp [h_ub]
                have hfin := hno.out _ (hne.out (fun h => h_ub (by cases h; rfl))) (Below.tr hB hBk3 (by rw [hsz]; omega))
                clear hstep hne hno h_ub
                go_wp2
                go_region_held3 (fun X => X.cell? ⟨W.heap.size, 4, none⟩ = some (.slice (some ⟨g, o, none⟩) g1.length c51) ∧ X.cell? ⟨W.heap.size + 1, 4, none⟩ = some (.slice (some ⟨g', o', none⟩) g2.length c52) ∧ X.cell? ⟨g, o + i * 2, none⟩ = some (.string ⟨ua.toArray⟩) ∧ X.cell? ⟨g, o + i * 2 + 1, none⟩ = some (.int .i64 ub) ∧ X.cell? ⟨g', o' + i * 2, none⟩ = some (.string ⟨ua.toArray⟩) ∧ X.cell? ⟨g', o' + i * 2 + 1, none⟩ = some (.int .i64 vb)) (assumption) (fail)
                go_wp2
                exact hfin
              subst h_ub
              have hst := Hid.mk (hstep.out rfl)
              clear hstep hne hno
              go_wp2
              go_region_held3 (fun X => X.cell? ⟨W.heap.size, 4, none⟩ = some (.slice (some ⟨g, o, none⟩) g1.length c51) ∧ X.cell? ⟨W.heap.size + 1, 4, none⟩ = some (.slice (some ⟨g', o', none⟩) g2.length c52) ∧ X.cell? ⟨g, o + i * 2, none⟩ = some (.string ⟨ua.toArray⟩) ∧ X.cell? ⟨g, o + i * 2 + 1, none⟩ = some (.int .i64 ub) ∧ X.cell? ⟨g', o' + i * 2, none⟩ = some (.string ⟨ua.toArray⟩) ∧ X.cell? ⟨g', o' + i * 2 + 1, none⟩ = some (.int .i64 ub)) (assumption) (fail)
              go_wp2
              go_roundw
              case rel => exact ⟨i + 1, by go_num, by omega, hBk3, hst⟩
              case measure => simp [intOf]; omega
            · have hlt' : ¬ (i : Int) < (g1.length : Int) := by omega
              have heq_g : g1 = g2 := list_all hl_g.out (fun j h1 h2 => hall.out j h1 h2 (by omega))
              have hfin : Q (.returned (.bool true)) wr := by
                rw [← hQ.out]
                exact ⟨Below.tr hB hBr (by rw [hsz]; omega), true, rfl, fun _ => ⟨rfl, rfl, heq_o.out, heq_t.out, heq_g⟩, fun _ => rfl⟩
              clear hall heq_g hno
              go_wp2
              exact hfin



end Go.Proofs.Ytjgkjdalnjlefaa


namespace Go.Proofs.Ytjgkjdalnjlefaa
open Go.RowKit

set_option maxRecDepth 8000 in
set_option maxHeartbeats 1000000 in
theorem sameLine_any (n1 n2 : List UInt8) (i1 i2 m1 m2 : Bool) (t1 t2 o1 o2 g1 g2 : Int) (l1 l2 : List Cl) (a a2 : Option Addr) (c c2 : Nat) (W : World) (hz : l1.length ≤ 9223372036854775807 ∧ ∀ x ∈ l1, SzC x) (hF : RowR eC W AnyB l1 a) (hG : RowR eC W AnyB l2 a2) : Calls Try.prog 28 #[.agg #[.string ⟨n1.toArray⟩, .bool i1, .bool m1, .int .i64 t1, .int .i64 o1, .int .i64 g1, .slice a l1.length c], .agg #[.string ⟨n2.toArray⟩, .bool i2, .bool m2, .int .i64 t2, .int .i64 o2, .int .i64 g2, .slice a2 l2.length c2]] W (SmP (Ln.mk n1 i1 m1 t1 o1 g1 l1 = Ln.mk n2 i2 m2 t2 o2 g2 l2) W) := by
  have hB : Below W.heap.size W ((W.alloc (.cells #[.string ⟨n1.toArray⟩, .bool i1, .bool m1, .int .i64 t1, .int .i64 o1, .int .i64 g1, .slice a l1.length c] 80)).alloc (.cells #[.string ⟨n2.toArray⟩, .bool i2, .bool m2, .int .i64 t2, .int .i64 o2, .int .i64 g2, .slice a2 l2.length c2] 80)) := ((Below.refl _ _).alloc (Nat.le_refl _) _).alloc (by simp) _
  obtain ⟨Q, hQ⟩ : ∃ Q, SmP (Ln.mk n1 i1 m1 t1 o1 g1 l1 = Ln.mk n2 i2 m2 t2 o2 g2 l2) W = Q := ⟨_, rfl⟩
  rw [hQ]
  have hQ := Hid.mk hQ
  have hno : ∀ W', ¬ (Ln.mk n1 i1 m1 t1 o1 g1 l1 = Ln.mk n2 i2 m2 t2 o2 g2 l2) → Below W.heap.size W W' → Q (.returned (.bool false)) W' := fun W' hne hb => by
    rw [← hQ.out]
    exact ⟨hb, false, rfl, by simp only [Bool.false_eq_true, false_iff]; exact hne⟩
  by_cases h_n : n1 = n2
  rotate_left
  · have e1 : (n1 == n2) = false := by simp [h_n]
    have e2 : (n1 != n2) = true := by simp [h_n]
    have hfin := hno _ (fun e => h_n (by cases e; rfl)) hB
    clear hno h_n hF hG hz
    go_enter Try.func28, Try.ntmps28
    go_wp2
    exact hfin
  subst h_n
  by_cases h_i : i1 = i2
  rotate_left
  · have e1 : (i1 == i2) = false := by simp [h_i]
    have e2 : (i1 != i2) = true := by simp [h_i]
    have hfin := hno _ (fun e => h_i (by cases e; rfl)) hB
    clear hno h_i hF hG hz
    go_enter Try.func28, Try.ntmps28
    go_wp2
    exact hfin
  subst h_i
  by_cases h_m : m1 = m2
  rotate_left
  · have e1 : (m1 == m2) = false := by simp [h_m]
    have e2 : (m1 != m2) = true := by simp [h_m]
    have hfin := hno _ (fun e => h_m (by cases e; rfl)) hB
    clear hno h_m hF hG hz
    go_enter Try.func28, Try.ntmps28
    go_wp2
    exact hfin
  subst h_m
  by_cases h_t : t1 = t2
  rotate_left
  · have e1 : (t1 == t2) = false := by simp [h_t]
    have e2 : (t1 != t2) = true := by simp [h_t]
    have hfin := hno _ (fun e => h_t (by cases e; rfl)) hB
    clear hno h_t hF hG hz
    go_enter Try.func28, Try.ntmps28
    go_wp2
    exact hfin
  subst h_t
  by_cases h_o : o1 = o2
  rotate_left
  · have e1 : (o1 == o2) = false := by simp [h_o]
    have e2 : (o1 != o2) = true := by simp [h_o]
    have hfin := hno _ (fun e => h_o (by cases e; rfl)) hB
    clear hno h_o hF hG hz
    go_enter Try.func28, Try.ntmps28
    go_wp2
    exact hfin
  subst h_o
  by_cases h_g : g1 = g2
  rotate_left
  · have e1 : (g1 == g2) = false := by simp [h_g]
    have e2 : (g1 != g2) = true := by simp [h_g]
    have hfin := hno _ (fun e => h_g (by cases e; rfl)) hB
    clear hno h_g hF hG hz
    go_enter Try.func28, Try.ntmps28
    go_wp2
    exact hfin
  subst h_g
  by_cases h4 : l1.length = l2.length
  rotate_left
  · have e4 : ((l1.length : Int) != (l2.length : Int)) = true := by simp; omega
    have hfin := hno _ (fun e => h4 (by cases e; rfl)) hB
    clear hno h4 hF hG hz
    go_enter Try.func28, Try.ntmps28
    go_wp2
    exact hfin
  have e4 : ((l1.length : Int) != (l2.length : Int)) = false := by simp; omega
  have hl4 := Hid.mk h4
  clear h4
  have hs1 : (W.alloc (.cells #[.string ⟨n1.toArray⟩, .bool i1, .bool m1, .int .i64 t1, .int .i64 o1, .int .i64 g1, .slice a l1.length c] 80)).heap.size = W.heap.size + 1 := by simp
  have hsz : ((W.alloc (.cells #[.string ⟨n1.toArray⟩, .bool i1, .bool m1, .int .i64 t1, .int .i64 o1, .int .i64 g1, .slice a l1.length c] 80)).alloc (.cells #[.string ⟨n1.toArray⟩, .bool i1, .bool m1, .int .i64 t1, .int .i64 o1, .int .i64 g1, .slice a2 l2.length c2] 80)).heap.size = W.heap.size + 1 + 1 := by simp
  have hx1 := ((bx_new W #[.string ⟨n1.toArray⟩, .bool i1, .bool m1, .int .i64 t1, .int .i64 o1, .int .i64 g1, .slice a l1.length c] 80).kept (World.grownBy_alloc (W.alloc (.cells #[.string ⟨n1.toArray⟩, .bool i1, .bool m1, .int .i64 t1, .int .i64 o1, .int .i64 g1, .slice a l1.length c] 80)) (.cells #[.string ⟨n1.toArray⟩, .bool i1, .bool m1, .int .i64 t1, .int .i64 o1, .int .i64 g1, .slice a2 l2.length c2] 80) none) (by simp)).2.1 6 (by simp)
  have hx2 := (bx_new (W.alloc (.cells #[.string ⟨n1.toArray⟩, .bool i1, .bool m1, .int .i64 t1, .int .i64 o1, .int .i64 g1, .slice a l1.length c] 80)) #[.string ⟨n1.toArray⟩, .bool i1, .bool m1, .int .i64 t1, .int .i64 o1, .int .i64 g1, .slice a2 l2.length c2] 80).2.1 6 (by simp)
  rw [hs1] at hx2
  have hF2 := row_bel hF hB (Nat.le_refl _)
  have hG2 := row_bel hG hB (Nat.le_refl _)
  have hzl := hz.1
  clear hF hG hs1
  go_enter Try.func28, Try.ntmps28
  go_wp2
  go_loopw [5] (fun iv wr => ∃ i : Nat, iv = .int .i64 (i : Int) ∧ i ≤ l1.length ∧ Below ((W.alloc (.cells #[.string ⟨n1.toArray⟩, .bool i1, .bool m1, .int .i64 t1, .int .i64 o1, .int .i64 g1, .slice a l1.length c] 80)).alloc (.cells #[.string ⟨n1.toArray⟩, .bool i1, .bool m1, .int .i64 t1, .int .i64 o1, .int .i64 g1, .slice a2 l2.length c2] 80)).heap.size ((W.alloc (.cells #[.string ⟨n1.toArray⟩, .bool i1, .bool m1, .int .i64 t1, .int .i64 o1, .int .i64 g1, .slice a l1.length c] 80)).alloc (.cells #[.string ⟨n1.toArray⟩, .bool i1, .bool m1, .int .i64 t1, .int .i64 o1, .int .i64 g1, .slice a2 l2.length c2] 80)) wr ∧ Hid (∀ j (h1 : j < l1.length) (h2 : j < l2.length), j < i → l1[j] = l2[j])) (fun iv _ => l1.length - (intOf iv).toNat)
  case atStart => exact ⟨0, rfl, Nat.zero_le _, Below.refl _ _, ⟨fun j _ _ h => absurd h (Nat.not_lt_zero _)⟩⟩
  case round =>
    obtain ⟨i, rfl, hi, hBr, hall⟩ := hrel
    have q1 := (bel_cell hBr (show W.heap.size < ((W.alloc (.cells #[.string ⟨n1.toArray⟩, .bool i1, .bool m1, .int .i64 t1, .int .i64 o1, .int .i64 g1, .slice a l1.length c] 80)).alloc (.cells #[.string ⟨n1.toArray⟩, .bool i1, .bool m1, .int .i64 t1, .int .i64 o1, .int .i64 g1, .slice a2 l2.length c2] 80)).heap.size by rw [hsz]; omega) 6).trans hx1
    have q2 := (bel_cell hBr (show W.heap.size + 1 < ((W.alloc (.cells #[.string ⟨n1.toArray⟩, .bool i1, .bool m1, .int .i64 t1, .int .i64 o1, .int .i64 g1, .slice a l1.length c] 80)).alloc (.cells #[.string ⟨n1.toArray⟩, .bool i1, .bool m1, .int .i64 t1, .int .i64 o1, .int .i64 g1, .slice a2 l2.length c2] 80)).heap.size by rw [hsz]; omega) 6).trans hx2
    have hBW := Below.tr hB hBr (by rw [hsz]; omega)
    by_cases hlt : i < l1.length
    · have hlt' : (i : Int) < (l1.length : Int) := by omega
      have hiy : i < l2.length := by have := hl4.out; omega
      have hlt2 : (i : Int) < (l2.length : Int) := by omega
      have hi0 : (0 : Int) ≤ (i : Int) := by omega
      obtain ⟨g, o, rfl⟩ := hF2.some hlt
      obtain ⟨g', o', rfl⟩ := hG2.some hiy
      have hFr := row_bel hF2 hBr (Nat.le_refl _)
      have hGr := row_bel hG2 hBr (Nat.le_refl _)
      obtain ⟨cx, -, -, ⟨a8, c8, b8, d8, rfl, -, -, hF8, hF8b⟩, hcx⟩ := hFr.item hlt
      obtain ⟨cy, -, -, ⟨a9, c9, b9, d9, rfl, -, -, hF9, hF9b⟩, hcy⟩ := hGr.item hiy
      have hzi := hz.2 _ (List.getElem_mem hlt)
      have hstep : l1[i] = l2[i] → ∀ j (h1 : j < l1.length) (h2 : j < l2.length), j < i + 1 → l1[j] = l2[j] := fun he j h1 h2 hj => by
        by_cases hji : j < i
        · exact hall.out j h1 h2 hji
        · obtain rfl : j = i := by omega
          exact he
      have hne : ¬ l1[i] = l2[i] → ¬ (Ln.mk n1 i1 m1 t1 o1 g1 l1 = Ln.mk n1 i1 m1 t1 o1 g1 l2) := fun h e => by cases e; exact h rfl
      have hstep := Hid.mk hstep
      have hne := Hid.mk hne
      generalize l1[i] = x at hcx hF8 hF8b hzi hstep hne
      generalize l2[i] = y at hcy hF9 hF9b hstep hne
      obtain ⟨xp, xu, xg, xb⟩ := x
      obtain ⟨yp, yu, yg, yb⟩ := y
      have kx0 : wr.cell? ⟨g, o + i * 12, none⟩ = some (.int .i64 xp) := hcx 0 (by decide)
      have kx1 : wr.cell? ⟨g, o + i * 12 + 1, none⟩ = some (.bool xu) := hcx 1 (by decide)
      have kx2 : wr.cell? ⟨g, o + i * 12 + 2, none⟩ = some (.int .i64 xg.op) := hcx 2 (by decide)
      have kx3 : wr.cell? ⟨g, o + i * 12 + 3, none⟩ = some (.int .i64 xg.num) := hcx 3 (by decide)
      have kx4 : wr.cell? ⟨g, o + i * 12 + 4, none⟩ = some (.int .i64 xg.den) := hcx 4 (by decide)
      have kx5 : wr.cell? ⟨g, o + i * 12 + 5, none⟩ = some (.int .i64 xg.mode) := hcx 5 (by decide)
      have kx6 : wr.cell? ⟨g, o + i * 12 + 6, none⟩ = some (.slice a8 xg.args.len c8) := hcx 6 (by decide)
      have kx7 : wr.cell? ⟨g, o + i * 12 + 7, none⟩ = some (.int .i64 xb.op) := hcx 7 (by decide)
      have kx8 : wr.cell? ⟨g, o + i * 12 + 8, none⟩ = some (.int .i64 xb.num) := hcx 8 (by decide)
      have kx9 : wr.cell? ⟨g, o + i * 12 + 9, none⟩ = some (.int .i64 xb.den) := hcx 9 (by decide)
      have kx10 : wr.cell? ⟨g, o + i * 12 + 10, none⟩ = some (.int .i64 xb.mode) := hcx 10 (by decide)
      have kx11 : wr.cell? ⟨g, o + i * 12 + 11, none⟩ = some (.slice b8 xb.args.len d8) := hcx 11 (by decide)
      have ky0 : wr.cell? ⟨g', o' + i * 12, none⟩ = some (.int .i64 yp) := hcy 0 (by decide)
      have ky1 : wr.cell? ⟨g', o' + i * 12 + 1, none⟩ = some (.bool yu) := hcy 1 (by decide)
      have ky2 : wr.cell? ⟨g', o' + i * 12 + 2, none⟩ = some (.int .i64 yg.op) := hcy 2 (by decide)
      have ky3 : wr.cell? ⟨g', o' + i * 12 + 3, none⟩ = some (.int .i64 yg.num) := hcy 3 (by decide)
      have ky4 : wr.cell? ⟨g', o' + i * 12 + 4, none⟩ = some (.int .i64 yg.den) := hcy 4 (by decide)
      have ky5 : wr.cell? ⟨g', o' + i * 12 + 5, none⟩ = some (.int .i64 yg.mode) := hcy 5 (by decide)
      have ky6 : wr.cell? ⟨g', o' + i * 12 + 6, none⟩ = some (.slice a9 yg.args.len c9) := hcy 6 (by decide)
      have ky7 : wr.cell? ⟨g', o' + i * 12 + 7, none⟩ = some (.int .i64 yb.op) := hcy 7 (by decide)
      have ky8 : wr.cell? ⟨g', o' + i * 12 + 8, none⟩ = some (.int .i64 yb.num) := hcy 8 (by decide)
      have ky9 : wr.cell? ⟨g', o' + i * 12 + 9, none⟩ = some (.int .i64 yb.den) := hcy 9 (by decide)
      have ky10 : wr.cell? ⟨g', o' + i * 12 + 10, none⟩ = some (.int .i64 yb.mode) := hcy 10 (by decide)
      have ky11 : wr.cell? ⟨g', o' + i * 12 + 11, none⟩ = some (.slice b9 yb.args.len d9) := hcy 11 (by decide)
      have hgs : g < wr.heap.size := World.block_lt_of_cell? _ _ kx0
      have hgs' : g' < wr.heap.size := World.block_lt_of_cell? _ _ ky0
      have hw1 : W.heap.size + 1 < wr.heap.size := World.block_lt_of_cell? _ _ q2
      have hw0 : W.heap.size < wr.heap.size := by omega
      clear hcx hcy hFr hGr hF2 hG2 hx1 hx2 hall
      have hBv := (hBr.alloc hBr.size (.cells #[.int .i64 xp, .bool xu, .int .i64 xg.op, .int .i64 xg.num, .int .i64 xg.den, .int .i64 xg.mode, .slice a8 xg.args.len c8, .int .i64 xb.op, .int .i64 xb.num, .int .i64 xb.den, .int .i64 xb.mode, .slice b8 xb.args.len d8] 108)).alloc (by have := hBr.size; simp at this ⊢; omega) (.cells #[.int .i64 yp, .bool yu, .int .i64 yg.op, .int .i64 yg.num, .int .i64 yg.den, .int .i64 yg.mode, .slice a9 yg.args.len c9, .int .i64 yb.op, .int .i64 yb.num, .int .i64 yb.den, .int .i64 yb.mode, .slice b9 yb.args.len d9] 108)
      have hnov := fun h => hno ((wr.alloc (.cells #[.int .i64 xp, .bool xu, .int .i64 xg.op, .int .i64 xg.num, .int .i64 xg.den, .int .i64 xg.mode, .slice a8 xg.args.len c8, .int .i64 xb.op, .int .i64 xb.num, .int .i64 xb.den, .int .i64 xb.mode, .slice b8 xb.args.len d8] 108)).alloc (.cells #[.int .i64 yp, .bool yu, .int .i64 yg.op, .int .i64 yg.num, .int .i64 yg.den, .int .i64 yg.mode, .slice a9 yg.args.len c9, .int .i64 yb.op, .int .i64 yb.num, .int .i64 yb.den, .int .i64 yb.mode, .slice b9 yb.args.len d9] 108)) h (Below.tr hB hBv (by rw [hsz]; omega))
      by_cases hp : xp = yp
      rotate_left
      · have e5 : (xp != yp) = true := by simp [hp]
        have hfin := hnov (hne.out (fun h => hp (by cases h; rfl)))
        clear hno hnov hne hstep hp hF8 hF8b hF9 hF9b hBv hzi
        go_wp2
        exact hfin
      have e5 : (xp != yp) = false := by simp [hp]
      by_cases hu : xu = yu
      rotate_left
      · have hfin := hnov (hne.out (fun h => hu (by cases h; rfl)))
        clear hno hnov hne hstep hp hF8 hF8b hF9 hF9b hBv hzi
        cases xu <;> cases yu
        · exact absurd rfl hu
        · go_wp2
          exact hfin
        · go_wp2
          exact hfin
        · exact absurd rfl hu
      subst hu
      have hsv : (wr.alloc (.cells #[.int .i64 xp, .bool xu, .int .i64 xg.op, .int .i64 xg.num, .int .i64 xg.den, .int .i64 xg.mode, .slice a8 xg.args.len c8, .int .i64 xb.op, .int .i64 xb.num, .int .i64 xb.den, .int .i64 xb.mode, .slice b8 xb.args.len d8] 108)).heap.size = wr.heap.size + 1 := by simp
      have hsv2 : ((wr.alloc (.cells #[.int .i64 xp, .bool xu, .int .i64 xg.op, .int .i64 xg.num, .int .i64 xg.den, .int .i64 xg.mode, .slice a8 xg.args.len c8, .int .i64 xb.op, .int .i64 xb.num, .int .i64 xb.den, .int .i64 xb.mode, .slice b8 xb.args.len d8] 108)).alloc (.cells #[.int .i64 yp, .bool xu, .int .i64 yg.op, .int .i64 yg.num, .int .i64 yg.den, .int .i64 yg.mode, .slice a9 yg.args.len c9, .int .i64 yb.op, .int .i64 yb.num, .int .i64 yb.den, .int .i64 yb.mode, .slice b9 yb.args.len d9] 108)).heap.size = wr.heap.size + 1 + 1 := by simp
      have hbx := (bx_new wr #[.int .i64 xp, .bool xu, .int .i64 xg.op, .int .i64 xg.num, .int .i64 xg.den, .int .i64 xg.mode, .slice a8 xg.args.len c8, .int .i64 xb.op, .int .i64 xb.num, .int .i64 xb.den, .int .i64 xb.mode, .slice b8 xb.args.len d8] 108).kept (World.grownBy_alloc (wr.alloc (.cells #[.int .i64 xp, .bool xu, .int .i64 xg.op, .int .i64 xg.num, .int .i64 xg.den, .int .i64 xg.mode, .slice a8 xg.args.len c8, .int .i64 xb.op, .int .i64 xb.num, .int .i64 xb.den, .int .i64 xb.mode, .slice b8 xb.args.len d8] 108)) (.cells #[.int .i64 yp, .bool xu, .int .i64 yg.op, .int .i64 yg.num, .int .i64 yg.den, .int .i64 yg.mode, .slice a9 yg.args.len c9, .int .i64 yb.op, .int .i64 yb.num, .int .i64 yb.den, .int .i64 yb.mode, .slice b9 yb.args.len d9] 108) none) (by simp)
      have hby := bx_new (wr.alloc (.cells #[.int .i64 xp, .bool xu, .int .i64 xg.op, .int .i64 xg.num, .int .i64 xg.den, .int .i64 xg.mode, .slice a8 xg.args.len c8, .int .i64 xb.op, .int .i64 xb.num, .int .i64 xb.den, .int .i64 xb.mode, .slice b8 xb.args.len d8] 108)) #[.int .i64 yp, .bool xu, .int .i64 yg.op, .int .i64 yg.num, .int .i64 yg.den, .int .i64 yg.mode, .slice a9 yg.args.len c9, .int .i64 yb.op, .int .i64 yb.num, .int .i64 yb.den, .int .i64 yb.mode, .slice b9 yb.args.len d9] 108
      rw [hsv] at hby
      have hBn : Below wr.heap.size wr ((wr.alloc (.cells #[.int .i64 xp, .bool xu, .int .i64 xg.op, .int .i64 xg.num, .int .i64 xg.den, .int .i64 xg.mode, .slice a8 xg.args.len c8, .int .i64 xb.op, .int .i64 xb.num, .int .i64 xb.den, .int .i64 xb.mode, .slice b8 xb.args.len d8] 108)).alloc (.cells #[.int .i64 yp, .bool xu, .int .i64 yg.op, .int .i64 yg.num, .int .i64 yg.den, .int .i64 yg.mode, .slice a9 yg.args.len c9, .int .i64 yb.op, .int .i64 yb.num, .int .i64 yb.den, .int .i64 yb.mode, .slice b9 yb.args.len d9] 108)) := ((Below.refl _ _).alloc (Nat.le_refl _) _).alloc (by simp) _
      have hc1 := sameExpr_any _ xg yg a8 a9 c8 c9 ((wr.alloc (.cells #[.int .i64 xp, .bool xu, .int .i64 xg.op, .int .i64 xg.num, .int .i64 xg.den, .int .i64 xg.mode, .slice a8 xg.args.len c8, .int .i64 xb.op, .int .i64 xb.num, .int .i64 xb.den, .int .i64 xb.mode, .slice b8 xb.args.len d8] 108)).alloc (.cells #[.int .i64 yp, .bool xu, .int .i64 yg.op, .int .i64 yg.num, .int .i64 yg.den, .int .i64 yg.mode, .slice a9 yg.args.len c9, .int .i64 yb.op, .int .i64 yb.num, .int .i64 yb.den, .int .i64 yb.mode, .slice b9 yb.args.len d9] 108)) (Nat.le_refl _) hzi.1 (fo_bel hF8 hBn (Nat.le_refl _)) (fo_bel hF9 hBn (Nat.le_refl _))
      have hF8b := fo_bel hF8b hBn (Nat.le_refl _)
      have hF9b := fo_bel hF9b hBn (Nat.le_refl _)
      have hcl : xg = yg → xb = yb → Cl.mk xp xu xg xb = Cl.mk yp xu yg yb := fun h3 h4 => by
        cases hp; cases h3; cases h4
        rfl
      have hcl := Hid.mk hcl
      clear hp hF8 hF9 hnov hBn hsv
      go_wp2_with (first | (go_at_call 29; go_loud (refine hc1.mono ?_; clear hc1; rintro e w5 ⟨hB5, r1, rfl, hr1⟩; have hBz := Below.tr hBv hB5 (by rw [hsv2]; have := hBr.size; omega); have zx0 : w5.cell? ⟨wr.heap.size, 0, none⟩ = some (.int .i64 xp) := (bel_cell hB5 (by rw [hsv2]; omega) 0).trans (hbx.2.1 0 (by simp)); have zx1 : w5.cell? ⟨wr.heap.size, 1, none⟩ = some (.bool xu) := (bel_cell hB5 (by rw [hsv2]; omega) 1).trans (hbx.2.1 1 (by simp)); have zx2 : w5.cell? ⟨wr.heap.size, 2, none⟩ = some (.int .i64 xg.op) := (bel_cell hB5 (by rw [hsv2]; omega) 2).trans (hbx.2.1 2 (by simp)); have zx3 : w5.cell? ⟨wr.heap.size, 3, none⟩ = some (.int .i64 xg.num) := (bel_cell hB5 (by rw [hsv2]; omega) 3).trans (hbx.2.1 3 (by simp)); have zx4 : w5.cell? ⟨wr.heap.size, 4, none⟩ = some (.int .i64 xg.den) := (bel_cell hB5 (by rw [hsv2]; omega) 4).trans (hbx.2.1 4 (by simp)); have zx5 : w5.cell? ⟨wr.heap.size, 5, none⟩ = some (.int .i64 xg.mode) := (bel_cell hB5 (by rw [hsv2]; omega) 5).trans (hbx.2.1 5 (by simp)); have zx6 : w5.cell? ⟨wr.heap.size, 6, none⟩ = some (.slice a8 xg.args.len c8) := (bel_cell hB5 (by rw [hsv2]; omega) 6).trans (hbx.2.1 6 (by simp)); have zx7 : w5.cell? ⟨wr.heap.size, 7, none⟩ = some (.int .i64 xb.op) := (bel_cell hB5 (by rw [hsv2]; omega) 7).trans (hbx.2.1 7 (by simp)); have zx8 : w5.cell? ⟨wr.heap.size, 8, none⟩ = some (.int .i64 xb.num) := (bel_cell hB5 (by rw [hsv2]; omega) 8).trans (hbx.2.1 8 (by simp)); have zx9 : w5.cell? ⟨wr.heap.size, 9, none⟩ = some (.int .i64 xb.den) := (bel_cell hB5 (by rw [hsv2]; omega) 9).trans (hbx.2.1 9 (by simp)); have zx10 : w5.cell? ⟨wr.heap.size, 10, none⟩ = some (.int .i64 xb.mode) := (bel_cell hB5 (by rw [hsv2]; omega) 10).trans (hbx.2.1 10 (by simp)); have zx11 : w5.cell? ⟨wr.heap.size, 11, none⟩ = some (.slice b8 xb.args.len d8) := (bel_cell hB5 (by rw [hsv2]; omega) 11).trans (hbx.2.1 11 (by simp)); have zy0 : w5.cell? ⟨wr.heap.size + 1, 0, none⟩ = some (.int .i64 yp) := (bel_cell hB5 (by rw [hsv2]; omega) 0).trans (hby.2.1 0 (by simp)); have zy1 : w5.cell? ⟨wr.heap.size + 1, 1, none⟩ = some (.bool xu) := (bel_cell hB5 (by rw [hsv2]; omega) 1).trans (hby.2.1 1 (by simp)); have zy2 : w5.cell? ⟨wr.heap.size + 1, 2, none⟩ = some (.int .i64 yg.op) := (bel_cell hB5 (by rw [hsv2]; omega) 2).trans (hby.2.1 2 (by simp)); have zy3 : w5.cell? ⟨wr.heap.size + 1, 3, none⟩ = some (.int .i64 yg.num) := (bel_cell hB5 (by rw [hsv2]; omega) 3).trans (hby.2.1 3 (by simp)); have zy4 : w5.cell? ⟨wr.heap.size + 1, 4, none⟩ = some (.int .i64 yg.den) := (bel_cell hB5 (by rw [hsv2]; omega) 4).trans (hby.2.1 4 (by simp)); have zy5 : w5.cell? ⟨wr.heap.size + 1, 5, none⟩ = some (.int .i64 yg.mode) := (bel_cell hB5 (by rw [hsv2]; omega) 5).trans (hby.2.1 5 (by simp)); have zy6 : w5.cell? ⟨wr.heap.size + 1, 6, none⟩ = some (.slice a9 yg.args.len c9) := (bel_cell hB5 (by rw [hsv2]; omega) 6).trans (hby.2.1 6 (by simp)); have zy7 : w5.cell? ⟨wr.heap.size + 1, 7, none⟩ = some (.int .i64 yb.op) := (bel_cell hB5 (by rw [hsv2]; omega) 7).trans (hby.2.1 7 (by simp)); have zy8 : w5.cell? ⟨wr.heap.size + 1, 8, none⟩ = some (.int .i64 yb.num) := (bel_cell hB5 (by rw [hsv2]; omega) 8).trans (hby.2.1 8 (by simp)); have zy9 : w5.cell? ⟨wr.heap.size + 1, 9, none⟩ = some (.int .i64 yb.den) := (bel_cell hB5 (by rw [hsv2]; omega) 9).trans (hby.2.1 9 (by simp)); have zy10 : w5.cell? ⟨wr.heap.size + 1, 10, none⟩ = some (.int .i64 yb.mode) := (bel_cell hB5 (by rw [hsv2]; omega) 10).trans (hby.2.1 10 (by simp)); have zy11 : w5.cell? ⟨wr.heap.size + 1, 11, none⟩ = some (.slice b9 yb.args.len d9) := (bel_cell hB5 (by rw [hsv2]; omega) 11).trans (hby.2.1 11 (by simp)); have hc2 := sameExpr_any _ xb yb b8 b9 d8 d9 w5 (Nat.le_refl _) hzi.2 (fo_bel hF8b hB5 (Nat.le_refl _)) (fo_bel hF9b hB5 (Nat.le_refl _)); clear hbx hby hF8b hF9b; cases r1)))
      · have hfin := hno w5 (hne.out (fun h => by have := hr1.2 (by cases h; rfl); cases this)) (Below.tr hB hBz (by rw [hsz]; omega))
        clear hno hne hstep hr1 hcl hc2
        go_wp2
        exact hfin
      · go_wp2
        rename_i x0 f0 hf0
        simp only [List.getElem?_cons_zero, Option.some.injEq] at hf0
        subst hf0
        go_wp2
        rename_i x0 f0 hf0
        simp only [List.getElem?_cons_zero, Option.some.injEq] at hf0
        subst hf0
        go_wp2_with (first | (go_at_call 29; go_loud (refine hc2.mono ?_; clear hc2; rintro e w6 ⟨hB6, r2, rfl, hr2⟩; have hBy := Below.tr hBz hB6 hBz.size; cases r2)))
        · have hfin := hno w6 (hne.out (fun h => by have := hr2.2 (by cases h; rfl); cases this)) (Below.tr hB hBy (by rw [hsz]; omega))
          clear hno hne hstep hr1 hcl hr2
          go_wp2
          exact hfin
        · have hst := Hid.mk (hstep.out (hcl.out (hr1.1 (by trivial)) (hr2.1 (by trivial))))
          clear hno hne hstep hr1 hcl hr2
          go_wp2
          go_roundw
          case rel => exact ⟨i + 1, by go_num, by omega, hBy, hst⟩
          case measure => simp [intOf]; omega
    · have hlt' : ¬ (i : Int) < (l1.length : Int) := by omega
      have hfin : Q (.returned (.bool true)) wr := by
        rw [← hQ.out]
        refine ⟨hBW, true, rfl, fun _ => ?_, fun _ => rfl⟩
        rw [list_all hl4.out (fun j h1 h2 => hall.out j h1 h2 (by omega))]
      clear hno hall
      go_wp2
      exact hfin
end Go.Proofs.Ytjgkjdalnjlefaa


namespace Go.Proofs.Ytjgkjdalnjlefaa
open Go.RowKit

def PkEq (n1 n2 : List UInt8) (y1 y2 : Int) (o1 o2 : List (List UInt8 × List (List UInt8))) (t1 t2 : List (List UInt8 × List (Int × Int))) (g1 g2 : List (List UInt8 × Int)) (l1 l2 : List Ln) (k1 k2 : List Ck) : Prop := HdEq n1 n2 y1 y2 o1 o2 t1 t2 g1 g2 ∧ l1 = l2 ∧ k1 = k2
set_option maxRecDepth 8000 in
set_option maxHeartbeats 1000000 in
theorem samePack_any (n1 n2 : List UInt8) (y1 y2 : Int) (o1 o2 : List (List UInt8 × List (List UInt8))) (t1 t2 : List (List UInt8 × List (Int × Int))) (g1 g2 : List (List UInt8 × Int)) (l1 l2 : List Ln) (k1 k2 : List Ck) (a31 a41 a51 a61 a71 a32 a42 a52 a62 a72 : Option Addr) (c31 c41 c51 c61 c71 c32 c42 c52 c62 c72 : Nat) (W : World) (hz : (o1.length ≤ 9223372036854775807 ∧ ∀ x ∈ o1, x.2.length ≤ 9223372036854775807) ∧ (t1.length ≤ 9223372036854775807 ∧ ∀ x ∈ t1, x.2.length ≤ 9223372036854775807) ∧ g1.length ≤ 9223372036854775807) (hz2 : (l1.length ≤ 9223372036854775807 ∧ ∀ x ∈ l1, SzL x) ∧ k1.length ≤ 9223372036854775807 ∧ ∀ x ∈ k1, SzE x.when_) (hO1 : RowR eO W AnyB o1 a31) (hO2 : RowR eO W AnyB o2 a32) (hT1 : RowR eT W AnyB t1 a41) (hT2 : RowR eT W AnyB t2 a42) (hG1 : RowR eG W AnyB g1 a51) (hG2 : RowR eG W AnyB g2 a52) (hL1 : RowR eL W AnyB l1 a61) (hL2 : RowR eL W AnyB l2 a62) (hK1 : RowR eK W AnyB k1 a71) (hK2 : RowR eK W AnyB k2 a72) : Calls Try.prog 9 #[.agg #[.string ⟨n1.toArray⟩, .int .i64 y1, .slice a31 o1.length c31, .slice a41 t1.length c41, .slice a51 g1.length c51, .slice a61 l1.length c61, .slice a71 k1.length c71], .agg #[.string ⟨n2.toArray⟩, .int .i64 y2, .slice a32 o2.length c32, .slice a42 t2.length c42, .slice a52 g2.length c52, .slice a62 l2.length c62, .slice a72 k2.length c72]] W (SmP (PkEq n1 n2 y1 y2 o1 o2 t1 t2 g1 g2 l1 l2 k1 k2) W) := by
  have hB : Below W.heap.size W ((W.alloc (.cells #[.string ⟨n1.toArray⟩, .int .i64 y1, .slice a31 o1.length c31, .slice a41 t1.length c41, .slice a51 g1.length c51, .slice a61 l1.length c61, .slice a71 k1.length c71] 29)).alloc (.cells #[.string ⟨n2.toArray⟩, .int .i64 y2, .slice a32 o2.length c32, .slice a42 t2.length c42, .slice a52 g2.length c52, .slice a62 l2.length c62, .slice a72 k2.length c72] 29)) := ((Below.refl _ _).alloc (Nat.le_refl _) _).alloc (by simp) _
  obtain ⟨Q, hQ⟩ : ∃ Q, SmP (PkEq n1 n2 y1 y2 o1 o2 t1 t2 g1 g2 l1 l2 k1 k2) W = Q := ⟨_, rfl⟩
  rw [hQ]
  have hQ := Hid.mk hQ
  have hno : Hid (∀ W', ¬ (PkEq n1 n2 y1 y2 o1 o2 t1 t2 g1 g2 l1 l2 k1 k2) → Below W.heap.size W W' → Q (.returned (.bool false)) W') := ⟨fun W' hne hb => by
    rw [← hQ.out]
    exact ⟨hb, false, rfl, by simp only [Bool.false_eq_true, false_iff]; exact hne⟩⟩
  have hs1 : (W.alloc (.cells #[.string ⟨n1.toArray⟩, .int .i64 y1, .slice a31 o1.length c31, .slice a41 t1.length c41, .slice a51 g1.length c51, .slice a61 l1.length c61, .slice a71 k1.length c71] 29)).heap.size = W.heap.size + 1 := by simp
  have hsz : ((W.alloc (.cells #[.string ⟨n1.toArray⟩, .int .i64 y1, .slice a31 o1.length c31, .slice a41 t1.length c41, .slice a51 g1.length c51, .slice a61 l1.length c61, .slice a71 k1.length c71] 29)).alloc (.cells #[.string ⟨n2.toArray⟩, .int .i64 y2, .slice a32 o2.length c32, .slice a42 t2.length c42, .slice a52 g2.length c52, .slice a62 l2.length c62, .slice a72 k2.length c72] 29)).heap.size = W.heap.size + 1 + 1 := by simp
  have hx1 := ((bx_new W #[.string ⟨n1.toArray⟩, .int .i64 y1, .slice a31 o1.length c31, .slice a41 t1.length c41, .slice a51 g1.length c51, .slice a61 l1.length c61, .slice a71 k1.length c71] 29).kept (World.grownBy_alloc (W.alloc (.cells #[.string ⟨n1.toArray⟩, .int .i64 y1, .slice a31 o1.length c31, .slice a41 t1.length c41, .slice a51 g1.length c51, .slice a61 l1.length c61, .slice a71 k1.length c71] 29)) (.cells #[.string ⟨n2.toArray⟩, .int .i64 y2, .slice a32 o2.length c32, .slice a42 t2.length c42, .slice a52 g2.length c52, .slice a62 l2.length c62, .slice a72 k2.length c72] 29) none) (by simp)).2.1
  have hx2 := (bx_new (W.alloc (.cells #[.string ⟨n1.toArray⟩, .int .i64 y1, .slice a31 o1.length c31, .slice a41 t1.length c41, .slice a51 g1.length c51, .slice a61 l1.length c61, .slice a71 k1.length c71] 29)) #[.string ⟨n2.toArray⟩, .int .i64 y2, .slice a32 o2.length c32, .slice a42 t2.length c42, .slice a52 g2.length c52, .slice a62 l2.length c62, .slice a72 k2.length c72] 29).2.1
  rw [hs1] at hx2
  have xl : ((W.alloc (.cells #[.string ⟨n1.toArray⟩, .int .i64 y1, .slice a31 o1.length c31, .slice a41 t1.length c41, .slice a51 g1.length c51, .slice a61 l1.length c61, .slice a71 k1.length c71] 29)).alloc (.cells #[.string ⟨n2.toArray⟩, .int .i64 y2, .slice a32 o2.length c32, .slice a42 t2.length c42, .slice a52 g2.length c52, .slice a62 l2.length c62, .slice a72 k2.length c72] 29)).cell? ⟨W.heap.size, 5, none⟩ = some (.slice a61 l1.length c61) := hx1 5 (by simp)
  have yl : ((W.alloc (.cells #[.string ⟨n1.toArray⟩, .int .i64 y1, .slice a31 o1.length c31, .slice a41 t1.length c41, .slice a51 g1.length c51, .slice a61 l1.length c61, .slice a71 k1.length c71] 29)).alloc (.cells #[.string ⟨n2.toArray⟩, .int .i64 y2, .slice a32 o2.length c32, .slice a42 t2.length c42, .slice a52 g2.length c52, .slice a62 l2.length c62, .slice a72 k2.length c72] 29)).cell? ⟨W.heap.size + 1, 5, none⟩ = some (.slice a62 l2.length c62) := hx2 5 (by simp)
  have xk : ((W.alloc (.cells #[.string ⟨n1.toArray⟩, .int .i64 y1, .slice a31 o1.length c31, .slice a41 t1.length c41, .slice a51 g1.length c51, .slice a61 l1.length c61, .slice a71 k1.length c71] 29)).alloc (.cells #[.string ⟨n2.toArray⟩, .int .i64 y2, .slice a32 o2.length c32, .slice a42 t2.length c42, .slice a52 g2.length c52, .slice a62 l2.length c62, .slice a72 k2.length c72] 29)).cell? ⟨W.heap.size, 6, none⟩ = some (.slice a71 k1.length c71) := hx1 6 (by simp)
  have yk : ((W.alloc (.cells #[.string ⟨n1.toArray⟩, .int .i64 y1, .slice a31 o1.length c31, .slice a41 t1.length c41, .slice a51 g1.length c51, .slice a61 l1.length c61, .slice a71 k1.length c71] 29)).alloc (.cells #[.string ⟨n2.toArray⟩, .int .i64 y2, .slice a32 o2.length c32, .slice a42 t2.length c42, .slice a52 g2.length c52, .slice a62 l2.length c62, .slice a72 k2.length c72] 29)).cell? ⟨W.heap.size + 1, 6, none⟩ = some (.slice a72 k2.length c72) := hx2 6 (by simp)
  have hh := sameHeads_any n1 n2 y1 y2 o1 o2 t1 t2 g1 g2 a31 a41 a51 a61 a71 a32 a42 a52 a62 a72 c31 c41 c51 c61 c71 c32 c42 c52 c62 c72 l1.length k1.length l2.length k2.length ((W.alloc (.cells #[.string ⟨n1.toArray⟩, .int .i64 y1, .slice a31 o1.length c31, .slice a41 t1.length c41, .slice a51 g1.length c51, .slice a61 l1.length c61, .slice a71 k1.length c71] 29)).alloc (.cells #[.string ⟨n2.toArray⟩, .int .i64 y2, .slice a32 o2.length c32, .slice a42 t2.length c42, .slice a52 g2.length c52, .slice a62 l2.length c62, .slice a72 k2.length c72] 29)) hz (row_bel hO1 hB (Nat.le_refl _)) (row_bel hO2 hB (Nat.le_refl _)) (row_bel hT1 hB (Nat.le_refl _)) (row_bel hT2 hB (Nat.le_refl _)) (row_bel hG1 hB (Nat.le_refl _)) (row_bel hG2 hB (Nat.le_refl _))
  have hL1 := row_bel hL1 hB (Nat.le_refl _)
  have hL2 := row_bel hL2 hB (Nat.le_refl _)
  have hK1 := row_bel hK1 hB (Nat.le_refl _)
  have hK2 := row_bel hK2 hB (Nat.le_refl _)
  obtain ⟨⟨zl, zl2⟩, zk, zk2⟩ := hz2
  clear hx1 hx2 hs1 hO1 hO2 hT1 hT2 hG1 hG2 hz
  have hcon : ∀ (r : Bool), (r = true ↔ HdEq n1 n2 y1 y2 o1 o2 t1 t2 g1 g2) → Calls Try.prog 27 #[.agg #[.string ⟨n1.toArray⟩, .int .i64 y1, .slice a31 o1.length c31, .slice a41 t1.length c41, .slice a51 g1.length c51, .slice a61 l1.length c61, .slice a71 k1.length c71], .agg #[.string ⟨n2.toArray⟩, .int .i64 y2, .slice a32 o2.length c32, .slice a42 t2.length c42, .slice a52 g2.length c52, .slice a62 l2.length c62, .slice a72 k2.length c72]] ((W.alloc (.cells #[.string ⟨n1.toArray⟩, .int .i64 y1, .slice a31 o1.length c31, .slice a41 t1.length c41, .slice a51 g1.length c51, .slice a61 l1.length c61, .slice a71 k1.length c71] 29)).alloc (.cells #[.string ⟨n2.toArray⟩, .int .i64 y2, .slice a32 o2.length c32, .slice a42 t2.length c42, .slice a52 g2.length c52, .slice a62 l2.length c62, .slice a72 k2.length c72] 29)) fun e W' => Below ((W.alloc (.cells #[.string ⟨n1.toArray⟩, .int .i64 y1, .slice a31 o1.length c31, .slice a41 t1.length c41, .slice a51 g1.length c51, .slice a61 l1.length c61, .slice a71 k1.length c71] 29)).alloc (.cells #[.string ⟨n2.toArray⟩, .int .i64 y2, .slice a32 o2.length c32, .slice a42 t2.length c42, .slice a52 g2.length c52, .slice a62 l2.length c62, .slice a72 k2.length c72] 29)).heap.size ((W.alloc (.cells #[.string ⟨n1.toArray⟩, .int .i64 y1, .slice a31 o1.length c31, .slice a41 t1.length c41, .slice a51 g1.length c51, .slice a61 l1.length c61, .slice a71 k1.length c71] 29)).alloc (.cells #[.string ⟨n2.toArray⟩, .int .i64 y2, .slice a32 o2.length c32, .slice a42 t2.length c42, .slice a52 g2.length c52, .slice a62 l2.length c62, .slice a72 k2.length c72] 29)) W' ∧ e = .returned (.bool r) := fun r hr => hh.mono (by
    rintro e W' ⟨h1, r2, rfl, h2⟩
    refine ⟨h1, ?_⟩
    have : r2 = r := by
      cases r <;> cases r2 <;> simp at hr h2 ⊢
      · exact hr h2
      · exact h2 hr
    rw [this])
  clear hh
  by_cases hhd : HdEq n1 n2 y1 y2 o1 o2 t1 t2 g1 g2
  rotate_left
  · have hh := hcon false (by simp [hhd])
    have hno2 := Hid.mk (fun w1 hb => hno.out w1 (fun h => hhd h.1) hb)
    clear hno hcon hhd
    go_enter Try.func9, Try.ntmps9
    go_wp2_with (go_at_call 27; go_loud (refine hh.mono ?_; clear hh; rintro e w1 ⟨hB1, rfl⟩; have q1 := (bel_cell hB1 (show W.heap.size < ((W.alloc (.cells #[.string ⟨n1.toArray⟩, .int .i64 y1, .slice a31 o1.length c31, .slice a41 t1.length c41, .slice a51 g1.length c51, .slice a61 l1.length c61, .slice a71 k1.length c71] 29)).alloc (.cells #[.string ⟨n2.toArray⟩, .int .i64 y2, .slice a32 o2.length c32, .slice a42 t2.length c42, .slice a52 g2.length c52, .slice a62 l2.length c62, .slice a72 k2.length c72] 29)).heap.size by rw [hsz]; omega) 5).trans xl; have q2 := (bel_cell hB1 (show W.heap.size + 1 < ((W.alloc (.cells #[.string ⟨n1.toArray⟩, .int .i64 y1, .slice a31 o1.length c31, .slice a41 t1.length c41, .slice a51 g1.length c51, .slice a61 l1.length c61, .slice a71 k1.length c71] 29)).alloc (.cells #[.string ⟨n2.toArray⟩, .int .i64 y2, .slice a32 o2.length c32, .slice a42 t2.length c42, .slice a52 g2.length c52, .slice a62 l2.length c62, .slice a72 k2.length c72] 29)).heap.size by rw [hsz]; omega) 5).trans yl; have q3 := (bel_cell hB1 (show W.heap.size < ((W.alloc (.cells #[.string ⟨n1.toArray⟩, .int .i64 y1, .slice a31 o1.length c31, .slice a41 t1.length c41, .slice a51 g1.length c51, .slice a61 l1.length c61, .slice a71 k1.length c71] 29)).alloc (.cells #[.string ⟨n2.toArray⟩, .int .i64 y2, .slice a32 o2.length c32, .slice a42 t2.length c42, .slice a52 g2.length c52, .slice a62 l2.length c62, .slice a72 k2.length c72] 29)).heap.size by rw [hsz]; omega) 6).trans xk; have q4 := (bel_cell hB1 (show W.heap.size + 1 < ((W.alloc (.cells #[.string ⟨n1.toArray⟩, .int .i64 y1, .slice a31 o1.length c31, .slice a41 t1.length c41, .slice a51 g1.length c51, .slice a61 l1.length c61, .slice a71 k1.length c71] 29)).alloc (.cells #[.string ⟨n2.toArray⟩, .int .i64 y2, .slice a32 o2.length c32, .slice a42 t2.length c42, .slice a52 g2.length c52, .slice a62 l2.length c62, .slice a72 k2.length c72] 29)).heap.size by rw [hsz]; omega) 6).trans yk; have hfin := hno2.out w1 (Below.tr hB hB1 (by rw [hsz]; omega)); clear hno2))
    exact hfin
  have hh := hcon true (by simp [hhd])
  have hhd := Hid.mk hhd
  clear hcon
  by_cases h_l : l1.length = l2.length
  rotate_left
  · have e_l : ((l1.length : Int) != (l2.length : Int)) = true := by simp; omega
    have hno2 := Hid.mk (fun w1 hb => hno.out w1 (fun h => h_l (by rw [h.2.1])) hb)
    clear hno h_l
    go_enter Try.func9, Try.ntmps9
    go_wp2_with (go_at_call 27; go_loud (refine hh.mono ?_; clear hh; rintro e w1 ⟨hB1, rfl⟩; have q1 := (bel_cell hB1 (show W.heap.size < ((W.alloc (.cells #[.string ⟨n1.toArray⟩, .int .i64 y1, .slice a31 o1.length c31, .slice a41 t1.length c41, .slice a51 g1.length c51, .slice a61 l1.length c61, .slice a71 k1.length c71] 29)).alloc (.cells #[.string ⟨n2.toArray⟩, .int .i64 y2, .slice a32 o2.length c32, .slice a42 t2.length c42, .slice a52 g2.length c52, .slice a62 l2.length c62, .slice a72 k2.length c72] 29)).heap.size by rw [hsz]; omega) 5).trans xl; have q2 := (bel_cell hB1 (show W.heap.size + 1 < ((W.alloc (.cells #[.string ⟨n1.toArray⟩, .int .i64 y1, .slice a31 o1.length c31, .slice a41 t1.length c41, .slice a51 g1.length c51, .slice a61 l1.length c61, .slice a71 k1.length c71] 29)).alloc (.cells #[.string ⟨n2.toArray⟩, .int .i64 y2, .slice a32 o2.length c32, .slice a42 t2.length c42, .slice a52 g2.length c52, .slice a62 l2.length c62, .slice a72 k2.length c72] 29)).heap.size by rw [hsz]; omega) 5).trans yl; have q3 := (bel_cell hB1 (show W.heap.size < ((W.alloc (.cells #[.string ⟨n1.toArray⟩, .int .i64 y1, .slice a31 o1.length c31, .slice a41 t1.length c41, .slice a51 g1.length c51, .slice a61 l1.length c61, .slice a71 k1.length c71] 29)).alloc (.cells #[.string ⟨n2.toArray⟩, .int .i64 y2, .slice a32 o2.length c32, .slice a42 t2.length c42, .slice a52 g2.length c52, .slice a62 l2.length c62, .slice a72 k2.length c72] 29)).heap.size by rw [hsz]; omega) 6).trans xk; have q4 := (bel_cell hB1 (show W.heap.size + 1 < ((W.alloc (.cells #[.string ⟨n1.toArray⟩, .int .i64 y1, .slice a31 o1.length c31, .slice a41 t1.length c41, .slice a51 g1.length c51, .slice a61 l1.length c61, .slice a71 k1.length c71] 29)).alloc (.cells #[.string ⟨n2.toArray⟩, .int .i64 y2, .slice a32 o2.length c32, .slice a42 t2.length c42, .slice a52 g2.length c52, .slice a62 l2.length c62, .slice a72 k2.length c72] 29)).heap.size by rw [hsz]; omega) 6).trans yk; have hfin := hno2.out w1 (Below.tr hB hB1 (by rw [hsz]; omega)); clear hno2))
    exact hfin
  have e_l : ((l1.length : Int) != (l2.length : Int)) = false := by simp; omega
  have hl_l := Hid.mk h_l
  clear h_l
  by_cases h_k : k1.length = k2.length
  rotate_left
  · have e_k : ((k1.length : Int) != (k2.length : Int)) = true := by simp; omega
    have hno2 := Hid.mk (fun w1 hb => hno.out w1 (fun h => h_k (by rw [h.2.2])) hb)
    clear hno h_k
    go_enter Try.func9, Try.ntmps9
    go_wp2_with (go_at_call 27; go_loud (refine hh.mono ?_; clear hh; rintro e w1 ⟨hB1, rfl⟩; have q1 := (bel_cell hB1 (show W.heap.size < ((W.alloc (.cells #[.string ⟨n1.toArray⟩, .int .i64 y1, .slice a31 o1.length c31, .slice a41 t1.length c41, .slice a51 g1.length c51, .slice a61 l1.length c61, .slice a71 k1.length c71] 29)).alloc (.cells #[.string ⟨n2.toArray⟩, .int .i64 y2, .slice a32 o2.length c32, .slice a42 t2.length c42, .slice a52 g2.length c52, .slice a62 l2.length c62, .slice a72 k2.length c72] 29)).heap.size by rw [hsz]; omega) 5).trans xl; have q2 := (bel_cell hB1 (show W.heap.size + 1 < ((W.alloc (.cells #[.string ⟨n1.toArray⟩, .int .i64 y1, .slice a31 o1.length c31, .slice a41 t1.length c41, .slice a51 g1.length c51, .slice a61 l1.length c61, .slice a71 k1.length c71] 29)).alloc (.cells #[.string ⟨n2.toArray⟩, .int .i64 y2, .slice a32 o2.length c32, .slice a42 t2.length c42, .slice a52 g2.length c52, .slice a62 l2.length c62, .slice a72 k2.length c72] 29)).heap.size by rw [hsz]; omega) 5).trans yl; have q3 := (bel_cell hB1 (show W.heap.size < ((W.alloc (.cells #[.string ⟨n1.toArray⟩, .int .i64 y1, .slice a31 o1.length c31, .slice a41 t1.length c41, .slice a51 g1.length c51, .slice a61 l1.length c61, .slice a71 k1.length c71] 29)).alloc (.cells #[.string ⟨n2.toArray⟩, .int .i64 y2, .slice a32 o2.length c32, .slice a42 t2.length c42, .slice a52 g2.length c52, .slice a62 l2.length c62, .slice a72 k2.length c72] 29)).heap.size by rw [hsz]; omega) 6).trans xk; have q4 := (bel_cell hB1 (show W.heap.size + 1 < ((W.alloc (.cells #[.string ⟨n1.toArray⟩, .int .i64 y1, .slice a31 o1.length c31, .slice a41 t1.length c41, .slice a51 g1.length c51, .slice a61 l1.length c61, .slice a71 k1.length c71] 29)).alloc (.cells #[.string ⟨n2.toArray⟩, .int .i64 y2, .slice a32 o2.length c32, .slice a42 t2.length c42, .slice a52 g2.length c52, .slice a62 l2.length c62, .slice a72 k2.length c72] 29)).heap.size by rw [hsz]; omega) 6).trans yk; have hfin := hno2.out w1 (Below.tr hB hB1 (by rw [hsz]; omega)); clear hno2))
    exact hfin
  have e_k : ((k1.length : Int) != (k2.length : Int)) = false := by simp; omega
  have hl_k := Hid.mk h_k
  clear h_k
  go_enter Try.func9, Try.ntmps9
  go_wp2_with (go_at_call 27; go_loud (refine hh.mono ?_; clear hh; rintro e w1 ⟨hB1, rfl⟩; have q1 := (bel_cell hB1 (show W.heap.size < ((W.alloc (.cells #[.string ⟨n1.toArray⟩, .int .i64 y1, .slice a31 o1.length c31, .slice a41 t1.length c41, .slice a51 g1.length c51, .slice a61 l1.length c61, .slice a71 k1.length c71] 29)).alloc (.cells #[.string ⟨n2.toArray⟩, .int .i64 y2, .slice a32 o2.length c32, .slice a42 t2.length c42, .slice a52 g2.length c52, .slice a62 l2.length c62, .slice a72 k2.length c72] 29)).heap.size by rw [hsz]; omega) 5).trans xl; have q2 := (bel_cell hB1 (show W.heap.size + 1 < ((W.alloc (.cells #[.string ⟨n1.toArray⟩, .int .i64 y1, .slice a31 o1.length c31, .slice a41 t1.length c41, .slice a51 g1.length c51, .slice a61 l1.length c61, .slice a71 k1.length c71] 29)).alloc (.cells #[.string ⟨n2.toArray⟩, .int .i64 y2, .slice a32 o2.length c32, .slice a42 t2.length c42, .slice a52 g2.length c52, .slice a62 l2.length c62, .slice a72 k2.length c72] 29)).heap.size by rw [hsz]; omega) 5).trans yl; have q3 := (bel_cell hB1 (show W.heap.size < ((W.alloc (.cells #[.string ⟨n1.toArray⟩, .int .i64 y1, .slice a31 o1.length c31, .slice a41 t1.length c41, .slice a51 g1.length c51, .slice a61 l1.length c61, .slice a71 k1.length c71] 29)).alloc (.cells #[.string ⟨n2.toArray⟩, .int .i64 y2, .slice a32 o2.length c32, .slice a42 t2.length c42, .slice a52 g2.length c52, .slice a62 l2.length c62, .slice a72 k2.length c72] 29)).heap.size by rw [hsz]; omega) 6).trans xk; have q4 := (bel_cell hB1 (show W.heap.size + 1 < ((W.alloc (.cells #[.string ⟨n1.toArray⟩, .int .i64 y1, .slice a31 o1.length c31, .slice a41 t1.length c41, .slice a51 g1.length c51, .slice a61 l1.length c61, .slice a71 k1.length c71] 29)).alloc (.cells #[.string ⟨n2.toArray⟩, .int .i64 y2, .slice a32 o2.length c32, .slice a42 t2.length c42, .slice a52 g2.length c52, .slice a62 l2.length c62, .slice a72 k2.length c72] 29)).heap.size by rw [hsz]; omega) 6).trans yk))
  go_loopw [5] (fun iv wr => ∃ i : Nat, iv = .int .i64 (i : Int) ∧ i ≤ l1.length ∧ Below ((W.alloc (.cells #[.string ⟨n1.toArray⟩, .int .i64 y1, .slice a31 o1.length c31, .slice a41 t1.length c41, .slice a51 g1.length c51, .slice a61 l1.length c61, .slice a71 k1.length c71] 29)).alloc (.cells #[.string ⟨n2.toArray⟩, .int .i64 y2, .slice a32 o2.length c32, .slice a42 t2.length c42, .slice a52 g2.length c52, .slice a62 l2.length c62, .slice a72 k2.length c72] 29)).heap.size ((W.alloc (.cells #[.string ⟨n1.toArray⟩, .int .i64 y1, .slice a31 o1.length c31, .slice a41 t1.length c41, .slice a51 g1.length c51, .slice a61 l1.length c61, .slice a71 k1.length c71] 29)).alloc (.cells #[.string ⟨n2.toArray⟩, .int .i64 y2, .slice a32 o2.length c32, .slice a42 t2.length c42, .slice a52 g2.length c52, .slice a62 l2.length c62, .slice a72 k2.length c72] 29)) wr ∧ Hid (∀ j (h1 : j < l1.length) (h2 : j < l2.length), j < i → l1[j] = l2[j])) (fun iv _ => l1.length - (intOf iv).toNat)
  case atStart => exact ⟨0, rfl, Nat.zero_le _, hB1, ⟨fun j _ _ h => absurd h (Nat.not_lt_zero _)⟩⟩
  case round =>
    clear q1 q2 q3 q4
    obtain ⟨i, rfl, hi, hBr, hall⟩ := hrel
    have q1 := (bel_cell hBr (show W.heap.size < ((W.alloc (.cells #[.string ⟨n1.toArray⟩, .int .i64 y1, .slice a31 o1.length c31, .slice a41 t1.length c41, .slice a51 g1.length c51, .slice a61 l1.length c61, .slice a71 k1.length c71] 29)).alloc (.cells #[.string ⟨n2.toArray⟩, .int .i64 y2, .slice a32 o2.length c32, .slice a42 t2.length c42, .slice a52 g2.length c52, .slice a62 l2.length c62, .slice a72 k2.length c72] 29)).heap.size by rw [hsz]; omega) 5).trans xl
    have q2 := (bel_cell hBr (show W.heap.size + 1 < ((W.alloc (.cells #[.string ⟨n1.toArray⟩, .int .i64 y1, .slice a31 o1.length c31, .slice a41 t1.length c41, .slice a51 g1.length c51, .slice a61 l1.length c61, .slice a71 k1.length c71] 29)).alloc (.cells #[.string ⟨n2.toArray⟩, .int .i64 y2, .slice a32 o2.length c32, .slice a42 t2.length c42, .slice a52 g2.length c52, .slice a62 l2.length c62, .slice a72 k2.length c72] 29)).heap.size by rw [hsz]; omega) 5).trans yl
    by_cases hlt : i < l1.length
    · have hlt' : (i : Int) < (l1.length : Int) := by omega
      have hiy : i < l2.length := by have := hl_l.out; omega
      have hlt2 : (i : Int) < (l2.length : Int) := by omega
      have hi0 : (0 : Int) ≤ (i : Int) := by omega
      obtain ⟨g, o, hga⟩ := hL1.some hlt
      obtain ⟨g', o', hgb⟩ := hL2.some hiy
      have hBd : Below wr.heap.size wr wr.drew := (Below.refl _ _).drew
      have hFr := row_bel (row_bel hL1 hBr (Nat.le_refl _)) hBd (Nat.le_refl _)
      have hGr := row_bel (row_bel hL2 hBr (Nat.le_refl _)) hBd (Nat.le_refl _)
      rw [hga] at hFr q1
      rw [hgb] at hGr q2
      clear hga hgb
      obtain ⟨cx0, -, -, ⟨ax, cx, rfl, -, hRx⟩, hcx⟩ := hFr.item hlt
      obtain ⟨cy0, -, -, ⟨ay, cy, rfl, -, hRy⟩, hcy⟩ := hGr.item hiy
      have hzi := zl2 _ (List.getElem_mem hlt)
      have hstep : l1[i] = l2[i] → ∀ j (h1 : j < l1.length) (h2 : j < l2.length), j < i + 1 → l1[j] = l2[j] := fun he j h1 h2 hj => by
        by_cases hji : j < i
        · exact hall.out j h1 h2 hji
        · obtain rfl : j = i := by omega
          exact he
      have hne : ¬ l1[i] = l2[i] → ¬ (PkEq n1 n2 y1 y2 o1 o2 t1 t2 g1 g2 l1 l2 k1 k2) := fun h e => by
        have e2 := e.2.1
        subst e2
        exact h rfl
      have hstep := Hid.mk hstep
      have hne := Hid.mk hne
      generalize l1[i] = x at hcx hRx hzi hstep hne
      generalize l2[i] = y at hcy hRy hstep hne
      have hS0 : wr.drew.cell? ⟨W.heap.size, 5, none⟩ = some (.slice (some ⟨g, o, none⟩) l1.length c61) ∧ wr.drew.cell? ⟨W.heap.size + 1, 5, none⟩ = some (.slice (some ⟨g', o', none⟩) l2.length c62) ∧ wr.drew.cell? ⟨g, o + i * 7, none⟩ = some (.string ⟨x.name.toArray⟩) ∧ wr.drew.cell? ⟨g, o + i * 7 + 1, none⟩ = some (.bool x.input) ∧ wr.drew.cell? ⟨g, o + i * 7 + 2, none⟩ = some (.bool x.must) ∧ wr.drew.cell? ⟨g, o + i * 7 + 3, none⟩ = some (.int .i64 x.type) ∧ wr.drew.cell? ⟨g, o + i * 7 + 4, none⟩ = some (.int .i64 x.opts) ∧ wr.drew.cell? ⟨g, o + i * 7 + 5, none⟩ = some (.int .i64 x.group) ∧ wr.drew.cell? ⟨g, o + i * 7 + 6, none⟩ = some (.slice ax x.cls.length cx) ∧ wr.drew.cell? ⟨g', o' + i * 7, none⟩ = some (.string ⟨y.name.toArray⟩) ∧ wr.drew.cell? ⟨g', o' + i * 7 + 1, none⟩ = some (.bool y.input) ∧ wr.drew.cell? ⟨g', o' + i * 7 + 2, none⟩ = some (.bool y.must) ∧ wr.drew.cell? ⟨g', o' + i * 7 + 3, none⟩ = some (.int .i64 y.type) ∧ wr.drew.cell? ⟨g', o' + i * 7 + 4, none⟩ = some (.int .i64 y.opts) ∧ wr.drew.cell? ⟨g', o' + i * 7 + 5, none⟩ = some (.int .i64 y.group) ∧ wr.drew.cell? ⟨g', o' + i * 7 + 6, none⟩ = some (.slice ay y.cls.length cy) := ⟨q1, q2, hcx 0 (by decide), hcx 1 (by decide), hcx 2 (by decide), hcx 3 (by decide), hcx 4 (by decide), hcx 5 (by decide), hcx 6 (by decide), hcy 0 (by decide), hcy 1 (by decide), hcy 2 (by decide), hcy 3 (by decide), hcy 4 (by decide), hcy 5 (by decide), hcy 6 (by decide)⟩
      have hg1 : g < wr.drew.heap.size := World.block_lt_of_cell? _ _ (hcx 0 (by decide))
      have hg2 : g' < wr.drew.heap.size := World.block_lt_of_cell? _ _ (hcy 0 (by decide))
      have hw1 : W.heap.size + 1 < wr.drew.heap.size := by have := hBr.size; rw [hsz] at this; exact this
      have hcall := sameLine_any x.name y.name x.input y.input x.must y.must x.type y.type x.opts y.opts x.group y.group x.cls y.cls ax ay cx cy wr.drew hzi hRx hRy
      have hkeep : ∀ X, Below wr.drew.heap.size wr.drew X → X.cell? ⟨W.heap.size, 5, none⟩ = some (.slice (some ⟨g, o, none⟩) l1.length c61) ∧ X.cell? ⟨W.heap.size + 1, 5, none⟩ = some (.slice (some ⟨g', o', none⟩) l2.length c62) ∧ X.cell? ⟨g, o + i * 7, none⟩ = some (.string ⟨x.name.toArray⟩) ∧ X.cell? ⟨g, o + i * 7 + 1, none⟩ = some (.bool x.input) ∧ X.cell? ⟨g, o + i * 7 + 2, none⟩ = some (.bool x.must) ∧ X.cell? ⟨g, o + i * 7 + 3, none⟩ = some (.int .i64 x.type) ∧ X.cell? ⟨g, o + i * 7 + 4, none⟩ = some (.int .i64 x.opts) ∧ X.cell? ⟨g, o + i * 7 + 5, none⟩ = some (.int .i64 x.group) ∧ X.cell? ⟨g, o + i * 7 + 6, none⟩ = some (.slice ax x.cls.length cx) ∧ X.cell? ⟨g', o' + i * 7, none⟩ = some (.string ⟨y.name.toArray⟩) ∧ X.cell? ⟨g', o' + i * 7 + 1, none⟩ = some (.bool y.input) ∧ X.cell? ⟨g', o' + i * 7 + 2, none⟩ = some (.bool y.must) ∧ X.cell? ⟨g', o' + i * 7 + 3, none⟩ = some (.int .i64 y.type) ∧ X.cell? ⟨g', o' + i * 7 + 4, none⟩ = some (.int .i64 y.opts) ∧ X.cell? ⟨g', o' + i * 7 + 5, none⟩ = some (.int .i64 y.group) ∧ X.cell? ⟨g', o' + i * 7 + 6, none⟩ = some (.slice ay y.cls.length cy) := fun X hX => by
        have k := fun {b : Nat} (hb : b < wr.drew.heap.size) (j : Nat) => bel_cell hX hb j
        obtain ⟨s0, s1, s2, s3, s4, s5, s6, s7, s8, s9, s10, s11, s12, s13, s14, s15⟩ := hS0
        exact ⟨(k (by omega) _).trans s0, (k hw1 _).trans s1, (k hg1 _).trans s2, (k hg1 _).trans s3, (k hg1 _).trans s4, (k hg1 _).trans s5, (k hg1 _).trans s6, (k hg1 _).trans s7, (k hg1 _).trans s8, (k hg2 _).trans s9, (k hg2 _).trans s10, (k hg2 _).trans s11, (k hg2 _).trans s12, (k hg2 _).trans s13, (k hg2 _).trans s14, (k hg2 _).trans s15⟩
      clear hcx hcy hFr hGr hRx hRy hall
      go_wp2
      go_region_held3 (fun X => X.cell? ⟨W.heap.size, 5, none⟩ = some (.slice (some ⟨g, o, none⟩) l1.length c61) ∧ X.cell? ⟨W.heap.size + 1, 5, none⟩ = some (.slice (some ⟨g', o', none⟩) l2.length c62) ∧ X.cell? ⟨g, o + i * 7, none⟩ = some (.string ⟨x.name.toArray⟩) ∧ X.cell? ⟨g, o + i * 7 + 1, none⟩ = some (.bool x.input) ∧ X.cell? ⟨g, o + i * 7 + 2, none⟩ = some (.bool x.must) ∧ X.cell? ⟨g, o + i * 7 + 3, none⟩ = some (.int .i64 x.type) ∧ X.cell? ⟨g, o + i * 7 + 4, none⟩ = some (.int .i64 x.opts) ∧ X.cell? ⟨g, o + i * 7 + 5, none⟩ = some (.int .i64 x.group) ∧ X.cell? ⟨g, o + i * 7 + 6, none⟩ = some (.slice ax x.cls.length cx) ∧ X.cell? ⟨g', o' + i * 7, none⟩ = some (.string ⟨y.name.toArray⟩) ∧ X.cell? ⟨g', o' + i * 7 + 1, none⟩ = some (.bool y.input) ∧ X.cell? ⟨g', o' + i * 7 + 2, none⟩ = some (.bool y.must) ∧ X.cell? ⟨g', o' + i * 7 + 3, none⟩ = some (.int .i64 y.type) ∧ X.cell? ⟨g', o' + i * 7 + 4, none⟩ = some (.int .i64 y.opts) ∧ X.cell? ⟨g', o' + i * 7 + 5, none⟩ = some (.int .i64 y.group) ∧ X.cell? ⟨g', o' + i * 7 + 6, none⟩ = some (.slice ay y.cls.length cy)) (assumption)
        (first | (go_at_call 28; refine hcall.mono ?_; rintro e w5 ⟨hB5, r, rfl, hr⟩; have hS5 := hkeep w5 hB5))
      have hB5 := Below.tr (Below.tr hBr hBd hBr.size) hB5 (by have := hBr.size; have := hBd.size; omega)
      cases r with
      | true =>
        have hst := Hid.mk (hstep.out (by have := hr.1 (by trivial); obtain ⟨_, _, _, _, _, _, _⟩ := x; obtain ⟨_, _, _, _, _, _, _⟩ := y; exact this))
        clear hstep hne hr hkeep hS0 hno
        go_wp2
        go_roundw
        case rel => exact ⟨i + 1, by go_num, by omega, hB5, hst⟩
        case measure => simp [intOf]; omega
      | false =>
        have hfin := hno.out w5 (hne.out (fun h => by have := hr.2 (by rw [h]); cases this)) (Below.tr hB hB5 (by rw [hsz]; omega))
        clear hstep hne hr hkeep hS0 hno
        go_wp2
        exact hfin
    · have hlt' : ¬ (i : Int) < (l1.length : Int) := by omega
      have heq_l : Hid (l1 = l2) := ⟨list_all hl_l.out (fun j h1 h2 => hall.out j h1 h2 (by omega))⟩
      have hBr1 := hBr
      clear hall hBr hi hlt
      go_wp2
      go_loopw [6] (fun iv wr => ∃ i : Nat, iv = .int .i64 (i : Int) ∧ i ≤ k1.length ∧ Below ((W.alloc (.cells #[.string ⟨n1.toArray⟩, .int .i64 y1, .slice a31 o1.length c31, .slice a41 t1.length c41, .slice a51 g1.length c51, .slice a61 l1.length c61, .slice a71 k1.length c71] 29)).alloc (.cells #[.string ⟨n2.toArray⟩, .int .i64 y2, .slice a32 o2.length c32, .slice a42 t2.length c42, .slice a52 g2.length c52, .slice a62 l2.length c62, .slice a72 k2.length c72] 29)).heap.size ((W.alloc (.cells #[.string ⟨n1.toArray⟩, .int .i64 y1, .slice a31 o1.length c31, .slice a41 t1.length c41, .slice a51 g1.length c51, .slice a61 l1.length c61, .slice a71 k1.length c71] 29)).alloc (.cells #[.string ⟨n2.toArray⟩, .int .i64 y2, .slice a32 o2.length c32, .slice a42 t2.length c42, .slice a52 g2.length c52, .slice a62 l2.length c62, .slice a72 k2.length c72] 29)) wr ∧ Hid (∀ j (h1 : j < k1.length) (h2 : j < k2.length), j < i → k1[j] = k2[j])) (fun iv _ => k1.length - (intOf iv).toNat)
      case atStart => exact ⟨0, rfl, Nat.zero_le _, hBr1, ⟨fun j _ _ h => absurd h (Nat.not_lt_zero _)⟩⟩
      case round =>
        obtain ⟨i, rfl, hi, hBr, hall⟩ := hrel
        have q1 := (bel_cell hBr (show W.heap.size < ((W.alloc (.cells #[.string ⟨n1.toArray⟩, .int .i64 y1, .slice a31 o1.length c31, .slice a41 t1.length c41, .slice a51 g1.length c51, .slice a61 l1.length c61, .slice a71 k1.length c71] 29)).alloc (.cells #[.string ⟨n2.toArray⟩, .int .i64 y2, .slice a32 o2.length c32, .slice a42 t2.length c42, .slice a52 g2.length c52, .slice a62 l2.length c62, .slice a72 k2.length c72] 29)).heap.size by rw [hsz]; omega) 6).trans xk
        have q2 := (bel_cell hBr (show W.heap.size + 1 < ((W.alloc (.cells #[.string ⟨n1.toArray⟩, .int .i64 y1, .slice a31 o1.length c31, .slice a41 t1.length c41, .slice a51 g1.length c51, .slice a61 l1.length c61, .slice a71 k1.length c71] 29)).alloc (.cells #[.string ⟨n2.toArray⟩, .int .i64 y2, .slice a32 o2.length c32, .slice a42 t2.length c42, .slice a52 g2.length c52, .slice a62 l2.length c62, .slice a72 k2.length c72] 29)).heap.size by rw [hsz]; omega) 6).trans yk
        by_cases hlt : i < k1.length
        · have hlt' : (i : Int) < (k1.length : Int) := by omega
          have hiy : i < k2.length := by have := hl_k.out; omega
          have hlt2 : (i : Int) < (k2.length : Int) := by omega
          have hi0 : (0 : Int) ≤ (i : Int) := by omega
          obtain ⟨g, o, hga⟩ := hK1.some hlt
          obtain ⟨g', o', hgb⟩ := hK2.some hiy
          have hFr := row_bel hK1 hBr (Nat.le_refl _)
          have hGr := row_bel hK2 hBr (Nat.le_refl _)
          rw [hga] at hFr q1
          rw [hgb] at hGr q2
          clear hga hgb
          obtain ⟨cx0, -, -, ⟨ax, cx, rfl, -, -, hFx⟩, hcx⟩ := hFr.item hlt
          obtain ⟨cy0, -, -, ⟨ay, cy, rfl, -, -, hFy⟩, hcy⟩ := hGr.item hiy
          have hzi := zk2 _ (List.getElem_mem hlt)
          have hstep : k1[i] = k2[i] → ∀ j (h1 : j < k1.length) (h2 : j < k2.length), j < i + 1 → k1[j] = k2[j] := fun he j h1 h2 hj => by
            by_cases hji : j < i
            · exact hall.out j h1 h2 hji
            · obtain rfl : j = i := by omega
              exact he
          have hne : ¬ k1[i] = k2[i] → ¬ (PkEq n1 n2 y1 y2 o1 o2 t1 t2 g1 g2 l1 l2 k1 k2) := fun h e => by
            have e2 := e.2.2
            subst e2
            exact h rfl
          have hstep := Hid.mk hstep
          have hne := Hid.mk hne
          generalize k1[i] = x at hcx hFx hzi hstep hne
          generalize k2[i] = y at hcy hFy hstep hne
          obtain ⟨xn, xh, xg, xw, xt⟩ := x
          obtain ⟨yn, yh, yg, yw, yt⟩ := y
          have kx0 : wr.cell? ⟨g, o + i * 9, none⟩ = some (.string ⟨xn.toArray⟩) := hcx 0 (by decide)
          have kx1 : wr.cell? ⟨g, o + i * 9 + 1, none⟩ = some (.bool xh) := hcx 1 (by decide)
          have kx2 : wr.cell? ⟨g, o + i * 9 + 2, none⟩ = some (.int .i64 xg) := hcx 2 (by decide)
          have kx3 : wr.cell? ⟨g, o + i * 9 + 3, none⟩ = some (.int .i64 xw.op) := hcx 3 (by decide)
          have kx4 : wr.cell? ⟨g, o + i * 9 + 4, none⟩ = some (.int .i64 xw.num) := hcx 4 (by decide)
          have kx5 : wr.cell? ⟨g, o + i * 9 + 5, none⟩ = some (.int .i64 xw.den) := hcx 5 (by decide)
          have kx6 : wr.cell? ⟨g, o + i * 9 + 6, none⟩ = some (.int .i64 xw.mode) := hcx 6 (by decide)
          have kx7 : wr.cell? ⟨g, o + i * 9 + 7, none⟩ = some (.slice ax xw.args.len cx) := hcx 7 (by decide)
          have kx8 : wr.cell? ⟨g, o + i * 9 + 8, none⟩ = some (.string ⟨xt.toArray⟩) := hcx 8 (by decide)
          have ky0 : wr.cell? ⟨g', o' + i * 9, none⟩ = some (.string ⟨yn.toArray⟩) := hcy 0 (by decide)
          have ky1 : wr.cell? ⟨g', o' + i * 9 + 1, none⟩ = some (.bool yh) := hcy 1 (by decide)
          have ky2 : wr.cell? ⟨g', o' + i * 9 + 2, none⟩ = some (.int .i64 yg) := hcy 2 (by decide)
          have ky3 : wr.cell? ⟨g', o' + i * 9 + 3, none⟩ = some (.int .i64 yw.op) := hcy 3 (by decide)
          have ky4 : wr.cell? ⟨g', o' + i * 9 + 4, none⟩ = some (.int .i64 yw.num) := hcy 4 (by decide)
          have ky5 : wr.cell? ⟨g', o' + i * 9 + 5, none⟩ = some (.int .i64 yw.den) := hcy 5 (by decide)
          have ky6 : wr.cell? ⟨g', o' + i * 9 + 6, none⟩ = some (.int .i64 yw.mode) := hcy 6 (by decide)
          have ky7 : wr.cell? ⟨g', o' + i * 9 + 7, none⟩ = some (.slice ay yw.args.len cy) := hcy 7 (by decide)
          have ky8 : wr.cell? ⟨g', o' + i * 9 + 8, none⟩ = some (.string ⟨yt.toArray⟩) := hcy 8 (by decide)
          have hgs : g < wr.heap.size := World.block_lt_of_cell? _ _ kx0
          have hgs' : g' < wr.heap.size := World.block_lt_of_cell? _ _ ky0
          have hw1 : W.heap.size + 1 < wr.heap.size := World.block_lt_of_cell? _ _ q2
          have hw0 : W.heap.size < wr.heap.size := by omega
          clear hcx hcy hFr hGr hall
          have hBv := (hBr.alloc hBr.size (.cells #[.string ⟨xn.toArray⟩, .bool xh, .int .i64 xg, .int .i64 xw.op, .int .i64 xw.num, .int .i64 xw.den, .int .i64 xw.mode, .slice ax xw.args.len cx, .string ⟨xt.toArray⟩] 85)).alloc (by have := hBr.size; simp at this ⊢; omega) (.cells #[.string ⟨yn.toArray⟩, .bool yh, .int .i64 yg, .int .i64 yw.op, .int .i64 yw.num, .int .i64 yw.den, .int .i64 yw.mode, .slice ay yw.args.len cy, .string ⟨yt.toArray⟩] 85)
          have hBn : Below wr.heap.size wr ((wr.alloc (.cells #[.string ⟨xn.toArray⟩, .bool xh, .int .i64 xg, .int .i64 xw.op, .int .i64 xw.num, .int .i64 xw.den, .int .i64 xw.mode, .slice ax xw.args.len cx, .string ⟨xt.toArray⟩] 85)).alloc (.cells #[.string ⟨yn.toArray⟩, .bool yh, .int .i64 yg, .int .i64 yw.op, .int .i64 yw.num, .int .i64 yw.den, .int .i64 yw.mode, .slice ay yw.args.len cy, .string ⟨yt.toArray⟩] 85)) := ((Below.refl _ _).alloc (Nat.le_refl _) _).alloc (by simp) _
          have hnov := Hid.mk (fun h => hno.out _ h (Below.tr hB hBv (by rw [hsz]; omega)))
          have hc1 := sameExpr_any _ xw yw ax ay cx cy ((wr.alloc (.cells #[.string ⟨xn.toArray⟩, .bool xh, .int .i64 xg, .int .i64 xw.op, .int .i64 xw.num, .int .i64 xw.den, .int .i64 xw.mode, .slice ax xw.args.len cx, .string ⟨xt.toArray⟩] 85)).alloc (.cells #[.string ⟨yn.toArray⟩, .bool yh, .int .i64 yg, .int .i64 yw.op, .int .i64 yw.num, .int .i64 yw.den, .int .i64 yw.mode, .slice ay yw.args.len cy, .string ⟨yt.toArray⟩] 85)) (Nat.le_refl _) hzi (fo_bel hFx hBn (Nat.le_refl _)) (fo_bel hFy hBn (Nat.le_refl _))
          clear hFx hFy hBn hzi
          by_cases h_xn : xn = yn
          rotate_left
          · have e3 : (xn == yn) = false := by simp [h_xn]
            have e4 : (xn != yn) = true := by simp [h_xn]
            have hfin := hnov.out (hne.out (fun h => h_xn (by cases h; rfl)))
            clear hno hnov hne hstep hc1 hBv h_xn
            go_wp2
            exact hfin
          subst h_xn
          by_cases h_xh : xh = yh
          rotate_left
          · have hfin := hnov.out (hne.out (fun h => h_xh (by cases h; rfl)))
            clear hno hnov hne hstep hc1 hBv
            cases xh <;> cases yh
            · exact absurd rfl h_xh
            · go_wp2
              exact hfin
            · go_wp2
              exact hfin
            · exact absurd rfl h_xh
          subst h_xh
          by_cases h_xg : xg = yg
          rotate_left
          · have e3 : (xg == yg) = false := by simp [h_xg]
            have e4 : (xg != yg) = true := by simp [h_xg]
            have hfin := hnov.out (hne.out (fun h => h_xg (by cases h; rfl)))
            clear hno hnov hne hstep hc1 hBv h_xg
            go_wp2
            exact hfin
          subst h_xg
          by_cases h_xt : xt = yt
          rotate_left
          · have e3 : (xt == yt) = false := by simp [h_xt]
            have e4 : (xt != yt) = true := by simp [h_xt]
            have hfin := hnov.out (hne.out (fun h => h_xt (by cases h; rfl)))
            clear hno hnov hne hstep hc1 hBv h_xt
            go_wp2
            exact hfin
          subst h_xt
          have hsv2 : ((wr.alloc (.cells #[.string ⟨xn.toArray⟩, .bool xh, .int .i64 xg, .int .i64 xw.op, .int .i64 xw.num, .int .i64 xw.den, .int .i64 xw.mode, .slice ax xw.args.len cx, .string ⟨xt.toArray⟩] 85)).alloc (.cells #[.string ⟨xn.toArray⟩, .bool xh, .int .i64 xg, .int .i64 yw.op, .int .i64 yw.num, .int .i64 yw.den, .int .i64 yw.mode, .slice ay yw.args.len cy, .string ⟨xt.toArray⟩] 85)).heap.size = wr.heap.size + 1 + 1 := by simp
          go_wp2_with (go_at_call 29; go_loud (refine hc1.mono ?_; clear hc1; rintro e w5 ⟨hB5, r1, rfl, hr1⟩; have hBz := Below.tr hBv hB5 (by rw [hsv2]; have := hBr.size; omega); cases r1))
          · have hfin := hno.out w5 (hne.out (fun h => by have := hr1.2 (by cases h; rfl); cases this)) (Below.tr hB hBz (by rw [hsz]; omega))
            clear hno hne hstep hr1
            go_wp2
            exact hfin
          · have hst := Hid.mk (hstep.out (by rw [hr1.1 (by trivial)]))
            clear hno hne hstep hr1
            go_wp2
            go_roundw
            case rel => exact ⟨i + 1, by go_num, by omega, hBz, hst⟩
            case measure => simp [intOf]; omega
        · have hlt' : ¬ (i : Int) < (k1.length : Int) := by omega
          have heq_k : k1 = k2 := list_all hl_k.out (fun j h1 h2 => hall.out j h1 h2 (by omega))
          have hfin : Q (.returned (.bool true)) wr := by
            rw [← hQ.out]
            exact ⟨Below.tr hB hBr (by rw [hsz]; omega), true, rfl, fun _ => ⟨hhd.out, heq_l.out, heq_k⟩, fun _ => rfl⟩
          clear hall heq_k hno
          go_wp2
          exact hfin

end Go.Proofs.Ytjgkjdalnjlefaa


namespace Go.Proofs.Ytjgkjdalnjlefaa
open Go.ChangeShapes Go.WideShapes Go.ChangeAt Go.WideMaps Go.WideElems Go.RowKit

theorem cellsI : Try.prog.cellsOf 3 = 1 := by kernel_rfl
theorem cellsI64 : Try.prog.cellsOf 2 = 1 := by kernel_rfl
theorem cellsS : Try.prog.cellsOf 9 = 1 := by kernel_rfl
theorem cellsBo : Try.prog.cellsOf 4 = 1 := by kernel_rfl
theorem cellsE : Try.prog.cellsOf 83 = 5 := by kernel_rfl
theorem cellsSE : Try.prog.cellsOf 81 = 1 := by kernel_rfl

theorem rg_of {n : Int} (h : (Lit.int .i64 n).wf = true) : Rg n := by
  simp [Lit.wf] at h
  exact h
set_option maxRecDepth 100000 in
/-- A list that came in, whatever its items are. -/
theorem open_row {α : Type} (D : Elt α) (Z : α → Prop) {t e : TypeId} (ht : Try.prog.underlying t = some (.slice e)) (hk : Try.prog.cellsOf e = D.k) (hp : 0 < D.k) {H : Type} {enc : TypeId × Value → H} {W : World} {fuel : Nat} {cs : List Value} {x : DataW H × List MemPlace} (hf : DataW.trod enc Try.prog W 0 (fun _ => true) true fuel t cs = some x)
    (el : ∀ (n : Nat) (cs' : List Value) (x' : DataW H × List MemPlace), n < fuel → cs'.length = D.k → DataW.trod enc Try.prog W 0 (fun _ => true) true n e cs' = some x' → ∃ o, D.E W AnyB o cs' ∧ Z o) : ∃ (l : List α) (a : Option Addr) (cap : Nat), cs = [.slice a l.length cap] ∧ l.length ≤ 9223372036854775807 ∧ RowR D W AnyB l a ∧ ∀ o ∈ l, Z o := by
  rcases DataW.trod_slice ht hf with ⟨hcs, hx⟩ | ⟨a, len, cap, elems, rest, n, hfu, hcs, hx, _, hl, hm, hlen, hel, -, -⟩
  · exact ⟨[], none, 0, hcs, by simp, .inl rfl, fun o ho => by cases ho⟩
  · have hmx : cap ≤ 9223372036854775807 := by unfold maxLen at hm; omega
    rw [hk] at hel
    by_cases h0 : len = 0
    · subst h0
      exact ⟨[], some a, cap, hcs, by simp, .inl rfl, fun o ho => by cases ho⟩
    have key0 : ∀ i, i < len → ∃ cs', W.cells? 0 (a.add (i * D.k)) D.k = some cs' ∧ ∃ y, DataW.trod enc Try.prog W 0 (fun _ => true) true n e cs' = some y := fun i hi => by
      have h := hel i hi
      rw [List.getElem?_eq_getElem (by omega)] at h
      cases hc : W.cells? 0 (a.add (i * D.k)) D.k with
      | none => rw [hc] at h; cases h
      | some cs' =>
        rw [hc] at h
        exact ⟨cs', rfl, _, h⟩
    obtain ⟨b, off, spot⟩ := a
    have hspot : spot = none := by
      obtain ⟨cs', h1, -⟩ := key0 0 (by omega)
      obtain ⟨_, hlen, hc⟩ := World.cells?_some h1
      have h2 := hc 0 (by omega)
      obtain ⟨c, hcc⟩ : ∃ c, cs'[0]? = some c := ⟨cs'[0]'(by omega), List.getElem?_eq_getElem _⟩
      rw [hcc] at h2
      simpa [Addr.add] using World.cell?_spot h2
    subst hspot
    have key : ∀ i, i < len → ∃ oc : α × List Value, oc.2.length = D.k ∧ D.E W AnyB oc.1 oc.2 ∧ Z oc.1 ∧ ∀ j, j < D.k → W.cell? ⟨b, off + i * D.k + j, none⟩ = oc.2[j]? := fun i hi => by
      obtain ⟨cs', h1, y, h2⟩ := key0 i hi
      obtain ⟨_, hlen', hc⟩ := World.cells?_some h1
      obtain ⟨o, ho, hz⟩ := el n cs' y (by omega) hlen' h2
      refine ⟨(o, cs'), hlen', ho, hz, fun j hj => ?_⟩
      have := hc j hj
      rwa [add_plain, add_plain] at this
    obtain ⟨q, hq⟩ : ∃ q : Nat → α × List Value, ∀ i, i < len → (q i).2.length = D.k ∧ D.E W AnyB (q i).1 (q i).2 ∧ Z (q i).1 ∧ ∀ j, j < D.k → W.cell? ⟨b, off + i * D.k + j, none⟩ = (q i).2[j]? := by
      obtain ⟨o0, -⟩ := key 0 (by omega)
      refine ⟨fun i => if h : i < len then Classical.choose (key i h) else o0, fun i hi => ?_⟩
      simp only [dif_pos hi]
      exact Classical.choose_spec (key i hi)
    have hb : b < W.heap.size := by
      have h := (hq 0 (by omega)).2.2.2 0 hp
      rw [List.getElem?_eq_getElem (by rw [(hq 0 (by omega)).1]; exact hp)] at h
      exact World.block_lt_of_cell? _ _ h
    have hrow : ∀ m, m ≤ len → ∃ cs2, Elems D W AnyB ((List.range m).map (fun i => (q i).1)) cs2 ∧ ∀ j, j < cs2.length → W.cell? ⟨b, off + j, none⟩ = cs2[j]? := fun m => by
      induction m with
      | zero => exact fun _ => ⟨[], Elems.nil _ _ _, fun j hj => by simp at hj⟩
      | succ m ih =>
        intro hm1
        obtain ⟨cs2, h1, h2⟩ := ih (by omega)
        obtain ⟨g1, g2, -, g4⟩ := hq m (by omega)
        have hcl := h1.1
        rw [List.length_map, List.length_range] at hcl
        refine ⟨cs2 ++ (q m).2, by rw [List.range_succ, List.map_append]; exact h1.snoc g2, fun j hj => ?_⟩
        by_cases hj2 : j < cs2.length
        · rw [h2 j hj2, List.getElem?_append_left hj2]
        · rw [List.length_append, g1] at hj
          have := g4 (j - cs2.length) (by omega)
          rw [List.getElem?_append_right (by omega), ← this]
          congr 2
          omega
    obtain ⟨cs2, h1, h2⟩ := hrow len (Nat.le_refl _)
    refine ⟨(List.range len).map (fun i => (q i).1), some ⟨b, off, none⟩, cap, by rw [List.length_map, List.length_range]; exact hcs, by rw [List.length_map, List.length_range]; omega, .inr ⟨b, off, cs2, rfl, trivial, hb, h2, h1⟩, fun o ho => ?_⟩
    obtain ⟨i, hi, rfl⟩ := List.mem_map.1 ho
    exact (hq i (List.mem_range.1 hi)).2.2.1
theorem fo_sz : ∀ l : List Ex, (∀ e ∈ l, SzE e ∧ RgE e) → SzF (ofL l) ∧ RgF (ofL l)
  | [], _ => ⟨trivial, trivial⟩
  | e :: l, h => by
    obtain ⟨h1, h2⟩ := h e (by simp)
    obtain ⟨h3, h4⟩ := fo_sz l (fun x hx => h x (List.mem_cons_of_mem _ hx))
    exact ⟨⟨h1.1, h1.2, h3⟩, h2.1, h2.2, h4⟩
set_option maxRecDepth 100000 in
set_option maxHeartbeats 1000000 in
theorem open_expr {H : Type} {enc : TypeId × Value → H} {W : World} : ∀ (fuel : Nat) (cs : List Value) (x : DataW H × List MemPlace), DataW.trod enc Try.prog W 0 (fun _ => true) true fuel 83 cs = some x → ∃ o, eE.E W AnyB o cs ∧ SzE o ∧ RgE o := fun fuel => by
  induction fuel using Nat.strongRecOn with
  | _ fuel ih =>
    intro cs x hf
    obtain ⟨xs, n, hfu, hx, hcl, hl, hg⟩ := DataW.trod_struct Try.underlying83 hf
    rw [cellsE] at hcl
    match cs, hcl, xs, hl with
    | [v0, v1, v2, v3, v4], _, [y0, y1, y2, y3, y4], _ =>
      have g0 := hg 0 _ rfl
      have g1 := hg 1 _ rfl
      have g2 := hg 2 _ rfl
      have g3 := hg 3 _ rfl
      have g4 := hg 4 _ rfl
      simp [cellsI, cellsI64, cellsSE] at g0 g1 g2 g3 g4
      obtain ⟨z0, e0, _, w0⟩ := DataW.trod_int Try.underlying3 g0
      obtain ⟨z1, e1, _, w1⟩ := DataW.trod_int Try.underlying2 g1
      obtain ⟨z2, e2, _, w2⟩ := DataW.trod_int Try.underlying2 g2
      obtain ⟨z3, e3, _, w3⟩ := DataW.trod_int Try.underlying3 g3
      obtain ⟨l, a, cap, e4, hl4, hR, hZ⟩ := open_row eE (fun o => SzE o ∧ RgE o) Try.underlying81 cellsE (by decide) g4 (fun m cs' x' hm _ h => ih m (by omega) cs' x' h)
      simp at e0 e1 e2 e3 e4
      subst e0 e1 e2 e3 e4
      obtain ⟨s1, s2⟩ := fo_sz l hZ
      refine ⟨⟨z0, z1, z2, z3, ofL l⟩, ⟨a, cap, by simp only [ofL_len], ⟨rg_of w0, rg_of w1, rg_of w2, rg_of w3⟩, fo_of_row hR⟩, ⟨by rw [ofL_len]; exact hl4, s1⟩, ⟨rg_of w0, rg_of w1, rg_of w2, rg_of w3⟩, s2⟩

end Go.Proofs.Ytjgkjdalnjlefaa


namespace Go.Proofs.Ytjgkjdalnjlefaa
open Go.ChangeShapes Go.WideShapes Go.ChangeAt Go.WideMaps Go.WideElems Go.RowKit

theorem cellsSS : Try.prog.cellsOf 103 = 1 := by kernel_rfl
theorem cellsSB : Try.prog.cellsOf 73 = 1 := by kernel_rfl
theorem cellsSC : Try.prog.cellsOf 78 = 1 := by kernel_rfl
theorem cellsSO : Try.prog.cellsOf 23 = 1 := by kernel_rfl
theorem cellsST : Try.prog.cellsOf 24 = 1 := by kernel_rfl
theorem cellsSG : Try.prog.cellsOf 25 = 1 := by kernel_rfl
theorem cellsSL : Try.prog.cellsOf 26 = 1 := by kernel_rfl
theorem cellsSK : Try.prog.cellsOf 27 = 1 := by kernel_rfl
theorem open_text {H : Type} {enc : TypeId × Value → H} {W : World} (fuel : Nat) (cs : List Value) (x : DataW H × List MemPlace) (hf : DataW.trod enc Try.prog W 0 (fun _ => true) true fuel 9 cs = some x) : ∃ o : List UInt8, eS.E W AnyB o cs ∧ o.length ≤ 9223372036854775807 := by
  obtain ⟨s, e, _, w⟩ := DataW.trod_string Try.underlying9 hf
  exact ⟨s.data.toList, by rw [e]; rfl, by have h : s.size ≤ maxLen := w; unfold maxLen at h; exact h⟩
set_option maxRecDepth 100000 in
set_option maxHeartbeats 1000000 in
theorem open_band {H : Type} {enc : TypeId × Value → H} {W : World} (fuel : Nat) (cs : List Value) (x : DataW H × List MemPlace) (hf : DataW.trod enc Try.prog W 0 (fun _ => true) true fuel 77 cs = some x) : ∃ o : Int × Int, eBd.E W AnyB o cs ∧ (True) := by
  obtain ⟨xs, n, hfu, hx, hcl, hl, hg⟩ := DataW.trod_struct Try.underlying77 hf
  rw [show Try.prog.cellsOf 77 = 2 from by kernel_rfl] at hcl
  match cs, hcl, xs, hl with
  | [v0, v1], _, [y0, y1], _ =>
    have g0 := hg 0 _ rfl
    have g1 := hg 1 _ rfl
    simp [cellsI64] at g0 g1
    obtain ⟨z0, e0, _, w0⟩ := DataW.trod_int Try.underlying2 g0
    obtain ⟨z1, e1, _, w1⟩ := DataW.trod_int Try.underlying2 g1
    simp at e0 e1
    subst e0
    subst e1
    exact ⟨(z0, z1), ⟨rfl, rg_of w0, rg_of w1⟩, trivial⟩
set_option maxRecDepth 100000 in
set_option maxHeartbeats 1000000 in
theorem open_group {H : Type} {enc : TypeId × Value → H} {W : World} (fuel : Nat) (cs : List Value) (x : DataW H × List MemPlace) (hf : DataW.trod enc Try.prog W 0 (fun _ => true) true fuel 72 cs = some x) : ∃ o : List UInt8 × Int, eG.E W AnyB o cs ∧ (o.1.length ≤ 9223372036854775807) := by
  obtain ⟨xs, n, hfu, hx, hcl, hl, hg⟩ := DataW.trod_struct Try.underlying72 hf
  rw [show Try.prog.cellsOf 72 = 2 from by kernel_rfl] at hcl
  match cs, hcl, xs, hl with
  | [v0, v1], _, [y0, y1], _ =>
    have g0 := hg 0 _ rfl
    have g1 := hg 1 _ rfl
    simp [cellsI, cellsS] at g0 g1
    obtain ⟨s0, e0, _, w0⟩ := DataW.trod_string Try.underlying9 g0
    have w0 : s0.data.toList.length ≤ 9223372036854775807 := by have h : s0.size ≤ maxLen := w0; unfold maxLen at h; exact h
    obtain ⟨z1, e1, _, w1⟩ := DataW.trod_int Try.underlying3 g1
    simp at e0 e1
    subst e0
    subst e1
    exact ⟨(s0.data.toList, z1), ⟨rfl, rg_of w1⟩, w0⟩
set_option maxRecDepth 100000 in
set_option maxHeartbeats 1000000 in
theorem open_options {H : Type} {enc : TypeId × Value → H} {W : World} (fuel : Nat) (cs : List Value) (x : DataW H × List MemPlace) (hf : DataW.trod enc Try.prog W 0 (fun _ => true) true fuel 105 cs = some x) : ∃ o : List UInt8 × List (List UInt8), eO.E W AnyB o cs ∧ (o.1.length ≤ 9223372036854775807 ∧ o.2.length ≤ 9223372036854775807 ∧ ∀ s ∈ o.2, s.length ≤ 9223372036854775807) := by
  obtain ⟨xs, n, hfu, hx, hcl, hl, hg⟩ := DataW.trod_struct Try.underlying105 hf
  rw [show Try.prog.cellsOf 105 = 2 from by kernel_rfl] at hcl
  match cs, hcl, xs, hl with
  | [v0, v1], _, [y0, y1], _ =>
    have g0 := hg 0 _ rfl
    have g1 := hg 1 _ rfl
    simp [cellsS, cellsSS] at g0 g1
    obtain ⟨s0, e0, _, w0⟩ := DataW.trod_string Try.underlying9 g0
    have w0 : s0.data.toList.length ≤ 9223372036854775807 := by have h : s0.size ≤ maxLen := w0; unfold maxLen at h; exact h
    obtain ⟨l1, a1, c1, e1, h1, R1, Z1⟩ := open_row eS (fun s => s.length ≤ 9223372036854775807) Try.underlying103 (by kernel_rfl) (by decide) g1 (fun m cs' x' _ _ h => open_text m cs' x' h)
    simp at e0 e1
    subst e0
    subst e1
    exact ⟨(s0.data.toList, l1), ⟨a1, c1, rfl, R1⟩, ⟨w0, h1, Z1⟩⟩
set_option maxRecDepth 100000 in
set_option maxHeartbeats 1000000 in
theorem open_table {H : Type} {enc : TypeId × Value → H} {W : World} (fuel : Nat) (cs : List Value) (x : DataW H × List MemPlace) (hf : DataW.trod enc Try.prog W 0 (fun _ => true) true fuel 75 cs = some x) : ∃ o : List UInt8 × List (Int × Int), eT.E W AnyB o cs ∧ (o.1.length ≤ 9223372036854775807 ∧ o.2.length ≤ 9223372036854775807 ∧ ∀ b ∈ o.2, Rg b.1 ∧ Rg b.2) := by
  obtain ⟨xs, n, hfu, hx, hcl, hl, hg⟩ := DataW.trod_struct Try.underlying75 hf
  rw [show Try.prog.cellsOf 75 = 2 from by kernel_rfl] at hcl
  match cs, hcl, xs, hl with
  | [v0, v1], _, [y0, y1], _ =>
    have g0 := hg 0 _ rfl
    have g1 := hg 1 _ rfl
    simp [cellsS, cellsSB] at g0 g1
    obtain ⟨s0, e0, _, w0⟩ := DataW.trod_string Try.underlying9 g0
    have w0 : s0.data.toList.length ≤ 9223372036854775807 := by have h : s0.size ≤ maxLen := w0; unfold maxLen at h; exact h
    obtain ⟨l1, a1, c1, e1, h1, R1, Z1⟩ := open_row eBd (fun b => Rg b.1 ∧ Rg b.2) Try.underlying73 (by kernel_rfl) (by decide) g1 (fun m cs' x' _ _ h => (open_band m cs' x' h).imp (fun o h => ⟨h.1, h.1.2⟩))
    simp at e0 e1
    subst e0
    subst e1
    exact ⟨(s0.data.toList, l1), ⟨a1, c1, rfl, R1⟩, ⟨w0, h1, Z1⟩⟩
set_option maxRecDepth 100000 in
set_option maxHeartbeats 1000000 in
theorem open_clause {H : Type} {enc : TypeId × Value → H} {W : World} (fuel : Nat) (cs : List Value) (x : DataW H × List MemPlace) (hf : DataW.trod enc Try.prog W 0 (fun _ => true) true fuel 108 cs = some x) : ∃ o : Cl, eC.E W AnyB o cs ∧ (SzC o ∧ RgC o) := by
  obtain ⟨xs, n, hfu, hx, hcl, hl, hg⟩ := DataW.trod_struct Try.underlying108 hf
  rw [show Try.prog.cellsOf 108 = 12 from by kernel_rfl] at hcl
  match cs, hcl, xs, hl with
  | [v0, v1, v2, v3, v4, v5, v6, v7, v8, v9, v10, v11], _, [y0, y1, y2, y3], _ =>
    have g0 := hg 0 _ rfl
    have g1 := hg 1 _ rfl
    have g2 := hg 2 _ rfl
    have g3 := hg 3 _ rfl
    simp [cellsI, cellsBo, cellsE] at g0 g1 g2 g3
    obtain ⟨z0, e0, _, w0⟩ := DataW.trod_int Try.underlying3 g0
    obtain ⟨z1, e1, _⟩ := DataW.trod_bool Try.underlying4 g1
    obtain ⟨x2, ⟨a2, c2, e2, r2, f2⟩, s2, t2⟩ := open_expr _ _ _ g2
    obtain ⟨x3, ⟨a3, c3, e3, r3, f3⟩, s3, t3⟩ := open_expr _ _ _ g3
    simp at e0 e1 e2 e3
    subst e0
    subst e1
    obtain ⟨e2_0, e2_1, e2_2, e2_3, e2_4⟩ := e2
    subst e2_0 e2_1 e2_2 e2_3 e2_4
    obtain ⟨e3_0, e3_1, e3_2, e3_3, e3_4⟩ := e3
    subst e3_0 e3_1 e3_2 e3_3 e3_4
    exact ⟨⟨z0, z1, x2, x3⟩, ⟨a2, c2, a3, c3, rfl, rg_of w0, ⟨r2, r3⟩, f2, f3⟩, ⟨⟨s2, s3⟩, rg_of w0, t2, t3⟩⟩
set_option maxRecDepth 100000 in
set_option maxHeartbeats 1000000 in
theorem open_line {H : Type} {enc : TypeId × Value → H} {W : World} (fuel : Nat) (cs : List Value) (x : DataW H × List MemPlace) (hf : DataW.trod enc Try.prog W 0 (fun _ => true) true fuel 80 cs = some x) : ∃ o : Ln, eL.E W AnyB o cs ∧ ((o.name.length ≤ 9223372036854775807 ∧ SzL o) ∧ RgL o) := by
  obtain ⟨xs, n, hfu, hx, hcl, hl, hg⟩ := DataW.trod_struct Try.underlying80 hf
  rw [show Try.prog.cellsOf 80 = 7 from by kernel_rfl] at hcl
  match cs, hcl, xs, hl with
  | [v0, v1, v2, v3, v4, v5, v6], _, [y0, y1, y2, y3, y4, y5, y6], _ =>
    have g0 := hg 0 _ rfl
    have g1 := hg 1 _ rfl
    have g2 := hg 2 _ rfl
    have g3 := hg 3 _ rfl
    have g4 := hg 4 _ rfl
    have g5 := hg 5 _ rfl
    have g6 := hg 6 _ rfl
    simp [cellsI, cellsS, cellsBo, cellsSC] at g0 g1 g2 g3 g4 g5 g6
    obtain ⟨s0, e0, _, w0⟩ := DataW.trod_string Try.underlying9 g0
    have w0 : s0.data.toList.length ≤ 9223372036854775807 := by have h : s0.size ≤ maxLen := w0; unfold maxLen at h; exact h
    obtain ⟨z1, e1, _⟩ := DataW.trod_bool Try.underlying4 g1
    obtain ⟨z2, e2, _⟩ := DataW.trod_bool Try.underlying4 g2
    obtain ⟨z3, e3, _, w3⟩ := DataW.trod_int Try.underlying3 g3
    obtain ⟨z4, e4, _, w4⟩ := DataW.trod_int Try.underlying3 g4
    obtain ⟨z5, e5, _, w5⟩ := DataW.trod_int Try.underlying3 g5
    obtain ⟨l6, a6, c6, e6, h6, R6, Z6⟩ := open_row eC (fun c => SzC c ∧ RgC c) Try.underlying78 (by kernel_rfl) (by decide) g6 (fun m cs' x' _ _ h => open_clause m cs' x' h)
    simp at e0 e1 e2 e3 e4 e5 e6
    subst e0
    subst e1
    subst e2
    subst e3
    subst e4
    subst e5
    subst e6
    exact ⟨⟨s0.data.toList, z1, z2, z3, z4, z5, l6⟩, ⟨a6, c6, rfl, ⟨rg_of w3, rg_of w4, rg_of w5⟩, R6⟩, ⟨⟨w0, h6, fun c hc => (Z6 c hc).1⟩, ⟨rg_of w3, rg_of w4, rg_of w5⟩, fun c hc => (Z6 c hc).2⟩⟩
set_option maxRecDepth 100000 in
set_option maxHeartbeats 1000000 in
theorem open_check {H : Type} {enc : TypeId × Value → H} {W : World} (fuel : Nat) (cs : List Value) (x : DataW H × List MemPlace) (hf : DataW.trod enc Try.prog W 0 (fun _ => true) true fuel 85 cs = some x) : ∃ o : Ck, eK.E W AnyB o cs ∧ ((o.name.length ≤ 9223372036854775807 ∧ o.text.length ≤ 9223372036854775807 ∧ SzE o.when_) ∧ RgK o) := by
  obtain ⟨xs, n, hfu, hx, hcl, hl, hg⟩ := DataW.trod_struct Try.underlying85 hf
  rw [show Try.prog.cellsOf 85 = 9 from by kernel_rfl] at hcl
  match cs, hcl, xs, hl with
  | [v0, v1, v2, v3, v4, v5, v6, v7, v8], _, [y0, y1, y2, y3, y4], _ =>
    have g0 := hg 0 _ rfl
    have g1 := hg 1 _ rfl
    have g2 := hg 2 _ rfl
    have g3 := hg 3 _ rfl
    have g4 := hg 4 _ rfl
    simp [cellsI, cellsS, cellsBo, cellsE] at g0 g1 g2 g3 g4
    obtain ⟨s0, e0, _, w0⟩ := DataW.trod_string Try.underlying9 g0
    have w0 : s0.data.toList.length ≤ 9223372036854775807 := by have h : s0.size ≤ maxLen := w0; unfold maxLen at h; exact h
    obtain ⟨z1, e1, _⟩ := DataW.trod_bool Try.underlying4 g1
    obtain ⟨z2, e2, _, w2⟩ := DataW.trod_int Try.underlying3 g2
    obtain ⟨x3, ⟨a3, c3, e3, r3, f3⟩, s3, t3⟩ := open_expr _ _ _ g3
    obtain ⟨s4, e4, _, w4⟩ := DataW.trod_string Try.underlying9 g4
    have w4 : s4.data.toList.length ≤ 9223372036854775807 := by have h : s4.size ≤ maxLen := w4; unfold maxLen at h; exact h
    simp at e0 e1 e2 e3 e4
    subst e0
    subst e1
    subst e2
    obtain ⟨e3_0, e3_1, e3_2, e3_3, e3_4⟩ := e3
    subst e3_0 e3_1 e3_2 e3_3 e3_4
    subst e4
    exact ⟨⟨s0.data.toList, z1, z2, x3, s4.data.toList⟩, ⟨a3, c3, rfl, rg_of w2, r3, f3⟩, ⟨⟨w0, w4, s3⟩, rg_of w2, t3⟩⟩
set_option maxRecDepth 100000 in
set_option maxHeartbeats 1000000 in
theorem open_pack {H : Type} {enc : TypeId × Value → H} {W : World} (fuel : Nat) (cs : List Value) (x : DataW H × List MemPlace) (hf : DataW.trod enc Try.prog W 0 (fun _ => true) true fuel 29 cs = some x) : ∃ o : Pk, PkE W AnyB o cs ∧ (SzP o ∧ RgP o) := by
  obtain ⟨xs, n, hfu, hx, hcl, hl, hg⟩ := DataW.trod_struct Try.underlying29 hf
  rw [show Try.prog.cellsOf 29 = 7 from by kernel_rfl] at hcl
  match cs, hcl, xs, hl with
  | [v0, v1, v2, v3, v4, v5, v6], _, [y0, y1, y2, y3, y4, y5, y6], _ =>
    have g0 := hg 0 _ rfl
    have g1 := hg 1 _ rfl
    have g2 := hg 2 _ rfl
    have g3 := hg 3 _ rfl
    have g4 := hg 4 _ rfl
    have g5 := hg 5 _ rfl
    have g6 := hg 6 _ rfl
    simp [cellsI, cellsS, cellsSG, cellsSK, cellsSL, cellsSO, cellsST] at g0 g1 g2 g3 g4 g5 g6
    obtain ⟨s0, e0, _, w0⟩ := DataW.trod_string Try.underlying9 g0
    have w0 : s0.data.toList.length ≤ 9223372036854775807 := by have h : s0.size ≤ maxLen := w0; unfold maxLen at h; exact h
    obtain ⟨z1, e1, _, w1⟩ := DataW.trod_int Try.underlying3 g1
    obtain ⟨l2, a2, c2, e2, h2, R2, Z2⟩ := open_row eO (fun o => o.1.length ≤ 9223372036854775807 ∧ o.2.length ≤ 9223372036854775807 ∧ ∀ s ∈ o.2, s.length ≤ 9223372036854775807) Try.underlying23 (by kernel_rfl) (by decide) g2 (fun m cs' x' _ _ h => open_options m cs' x' h)
    obtain ⟨l3, a3, c3, e3, h3, R3, Z3⟩ := open_row eT (fun o => o.1.length ≤ 9223372036854775807 ∧ o.2.length ≤ 9223372036854775807 ∧ ∀ b ∈ o.2, Rg b.1 ∧ Rg b.2) Try.underlying24 (by kernel_rfl) (by decide) g3 (fun m cs' x' _ _ h => open_table m cs' x' h)
    obtain ⟨l4, a4, c4, e4, h4, R4, Z4⟩ := open_row eG (fun o => o.1.length ≤ 9223372036854775807 ∧ Rg o.2) Try.underlying25 (by kernel_rfl) (by decide) g4 (fun m cs' x' _ _ h => (open_group m cs' x' h).imp (fun o h => ⟨h.1, h.2, h.1.2⟩))
    obtain ⟨l5, a5, c5, e5, h5, R5, Z5⟩ := open_row eL (fun o => (o.name.length ≤ 9223372036854775807 ∧ SzL o) ∧ RgL o) Try.underlying26 (by kernel_rfl) (by decide) g5 (fun m cs' x' _ _ h => open_line m cs' x' h)
    obtain ⟨l6, a6, c6, e6, h6, R6, Z6⟩ := open_row eK (fun o => (o.name.length ≤ 9223372036854775807 ∧ o.text.length ≤ 9223372036854775807 ∧ SzE o.when_) ∧ RgK o) Try.underlying27 (by kernel_rfl) (by decide) g6 (fun m cs' x' _ _ h => open_check m cs' x' h)
    simp at e0 e1 e2 e3 e4 e5 e6
    subst e0
    subst e1
    subst e2
    subst e3
    subst e4
    subst e5
    subst e6
    exact ⟨⟨s0.data.toList, z1, l2, l3, l4, l5, l6⟩, ⟨a2, c2, a3, c3, a4, c4, a5, c5, a6, c6, rfl, rg_of w1, R2, R3, R4, R5, R6⟩, ⟨w0, ⟨h2, Z2⟩, ⟨h3, fun o ho => ⟨(Z3 o ho).1, (Z3 o ho).2.1⟩⟩, ⟨h4, fun o ho => (Z4 o ho).1⟩, ⟨h5, fun o ho => (Z5 o ho).1⟩, ⟨h6, fun o ho => (Z6 o ho).1⟩⟩, ⟨rg_of w1, fun o ho => (Z3 o ho).2.2, fun o ho => (Z4 o ho).2, fun o ho => (Z5 o ho).2, fun o ho => (Z6 o ho).2⟩⟩

end Go.Proofs.Ytjgkjdalnjlefaa




/- A ROOM (levyroom): its lists of lists, the marks behind them; lists that are being copied into it. No walk. -/
namespace Go.Proofs.Ytjgkjdalnjlefaa
open Go.RowKit

def sOne : ByteArray := ⟨#[60, 111, 110, 101, 62]⟩
def sTwo : ByteArray := ⟨#[60, 116, 119, 111, 62]⟩
def sNil : ByteArray := ⟨#[]⟩
/-- By the place of a kind in the room: the type of its lists. -/
def rmT (j : Nat) : TypeId := if j = 4 then 103 else if j = 6 then 73 else if j = 14 then 81 else if j = 15 then 78 else if j = 16 then 26 else if j = 17 then 27 else if j = 18 then 23 else if j = 19 then 24 else if j = 20 then 25 else 0
/-- The type of their elements, its cells, how many marks, which. -/
def rmE (j : Nat) : TypeId := if j = 4 then 9 else if j = 6 then 77 else if j = 14 then 83 else if j = 15 then 108 else if j = 16 then 80 else if j = 17 then 85 else if j = 18 then 105 else if j = 19 then 75 else if j = 20 then 72 else 0
def rmS (j : Nat) : Nat := if j = 4 then 1 else if j = 14 then 5 else if j = 15 then 12 else if j = 16 then 7 else if j = 17 then 9 else 2
def rmSp (j : Nat) : Nat := if j = 14 then 8 else 40
def rmMk0 (j : Nat) (n : Int) (s : ByteArray) : List Value :=
  if j = 4 then [.string s] else if j = 6 then [.int .i64 n, .int .i64 0] else if j = 14 then [.int .i64 n, .int .i64 0, .int .i64 0, .int .i64 0, .slice none 0 0]
  else if j = 15 then [.int .i64 n, .bool false, .int .i64 0, .int .i64 0, .int .i64 0, .int .i64 0, .slice none 0 0, .int .i64 0, .int .i64 0, .int .i64 0, .int .i64 0, .slice none 0 0]
  else if j = 16 then [.string sNil, .bool false, .bool false, .int .i64 n, .int .i64 0, .int .i64 0, .slice none 0 0]
  else if j = 17 then [.string sNil, .bool false, .int .i64 n, .int .i64 0, .int .i64 0, .int .i64 0, .int .i64 0, .slice none 0 0, .string sNil]
  else if j = 18 then [.string s, .slice none 0 0] else if j = 19 then [.string s, .slice none 0 0] else if j = 20 then [.string sNil, .int .i64 n] else []
def rmMk (j k : Nat) : List Value := if k % 2 = 0 then rmMk0 j (-7701) sOne else rmMk0 j (-7702) sTwo

/-- A list with its marks. -/
def MarkV (W : World) (j : Nat) (v : Value) : Prop := ∃ g n cap cs f, v = .slice (some ⟨g, 0, none⟩) n cap ∧ W.heap[g]? = some (.cells cs (rmE j) f) ∧ rmSp j ≤ n ∧ n ≤ 2000000 ∧ ∀ k, k < rmSp j → ∀ i u, (rmMk j k)[i]? = some u → cs[(n - rmSp j + k) * rmS j + i]? = some u
theorem MarkV.lt {W : World} {j : Nat} {v : Value} (h : MarkV W j v) {g : Nat} (e : v.ownBlock = some g) : g < W.heap.size := by
  obtain ⟨g', n, cap, cs, f, rfl, h1, -⟩ := h
  have e' : g' = g := Option.some.inj e
  subst e'
  exact (Array.getElem?_eq_some_iff.1 h1).1
theorem MarkV.keep {W W' : World} {j : Nat} {v : Value} (h : MarkV W j v) (hb : ∀ g, v.ownBlock = some g → W'.heap[g]? = W.heap[g]?) : MarkV W' j v := by
  obtain ⟨g, n, cap, cs, f, rfl, h1, h2⟩ := h
  exact ⟨g, n, cap, cs, f, rfl, (hb g rfl).trans h1, h2⟩
structure RmAt (W : World) (R lo : Nat) (K : Nat → Value) (V : Nat → List Value) (N : Nat) : Prop where
  row : ∃ cs : Array Value, W.heap[R]? = some (.cells cs 55 (0, 0)) ∧ ∀ j, j < 21 → cs[j]? = some (K j)
  own : ∀ j, j < 21 → W.ownsRow lo (rmT j) 1 (K j) (V j).length (V j)
  nil : ∀ j, j < 21 → V j = [] → K j = .slice none 0 0
  low : lo ≤ R
  mks : ∀ j, j < 21 → ∀ v ∈ V j, MarkV W j v
  few : ∀ j, j < 21 → (V j).length ≤ N
  un : ∀ j, j < 21 → rmT j = 0 → V j = []
theorem RmAt.lt {W : World} {R lo : Nat} {K : Nat → Value} {V : Nat → List Value} {N : Nat} (h : RmAt W R lo K V N) : R < W.heap.size := by
  obtain ⟨cs, h1, -⟩ := h.row
  exact (Array.getElem?_eq_some_iff.1 h1).1
theorem RmAt.cell {W : World} {R lo : Nat} {K : Nat → Value} {V : Nat → List Value} {N : Nat} (h : RmAt W R lo K V N) {j : Nat} (hj : j < 21) : W.cell? ⟨R, j, none⟩ = some (K j) ∧ W.frozen? ⟨R, j, none⟩ = false := by
  obtain ⟨cs, h1, h2⟩ := h.row
  refine ⟨?_, frozen_of_row _ _ j _ _ h1⟩
  rw [cell_of_row _ _ j _ _ _ h1]
  exact h2 j hj
theorem RmAt.off {W : World} {R lo : Nat} {K : Nat → Value} {V : Nat → List Value} {N : Nat} (h : RmAt W R lo K V N) {g : Nat} {cs : Array Value} {t : TypeId} {f : Nat × Nat} (hg : W.heap[g]? = some (.cells cs t f)) (hT : t ≠ 55 ∧ ∀ j, j < 21 → t ≠ rmT j) : g ≠ R ∧ ∀ j, j < 21 → (K j).ownBlock ≠ some g := by
  refine ⟨fun e => ?_, fun j hj e => ?_⟩
  · subst e
    obtain ⟨cs', h1, -⟩ := h.row
    rw [hg] at h1
    cases h1
    exact hT.1 rfl
  · obtain ⟨_, ⟨h0, _⟩ | ⟨g', c, cur, h0, _, r1, _⟩⟩ := h.own j hj
    · rw [h0] at e
      simp [Value.ownBlock] at e
    · rw [h0] at e
      have e' : g' = g := Option.some.inj e
      subst e'
      rw [hg] at r1
      cases r1
      exact hT.2 j hj rfl
theorem rmE_ok (j : Nat) (hj : j < 21) : rmE j = 0 ∨ (rmE j ≠ 55 ∧ ∀ i, i < 21 → rmE j ≠ rmT i) := by
  revert j hj
  decide

/-- Only the room's own blocks are turned. -/
structure Fm (R : Nat) (K : Nat → Value) (W W' : World) : Prop where
  os : W'.os = W.os
  tape : W'.tape = W.tape
  output : W'.output = W.output
  size : W.heap.size ≤ W'.heap.size
  block : ∀ k, k < W.heap.size → k ≠ R → (∀ j, j < 21 → (K j).ownBlock ≠ some k) → W'.heap[k]? = W.heap[k]?
/-- What becomes of a room. -/
structure RmStep (R : Nat) (K : Nat → Value) (V : Nat → List Value) (K' : Nat → Value) (V' : Nat → List Value) (W W' : World) : Prop where
  fm : Fm R K W W'
  ks : ∀ j, j < 21 → (K' j).ownBlock = (K j).ownBlock ∨ ∃ g, (K' j).ownBlock = some g ∧ W.heap.size ≤ g
  vs : ∀ j, j < 21 → ∀ v ∈ V' j, v ∈ V j ∨ ∃ g, v.ownBlock = some g ∧ W.heap.size ≤ g
theorem RmStep.refl (R : Nat) (K : Nat → Value) (V : Nat → List Value) (W : World) : RmStep R K V K V W W := ⟨⟨rfl, rfl, rfl, Nat.le_refl _, fun _ _ _ _ => rfl⟩, fun _ _ => .inl rfl, fun _ _ _ h => .inl h⟩
theorem RmStep.trans {R : Nat} {K K1 K2 : Nat → Value} {V V1 V2 : Nat → List Value} {W X Y : World} (h : RmStep R K V K1 V1 W X) (h' : RmStep R K1 V1 K2 V2 X Y) : RmStep R K V K2 V2 W Y := by
  refine ⟨⟨h'.fm.os.trans h.fm.os, h'.fm.tape.trans h.fm.tape, h'.fm.output.trans h.fm.output, Nat.le_trans h.fm.size h'.fm.size, fun k hk h1 h2 => ?_⟩, fun j hj => ?_, fun j hj v hv => ?_⟩
  · refine (h'.fm.block k (Nat.lt_of_lt_of_le hk h.fm.size) h1 (fun j hj e => ?_)).trans (h.fm.block k hk h1 h2)
    rcases h.ks j hj with e' | ⟨g, e', hg⟩
    · exact h2 j hj (e'.symm.trans e)
    · rw [e'] at e
      have := Option.some.inj e
      omega
  · rcases h'.ks j hj with e | ⟨g, e, hg⟩
    · rw [e]; exact h.ks j hj
    · exact .inr ⟨g, e, Nat.le_trans h.fm.size hg⟩
  · rcases h'.vs j hj v hv with e | ⟨g, e, hg⟩
    · exact h.vs j hj v e
    · exact .inr ⟨g, e, Nat.le_trans h.fm.size hg⟩
/-- Something that is new since is turned. -/
theorem RmStep.after {R : Nat} {K K1 : Nat → Value} {V V1 : Nat → List Value} {W X Y : World} {r : Option Nat} (h : RmStep R K V K1 V1 W X) (hg : X.grownBy Y r) (hr : ∀ g, r = some g → W.heap.size ≤ g) : RmStep R K V K1 V1 W Y :=
  ⟨⟨hg.os.trans h.fm.os, hg.tape.trans h.fm.tape, hg.output.trans h.fm.output, Nat.le_trans h.fm.size hg.size, fun k hk h1 h2 => (hg.block k (Nat.lt_of_lt_of_le hk h.fm.size) (fun e => by have := hr k e.symm; omega)).trans (h.fm.block k hk h1 h2)⟩, h.ks, h.vs⟩
theorem RmAt.other {W W' : World} {R lo : Nat} {K : Nat → Value} {V : Nat → List Value} {N : Nat} {r : Option Nat} (h : RmAt W R lo K V N) (hg : W.grownBy W' r) (h1 : r ≠ some R) (h2 : ∀ j, j < 21 → ∀ g, r = some g → (K j).ownBlock ≠ some g) (h3 : ∀ j, j < 21 → ∀ v ∈ V j, ∀ g, r = some g → v.ownBlock ≠ some g) : RmAt W' R lo K V N := by
  obtain ⟨cs, r1, r2⟩ := h.row
  refine ⟨⟨cs, (hg.block R h.lt (fun e => h1 e.symm)).trans r1, r2⟩, fun j hj => (h.own j hj).kept hg ?_, h.nil, h.low, fun j hj v hv => (h.mks j hj v hv).keep (fun g e => hg.block g ((h.mks j hj v hv).lt e) (fun e' => h3 j hj v hv g e'.symm e)), h.few, h.un⟩
  cases hk : (K j).ownBlock with
  | none => exact .inl rfl
  | some g => exact .inr (fun e => h2 j hj g e.symm hk)
theorem RmAt.new {W W' : World} {R lo : Nat} {K : Nat → Value} {V : Nat → List Value} {N : Nat} (h : RmAt W R lo K V N) (hb : Below W.heap.size W W') : RmAt W' R lo K V N := h.other (r := none) ⟨hb.os, hb.tape, hb.output, hb.size, fun k hk _ => hb.block k hk⟩ (by simp) (fun _ _ _ e => by cases e) (fun _ _ _ _ _ e => by cases e)
theorem RmAt.mono {W : World} {R lo : Nat} {K : Nat → Value} {V : Nat → List Value} {N N' : Nat} (h : RmAt W R lo K V N) (hn : N ≤ N') : RmAt W R lo K V N' := ⟨h.row, h.own, h.nil, h.low, h.mks, fun j hj => Nat.le_trans (h.few j hj) hn, h.un⟩
theorem RmStep.below {R lo N : Nat} {K K' : Nat → Value} {V V' : Nat → List Value} {W W' : World} (h : RmAt W R lo K V N) (hs : RmStep R K V K' V' W W') : Below lo W W' :=
  ⟨hs.fm.os, hs.fm.tape, hs.fm.output, hs.fm.size, fun k hk => hs.fm.block k (by have := h.lt; have := h.low; omega) (by have := h.low; omega) (fun j hj e => by have := ((h.own j hj).lt k e).1; omega)⟩
def upd {α : Type} (K : Nat → α) (j : Nat) (v : α) (i : Nat) : α := if i = j then v else K i
theorem upd_same {α : Type} (K : Nat → α) (j : Nat) (v : α) : upd K j v j = v := by simp [upd]
theorem upd_other {α : Type} (K : Nat → α) {j i : Nat} (v : α) (h : i ≠ j) : upd K j v i = K i := by simp [upd, h]
theorem rmT_inj : ∀ i, i < 21 → ∀ j, j < 21 → i ≠ j → rmT i = rmT j → rmT i = 0 := by decide
theorem own_differ {W : World} {b1 b2 k1 k2 n1 n2 : Nat} {t1 t2 : TypeId} {v1 v2 : Value} {x1 x2 : List Value} (h1 : W.ownsRow b1 t1 k1 v1 n1 x1) (h2 : W.ownsRow b2 t2 k2 v2 n2 x2) (hne : t1 ≠ t2) : v2.ownBlock = none ∨ v2.ownBlock ≠ v1.ownBlock := by
  obtain ⟨_, ⟨rfl, _⟩ | ⟨g2, c2, cur2, rfl, _, r2, _⟩⟩ := h2
  · exact .inl rfl
  · refine .inr fun e => ?_
    obtain ⟨_, ⟨rfl, _⟩ | ⟨g1, c1, cur1, rfl, _, r1, _⟩⟩ := h1
    · simp [Value.ownBlock] at e
    · have e' : g2 = g1 := Option.some.inj e
      subst e'
      rw [r1] at r2
      cases r2
      exact hne rfl
theorem own_tagged {W : World} {b k n r : Nat} {t : TypeId} {v : Value} {xs : List Value} (h : W.ownsRow b t k v n xs) (e : v.ownBlock = some r) : ∃ cs f, W.heap[r]? = some (.cells cs t f) := by
  obtain ⟨_, ⟨rfl, _⟩ | ⟨g, c, cur, rfl, _, r1, _⟩⟩ := h
  · simp [Value.ownBlock] at e
  · have e' : g = r := Option.some.inj e
    subst e'
    exact ⟨_, _, r1⟩

/-- Blocks that are new since n, and none of the room's, nor the row's own. -/
def Sm (n R : Nat) (K : Nat → Value) (W : World) (lv : Value) (b : Nat) : Prop := n ≤ b ∧ b < W.heap.size ∧ b ≠ R ∧ (∀ j, j < 21 → (K j).ownBlock ≠ some b) ∧ some b ≠ lv.ownBlock
/-- A list that is being copied: its own cells and what it leads to; cx: cells behind them. -/
structure GM {α : Type} (D : Elt α) (T : TypeId) (n R : Nat) (K : Nat → Value) (V : Nat → List Value) (W : World) (lv : Value) (xs : List α) (m : Nat) (cx : List Value) : Prop where
  ex : ∃ cs, W.ownsRow n T D.k lv (xs.length + m) (cs ++ cx) ∧ Elems D W (Sm n R K W lv) xs cs
  vs : ∀ j, j < 21 → ∀ v ∈ V j, ∀ g, lv.ownBlock = some g → v.ownBlock ≠ some g
theorem GM.lt {α : Type} {D : Elt α} {T : TypeId} {n R : Nat} {K : Nat → Value} {V : Nat → List Value} {W : World} {lv : Value} {xs : List α} {m : Nat} {cx : List Value} (h : GM D T n R K V W lv xs m cx) {g : Nat} (e : lv.ownBlock = some g) : n ≤ g ∧ g < W.heap.size := by
  obtain ⟨cs, h1, -⟩ := h.ex
  exact h1.lt g e
/-- The room takes something. -/
theorem GM.room {α : Type} {D : Elt α} {T : TypeId} {n R lo N : Nat} {K K' : Nat → Value} {V V' : Nat → List Value} {W W' : World} {lv : Value} {xs : List α} {m : Nat} {cx : List Value} (h : GM D T n R K V W lv xs m cx) (hR : RmAt W R lo K V N) (hT : T ≠ 55 ∧ ∀ j, j < 21 → T ≠ rmT j) (hs : RmStep R K V K' V' W W') : GM D T n R K' V' W' lv xs m cx := by
  obtain ⟨cs, h1, h2⟩ := h.ex
  have hoff : ∀ g, lv.ownBlock = some g → W'.heap[g]? = W.heap[g]? := fun g e => by
    obtain ⟨cs', f, hg⟩ := own_tagged h1 e
    obtain ⟨o1, o2⟩ := hR.off hg hT
    exact hs.fm.block g (h1.lt g e).2 o1 o2
  refine ⟨⟨cs, ?_, ?_⟩, fun j hj v hv g e e' => ?_⟩
  · obtain ⟨q1, q2 | ⟨g, cap, cur, e, hb, r, rest⟩⟩ := h1
    · exact ⟨q1, .inl q2⟩
    · exact ⟨q1, .inr ⟨g, cap, cur, e, hb, (hoff g (by rw [e]; rfl)).trans r, rest⟩⟩
  · refine (h2.fr hs.fm.size (fun b hb hlt => hs.fm.block b hlt hb.2.2.1 hb.2.2.2.1)).mo (fun b _ hb => ⟨hb.1, Nat.lt_of_lt_of_le hb.2.1 hs.fm.size, hb.2.2.1, fun j hj e => ?_, hb.2.2.2.2⟩)
    rcases hs.ks j hj with e' | ⟨g, e', hg⟩
    · exact hb.2.2.2.1 j hj (e'.symm.trans e)
    · rw [e'] at e
      have := Option.some.inj e
      have := hb.2.1
      omega
  · rcases hs.vs j hj v hv with e2 | ⟨g2, e2, hg2⟩
    · exact h.vs j hj v e2 g e e'
    · rw [e'] at e2
      have := Option.some.inj e2
      have := (h1.lt g e).2
      omega
theorem GM.new {α : Type} {D : Elt α} {T : TypeId} {n R : Nat} {K : Nat → Value} {V : Nat → List Value} {W W' : World} {lv : Value} {xs : List α} {m : Nat} {cx : List Value} (h : GM D T n R K V W lv xs m cx) (hb : Below W.heap.size W W') : GM D T n R K V W' lv xs m cx := by
  obtain ⟨cs, h1, h2⟩ := h.ex
  have hg : W.grownBy W' none := ⟨hb.os, hb.tape, hb.output, hb.size, fun k hk _ => hb.block k hk⟩
  refine ⟨⟨cs, h1.kept hg (by cases lv.ownBlock <;> simp), (h2.fr hb.size (fun b _ hlt => hb.block b hlt)).mo (fun b _ hb' => ⟨hb'.1, Nat.lt_of_lt_of_le hb'.2.1 hb.size, hb'.2.2⟩)⟩, h.vs⟩
/-- What is behind an append of an element. -/
theorem GM.step {α : Type} {D : Elt α} {T : TypeId} {n R lo N n1 : Nat} {K : Nat → Value} {V : Nat → List Value} {W w2 : World} {lv lv' : Value} {xs : List α} {x : α} {cs cx : List Value} (hR : RmAt W R lo K V N) (hT : T ≠ 55 ∧ ∀ j, j < 21 → T ≠ rmT j) (ho : W.ownsRow n T D.k lv xs.length cs) (hE : Elems D W (Sm n R K W lv) xs cs) (hv : ∀ j, j < 21 → ∀ v ∈ V j, ∀ g, lv.ownBlock = some g → v.ownBlock ≠ some g)
    (hx : D.E W (fun b => n1 ≤ b ∧ b < W.heap.size ∧ b ≠ R ∧ ∀ j, j < 21 → (K j).ownBlock ≠ some b) x cx) (hn : n ≤ n1) (hn1 : ∀ g, lv.ownBlock = some g → g < n1) (hgr : W.grownBy w2 lv.ownBlock) (hat : lv'.ownBlock = lv.ownBlock ∨ lv'.ownBlock = some W.heap.size) (ho2 : w2.ownsRow n T D.k lv' (xs.length + 1) (cs ++ cx)) :
    GM D T n R K V w2 lv' (xs ++ [x]) 0 [] ∧ RmAt w2 R lo K V N := by
  have hoff : ∀ g, lv.ownBlock = some g → g ≠ R ∧ ∀ j, j < 21 → (K j).ownBlock ≠ some g := fun g e => by
    obtain ⟨cs', f, hg⟩ := own_tagged ho e
    exact hR.off hg hT
  have hx1 : D.E W (Sm n R K W lv) x cx := D.mo hx (fun b _ hb => ⟨Nat.le_trans hn hb.1, hb.2.1, hb.2.2.1, hb.2.2.2, fun e => by have := hn1 b e.symm; have := hb.1; omega⟩)
  have h1 := hE.snoc hx1
  have h3 := h1.fr hgr.size (fun b hb hlt => hgr.block b hlt hb.2.2.2.2)
  refine ⟨⟨⟨cs ++ cx, by rw [List.length_append, List.length_singleton, List.append_nil, Nat.add_zero]; exact ho2, h3.mo (fun b _ hb => ⟨hb.1, Nat.lt_of_lt_of_le hb.2.1 hgr.size, hb.2.2.1, hb.2.2.2.1, ?_⟩)⟩, fun j hj v hvv g e e' => ?_⟩, hR.other hgr (fun e => (hoff R e).1 rfl) (fun j hj g e => (hoff g e).2 j hj) (fun j hj v hvv g e => hv j hj v hvv g e)⟩
  · rcases hat with h | h
    · rw [h]; exact hb.2.2.2.2
    · rw [h]; intro e; injection e with e; have := hb.2.1; omega
  · rcases hat with h | h
    · exact hv j hj v hvv g (h ▸ e) e'
    · rw [h] at e
      have := Option.some.inj e
      have := (hR.mks j hj v hvv).lt e'
      omega
/-- What is behind an append of marks. -/
theorem GM.marks {α : Type} {D : Elt α} {T : TypeId} {n R lo N : Nat} {K : Nat → Value} {V : Nat → List Value} {W w2 : World} {lv lv' : Value} {xs : List α} {m k : Nat} {cs cx cy : List Value} (hR : RmAt W R lo K V N) (hT : T ≠ 55 ∧ ∀ j, j < 21 → T ≠ rmT j) (ho : W.ownsRow n T D.k lv (xs.length + m) (cs ++ cx)) (hE : Elems D W (Sm n R K W lv) xs cs) (hv : ∀ j, j < 21 → ∀ v ∈ V j, ∀ g, lv.ownBlock = some g → v.ownBlock ≠ some g)
    (hgr : W.grownBy w2 lv.ownBlock) (hat : lv'.ownBlock = lv.ownBlock ∨ lv'.ownBlock = some W.heap.size) (ho2 : w2.ownsRow n T D.k lv' (xs.length + m + k) (cs ++ cx ++ cy)) : GM D T n R K V w2 lv' xs (m + k) (cx ++ cy) ∧ RmAt w2 R lo K V N := by
  have hoff : ∀ g, lv.ownBlock = some g → g ≠ R ∧ ∀ j, j < 21 → (K j).ownBlock ≠ some g := fun g e => by
    obtain ⟨cs', f, hg⟩ := own_tagged ho e
    exact hR.off hg hT
  have h3 := hE.fr hgr.size (fun b hb hlt => hgr.block b hlt hb.2.2.2.2)
  refine ⟨⟨⟨cs, by rw [← Nat.add_assoc, ← List.append_assoc]; exact ho2, h3.mo (fun b _ hb => ⟨hb.1, Nat.lt_of_lt_of_le hb.2.1 hgr.size, hb.2.2.1, hb.2.2.2.1, ?_⟩)⟩, fun j hj v hvv g e e' => ?_⟩, hR.other hgr (fun e => (hoff R e).1 rfl) (fun j hj g e => (hoff g e).2 j hj) (fun j hj v hvv g e => hv j hj v hvv g e)⟩
  · rcases hat with h | h
    · rw [h]; exact hb.2.2.2.2
    · rw [h]; intro e; injection e with e; have := hb.2.1; omega
  · rcases hat with h | h
    · exact hv j hj v hvv g (h ▸ e) e'
    · rw [h] at e
      have := Option.some.inj e
      have := (hR.mks j hj v hvv).lt e'
      omega
/-- The marks, one behind the other. -/
def mks (j m : Nat) : List Value := (List.range m).flatMap (rmMk j)
theorem mks_two (j k : Nat) (h : k % 2 = 0) : mks j (k + 2) = mks j k ++ (rmMk0 j (-7701) sOne ++ rmMk0 j (-7702) sTwo) := by
  unfold mks
  rw [List.range_succ, List.range_succ, List.flatMap_append, List.flatMap_append, List.append_assoc]
  have h1 : (k + 1) % 2 ≠ 0 := by omega
  simp [rmMk, h, h1]
theorem rmMk0_len (j : Nat) (n : Int) (s : ByteArray) (h : rmT j ≠ 0) : (rmMk0 j n s).length = rmS j := by
  unfold rmT at h
  unfold rmMk0 rmS
  by_cases h1 : j = 4
  · simp [h1]
  by_cases h2 : j = 6
  · simp [h2]
  by_cases h3 : j = 14
  · simp [h3]
  by_cases h4 : j = 15
  · simp [h4]
  by_cases h5 : j = 16
  · simp [h5]
  by_cases h6 : j = 17
  · simp [h6]
  by_cases h7 : j = 18
  · simp [h7]
  by_cases h8 : j = 19
  · simp [h8]
  by_cases h9 : j = 20
  · simp [h9]
  · simp [h1, h2, h3, h4, h5, h6, h7, h8, h9] at h
theorem rmMk_len (j k : Nat) (h : rmT j ≠ 0) : (rmMk j k).length = rmS j := by
  unfold rmMk
  split
  · exact rmMk0_len _ _ _ h
  · exact rmMk0_len _ _ _ h
theorem mks_len (j m : Nat) (h : rmT j ≠ 0) : (mks j m).length = m * rmS j := by
  induction m with
  | zero => simp [mks]
  | succ m ih =>
    unfold mks at ih ⊢
    rw [List.range_succ, List.flatMap_append, List.length_append, ih]
    simp [rmMk_len j m h, Nat.add_mul]
theorem mks_get (j m k i : Nat) (h : rmT j ≠ 0) (hk : k < m) (hi : i < rmS j) : (mks j m)[k * rmS j + i]? = (rmMk j k)[i]? := by
  induction m with
  | zero => omega
  | succ m ih =>
    have e : mks j (m + 1) = mks j m ++ rmMk j m := by
      unfold mks
      rw [List.range_succ, List.flatMap_append]
      simp
    have hl := mks_len j m h
    rw [e]
    by_cases hkm : k < m
    · rw [List.getElem?_append_left, ih hkm]
      rw [hl]
      have := Nat.mul_le_mul_right (rmS j) (show k + 1 ≤ m from hkm)
      rw [Nat.add_mul] at this
      omega
    · obtain rfl : k = m := by omega
      rw [List.getElem?_append_right (by omega), hl]
      congr 1
      omega
theorem rmE_ne : ∀ j, j < 21 → rmT j ≠ 0 → rmE j ≠ 55 ∧ ∀ i, i < 21 → rmE j ≠ rmT i := by decide
theorem rmT_room : ∀ j, j < 21 → rmT j ≠ 55 := by decide

/-- The list is laid into the room. -/
theorem rm_close {α : Type} {D : Elt α} {R lo N j : Nat} {K0 K : Nat → Value} {V0 V : Nat → List Value} {W0 W w2 : World} {g capN : Nat} {xs : List α} {v' : Value} {o : Obj} (hj : j < 21) (hj0 : rmT j ≠ 0) (hk : D.k = rmS j) (hx : xs.length ≤ 1048576) (hR : RmAt W R lo K V N) (hs : RmStep R K0 V0 K V W0 W)
    (hG : GM D (rmE j) W0.heap.size R K V W (.slice (some ⟨g, 0, none⟩) (xs.length + rmSp j) capN) xs (rmSp j) (mks j (rmSp j)))
    (hown : w2.ownsRow lo (rmT j) 1 v' ((V j).length + 1) (V j ++ [.slice (some ⟨g, 0, none⟩) (xs.length + rmSp j) capN])) (hgr : (W.alloc o).grownBy w2 (K j).ownBlock) (hat : v'.ownBlock = (K j).ownBlock ∨ v'.ownBlock = some (W.alloc o).heap.size) :
    w2.cell? ⟨R, j, none⟩ = some (K j) ∧ w2.frozen? ⟨R, j, none⟩ = false ∧
    RmAt (w2.setCell ⟨R, j, none⟩ v') R lo (upd K j v') (upd V j (V j ++ [.slice (some ⟨g, 0, none⟩) (xs.length + rmSp j) capN])) (N + 1) ∧
    RmStep R K0 V0 (upd K j v') (upd V j (V j ++ [.slice (some ⟨g, 0, none⟩) (xs.length + rmSp j) capN])) W0 (w2.setCell ⟨R, j, none⟩ v') ∧
    RowR D (w2.setCell ⟨R, j, none⟩ v') (fun b => W0.heap.size ≤ b ∧ b < (w2.setCell ⟨R, j, none⟩ v').heap.size ∧ b ≠ R ∧ ∀ i, i < 21 → (upd K j v' i).ownBlock ≠ some b) xs (some ⟨g, 0, none⟩) := by
  have hb1 := World.grownBy_alloc W o none
  have hR1 : RmAt (W.alloc o) R lo K V N := hR.other hb1 (by simp) (fun _ _ _ e => by cases e) (fun _ _ _ _ _ e => by cases e)
  obtain ⟨hE1, hE2⟩ := rmE_ne j hj hj0
  have hTr := rmT_room j hj
  obtain ⟨cs, ho, hEl⟩ := hG.ex
  obtain ⟨rcs, hrow, hrc⟩ := hR1.row
  have hRlt := hR1.lt
  -- the row of the kind is not the room's block
  have hKR : (K j).ownBlock ≠ some R := fun e => by
    obtain ⟨c, f, h⟩ := own_tagged (hR1.own j hj) e
    rw [hrow] at h
    simp only [Option.some.injEq, Obj.cells.injEq] at h
    exact hTr h.2.1.symm
  have hrow2 : w2.heap[R]? = some (.cells rcs 55 (0, 0)) := (hgr.block R hRlt (fun e => hKR e.symm)).trans hrow
  have hvR : v'.ownBlock ≠ some R := fun e => by
    obtain ⟨c, f, h⟩ := own_tagged hown e
    rw [hrow2] at h
    simp only [Option.some.injEq, Obj.cells.injEq] at h
    exact hTr h.2.1.symm
  -- blocks that are neither
  have hkeep : ∀ k, k < W.heap.size → k ≠ R → (K j).ownBlock ≠ some k → (w2.setCell ⟨R, j, none⟩ v').heap[k]? = W.heap[k]? := fun k hk h1 h2 => by
    rw [Below.heap_setCell _ _ _ k (fun e => h1 e), hgr.block k (Nat.lt_of_lt_of_le hk hb1.size) (fun e => h2 e.symm)]
    exact hb1.block k hk (by simp)
  have hsz : W.heap.size ≤ (w2.setCell ⟨R, j, none⟩ v').heap.size := Nat.le_trans hb1.size (Nat.le_trans hgr.size (gr_set w2 R j v').size)
  have hsz1 : W.heap.size ≤ (W.alloc o).heap.size := hb1.size
  have hoff : ∀ {k : Nat} {c : Array Value} {t : TypeId} {f : Nat × Nat}, W.heap[k]? = some (.cells c t f) → (t ≠ 55 ∧ ∀ i, i < 21 → t ≠ rmT i) → (w2.setCell ⟨R, j, none⟩ v').heap[k]? = some (.cells c t f) := fun {k c t f} h hT => by
    obtain ⟨o1, o2⟩ := hR.off h hT
    exact (hkeep k (Array.getElem?_eq_some_iff.1 h).1 o1 (o2 j hj)).trans h
  have hgtag := own_tagged ho (show (Value.slice (some ⟨g, 0, none⟩) (xs.length + rmSp j) capN).ownBlock = some g from rfl)
  obtain ⟨gc, gf, hgh⟩ := hgtag
  obtain ⟨goff1, goff2⟩ := hR.off hgh ⟨hE1, hE2⟩
  have hglt := (Array.getElem?_eq_some_iff.1 hgh).1
  have hgn : W0.heap.size ≤ g := (ho.lt g rfl).1
  have hup : ∀ i, i < 21 → ∀ b, b < W.heap.size → (K i).ownBlock ≠ some b → (upd K j v' i).ownBlock ≠ some b := fun i hi b hb hne => by
    by_cases e : i = j
    · subst e
      rw [upd_same]
      rcases hat with h | h
      · rw [h]; exact hne
      · rw [h]; intro e; have := Option.some.inj e; omega
    · rw [upd_other _ _ e]; exact hne
  refine ⟨?_, frozen_of_row _ _ j _ _ hrow2, ⟨⟨rcs.setIfInBounds j v', heap_setCell_same w2 R j _ _ v' hrow2, fun i hi => ?_⟩, fun i hi => ?_, fun i hi hn => ?_, hR.low, fun i hi v hv => ?_, fun i hi => ?_, fun i hi h0 => ?_⟩, ⟨⟨?_, ?_, ?_, Nat.le_trans hs.fm.size hsz, fun k hk h1 h2 => ?_⟩, fun i hi => ?_, fun i hi v hv => ?_⟩, ?_⟩
  · rw [cell_of_row _ _ j _ _ _ hrow2]
    exact hrc j hj
  · by_cases e : i = j
    · subst e
      rw [upd_same, Array.getElem?_setIfInBounds_self_of_lt]
      have := hrc i hi
      exact (Array.getElem?_eq_some_iff.1 this).1
    · rw [upd_other _ _ e, Array.getElem?_setIfInBounds_ne (fun h => e h.symm)]
      exact hrc i hi
  · by_cases e : i = j
    · subst e
      rw [upd_same, upd_same, List.length_append, List.length_singleton]
      exact hown.kept (gr_set w2 R i v') (.inr hvR)
    · rw [upd_other _ _ e, upd_other _ _ e]
      have h1 := (hR1.own i hi).kept hgr (own_differ (hR1.own j hj) (hR1.own i hi) (fun h => by
        have := rmT_inj j hj i hi (fun h => e h.symm) h
        exact hj0 this))
      refine h1.kept (gr_set w2 R j v') (.inr fun e2 => ?_)
      obtain ⟨c, f, h⟩ := own_tagged (hR1.own i hi) e2
      rw [hrow] at h
      simp only [Option.some.injEq, Obj.cells.injEq] at h
      exact rmT_room i hi h.2.1.symm
  · by_cases e : i = j
    · subst e
      rw [upd_same] at hn
      simp at hn
    · rw [upd_other _ _ e] at hn ⊢
      exact hR.nil i hi hn
  · have hold : ∀ v ∈ V i, MarkV (w2.setCell ⟨R, j, none⟩ v') i v := fun v hv => by
      have hi0 : rmT i ≠ 0 := fun h => by rw [hR.un i hi h] at hv; cases hv
      obtain ⟨g1, n1, cap1, cs1, f1, e1, e2, e3⟩ := hR.mks i hi v hv
      exact ⟨g1, n1, cap1, cs1, f1, e1, hoff e2 (rmE_ne i hi hi0), e3⟩
    by_cases e : i = j
    · subst e
      rw [upd_same] at hv
      rcases List.mem_append.1 hv with hv | hv
      · exact hold v hv
      · rw [List.mem_singleton.1 hv]
        obtain ⟨_, h0 | ⟨g', cap', cur, e1, _, r1, r2, r3, r4, r5⟩⟩ := ho
        · simp at h0
        · simp only [Value.slice.injEq, Option.some.injEq, Addr.mk.injEq, and_true, true_and] at e1
          obtain ⟨rfl, rfl⟩ := e1
          refine ⟨g, xs.length + rmSp i, capN, cur, (0, 0), rfl, hoff r1 ⟨hE1, hE2⟩, by omega, by have : rmSp i ≤ 40 := by { unfold rmSp; split <;> omega }; omega, fun k hk' i2 u hu => ?_⟩
          have hi2 : i2 < rmS i := by
            have := (List.getElem?_eq_some_iff.1 hu).1
            rwa [rmMk_len i k hj0] at this
          have hcs := hEl.1
          rw [hk] at hcs r5
          have h6 : (cs ++ mks i (rmSp i))[xs.length * rmS i + (k * rmS i + i2)]? = some u := by
            rw [List.getElem?_append_right (by omega), hcs, Nat.add_sub_cancel_left, mks_get i _ k i2 hj0 hk' hi2]
            exact hu
          rw [← r5] at h6
          rw [List.getElem?_take] at h6
          split at h6
          · rw [show (xs.length + rmSp i - rmSp i + k) * rmS i + i2 = xs.length * rmS i + (k * rmS i + i2) by rw [Nat.add_sub_cancel, Nat.add_mul]; omega]
            simpa using h6
          · cases h6
    · rw [upd_other _ _ e] at hv
      exact hold v hv
  · by_cases e : i = j
    · subst e
      rw [upd_same, List.length_append, List.length_singleton]
      have := hR.few i hi
      omega
    · rw [upd_other _ _ e]
      have := hR.few i hi
      omega
  · by_cases e : i = j
    · subst e
      exact absurd h0 hj0
    · rw [upd_other _ _ e]; exact hR.un i hi h0
  · exact ((gr_set w2 R j v').os.trans (hgr.os.trans hb1.os)).trans hs.fm.os
  · exact ((gr_set w2 R j v').tape.trans (hgr.tape.trans hb1.tape)).trans hs.fm.tape
  · exact ((gr_set w2 R j v').output.trans (hgr.output.trans hb1.output)).trans hs.fm.output
  · refine (hkeep k (Nat.lt_of_lt_of_le hk hs.fm.size) h1 (fun e => ?_)).trans (hs.fm.block k hk h1 h2)
    rcases hs.ks j hj with e' | ⟨g', e', hg'⟩
    · exact h2 j hj (e'.symm.trans e)
    · rw [e'] at e
      have := Option.some.inj e
      omega
  · by_cases e : i = j
    · subst e
      rw [upd_same]
      rcases hat with h | h
      · rw [h]; exact hs.ks i hi
      · exact .inr ⟨_, h, Nat.le_trans hs.fm.size hsz1⟩
    · rw [upd_other _ _ e]; exact hs.ks i hi
  · by_cases e : i = j
    · subst e
      rw [upd_same] at hv
      rcases List.mem_append.1 hv with hv | hv
      · exact hs.vs i hi v hv
      · rw [List.mem_singleton.1 hv]
        exact .inr ⟨g, rfl, hgn⟩
    · rw [upd_other _ _ e] at hv
      exact hs.vs i hi v hv
  · refine .inr ⟨g, 0, cs, rfl, ⟨hgn, Nat.lt_of_lt_of_le hglt hsz, goff1, fun i hi => hup i hi g hglt (goff2 i hi)⟩, Nat.lt_of_lt_of_le hglt hsz, fun q hq => ?_, ?_⟩
    · rw [Nat.zero_add]
      have hc : (w2.setCell ⟨R, j, none⟩ v').cell? ⟨g, q, none⟩ = W.cell? ⟨g, q, none⟩ := World.cell?_of_block (hkeep g hglt goff1 (goff2 j hj))
      rw [hc, ho.cellAt q (by rw [hEl.1] at hq; have := Nat.mul_le_mul_right D.k (show xs.length ≤ xs.length + rmSp j by omega); omega), List.getElem?_append_left hq]
    · refine (hEl.fr hsz (fun b hb hlt => hkeep b hlt hb.2.2.1 (hb.2.2.2.1 j hj))).mo (fun b _ hb => ⟨hb.1, Nat.lt_of_lt_of_le hb.2.1 hsz, hb.2.2.1, fun i hi => hup i hi b hb.2.1 (hb.2.2.2.1 i hi)⟩)
/-- A new room. -/
theorem rm_new (W : World) (cs : Array Value) (hc : ∀ j, j < 21 → cs[j]? = some (.slice none 0 0)) : RmAt (W.alloc (.cells cs 55)) W.heap.size W.heap.size (fun _ => .slice none 0 0) (fun _ => []) 0 :=
  ⟨⟨cs, heap_alloc_new W _, hc⟩, fun _ _ => World.ownsRow_nil _ _ _ _, fun _ _ _ => rfl, Nat.le_refl _, fun _ _ v hv => (by cases hv), fun _ _ => Nat.le_refl _, fun _ _ _ => rfl⟩

end Go.Proofs.Ytjgkjdalnjlefaa


namespace Go.Proofs.Ytjgkjdalnjlefaa
open Go.RowKit

/-- Blocks that are new since n, and none of the room's. -/
def SnR (n R : Nat) (K : Nat → Value) (W : World) (b : Nat) : Prop := n ≤ b ∧ b < W.heap.size ∧ b ≠ R ∧ ∀ i, i < 21 → (K i).ownBlock ≠ some b
/-- What the copy of a list is. -/
def RmC {α : Type} (D : Elt α) (R lo : Nat) (K : Nat → Value) (V : Nat → List Value) (N' sp : Nat) (xs : List α) (W : World) (e : Ending) (W' : World) : Prop := ∃ g K' V', e = .returned (.slice (some ⟨g, 0, none⟩) xs.length (xs.length + sp)) ∧ RmAt W' R lo K' V' N' ∧ RmStep R K V K' V' W W' ∧ RowR D W' (SnR W.heap.size R K' W') xs (some ⟨g, 0, none⟩)
theorem infoTx : (Try.prog.info? 9).map (fun i => (i.zero, i.size, i.bytes)) = some (some (.string ⟨#[]⟩), 1, 16) := by kernel_rfl
theorem infoTx2 : (Try.prog.info? 103).map (fun i => (i.zero, i.size, i.bytes)) = some (some (.slice none 0 0), 1, 24) := by kernel_rfl
theorem own_lit2 {w : World} {base n size : Nat} {e : TypeId} {v : Value} {xs : List Value} (h : w.ownsRow base e size v n xs) (hn : 0 < n) : ∃ g cap, v = .slice (some ⟨g, 0, none⟩) n cap ∧ n ≤ cap := by
  obtain ⟨_, h | ⟨g, cap, cur, rfl, _, _, h2, _⟩⟩ := h
  · omega
  · exact ⟨g, cap, rfl, h2⟩
theorem own_shape {w : World} {base n size : Nat} {e : TypeId} {v : Value} {xs : List Value} (h : w.ownsRow base e size v n xs) : ∃ a cap, v = .slice a n cap := by
  obtain ⟨_, h | ⟨g, cap, cur, rfl, _⟩⟩ := h
  · exact ⟨none, 0, by rw [h.1, h.2]⟩
  · exact ⟨_, _, rfl⟩
/-- A copy begins. -/
theorem gm_start {α : Type} (D : Elt α) (T : TypeId) {W : World} {R lo N : Nat} {K : Nat → Value} {V : Nat → List Value} (hR : RmAt W R lo K V N) : GM D T W.heap.size R K V (W.alloc (.cells #[] T)) (.slice (some ⟨W.heap.size, 0, none⟩) 0 0) [] 0 [] := by
  refine ⟨⟨[], ?_, Elems.nil _ _ _⟩, fun j hj v hv g e e' => ?_⟩
  · exact World.ownsRow_lit (base := W.heap.size) (e := T) (size := D.k) W #[] 0 (Nat.le_refl _) (by unfold maxLen; omega) (by simp)
  · have e2 : W.heap.size = g := Option.some.inj e
    have := (hR.mks j hj v hv).lt e'
    omega
theorem bel_alloc (W : World) (o : Obj) : Below W.heap.size W (W.alloc o) := (Below.refl W.heap.size W).alloc (Nat.le_refl _) o
theorem gr_alloc (W : World) (o : Obj) : W.grownBy (W.alloc o) none := World.grownBy_alloc W o none

end Go.Proofs.Ytjgkjdalnjlefaa


namespace Go.Proofs.Ytjgkjdalnjlefaa
open Go.RowKit

theorem infoBands : (Try.prog.info? 77).map (fun i => (i.zero, i.size, i.bytes)) = some (some (.agg #[.int .i64 0, .int .i64 0]), 2, 16) := by kernel_rfl
theorem infoBands2 : (Try.prog.info? 73).map (fun i => (i.zero, i.size, i.bytes)) = some (some (.slice none 0 0), 1, 24) := by kernel_rfl
set_option maxRecDepth 100000 in
set_option maxHeartbeats 4000000 in
theorem bands_rm (R lo N : Nat) (K : Nat → Value) (V : Nat → List Value) (xs : List (Int × Int)) (a : Option Addr) (cap : Nat) (W : World) (hx : xs.length ≤ 1048576) (hN : N ≤ 1000000000) (hR : RmAt W R lo K V N) (hrow : RowR eBd W (fun b => b < lo) xs a) :
    Calls Try.prog 86 #[.pointer (some ⟨R, 0, none⟩), .slice a xs.length cap] W (RmC eBd R lo K V (N + 1) 40 xs W) := by
  obtain ⟨i0, hi, hz0, hz1, hz2⟩ := info_parts infoBands
  obtain ⟨j0, hj, hy0, hy1, hy2⟩ := info_parts infoBands2
  have hT : (77 : TypeId) ≠ 55 ∧ ∀ j, j < 21 → (77 : TypeId) ≠ rmT j := by decide
  have hst : ∃ k : Nat, k ≤ xs.length ∧ (Value.int .i64 0) = .int .i64 (k : Int) ∧ RmAt (W.alloc (.cells #[] 77)) R lo K V N ∧ RmStep R K V K V W (W.alloc (.cells #[] 77)) ∧ GM eBd 77 W.heap.size R K V (W.alloc (.cells #[] 77)) (.slice (some ⟨W.heap.size, 0, none⟩) 0 0) (xs.take k) 0 [] := ⟨0, Nat.zero_le _, rfl, hR.new (bel_alloc _ _), (RmStep.refl R K V W).after (gr_alloc _ _) (fun _ e => by cases e), gm_start eBd 77 hR⟩
  go_enter Try.func86, Try.ntmps86
  go_wp2
  go_loopw [5, 6] (fun v x wr => ∃ k : Nat, k ≤ xs.length ∧ x = .int .i64 (k : Int) ∧ RmAt wr R lo K V N ∧ RmStep R K V K V W wr ∧ GM eBd 77 W.heap.size R K V wr v (xs.take k) 0 []) (fun _ x _ => xs.length - (intOf x).toNat)
  case atStart => exact hst
  case round =>
    clear hst
    obtain ⟨k, hk, rfl, hRr, hs, hG⟩ := hrel
    by_cases hlt : k < xs.length
    · have hlt' : (k : Int) < (xs.length : Int) := by omega
      have hj0 : (0 : Int) ≤ (k : Int) := by omega
      obtain ⟨ga, oa, rfl⟩ : ∃ ga oa, a = some ⟨ga, oa, none⟩ := by
        rcases hrow with h0 | ⟨ga, oa, -, h1, -⟩
        · rw [h0] at hlt; simp at hlt
        · exact ⟨ga, oa, h1⟩
      obtain ⟨cx, hcl, hga, hE1, hcc⟩ := hrow.item hlt
      have htk : Hid (xs.take (k + 1) = xs.take k ++ [xs[k]]) := ⟨List.take_succ_eq_append_getElem hlt⟩
      have hyl : (xs.take k).length ≤ 1048576 := by rw [List.length_take]; omega
      have hc0 := (bel_cell (RmStep.below hR hs) hga (oa + k * 2 + 0)).trans (hcc 0 (by decide))
      have hc1 := (bel_cell (RmStep.below hR hs) hga (oa + k * 2 + 1)).trans (hcc 1 (by decide))
      generalize xs[k] = y at *
      generalize xs.take k = ys at *
      obtain ⟨rfl, hRg⟩ := hE1
      have hd0 : wr.cell? ⟨ga, oa + k * 2, none⟩ = some (.int .i64 (y.1)) := hc0
      have hd1 : wr.cell? ⟨ga, oa + k * 2 + 1, none⟩ = some (.int .i64 (y.2)) := hc1
      have hbA := bel_alloc wr (.cells #[.int .i64 (y.1), .int .i64 (y.2)] 77)
      have hRA := hRr.new hbA
      have hGA := hG.new hbA
      have hlv := fun (g : Nat) e => hG.lt (g := g) e
      obtain ⟨cs, ho, hE⟩ := hGA.ex
      simp only [List.append_nil, Nat.add_zero] at ho
      have hsz : W.heap.size ≤ (wr.alloc (.cells #[.int .i64 (y.1), .int .i64 (y.2)] 77)).heap.size := Nat.le_trans hs.fm.size hbA.size
      clear hcc hc0 hc1 hcl
      go_wp2_with (at_builtin; refine wpList_append_own_at (P := Try.prog) _ rfl _ _ 73 rfl W.heap.size 77 i0 _ 2 16 Try.underlying73 hi hz0 hz1 hz2 rfl (by decide) _ ys.length cs rfl ho ⟨wr.heap.size, 0, none⟩ 1 1 [.int .i64 (y.1), .int .i64 (y.2)] rfl rfl (lit_at wr _ _) (by simp [Value.oneCell']) (by unfold maxLen; omega) (by omega) hsz ?_; intro v' w2 hown' hgrow _h hat; clear _h)
      go_roundw
      case rel =>
        have hgm := GM.step (n1 := wr.heap.size) hRA hT ho hE hGA.vs (x := y) ⟨rfl, hRg⟩ hs.fm.size (fun g e => (hlv g e).2) hgrow hat hown'
        exact ⟨k + 1, by omega, by go_num, hgm.2, (hs.after (gr_alloc _ _) (fun _ e => by cases e)).after hgrow (fun g e => (hlv g e).1), by rw [htk.out]; exact hgm.1⟩
      case measure => simp [intOf]; omega
    · obtain rfl : k = xs.length := by omega
      rw [List.take_length] at hG
      clear hrow
      go_wp2
      go_loopw [5, 7] (fun v x wr => ∃ k : Nat, k ≤ 20 ∧ x = .int .i64 ((2 * k : Nat) : Int) ∧ RmAt wr R lo K V N ∧ RmStep R K V K V W wr ∧ GM eBd 77 W.heap.size R K V wr v xs (2 * k) (mks 6 (2 * k))) (fun _ x _ => (41 - intOf x).toNat)
      case atStart => exact ⟨0, by omega, rfl, hRr, hs, hG⟩
      case round =>
        clear hRr hs hG
        obtain ⟨k, hk, rfl, hRr, hs, hG⟩ := hrel
        by_cases hk2 : k < 20
        · have hkk : ((2 * k : Nat) : Int) < 40 := by omega
          have hbA := bel_alloc wr (.cells #[.int .i64 (-7701), .int .i64 (0), .int .i64 (-7702), .int .i64 (0)] 77)
          have hRA := hRr.new hbA
          have hGA := hG.new hbA
          have hlv := fun (g : Nat) e => hG.lt (g := g) e
          obtain ⟨cs, ho, hE⟩ := hGA.ex
          have hsz : W.heap.size ≤ (wr.alloc (.cells #[.int .i64 (-7701), .int .i64 (0), .int .i64 (-7702), .int .i64 (0)] 77)).heap.size := Nat.le_trans hs.fm.size hbA.size
          go_wp2_with (at_builtin; refine wpList_append_own_at (P := Try.prog) _ rfl _ _ 73 rfl W.heap.size 77 i0 _ 2 16 Try.underlying73 hi hz0 hz1 hz2 rfl (by decide) _ (xs.length + 2 * k) (cs ++ mks 6 (2 * k)) rfl ho ⟨wr.heap.size, 0, none⟩ 2 2 [.int .i64 (-7701), .int .i64 (0), .int .i64 (-7702), .int .i64 (0)] rfl rfl (lit_at wr _ _) (by simp [Value.oneCell']) (by unfold maxLen; omega) (by omega) hsz ?_; intro v' w2 hown' hgrow _h hat; clear _h)
          go_roundw
          case rel =>
            have hgm := GM.marks (k := 2) hRA hT ho hE hGA.vs hgrow hat hown'
            exact ⟨k + 1, by omega, by go_num, hgm.2, (hs.after (gr_alloc _ _) (fun _ e => by cases e)).after hgrow (fun g e => (hlv g e).1), by rw [show 2 * (k + 1) = 2 * k + 2 by omega, mks_two _ _ (by omega)]; exact hgm.1⟩
          case measure => simp [intOf]; omega
        · obtain rfl : k = 20 := by omega
          have hG : GM eBd 77 W.heap.size R K V wr _ xs 40 (mks 6 40) := hG
          obtain ⟨cs, ho, hE⟩ := hG.ex
          obtain ⟨g, capN, rfl, hcN⟩ := own_lit2 ho (by omega)
          obtain ⟨ka, kc, hK⟩ := own_shape (hRr.own 6 (by decide))
          have q1 := (hRr.cell (j := 6) (by decide)).1
          have hVl := hRr.few 6 (by decide)
          have hbA := bel_alloc wr (.cells #[.slice (some ⟨g, 0, none⟩) (xs.length + 40) capN] 73)
          have hRA := hRr.new hbA
          have hoA := hRA.own 6 (by decide)
          have hsz : lo ≤ (wr.alloc (.cells #[.slice (some ⟨g, 0, none⟩) (xs.length + 40) capN] 73)).heap.size := by have := hRA.lt; have := hRA.low; omega
          have hcl := fun v' w2 h1 h2 h3 => rm_close (D := eBd) (j := 6) (v' := v') (w2 := w2) (o := .cells #[.slice (some ⟨g, 0, none⟩) (xs.length + 40) capN] 73) (by decide) (by decide) rfl hx hRr hs hG h1 h2 h3
          rw [hK] at q1 hoA hcl
          have hclH := Hid.mk hcl
          have hN2 : (V 6).length ≤ 2000000000 := by omega
          have hle : ((xs.length : Nat) : Int) ≤ (xs.length : Int) + 40 := by omega
          have hle2 : (xs.length : Int) + 40 ≤ (capN : Int) := by omega
          have hle0 : (0 : Int) ≤ (xs.length : Int) := by omega
          clear hcl ho hE hG hVl hN hK hR
          go_wp2_with (at_builtin; refine wpList_append_own_at (P := Try.prog) _ rfl _ _ 39 rfl lo 73 j0 _ 1 24 Try.underlying39 hj hy0 hy1 hy2 rfl (by decide) _ (V 6).length (V 6) rfl hoA ⟨wr.heap.size, 0, none⟩ 1 1 [.slice (some ⟨g, 0, none⟩) (xs.length + 40) capN] rfl rfl (cell_one_new _ _ _) (by simp [Value.oneCell']) (by unfold maxLen; omega) (by omega) hsz ?_; intro v' w2 hown' hgrow _h hat; clear _h; obtain ⟨g2, cap2, rfl, -⟩ := own_lit2 hown' (by omega); obtain ⟨s1, s2, s3, s4, s5⟩ := hclH.out _ _ hown' hgrow hat; have s3 := Hid.mk s3; have s4 := Hid.mk s4; have s5 := Hid.mk s5; clear hgrow hat hown')
          go_ret
          exact ⟨g, _, _, rfl, s3.out, s4.out, s5.out⟩

end Go.Proofs.Ytjgkjdalnjlefaa


namespace Go.Proofs.Ytjgkjdalnjlefaa
open Go.RowKit

set_option maxRecDepth 100000 in
set_option maxHeartbeats 4000000 in
theorem texts_rm (R lo N : Nat) (K : Nat → Value) (V : Nat → List Value) (xs : List (List UInt8)) (a : Option Addr) (cap : Nat) (W : World) (hx : xs.length ≤ 1048576) (hN : N ≤ 1000000000) (hR : RmAt W R lo K V N) (hrow : RowR eS W (fun b => b < lo) xs a) :
    Calls Try.prog 85 #[.pointer (some ⟨R, 0, none⟩), .slice a xs.length cap] W (RmC eS R lo K V (N + 1) 40 xs W) := by
  obtain ⟨i0, hi, hz0, hz1, hz2⟩ := info_parts infoTx
  obtain ⟨j0, hj, hy0, hy1, hy2⟩ := info_parts infoTx2
  have hT : (9 : TypeId) ≠ 55 ∧ ∀ j, j < 21 → (9 : TypeId) ≠ rmT j := by decide
  have hst : ∃ k : Nat, k ≤ xs.length ∧ (Value.int .i64 0) = .int .i64 (k : Int) ∧ RmAt (W.alloc (.cells #[] 9)) R lo K V N ∧ RmStep R K V K V W (W.alloc (.cells #[] 9)) ∧ GM eS 9 W.heap.size R K V (W.alloc (.cells #[] 9)) (.slice (some ⟨W.heap.size, 0, none⟩) 0 0) (xs.take k) 0 [] := ⟨0, Nat.zero_le _, rfl, hR.new (bel_alloc _ _), (RmStep.refl R K V W).after (gr_alloc _ _) (fun _ e => by cases e), gm_start eS 9 hR⟩
  go_enter Try.func85, Try.ntmps85
  go_wp2
  go_loopw [5, 6] (fun v x wr => ∃ k : Nat, k ≤ xs.length ∧ x = .int .i64 (k : Int) ∧ RmAt wr R lo K V N ∧ RmStep R K V K V W wr ∧ GM eS 9 W.heap.size R K V wr v (xs.take k) 0 []) (fun _ x _ => xs.length - (intOf x).toNat)
  case atStart => exact hst
  case round =>
    clear hst
    obtain ⟨k, hk, rfl, hRr, hs, hG⟩ := hrel
    by_cases hlt : k < xs.length
    · have hlt' : (k : Int) < (xs.length : Int) := by omega
      have hj0 : (0 : Int) ≤ (k : Int) := by omega
      obtain ⟨ga, oa, rfl⟩ : ∃ ga oa, a = some ⟨ga, oa, none⟩ := by
        rcases hrow with h0 | ⟨ga, oa, -, h1, -⟩
        · rw [h0] at hlt; simp at hlt
        · exact ⟨ga, oa, h1⟩
      obtain ⟨cx, hcl, hga, hE1, hcc⟩ := hrow.item hlt
      have htk : Hid (xs.take (k + 1) = xs.take k ++ [xs[k]]) := ⟨List.take_succ_eq_append_getElem hlt⟩
      have hyl : (xs.take k).length ≤ 1048576 := by rw [List.length_take]; omega
      have hc0 := (bel_cell (RmStep.below hR hs) hga (oa + k * 1 + 0)).trans (hcc 0 (by decide))
      generalize xs[k] = y at *
      generalize xs.take k = ys at *
      rw [show cx = [.string ⟨y.toArray⟩] from hE1] at hc0
      have hc1 : wr.cell? ⟨ga, oa + k, none⟩ = some (.string ⟨y.toArray⟩) := by simpa using hc0
      have hbA := bel_alloc wr (.cells #[.string ⟨y.toArray⟩] 9)
      have hRA := hRr.new hbA
      have hGA := hG.new hbA
      have hlv := fun (g : Nat) e => hG.lt (g := g) e
      obtain ⟨cs, ho, hE⟩ := hGA.ex
      simp only [List.append_nil, Nat.add_zero] at ho
      have hsz : W.heap.size ≤ (wr.alloc (.cells #[.string ⟨y.toArray⟩] 9)).heap.size := Nat.le_trans hs.fm.size hbA.size
      clear hcc hc0 hE1 hcl
      go_wp2_with (at_builtin; refine wpList_append_own_at (P := Try.prog) _ rfl _ _ 103 rfl W.heap.size 9 i0 _ 1 16 Try.underlying103 hi hz0 hz1 hz2 rfl (by decide) _ ys.length cs rfl ho ⟨wr.heap.size, 0, none⟩ 1 1 [.string ⟨y.toArray⟩] rfl rfl (cell_one_new _ _ _) (by simp [Value.oneCell']) (by unfold maxLen; omega) (by omega) hsz ?_; intro v' w2 hown' hgrow _h hat; clear _h)
      go_roundw
      case rel =>
        have hgm := GM.step (n1 := wr.heap.size) hRA hT ho hE hGA.vs (x := y) rfl hs.fm.size (fun g e => (hlv g e).2) hgrow hat hown'
        exact ⟨k + 1, by omega, by go_num, hgm.2, (hs.after (gr_alloc _ _) (fun _ e => by cases e)).after hgrow (fun g e => (hlv g e).1), by rw [htk.out]; exact hgm.1⟩
      case measure => simp [intOf]; omega
    · obtain rfl : k = xs.length := by omega
      rw [List.take_length] at hG
      clear hrow
      go_wp2
      go_loopw [5, 7] (fun v x wr => ∃ k : Nat, k ≤ 20 ∧ x = .int .i64 ((2 * k : Nat) : Int) ∧ RmAt wr R lo K V N ∧ RmStep R K V K V W wr ∧ GM eS 9 W.heap.size R K V wr v xs (2 * k) (mks 4 (2 * k))) (fun _ x _ => (41 - intOf x).toNat)
      case atStart => exact ⟨0, by omega, rfl, hRr, hs, hG⟩
      case round =>
        clear hRr hs hG
        obtain ⟨k, hk, rfl, hRr, hs, hG⟩ := hrel
        by_cases hk2 : k < 20
        · have hkk : ((2 * k : Nat) : Int) < 40 := by omega
          have hbA := bel_alloc wr (.cells #[.string ⟨#[60, 111, 110, 101, 62]⟩, .string ⟨#[60, 116, 119, 111, 62]⟩] 9)
          have hRA := hRr.new hbA
          have hGA := hG.new hbA
          have hlv := fun (g : Nat) e => hG.lt (g := g) e
          obtain ⟨cs, ho, hE⟩ := hGA.ex
          have hsz : W.heap.size ≤ (wr.alloc (.cells #[.string ⟨#[60, 111, 110, 101, 62]⟩, .string ⟨#[60, 116, 119, 111, 62]⟩] 9)).heap.size := Nat.le_trans hs.fm.size hbA.size
          go_wp2_with (at_builtin; refine wpList_append_own_at (P := Try.prog) _ rfl _ _ 103 rfl W.heap.size 9 i0 _ 1 16 Try.underlying103 hi hz0 hz1 hz2 rfl (by decide) _ (xs.length + 2 * k) (cs ++ mks 4 (2 * k)) rfl ho ⟨wr.heap.size, 0, none⟩ 2 2 [.string ⟨#[60, 111, 110, 101, 62]⟩, .string ⟨#[60, 116, 119, 111, 62]⟩] rfl rfl (lit_at wr _ _) (by simp [Value.oneCell']) (by unfold maxLen; omega) (by omega) hsz ?_; intro v' w2 hown' hgrow _h hat; clear _h)
          go_roundw
          case rel =>
            have hgm := GM.marks (k := 2) hRA hT ho hE hGA.vs hgrow hat hown'
            exact ⟨k + 1, by omega, by go_num, hgm.2, (hs.after (gr_alloc _ _) (fun _ e => by cases e)).after hgrow (fun g e => (hlv g e).1), by rw [show 2 * (k + 1) = 2 * k + 2 by omega, mks_two _ _ (by omega)]; exact hgm.1⟩
          case measure => simp [intOf]; omega
        · obtain rfl : k = 20 := by omega
          have hG : GM eS 9 W.heap.size R K V wr _ xs 40 (mks 4 40) := hG
          obtain ⟨cs, ho, hE⟩ := hG.ex
          obtain ⟨g, capN, rfl, hcN⟩ := own_lit2 ho (by omega)
          obtain ⟨ka, kc, hK⟩ := own_shape (hRr.own 4 (by decide))
          have q1 := (hRr.cell (j := 4) (by decide)).1
          have hVl := hRr.few 4 (by decide)
          have hbA := bel_alloc wr (.cells #[.slice (some ⟨g, 0, none⟩) (xs.length + 40) capN] 103)
          have hRA := hRr.new hbA
          have hoA := hRA.own 4 (by decide)
          have hsz : lo ≤ (wr.alloc (.cells #[.slice (some ⟨g, 0, none⟩) (xs.length + 40) capN] 103)).heap.size := by have := hRA.lt; have := hRA.low; omega
          have hcl := fun v' w2 h1 h2 h3 => rm_close (D := eS) (j := 4) (v' := v') (w2 := w2) (o := .cells #[.slice (some ⟨g, 0, none⟩) (xs.length + 40) capN] 103) (by decide) (by decide) rfl hx hRr hs hG h1 h2 h3
          rw [hK] at q1 hoA hcl
          have hclH := Hid.mk hcl
          have hN2 : (V 4).length ≤ 1000000000 := by omega
          have hle : ((xs.length : Nat) : Int) ≤ (xs.length : Int) + 40 := by omega
          have hle2 : (xs.length : Int) + 40 ≤ (capN : Int) := by omega
          have hle0 : (0 : Int) ≤ (xs.length : Int) := by omega
          clear hcl ho hE hG hVl hN hK hR
          go_wp2_with (at_builtin; refine wpList_append_own_at (P := Try.prog) _ rfl _ _ 37 rfl lo 103 j0 _ 1 24 Try.underlying37 hj hy0 hy1 hy2 rfl (by decide) _ (V 4).length (V 4) rfl hoA ⟨wr.heap.size, 0, none⟩ 1 1 [.slice (some ⟨g, 0, none⟩) (xs.length + 40) capN] rfl rfl (cell_one_new _ _ _) (by simp [Value.oneCell']) (by unfold maxLen; omega) (by omega) hsz ?_; intro v' w2 hown' hgrow _h hat; clear _h; obtain ⟨g2, cap2, rfl, -⟩ := own_lit2 hown' (by omega); obtain ⟨s1, s2, s3, s4, s5⟩ := hclH.out _ _ hown' hgrow hat; have s3 := Hid.mk s3; have s4 := Hid.mk s4; have s5 := Hid.mk s5; clear hgrow hat hown')
          go_ret
          exact ⟨g, _, _, rfl, s3.out, s4.out, s5.out⟩

end Go.Proofs.Ytjgkjdalnjlefaa


namespace Go.Proofs.Ytjgkjdalnjlefaa
open Go.RowKit

/-- How many lists of expressions a copy makes. -/
def cNf : Fo → Nat
  | .nil => 0
  | .cons _ _ _ _ args rest => 1 + cNf args + cNf rest
def cL (xs : List Ex) : Nat := (xs.map fun x => 1 + cNf x.args).sum
theorem cL_snoc (xs : List Ex) (x : Ex) : cL (xs ++ [x]) = cL xs + (1 + cNf x.args) := by simp [cL]
theorem cL_toL : ∀ f : Fo, cL (toL f) = cNf f
  | .nil => rfl
  | .cons a b c d x r => by
    have := cL_toL r
    unfold cL at this
    show (1 + cNf x) + ((toL r).map fun x => 1 + cNf x.args).sum = 1 + cNf x + cNf r
    rw [this]
theorem cL_len : ∀ xs : List Ex, xs.length ≤ cL xs
  | [] => Nat.le_refl _
  | x :: xs => by
    have := cL_len xs
    unfold cL at *
    simp
    omega
theorem cL_mem : ∀ (xs : List Ex) (x : Ex), x ∈ xs → cNf x.args + 1 ≤ cL xs
  | y :: xs, x, h => by
    rcases List.mem_cons.1 h with rfl | h
    · unfold cL; simp; omega
    · have := cL_mem xs x h
      unfold cL at *
      simp
      omega
theorem cL_take (xs : List Ex) (k : Nat) : cL (xs.take k) ≤ cL xs := by
  conv => rhs; rw [← List.take_append_drop k xs]
  unfold cL
  rw [List.map_append, List.sum_append]
  omega
/-- What the copy of an expression is. -/
def RmX (R lo : Nat) (K : Nat → Value) (V : Nat → List Value) (N' : Nat) (x : Ex) (W : World) (e : Ending) (W' : World) : Prop := ∃ g K' V', e = .returned (.agg #[.int .i64 x.op, .int .i64 x.num, .int .i64 x.den, .int .i64 x.mode, .slice (some ⟨g, 0, none⟩) x.args.len (x.args.len + 8)]) ∧ RmAt W' R lo K' V' N' ∧ RmStep R K V K' V' W W' ∧ FoAt W' (SnR W.heap.size R K' W') x.args (some ⟨g, 0, none⟩)
/-- A block that was made ahead of a step of the room is none of its. -/
theorem rm_box_off {W X W3 : World} {R lo N : Nat} {K K' : Nat → Value} {V V' : Nat → List Value} {b : Nat} (hR : RmAt W R lo K V N) (hs : RmStep R K V K' V' X W3) (h1 : W.heap.size ≤ b) (h2 : b < X.heap.size) : b ≠ R ∧ (∀ j, j < 21 → (K' j).ownBlock ≠ some b) ∧ (∀ j, j < 21 → ∀ v ∈ V' j, v.ownBlock ≠ some b) ∧ ∀ j, j < 21 → (K j).ownBlock ≠ some b := by
  have hK : ∀ j, j < 21 → (K j).ownBlock ≠ some b := fun j hj e => by have := ((hR.own j hj).lt b e).2; omega
  refine ⟨by have := hR.lt; omega, fun j hj e => ?_, fun j hj v hv e => ?_, hK⟩
  · rcases hs.ks j hj with e' | ⟨g, e', hg⟩
    · exact hK j hj (e'.symm.trans e)
    · rw [e'] at e
      have := Option.some.inj e
      omega
  · rcases hs.vs j hj v hv with e' | ⟨g, e', hg⟩
    · have := (hR.mks j hj v e').lt e
      omega
    · rw [e'] at e
      have := Option.some.inj e
      omega
theorem rm_set {W : World} {R lo N : Nat} {K : Nat → Value} {V : Nat → List Value} {b : Nat} (hR : RmAt W R lo K V N) (h : b ≠ R ∧ (∀ j, j < 21 → (K j).ownBlock ≠ some b) ∧ ∀ j, j < 21 → ∀ v ∈ V j, v.ownBlock ≠ some b) (i : Nat) (u : Value) : RmAt (W.setCell ⟨b, i, none⟩ u) R lo K V N :=
  hR.other (gr_set W b i u) (fun e => h.1 (Option.some.inj e)) (fun j hj g e e' => by rw [Option.some.inj e] at h; exact h.2.1 j hj e') (fun j hj v hv g e e' => by rw [Option.some.inj e] at h; exact h.2.2 j hj v hv e')
/-- A room with what was copied (C, of blocks of S), while boxes are filled. -/
structure RmZ (R lo N : Nat) (K : Nat → Value) (V : Nat → List Value) (K' : Nat → Value) (V' : Nat → List Value) (W : World) (C : World → Prop) (Z : World) : Prop where
  at_ : RmAt Z R lo K' V' N
  st : RmStep R K V K' V' W Z
  c : C Z
def Frm (S : Nat → Prop) (C : World → Prop) : Prop := ∀ Z Z' : World, C Z → Z.heap.size ≤ Z'.heap.size → (∀ b, S b → b < Z.heap.size → Z'.heap[b]? = Z.heap[b]?) → C Z'
theorem RmZ.set {R lo N : Nat} {K : Nat → Value} {V : Nat → List Value} {K' : Nat → Value} {V' : Nat → List Value} {W : World} {S : Nat → Prop} {C : World → Prop} {Z : World} (h : RmZ R lo N K V K' V' W C Z) (hC : Frm S C) {b : Nat} (hb : W.heap.size ≤ b) (hS : ¬ S b) (hO : b ≠ R ∧ (∀ j, j < 21 → (K' j).ownBlock ≠ some b) ∧ ∀ j, j < 21 → ∀ v ∈ V' j, v.ownBlock ≠ some b) (i : Nat) (u : Value) : RmZ R lo N K V K' V' W C (Z.setCell ⟨b, i, none⟩ u) :=
  ⟨rm_set h.at_ hO i u, h.st.after (gr_set Z b i u) (fun k e => by rw [← Option.some.inj e]; exact hb), hC _ _ h.c (gr_set Z b i u).size (fun k hk hlt => (gr_set Z b i u).block k hlt (fun e => hS (by rw [← Option.some.inj e]; exact hk)))⟩
theorem bel_cells {W W' : World} {n : Nat} (h : Below n W W') {b : Nat} (hb : b < n) {o : Obj} (hr : W.heap[b]? = some o) : W'.heap[b]? = some o := (h.block b hb).trans hr

set_option maxRecDepth 4000 in
set_option maxHeartbeats 4000000 in
theorem expr_of (R lo N N' : Nat) (K : Nat → Value) (V : Nat → List Value) (x : Ex) (a : Option Addr) (cap : Nat) (W : World) (hR : RmAt W R lo K V N)
    (hEx : ∀ X, RmAt X R lo K V N → Below W.heap.size W X → Calls Try.prog 116 #[.pointer (some ⟨R, 0, none⟩), .slice a (toL x.args).length cap] X (RmC eE R lo K V N' 8 (toL x.args) X)) :
    Calls Try.prog 88 #[.pointer (some ⟨R, 0, none⟩), .agg #[.int .i64 x.op, .int .i64 x.num, .int .i64 x.den, .int .i64 x.mode, .slice a x.args.len cap]] W (RmX R lo K V N' x W) := by
  obtain ⟨A, hA⟩ : ∃ A, A = Obj.cells #[.int .i64 x.op, .int .i64 x.num, .int .i64 x.den, .int .i64 x.mode, .slice a x.args.len cap] 83 := ⟨_, rfl⟩
  obtain ⟨B, hB⟩ : ∃ B, B = Obj.cells #[.int .i64 0, .int .i64 0, .int .i64 0, .int .i64 0, .slice none 0 0] 83 := ⟨_, rfl⟩
  have hb1 := bel_alloc W A
  have hb2 := bel_alloc (W.alloc A) B
  have hs1 : (W.alloc A).heap.size = W.heap.size + 1 := by simp
  have hs2 : ((W.alloc A).alloc B).heap.size = W.heap.size + 1 + 1 := by simp
  obtain ⟨X, hX⟩ : ∃ X, X = (W.alloc A).alloc B := ⟨_, rfl⟩
  have hr0 : X.heap[W.heap.size]? = some A := by rw [hX]; exact bel_cells hb2 (by omega) (heap_alloc_new W A)
  have hr1 : X.heap[W.heap.size + 1]? = some B := by rw [hX, ← hs1]; exact heap_alloc_new (W.alloc A) B
  have hWX : Below W.heap.size W X := by rw [hX]; exact hb1.trans (hb2.mono hb1.size)
  have hXs : X.heap.size = W.heap.size + 1 + 1 := by rw [hX]; exact hs2
  have hRX := hR.new hWX
  have hex := hEx X hRX hWX
  have hsX : RmStep R K V K V W X := (RmStep.refl R K V W).after (r := none) ⟨hWX.os, hWX.tape, hWX.output, hWX.size, fun k hk _ => hWX.block k hk⟩ (fun _ e => by cases e)
  have hc4 : X.cell? ⟨W.heap.size, 4, none⟩ = some (.slice a x.args.len cap) := by rw [hA] at hr0; exact cell_of_row _ _ 4 _ _ _ hr0
  rw [toL_len] at hex
  have hXe : (W.alloc (.cells #[.int .i64 x.op, .int .i64 x.num, .int .i64 x.den, .int .i64 x.mode, .slice a x.args.len cap] 83)).alloc (.cells #[.int .i64 0, .int .i64 0, .int .i64 0, .int .i64 0, .slice none 0 0] 83) = X := by rw [hX, hA, hB]
  rw [hA] at hr0
  rw [hB] at hr1
  have hRH := Hid.mk hR
  have hXsH := Hid.mk hXs
  have hsXH := Hid.mk hsX
  clear hEx hX hA hB hb1 hb2 hs1 hs2 hR hRX hXs hsX
  go_enter Try.func88, Try.ntmps88
  go_wp2_with (go_at_call 116; fail)
  clear hXe
  refine hex.mono ?_
  rintro e w3 ⟨g, K', V', rfl, hR3, hs3, hrow⟩
  rw [toL_len]
  have hF := fo_of_row hrow
  rw [ofL_toL] at hF
  have hXs := hXsH.out
  obtain ⟨o0, o1, o2, o3⟩ := rm_box_off (b := W.heap.size) hRH.out hs3 (Nat.le_refl _) (by omega)
  obtain ⟨p0, p1, p2, p3⟩ := rm_box_off (b := W.heap.size + 1) hRH.out hs3 (by omega) (by omega)
  have t0 := (hs3.fm.block _ (by omega) o0 o3).trans hr0
  have t1 := (hs3.fm.block _ (by omega) p0 p3).trans hr1
  have hW3 := hs3.fm.size
  have hS0 : ¬ SnR X.heap.size R K' w3 W.heap.size := fun h => by have := h.1; omega
  have hS1 : ¬ SnR X.heap.size R K' w3 (W.heap.size + 1) := fun h => by have := h.1; omega
  have hFr : Frm (SnR X.heap.size R K' w3) (fun Z => FoAt Z (SnR X.heap.size R K' w3) x.args (some ⟨g, 0, none⟩) ∧ w3.heap.size ≤ Z.heap.size) := fun Z Z' h hs hb => ⟨FoAt.fr hs hb _ _ h.1, Nat.le_trans h.2 hs⟩
  have hZ : RmZ R lo N' K V K' V' W (fun Z => FoAt Z (SnR X.heap.size R K' w3) x.args (some ⟨g, 0, none⟩) ∧ w3.heap.size ≤ Z.heap.size) w3 := ⟨hR3, hsXH.out.trans hs3, hF, Nat.le_refl _⟩
  have hY0 := hZ.set hFr (b := W.heap.size) (Nat.le_refl _) hS0 ⟨o0, o1, o2⟩ 4 (.slice (some ⟨g, 0, none⟩) x.args.len (x.args.len + 8))
  have u0 := heap_setCell_same w3 W.heap.size 4 _ _ (.slice (some ⟨g, 0, none⟩) x.args.len (x.args.len + 8)) t0
  have u1 := ((gr_set w3 W.heap.size 4 (.slice (some ⟨g, 0, none⟩) x.args.len (x.args.len + 8))).block (W.heap.size + 1) (by omega) (fun e => by have := Option.some.inj e; omega)).trans t1
  have q4 : w3.cell? ⟨W.heap.size, 4, none⟩ = some (.slice a x.args.len cap) := cell_of_row _ _ 4 _ _ _ t0
  have f4 := frozen_of_row _ _ 4 _ _ t0
  obtain ⟨Y, hY⟩ : ∃ Y, w3.setCell ⟨W.heap.size, 4, none⟩ (.slice (some ⟨g, 0, none⟩) x.args.len (x.args.len + 8)) = Y := ⟨_, rfl⟩
  rw [hY] at u0 hY0 u1
  have y0 : Y.cell? ⟨W.heap.size, 0, none⟩ = some (.int .i64 x.op) := cell_of_row _ _ 0 _ _ _ u0
  have y1 : Y.cell? ⟨W.heap.size, 1, none⟩ = some (.int .i64 x.num) := cell_of_row _ _ 1 _ _ _ u0
  have y2 : Y.cell? ⟨W.heap.size, 2, none⟩ = some (.int .i64 x.den) := cell_of_row _ _ 2 _ _ _ u0
  have y3 : Y.cell? ⟨W.heap.size, 3, none⟩ = some (.int .i64 x.mode) := cell_of_row _ _ 3 _ _ _ u0
  have y4 : Y.cell? ⟨W.heap.size, 4, none⟩ = some (.slice (some ⟨g, 0, none⟩) x.args.len (x.args.len + 8)) := cell_of_row _ _ 4 _ _ _ u0
  have z0 : Y.cell? ⟨W.heap.size + 1, 0, none⟩ = some (.int .i64 0) := cell_of_row _ _ 0 _ _ _ u1
  have z1 : Y.cell? ⟨W.heap.size + 1, 1, none⟩ = some (.int .i64 0) := cell_of_row _ _ 1 _ _ _ u1
  have z2 : Y.cell? ⟨W.heap.size + 1, 2, none⟩ = some (.int .i64 0) := cell_of_row _ _ 2 _ _ _ u1
  have z3 : Y.cell? ⟨W.heap.size + 1, 3, none⟩ = some (.int .i64 0) := cell_of_row _ _ 3 _ _ _ u1
  have z4 : Y.cell? ⟨W.heap.size + 1, 4, none⟩ = some (.slice none 0 0) := cell_of_row _ _ 4 _ _ _ u1
  have k0 := frozen_of_row _ _ 0 _ _ u1
  have k1 := frozen_of_row _ _ 1 _ _ u1
  have k2 := frozen_of_row _ _ 2 _ _ u1
  have k3 := frozen_of_row _ _ 3 _ _ u1
  have k4 := frozen_of_row _ _ 4 _ _ u1
  have hp : (W.heap.size + 1) ≠ R ∧ (∀ j, j < 21 → (K' j).ownBlock ≠ some (W.heap.size + 1)) ∧ ∀ j, j < 21 → ∀ v ∈ V' j, v.ownBlock ≠ some (W.heap.size + 1) := ⟨p0, p1, p2⟩
  have hZ5 := Hid.mk (((((hY0.set hFr (b := W.heap.size + 1) (by omega) hS1 hp 0 (.int .i64 x.op)).set hFr (b := W.heap.size + 1) (by omega) hS1 hp 1 (.int .i64 x.num)).set hFr (b := W.heap.size + 1) (by omega) hS1 hp 2 (.int .i64 x.den)).set hFr (b := W.heap.size + 1) (by omega) hS1 hp 3 (.int .i64 x.mode)).set hFr (b := W.heap.size + 1) (by omega) hS1 hp 4 (.slice (some ⟨g, 0, none⟩) x.args.len (x.args.len + 8)))
  have v1 := heap_setCell_same Y (W.heap.size + 1) 0 _ _ (.int .i64 x.op) u1
  have v2 := heap_setCell_same _ (W.heap.size + 1) 1 _ _ (.int .i64 x.num) v1
  have v3 := heap_setCell_same _ (W.heap.size + 1) 2 _ _ (.int .i64 x.den) v2
  have v4 := heap_setCell_same _ (W.heap.size + 1) 3 _ _ (.int .i64 x.mode) v3
  have v5 := Hid.mk (heap_setCell_same _ (W.heap.size + 1) 4 _ _ (.slice (some ⟨g, 0, none⟩) x.args.len (x.args.len + 8)) v4)
  have hne : W.heap.size + 1 ≠ W.heap.size := by omega
  clear v1 v2 v3 v4 u0 u1 t0 t1 hr0 hr1 hZ hY0 hFr hS0 hS1 hp o0 o1 o2 o3 p0 p1 p2 p3 hrow hF hR3 hex hWX hXs hW3
  go_wp2
  have d5 := v5.out
  have hZ := hZ5.out
  clear v5 hZ5
  generalize ((((Y.setCell ⟨W.heap.size + 1, 0, none⟩ (.int .i64 x.op)).setCell ⟨W.heap.size + 1, 1, none⟩ (.int .i64 x.num)).setCell ⟨W.heap.size + 1, 2, none⟩ (.int .i64 x.den)).setCell ⟨W.heap.size + 1, 3, none⟩ (.int .i64 x.mode)).setCell ⟨W.heap.size + 1, 4, none⟩ (.slice (some ⟨g, 0, none⟩) x.args.len (x.args.len + 8)) = Z at *
  have d0 : Z.cell? ⟨W.heap.size + 1, 0, none⟩ = some (.int .i64 x.op) := cell_of_row _ _ 0 _ _ _ d5
  have d1 : Z.cell? ⟨W.heap.size + 1, 1, none⟩ = some (.int .i64 x.num) := cell_of_row _ _ 1 _ _ _ d5
  have d2 : Z.cell? ⟨W.heap.size + 1, 2, none⟩ = some (.int .i64 x.den) := cell_of_row _ _ 2 _ _ _ d5
  have d3 : Z.cell? ⟨W.heap.size + 1, 3, none⟩ = some (.int .i64 x.mode) := cell_of_row _ _ 3 _ _ _ d5
  have d4 : Z.cell? ⟨W.heap.size + 1, 4, none⟩ = some (.slice (some ⟨g, 0, none⟩) x.args.len (x.args.len + 8)) := cell_of_row _ _ 4 _ _ _ d5
  refine bodyPost_ret (v := .agg #[.int .i64 x.op, .int .i64 x.num, .int .i64 x.den, .int .i64 x.mode, .slice (some ⟨g, 0, none⟩) x.args.len (x.args.len + 8)]) ?_ rfl ⟨g, K', V', rfl, hZ.at_, hZ.st, FoAt.mo (fun b _ hb => ⟨by have := hb.1; have := hXsH.out; omega, Nat.lt_of_lt_of_le hb.2.1 hZ.c.2, hb.2.2⟩) _ _ hZ.c.1⟩
  simp [results, Try.results88, go_sem, d0, d1, d2, d3, d4]

end Go.Proofs.Ytjgkjdalnjlefaa


namespace Go.Proofs.Ytjgkjdalnjlefaa
open Go.RowKit

theorem infoExprs : (Try.prog.info? 83).map (fun i => (i.zero, i.size, i.bytes)) = some (some (.agg #[.int .i64 0, .int .i64 0, .int .i64 0, .int .i64 0, .slice none 0 0]), 5, 56) := by kernel_rfl
theorem infoExprs2 : (Try.prog.info? 81).map (fun i => (i.zero, i.size, i.bytes)) = some (some (.slice none 0 0), 1, 24) := by kernel_rfl
set_option maxRecDepth 100000 in
set_option maxHeartbeats 4000000 in
theorem exprs_rm_s (xs : List Ex) (ih : ∀ ys : List Ex, cL ys < cL xs → ∀ (R lo N : Nat) (K : Nat → Value) (V : Nat → List Value) (a : Option Addr) (cap : Nat) (W : World), cL ys ≤ 1048576 → N + cL ys ≤ 1000000000 → RmAt W R lo K V N → RowR eE W (fun b => b < lo) ys a → Calls Try.prog 116 #[.pointer (some ⟨R, 0, none⟩), .slice a ys.length cap] W (RmC eE R lo K V (N + cL ys + 1) 8 ys W)) (R lo N : Nat) (K : Nat → Value) (V : Nat → List Value) (a : Option Addr) (cap : Nat) (W : World) (hxc : cL xs ≤ 1048576) (hN : N + cL xs ≤ 1000000000) (hR : RmAt W R lo K V N) (hrow : RowR eE W (fun b => b < lo) xs a) :
    Calls Try.prog 116 #[.pointer (some ⟨R, 0, none⟩), .slice a xs.length cap] W (RmC eE R lo K V (N + cL xs + 1) 8 xs W) := by
  have hx : xs.length ≤ 1048576 := Nat.le_trans (cL_len xs) hxc
  obtain ⟨i0, hi, hz0, hz1, hz2⟩ := info_parts infoExprs
  obtain ⟨j0, hj, hy0, hy1, hy2⟩ := info_parts infoExprs2
  have hT : (83 : TypeId) ≠ 55 ∧ ∀ j, j < 21 → (83 : TypeId) ≠ rmT j := by decide
  have hst : ∃ (k : Nat) (K1 : Nat → Value) (V1 : Nat → List Value), k ≤ xs.length ∧ (Value.int .i64 0) = .int .i64 (k : Int) ∧ RmAt (W.alloc (.cells #[] 83)) R lo K1 V1 (N + cL (xs.take k)) ∧ RmStep R K V K1 V1 W (W.alloc (.cells #[] 83)) ∧ GM eE 83 W.heap.size R K1 V1 (W.alloc (.cells #[] 83)) (.slice (some ⟨W.heap.size, 0, none⟩) 0 0) (xs.take k) 0 [] := ⟨0, K, V, Nat.zero_le _, rfl, hR.new (bel_alloc _ _), (RmStep.refl R K V W).after (gr_alloc _ _) (fun _ e => by cases e), gm_start eE 83 hR⟩
  go_enter Try.func116, Try.ntmps116
  go_wp2
  go_loopw [5, 6] (fun v x wr => ∃ (k : Nat) (K1 : Nat → Value) (V1 : Nat → List Value), k ≤ xs.length ∧ x = .int .i64 (k : Int) ∧ RmAt wr R lo K1 V1 (N + cL (xs.take k)) ∧ RmStep R K V K1 V1 W wr ∧ GM eE 83 W.heap.size R K1 V1 wr v (xs.take k) 0 []) (fun _ x _ => xs.length - (intOf x).toNat)
  case atStart => exact hst
  case round =>
    clear hst
    obtain ⟨k, K1, V1, hk, rfl, hRr, hs, hG⟩ := hrel
    by_cases hlt : k < xs.length
    · have hlt' : (k : Int) < (xs.length : Int) := by omega
      have hj0 : (0 : Int) ≤ (k : Int) := by omega
      obtain ⟨ga, oa, rfl⟩ : ∃ ga oa, a = some ⟨ga, oa, none⟩ := by
        rcases hrow with h0 | ⟨ga, oa, -, h1, -⟩
        · rw [h0] at hlt; simp at hlt
        · exact ⟨ga, oa, h1⟩
      obtain ⟨cx, hcl, hga, hE1, hcc⟩ := hrow.item hlt
      have htk : Hid (xs.take (k + 1) = xs.take k ++ [xs[k]]) := ⟨List.take_succ_eq_append_getElem hlt⟩
      have hyl : (xs.take k).length ≤ 1048576 := by rw [List.length_take]; omega
      have hwt : cL (xs.take (k + 1)) ≤ cL xs := cL_take xs (k + 1)
      rw [htk.out, cL_snoc] at hwt
      have hym : xs[k] ∈ xs := List.getElem_mem hlt
      have hBl : Below lo W wr := RmStep.below hR hs
      have hc0 := (bel_cell hBl hga (oa + k * 5 + 0)).trans (hcc 0 (by decide))
      have hc1 := (bel_cell hBl hga (oa + k * 5 + 1)).trans (hcc 1 (by decide))
      have hc2 := (bel_cell hBl hga (oa + k * 5 + 2)).trans (hcc 2 (by decide))
      have hc3 := (bel_cell hBl hga (oa + k * 5 + 3)).trans (hcc 3 (by decide))
      have hc4 := (bel_cell hBl hga (oa + k * 5 + 4)).trans (hcc 4 (by decide))
      generalize xs[k] = y at *
      generalize xs.take k = ys at *
      obtain ⟨a1, c1, rfl, hRg, hFo⟩ := hE1
      have hd0 : wr.cell? ⟨ga, oa + k * 5, none⟩ = some (.int .i64 (y.op)) := hc0
      have hd1 : wr.cell? ⟨ga, oa + k * 5 + 1, none⟩ = some (.int .i64 (y.num)) := hc1
      have hd2 : wr.cell? ⟨ga, oa + k * 5 + 2, none⟩ = some (.int .i64 (y.den)) := hc2
      have hd3 : wr.cell? ⟨ga, oa + k * 5 + 3, none⟩ = some (.int .i64 (y.mode)) := hc3
      have hd4 : wr.cell? ⟨ga, oa + k * 5 + 4, none⟩ = some (.slice a1 y.args.len c1) := hc4
      have hFr : FoAt wr (fun b => b < lo) y.args a1 := FoAt.fr hBl.size (fun b hb _ => hBl.block b hb) _ _ hFo
      have hle : lo ≤ wr.heap.size := by have := hRr.lt; have := hRr.low; omega
      have hcm := cL_mem xs y hym
      have hcall := expr_of R lo (N + cL ys) (N + cL ys + cL (toL y.args) + 1) K1 V1 y a1 c1 wr hRr (fun X hRX hbX => ih (toL y.args) (by rw [cL_toL]; omega) R lo (N + cL ys) K1 V1 a1 c1 X (by rw [cL_toL]; omega) (by rw [cL_toL]; omega) hRX (row_of_fo (FoAt.fr hbX.size (fun b hb _ => hbX.block b (Nat.lt_of_lt_of_le hb hle)) _ _ hFr)))
      rw [cL_toL] at hcall
      have hlv := Hid.mk (fun (g : Nat) e => hG.lt (g := g) e)
      clear hcc hc0 hc1 hc2 hc3 hc4 hcl
      go_wp2_with (go_at_call 88; fail)
      clear hd0 hd1 hd2 hd3 hd4
      refine hcall.mono ?_
      rintro e w3 ⟨g, K', V', rfl, hR3, hs3, hFo3⟩
      have hG3 := hG.room hRr hT hs3
      have hbA := bel_alloc w3 (.cells #[.int .i64 (y.op), .int .i64 (y.num), .int .i64 (y.den), .int .i64 (y.mode), .slice (some ⟨g, 0, none⟩) y.args.len (y.args.len + 8)] 83)
      have hRA := hR3.new hbA
      have hGA := hG3.new hbA
      obtain ⟨cs, ho, hE⟩ := hGA.ex
      simp only [List.append_nil, Nat.add_zero] at ho
      have hsz : W.heap.size ≤ (w3.alloc (.cells #[.int .i64 (y.op), .int .i64 (y.num), .int .i64 (y.den), .int .i64 (y.mode), .slice (some ⟨g, 0, none⟩) y.args.len (y.args.len + 8)] 83)).heap.size := Nat.le_trans hs.fm.size (Nat.le_trans hs3.fm.size hbA.size)
      have hxE : Hid (eE.E (w3.alloc (.cells #[.int .i64 (y.op), .int .i64 (y.num), .int .i64 (y.den), .int .i64 (y.mode), .slice (some ⟨g, 0, none⟩) y.args.len (y.args.len + 8)] 83)) (fun b => wr.heap.size ≤ b ∧ b < (w3.alloc (.cells #[.int .i64 (y.op), .int .i64 (y.num), .int .i64 (y.den), .int .i64 (y.mode), .slice (some ⟨g, 0, none⟩) y.args.len (y.args.len + 8)] 83)).heap.size ∧ b ≠ R ∧ ∀ i, i < 21 → (K' i).ownBlock ≠ some b) y [.int .i64 (y.op), .int .i64 (y.num), .int .i64 (y.den), .int .i64 (y.mode), .slice (some ⟨g, 0, none⟩) y.args.len (y.args.len + 8)]) := ⟨⟨_, _, rfl, hRg, FoAt.mo (fun b _ hb => ⟨hb.1, Nat.lt_of_lt_of_le hb.2.1 hbA.size, hb.2.2⟩) _ _ (FoAt.fr hbA.size (fun b _ hlt => hbA.block b hlt) _ _ hFo3)⟩⟩
      clear hcall
      go_wp2_with (at_builtin; refine wpList_append_own_at (P := Try.prog) _ rfl _ _ 81 rfl W.heap.size 83 i0 _ 5 56 Try.underlying81 hi hz0 hz1 hz2 rfl (by decide) _ ys.length cs rfl ho ⟨w3.heap.size, 0, none⟩ 1 1 [.int .i64 (y.op), .int .i64 (y.num), .int .i64 (y.den), .int .i64 (y.mode), .slice (some ⟨g, 0, none⟩) y.args.len (y.args.len + 8)] rfl rfl (lit_at w3 _ _) (by simp [Value.oneCell']) (by unfold maxLen; omega) (by omega) hsz ?_; intro v' w4 hown' hgrow _h hat; clear _h)
      go_roundw
      case rel =>
        have hgm := GM.step (n1 := wr.heap.size) hRA hT ho hE hGA.vs (x := y) hxE.out hs.fm.size (fun g e => (hlv.out g e).2) hgrow hat hown'
        refine ⟨k + 1, K', V', by omega, by go_num, ?_, ((hs.trans hs3).after (gr_alloc _ _) (fun _ e => by cases e)).after hgrow (fun g e => (hlv.out g e).1), by rw [htk.out]; exact hgm.1⟩
        have h := hgm.2
        rw [htk.out, cL_snoc]
        exact h.mono (by omega)
      case measure => simp [intOf]; omega
    · obtain rfl : k = xs.length := by omega
      rw [List.take_length] at hG hRr
      clear hrow
      go_wp2
      go_loopw [5, 7] (fun v x wr => ∃ k : Nat, k ≤ 4 ∧ x = .int .i64 ((2 * k : Nat) : Int) ∧ RmAt wr R lo K1 V1 (N + cL xs) ∧ RmStep R K V K1 V1 W wr ∧ GM eE 83 W.heap.size R K1 V1 wr v xs (2 * k) (mks 14 (2 * k))) (fun _ x _ => (9 - intOf x).toNat)
      case atStart => exact ⟨0, by omega, rfl, hRr, hs, hG⟩
      case round =>
        clear hRr hs hG
        obtain ⟨k, hk, rfl, hRr, hs, hG⟩ := hrel
        by_cases hk2 : k < 4
        · have hkk : ((2 * k : Nat) : Int) < 8 := by omega
          have hbA := bel_alloc wr (.cells #[.int .i64 (-7701), .int .i64 (0), .int .i64 (0), .int .i64 (0), .slice none 0 0, .int .i64 (-7702), .int .i64 (0), .int .i64 (0), .int .i64 (0), .slice none 0 0] 83)
          have hRA := hRr.new hbA
          have hGA := hG.new hbA
          have hlv := fun (g : Nat) e => hG.lt (g := g) e
          obtain ⟨cs, ho, hE⟩ := hGA.ex
          have hsz : W.heap.size ≤ (wr.alloc (.cells #[.int .i64 (-7701), .int .i64 (0), .int .i64 (0), .int .i64 (0), .slice none 0 0, .int .i64 (-7702), .int .i64 (0), .int .i64 (0), .int .i64 (0), .slice none 0 0] 83)).heap.size := Nat.le_trans hs.fm.size hbA.size
          go_wp2_with (at_builtin; refine wpList_append_own_at (P := Try.prog) _ rfl _ _ 81 rfl W.heap.size 83 i0 _ 5 56 Try.underlying81 hi hz0 hz1 hz2 rfl (by decide) _ (xs.length + 2 * k) (cs ++ mks 14 (2 * k)) rfl ho ⟨wr.heap.size, 0, none⟩ 2 2 [.int .i64 (-7701), .int .i64 (0), .int .i64 (0), .int .i64 (0), .slice none 0 0, .int .i64 (-7702), .int .i64 (0), .int .i64 (0), .int .i64 (0), .slice none 0 0] rfl rfl (lit_at wr _ _) (by simp [Value.oneCell']) (by unfold maxLen; omega) (by omega) hsz ?_; intro v' w2 hown' hgrow _h hat; clear _h)
          go_roundw
          case rel =>
            have hgm := GM.marks (k := 2) hRA hT ho hE hGA.vs hgrow hat hown'
            exact ⟨k + 1, by omega, by go_num, hgm.2, (hs.after (gr_alloc _ _) (fun _ e => by cases e)).after hgrow (fun g e => (hlv g e).1), by rw [show 2 * (k + 1) = 2 * k + 2 by omega, mks_two _ _ (by omega)]; exact hgm.1⟩
          case measure => simp [intOf]; omega
        · obtain rfl : k = 4 := by omega
          have hG : GM eE 83 W.heap.size R K1 V1 wr _ xs 8 (mks 14 8) := hG
          obtain ⟨cs, ho, hE⟩ := hG.ex
          obtain ⟨g, capN, rfl, hcN⟩ := own_lit2 ho (by omega)
          obtain ⟨ka, kc, hK⟩ := own_shape (hRr.own 14 (by decide))
          have q1 := (hRr.cell (j := 14) (by decide)).1
          have hVl := hRr.few 14 (by decide)
          have hbA := bel_alloc wr (.cells #[.slice (some ⟨g, 0, none⟩) (xs.length + 8) capN] 81)
          have hRA := hRr.new hbA
          have hoA := hRA.own 14 (by decide)
          have hsz : lo ≤ (wr.alloc (.cells #[.slice (some ⟨g, 0, none⟩) (xs.length + 8) capN] 81)).heap.size := by have := hRA.lt; have := hRA.low; omega
          have hcl := fun v' w2 h1 h2 h3 => rm_close (D := eE) (j := 14) (v' := v') (w2 := w2) (o := .cells #[.slice (some ⟨g, 0, none⟩) (xs.length + 8) capN] 81) (by decide) (by decide) rfl hx hRr hs hG h1 h2 h3
          rw [hK] at q1 hoA hcl
          have hclH := Hid.mk hcl
          have hN2 : (V1 14).length ≤ 2000000000 := by omega
          have hle : ((xs.length : Nat) : Int) ≤ (xs.length : Int) + 8 := by omega
          have hle2 : (xs.length : Int) + 8 ≤ (capN : Int) := by omega
          have hle0 : (0 : Int) ≤ (xs.length : Int) := by omega
          clear hcl ho hE hG hVl hN hK hR
          go_wp2_with (at_builtin; refine wpList_append_own_at (P := Try.prog) _ rfl _ _ 47 rfl lo 81 j0 _ 1 24 Try.underlying47 hj hy0 hy1 hy2 rfl (by decide) _ (V1 14).length (V1 14) rfl hoA ⟨wr.heap.size, 0, none⟩ 1 1 [.slice (some ⟨g, 0, none⟩) (xs.length + 8) capN] rfl rfl (cell_one_new _ _ _) (by simp [Value.oneCell']) (by unfold maxLen; omega) (by omega) hsz ?_; intro v' w2 hown' hgrow _h hat; clear _h; obtain ⟨g2, cap2, rfl, -⟩ := own_lit2 hown' (by omega); obtain ⟨s1, s2, s3, s4, s5⟩ := hclH.out _ _ hown' hgrow hat; have s3 := Hid.mk s3; have s4 := Hid.mk s4; have s5 := Hid.mk s5; clear hgrow hat hown')
          go_ret
          exact ⟨g, _, _, rfl, s3.out, s4.out, s5.out⟩

theorem exprs_all (m : Nat) : ∀ (xs : List Ex), cL xs < m → ∀ (R lo N : Nat) (K : Nat → Value) (V : Nat → List Value) (a : Option Addr) (cap : Nat) (W : World), cL xs ≤ 1048576 → N + cL xs ≤ 1000000000 → RmAt W R lo K V N → RowR eE W (fun b => b < lo) xs a → Calls Try.prog 116 #[.pointer (some ⟨R, 0, none⟩), .slice a xs.length cap] W (RmC eE R lo K V (N + cL xs + 1) 8 xs W) := by
  induction m with
  | zero => intro xs hm; omega
  | succ m ih => exact fun xs hm => exprs_rm_s xs (fun ys hy => ih ys (by omega))
theorem exprs_rm (xs : List Ex) : ∀ (R lo N : Nat) (K : Nat → Value) (V : Nat → List Value) (a : Option Addr) (cap : Nat) (W : World), cL xs ≤ 1048576 → N + cL xs ≤ 1000000000 → RmAt W R lo K V N → RowR eE W (fun b => b < lo) xs a → Calls Try.prog 116 #[.pointer (some ⟨R, 0, none⟩), .slice a xs.length cap] W (RmC eE R lo K V (N + cL xs + 1) 8 xs W) := exprs_all (cL xs + 1) xs (by omega)
theorem expr_rm (x : Ex) (R lo N : Nat) (K : Nat → Value) (V : Nat → List Value) (a : Option Addr) (cap : Nat) (W : World) (hc : cNf x.args ≤ 1048576) (hN : N + cNf x.args ≤ 1000000000) (hR : RmAt W R lo K V N) (hF : FoAt W (fun b => b < lo) x.args a) : Calls Try.prog 88 #[.pointer (some ⟨R, 0, none⟩), .agg #[.int .i64 x.op, .int .i64 x.num, .int .i64 x.den, .int .i64 x.mode, .slice a x.args.len cap]] W (RmX R lo K V (N + cNf x.args + 1) x W) := by
  have hle : lo ≤ W.heap.size := by have := hR.lt; have := hR.low; omega
  have h := expr_of R lo N (N + cL (toL x.args) + 1) K V x a cap W hR (fun X hRX hbX => exprs_rm (toL x.args) R lo N K V a cap X (by rw [cL_toL]; exact hc) (by rw [cL_toL]; exact hN) hRX (row_of_fo (FoAt.fr hbX.size (fun b hb _ => hbX.block b (Nat.lt_of_lt_of_le hb hle)) _ _ hF)))
  rw [cL_toL] at h
  exact h

end Go.Proofs.Ytjgkjdalnjlefaa


namespace Go.Proofs.Ytjgkjdalnjlefaa
open Go.RowKit

theorem step_append_rm {P : Program} {ops : Array Oper} {o : Oper} {a : Act} (w : World) {K : Act → World → Prop} {Q : Exit → Act → World → Prop} {E : Prop}
    (hg : o.guard = none) (s x : Operand) (t : TypeId) (ho : o.op = .call { callee := .builtin .append, args := #[s, x], argTypes := #[t, t] })
    (base : Nat) (e : TypeId) (i : TypeInfo) (z : Value) (size bytes : Nat) (ht : P.underlying t = some (.slice e)) (hi : P.info? e = some i) (hz : i.zero = some z)
    (hsize : i.size = size) (hby : i.bytes = bytes) (hzs : z.cells.size = size) (hsz : 0 < size)
    (v : Value) (n : Nat) (xs : List Value) (hs : a.eval s = v) (hown : w.ownsRow base e size v n xs)
    (ad : Addr) (m c : Nat) (news : List Value) (hx : a.eval x = .slice (some ad) m c) (hl : news.length = m * size) (hnews : ∀ j u, news[j]? = some u → w.cell? (ad.add j) = some u) (h1 : ∀ u ∈ news, u.oneCell' = true)
    (h63 : n + m ≤ maxLen) (hbytes : (n + m) * bytes ≤ 140737488355328) (hbase : base ≤ w.heap.size)
    (h : ∀ v' w', w'.ownsRow base e size v' (n + m) (xs ++ news) → w.grownBy w' v.ownBlock → (v'.ownBlock = v.ownBlock ∨ v'.ownBlock = some w.heap.size) → K (a.put o.dst v') w') : if Region.wanted o (yielded ops a.tmps) = true then Oper.wp P o a w K Q else E := by
  rw [if_pos (by simp [Region.wanted, hg])]
  obtain ⟨v', w', hr, h2, h3, -, h5⟩ := run_append_own_at (P := P) w base t o.type e i z size bytes ht hi hz hsize hby hzs hsz v n xs hown ad m c news hl hnews h1 h63 hbytes hbase
  unfold Oper.wp execOp
  simp only [ho, resolve, invoke, builtin, Sem.run_bind, Sem.run_pure, Result.andThen_ok, List.map_toArray, List.map_cons, List.map_nil, hs, hx, hr]
  exact h v' w' h2 h3 h5
theorem sn_step {n R : Nat} {K K' : Nat → Value} {V V' : Nat → List Value} {W W' : World} {b : Nat} (h : SnR n R K W b) (hs : RmStep R K V K' V' W W') : SnR n R K' W' b := ⟨h.1, Nat.lt_of_lt_of_le h.2.1 hs.fm.size, h.2.2.1, fun i hi e => by
  rcases hs.ks i hi with e' | ⟨g, e', hg⟩
  · exact h.2.2.2 i hi (e'.symm.trans e)
  · rw [e'] at e
    have := Option.some.inj e
    have := h.2.1
    omega⟩
theorem bel_drew (W : World) : Below W.heap.size W W.drew := (Below.refl W.heap.size W).drew
theorem gr_drew1 (W : World) : W.grownBy W.drew none := ⟨rfl, rfl, rfl, Nat.le_refl _, fun _ _ _ => rfl⟩
/-- How many lists the copies of options, tables, clauses, lines, checks make. -/
def cO {α : Type} (xs : List α) : Nat := xs.length
theorem cO_snoc {α : Type} (xs : List α) (x : α) : cO (xs ++ [x]) = cO xs + 1 := by simp [cO]
theorem cO_take {α : Type} (xs : List α) (k : Nat) : cO (xs.take k) ≤ cO xs := by unfold cO; rw [List.length_take]; omega
def cSum {α : Type} (f : α → Nat) (xs : List α) : Nat := (xs.map f).sum
theorem cSum_snoc {α : Type} (f : α → Nat) (xs : List α) (x : α) : cSum f (xs ++ [x]) = cSum f xs + f x := by simp [cSum]
theorem cSum_take {α : Type} (f : α → Nat) (xs : List α) (k : Nat) : cSum f (xs.take k) ≤ cSum f xs := by
  conv => rhs; rw [← List.take_append_drop k xs]
  unfold cSum
  rw [List.map_append, List.sum_append]
  omega
theorem cSum_mem {α : Type} (f : α → Nat) : ∀ (xs : List α) (x : α), x ∈ xs → f x ≤ cSum f xs
  | y :: xs, x, h => by
    unfold cSum
    rw [List.map_cons, List.sum_cons]
    rcases List.mem_cons.1 h with rfl | h
    · omega
    · have := cSum_mem f xs x h
      unfold cSum at this
      omega
def wC (c : Cl) : Nat := cNf c.guard.args + cNf c.body.args + 2
def wK (c : Ck) : Nat := cNf c.when_.args + 1
def cC (xs : List Cl) : Nat := cSum wC xs
def cK (xs : List Ck) : Nat := cSum wK xs
def wL (l : Ln) : Nat := cC l.cls + 1
def cLn (xs : List Ln) : Nat := cSum wL xs
theorem cC_snoc (xs : List Cl) (x : Cl) : cC (xs ++ [x]) = cC xs + (cNf x.guard.args + cNf x.body.args + 2) := cSum_snoc wC xs x
theorem cC_take (xs : List Cl) (k : Nat) : cC (xs.take k) ≤ cC xs := cSum_take wC xs k
theorem cK_snoc (xs : List Ck) (x : Ck) : cK (xs ++ [x]) = cK xs + (cNf x.when_.args + 1) := cSum_snoc wK xs x
theorem cK_take (xs : List Ck) (k : Nat) : cK (xs.take k) ≤ cK xs := cSum_take wK xs k
theorem cLn_snoc (xs : List Ln) (x : Ln) : cLn (xs ++ [x]) = cLn xs + (cC x.cls + 1) := cSum_snoc wL xs x
theorem cLn_take (xs : List Ln) (k : Nat) : cLn (xs.take k) ≤ cLn xs := cSum_take wL xs k

end Go.Proofs.Ytjgkjdalnjlefaa


namespace Go.Proofs.Ytjgkjdalnjlefaa.V
open Go.RowKit

set_option maxRecDepth 4000 in
theorem rsum_any (a : Option Addr) (cap : Nat) (bs : List Nat) (hl : bs.length ≤ 1000000000) (w : World) (h : Byts w a bs) :
    Calls Try.prog 25 #[.slice a bs.length cap] w fun e w' => e = .returned (.int .u32 (fnv bs : Int)) ∧ w' = w := by
  obtain ⟨hb, hm⟩ := h
  go_enter Try.func25, Try.ntmps25
  go_wp2
  go_loopw [3, 4] (fun nv iv W => ∃ i : Nat, i ≤ bs.length ∧ iv = .int .i64 (i : Int) ∧ nv = .int .u64 (fnv (bs.take i) : Int) ∧ W = w) (fun _ iv _ => bs.length - (intOf iv).toNat)
  case atStart => exact ⟨0, by omega, rfl, by rw [List.take_zero]; show _ = Value.int .u64 (fnv0 : Int); rw [fnv0_is], rfl⟩
  case round =>
    obtain ⟨i, hi, rfl, rfl, rfl⟩ := hrel
    by_cases hlt : i < bs.length
    · have hlt' : (i : Int) < (bs.length : Int) := by omega
      have hi0 : (0 : Int) ≤ (i : Int) := by omega
      rcases hm with h0 | ⟨b, off, rfl, hblt, hc⟩
      · rw [h0] at hlt; simp at hlt
      have ci := hc i hlt
      have hx := hb _ (List.getElem_mem hlt)
      have hst : Hid (fnv (bs.take (i + 1)) = fn1 (fnv (bs.take i)) bs[i]) := ⟨fnv_take hlt⟩
      have hh := fnv_lt (bs.take i)
      generalize bs[i] = x at *
      generalize fnv (bs.take i) = hv at *
      clear hc hb
      obtain ⟨q, hq⟩ : ∃ q, hv % 256 = q := ⟨_, rfl⟩
      have hq' : (hv : Int) % 256 = (q : Int) := by omega
      have hql : q < 256 := by omega
      have hqh : q ≤ hv := by omega
      have hlow : Hid (hv - q + (q ^^^ x) = hv ^^^ x) := ⟨by rw [← hq]; exact low_xor hv x hx⟩
      have hfin : Hid (((hv ^^^ x) * 16777619) % 4294967296 = fn1 hv x) := ⟨rfl⟩
      have hyl := xor_byte q x hql hx
      clear hq
      go_wp2_with fail
      go_loopw [5, 6, 7, 8, 9] (fun lv xv yv uv kv W => ∃ k : Nat, k ≤ 8 ∧ kv = .int .i64 (k : Int) ∧ lv = .int .u64 ((q / 2 ^ k : Nat) : Int) ∧ xv = .int .u64 ((x / 2 ^ k : Nat) : Int) ∧ yv = .int .u64 (((q ^^^ x) % 2 ^ k : Nat) : Int) ∧ uv = .int .u64 ((2 ^ k : Nat) : Int) ∧ W = wr) (fun _ _ _ _ kv _ => 8 - (intOf kv).toNat)
      case atStart => exact ⟨0, by omega, rfl, by simp; omega, by simp, by simp [Nat.mod_one], rfl, rfl⟩
      case round =>
        obtain ⟨k, hk, rfl, rfl, rfl, rfl, rfl, rfl⟩ := hrel
        by_cases hk8 : k < 8
        · have hk8' : (k : Int) < 8 := by omega
          have hds : Hid ((q ^^^ x) % 2 ^ (k + 1) = (q ^^^ x) % 2 ^ k + 2 ^ k * ((q / 2 ^ k + x / 2 ^ k) % 2)) := ⟨dig_step q x k⟩
          have hd1 : Hid (q / 2 ^ (k + 1) = q / 2 ^ k / 2) := ⟨by rw [Nat.pow_succ, Nat.div_div_eq_div_mul]⟩
          have hd2 : Hid (x / 2 ^ (k + 1) = x / 2 ^ k / 2) := ⟨by rw [Nat.pow_succ, Nat.div_div_eq_div_mul]⟩
          have hd3 : Hid (2 ^ (k + 1) = 2 ^ k * 2) := ⟨Nat.pow_succ ..⟩
          have l1 : q / 2 ^ k < 256 := Nat.lt_of_le_of_lt (Nat.div_le_self _ _) hql
          have l2 : x / 2 ^ k < 256 := Nat.lt_of_le_of_lt (Nat.div_le_self _ _) hx
          have l3 : (q ^^^ x) % 2 ^ k < 256 := Nat.lt_of_le_of_lt (Nat.mod_le _ _) hyl
          have l4 : 2 ^ k ≤ 128 := by
            have : ∀ k : Fin 8, 2 ^ k.val ≤ 128 := by decide
            exact this ⟨k, hk8⟩
          generalize q / 2 ^ k = A at *
          generalize x / 2 ^ k = B at *
          generalize (q ^^^ x) % 2 ^ k = Y at *
          generalize 2 ^ k = U at *
          rcases (show ((A : Int) + (B : Int)) % 2 = 0 ∨ ((A : Int) + (B : Int)) % 2 = 1 by omega) with hm | hm
          · have hm' : (A + B) % 2 = 0 := by omega
            have hds' : Hid ((q ^^^ x) % 2 ^ (k + 1) = Y) := ⟨by rw [hds.out, hm']; simp⟩
            clear hds
            go_wp2_with fail
            go_roundw
            case rel => exact ⟨k + 1, by omega, by go_num, by rw [hd1.out]; go_num, by rw [hd2.out]; go_num, by rw [hds'.out], by rw [hd3.out]; go_num, trivial⟩
            case measure => simp [intOf]; omega
          · have hm' : (A + B) % 2 = 1 := by omega
            have hds' : Hid ((q ^^^ x) % 2 ^ (k + 1) = Y + U) := ⟨by rw [hds.out, hm']; simp⟩
            clear hds
            go_wp2_with fail
            go_roundw
            case rel => exact ⟨k + 1, by omega, by go_num, by rw [hd1.out]; go_num, by rw [hd2.out]; go_num, by rw [hds'.out]; go_num, by rw [hd3.out]; go_num, trivial⟩
            case measure => simp [intOf]; omega
        · obtain rfl : k = 8 := by omega
          have hy8 : (q ^^^ x) % 2 ^ 8 = q ^^^ x := Nat.mod_eq_of_lt hyl
          rw [hy8]
          have hsum : (hv : Int) - (q : Int) + ((q ^^^ x : Nat) : Int) = ((hv ^^^ x : Nat) : Int) := by have := hlow.out; omega
          have hxl : hv ^^^ x < 4294967296 := Nat.xor_lt_two_pow (n := 32) hh (by omega)
          have hres : ((hv ^^^ x : Nat) : Int) * 16777619 % 4294967296 = (fn1 hv x : Int) := by have := hfin.out; omega
          generalize q ^^^ x = Y at *
          generalize hv ^^^ x = Z at *
          clear hlow hfin hy8
          go_wp2_with fail
          go_roundw
          case rel => exact ⟨i + 1, by omega, by go_num, by rw [hst.out, ← hres], trivial⟩
          case measure => simp [intOf]; omega
    · obtain rfl : i = bs.length := by omega
      have hh := fnv_lt bs
      go_wp2_with fail
      go_ret
      exact ⟨rfl, rfl⟩

end Go.Proofs.Ytjgkjdalnjlefaa.V


namespace Go.Proofs.Ytjgkjdalnjlefaa.V
open Go.RowKit

/-- A piece of the document's own writer. -/
structure Pc where
  kind : Int
  n : Int
  s : List UInt8
def pcC (x : Pc) : List Value := [.int .i64 x.kind, .int .i64 x.n, .string ⟨x.s.toArray⟩]
def pcs (P : List Pc) : List Value := P.flatMap pcC
theorem pcs_snoc (P : List Pc) (x : Pc) : pcs (P ++ [x]) = pcs P ++ pcC x := by simp [pcs]
/-- A row of pieces: what lies in it, whether it is too deep. -/
structure RS (lo wb : Nat) (W : World) (P : List Pc) (dp : Bool) : Prop where
  own : ∃ p cap, W.cell? ⟨wb, 0, none⟩ = some (.slice p P.length cap) ∧ W.ownsRow (wb + 1) 121 3 (.slice p P.length cap) P.length (pcs P)
  c1 : W.cell? ⟨wb, 1, none⟩ = some (.bool dp)
  fz : ∀ j, W.frozen? ⟨wb, j, none⟩ = false
  le : P.length ≤ 1000000000
  lo : lo ≤ wb
theorem RS.lt {lo wb : Nat} {W : World} {P : List Pc} {b : Bool} (h : RS lo wb W P b) : wb < W.heap.size := World.block_lt_of_cell? _ _ h.c1
/-- All blocks but the row's own and those of pieces stay. -/
def KtR (wb : Nat) (W W' : World) : Prop := ∀ k c t f, k ≠ wb → W.heap[k]? = some (.cells c t f) → t ≠ 121 → W'.heap[k]? = W.heap[k]?
structure BkR (lo wb : Nat) (W W' : World) : Prop where
  bl : Below lo W W'
  kt : KtR wb W W'
theorem BkR.refl (lo wb : Nat) (W : World) : BkR lo wb W W := ⟨Below.refl _ _, fun _ _ _ _ _ _ _ => rfl⟩
theorem BkR.trans {lo wb : Nat} {W W1 W2 : World} (h : BkR lo wb W W1) (k : BkR lo wb W1 W2) : BkR lo wb W W2 := ⟨h.bl.trans k.bl, fun i c t f hi h0 ht => by
  have e := h.kt i c t f hi h0 ht
  rw [← e]
  exact k.kt i c t f hi (e.trans h0) ht⟩
theorem heap_ltR {W : World} {k : Nat} {o : Obj} (h : W.heap[k]? = some o) : k < W.heap.size := (Array.getElem?_eq_some_iff.mp h).1
theorem KtR.of_gr {wb : Nat} {W W' : World} (h : W.grownBy W' (some wb)) : KtR wb W W' := fun k _ _ _ hk h0 _ => h.block k (heap_ltR h0) (fun e => hk (Option.some.inj e))
theorem BkR.set {lo wb : Nat} (W : World) (h : lo ≤ wb) (i : Nat) (v : Value) : BkR lo wb W (W.setCell ⟨wb, i, none⟩ v) := ⟨(Below.refl lo W).setCell (p := ⟨wb, i, none⟩) h v, KtR.of_gr (gr_set W wb i v)⟩
theorem BkR.alloc {lo wb : Nat} (W : World) (h : lo ≤ W.heap.size) (o : Obj) : BkR lo wb W (W.alloc o) := ⟨(Below.refl lo W).alloc h o, KtR.of_gr (World.grownBy_alloc W o _)⟩
theorem own_neR {W : World} {wb n : Nat} {v : Value} {xs : List Value} (h : W.ownsRow (wb + 1) 121 3 v n xs) : v.ownBlock = none ∨ v.ownBlock ≠ some wb := by
  cases hv : v.ownBlock with
  | none => exact .inl rfl
  | some g =>
    right
    intro e
    have := (h.lt g hv).1
    injection e with e
    omega
theorem RS.set1 {lo wb : Nat} {W : World} {P : List Pc} {b : Bool} (h : RS lo wb W P b) (b2 : Bool) : RS lo wb (W.setCell ⟨wb, 1, none⟩ (.bool b2)) P b2 := by
  obtain ⟨p, cap, h0, ho⟩ := h.own
  refine ⟨⟨p, cap, ?_, ho.kept (gr_set W wb 1 (.bool b2)) (own_neR ho)⟩, World.cell?_setCell_same _ _ _ h.c1, fun j => by rw [World.frozen?_setCell]; exact h.fz j, h.le, h.lo⟩
  rw [World.cell?_setCell_other _ _ _ _ (fun e => by cases e)]
  exact h0
theorem RS.alloc {lo wb : Nat} {W : World} {P : List Pc} {b : Bool} (h : RS lo wb W P b) (o : Obj) : RS lo wb (W.alloc o) P b := by
  obtain ⟨p, cap, h0, ho⟩ := h.own
  have hg := World.grownBy_alloc W o none
  exact ⟨⟨p, cap, (gr_cell hg h.lt (by simp) 0).trans h0, ho.alloc o⟩, (gr_cell hg h.lt (by simp) 1).trans h.c1, fun j => (gr_frozen hg h.lt (by simp) j).trans (h.fz j), h.le, h.lo⟩
theorem own_sliceR {W : World} {g n : Nat} {v : Value} {xs : List Value} (h : W.ownsRow g 121 3 v n xs) : ∃ p cap, v = .slice p n cap := by
  obtain ⟨_, ⟨e, h0⟩ | ⟨g, cap, cur, e, _⟩⟩ := h
  · exact ⟨none, 0, by rw [e, h0]⟩
  · exact ⟨_, cap, e⟩
/-- Behind an append. -/
theorem RS.push {lo wb : Nat} {X w4 : World} {P P2 : List Pc} {b : Bool} {v v2 : Value} (h : RS lo wb X P b) (ho : X.ownsRow (wb + 1) 121 3 v P.length (pcs P)) (hg : X.grownBy w4 v.ownBlock) (ho2 : w4.ownsRow (wb + 1) 121 3 v2 P2.length (pcs P2)) (hl : P2.length ≤ 1000000000) : RS lo wb (w4.setCell ⟨wb, 0, none⟩ v2) P2 b ∧ BkR lo wb X (w4.setCell ⟨wb, 0, none⟩ v2) ∧ (∃ u, w4.cell? ⟨wb, 0, none⟩ = some u) ∧ w4.frozen? ⟨wb, 0, none⟩ = false := by
  have hne : some wb ≠ v.ownBlock := fun e => by
    rcases own_neR ho with h1 | h1
    · rw [h1] at e; cases e
    · exact h1 e.symm
  obtain ⟨p0, cap0, h0, -⟩ := h.own
  have k0 := (gr_cell hg h.lt hne 0).trans h0
  have k1 := (gr_cell hg h.lt hne 1).trans h.c1
  obtain ⟨p2, cap2, rfl⟩ := own_sliceR ho2
  refine ⟨⟨⟨p2, cap2, World.cell?_setCell_same _ _ _ k0, ho2.kept (gr_set w4 wb 0 _) (own_neR ho2)⟩, ?_, fun j => ?_, hl, h.lo⟩, ?_, ⟨_, k0⟩, (gr_frozen hg h.lt hne 0).trans (h.fz 0)⟩
  · rw [World.cell?_setCell_other _ _ _ _ (fun e => by cases e)]
    exact k1
  · rw [World.frozen?_setCell]
    exact (gr_frozen hg h.lt hne j).trans (h.fz j)
  · have h1 : Below lo X w4 := ⟨hg.os, hg.tape, hg.output, hg.size, fun k hk => hg.block k (Nat.lt_of_lt_of_le hk (Nat.le_trans h.lo (Nat.le_of_lt h.lt))) (fun e => by
      have := (ho.lt k e.symm).1
      have := h.lo
      omega)⟩
    have h2 : KtR wb X w4 := fun k c t f _ hk ht => hg.block k (heap_ltR hk) (fun e => by
      obtain ⟨_, ⟨rfl, _⟩ | ⟨g, cap, cur, rfl, _, hc, _⟩⟩ := ho
      · cases e
      · have e : k = g := Option.some.inj e
        rw [e, hc] at hk
        injection hk with hk
        injection hk with _ hk
        exact ht hk.symm)
    exact BkR.trans ⟨h1, h2⟩ (BkR.set w4 h.lo 0 _)
/-- What a call that lays pieces does. -/
def Rp (lo wb : Nat) (P : List Pc) (b : Bool) (x : List Pc) (W : World) (e : Ending) (W' : World) : Prop := e = .returned (.tuple #[]) ∧ RS lo wb W' (P ++ x) b ∧ BkR lo wb W W'
theorem infoPc : (Try.prog.info? 121).map (fun i => (i.zero, i.size, i.bytes)) = some (some (.agg #[.int .i64 0, .int .i64 0, .string ⟨#[]⟩]), 3, 32) := by kernel_rfl

set_option maxRecDepth 8000 in
set_option maxHeartbeats 4000000 in
theorem rnum_any (lo wb : Nat) (n : Int) (W : World) {P : List Pc} {b : Bool} (h : RS lo wb W P b) (hP : P.length + 1 ≤ 1000000000) : Calls Try.prog 53 #[.pointer (some ⟨wb, 0, none⟩), .int .i64 n] W (Rp lo wb P b [⟨1, n, []⟩] W) := by
  obtain ⟨i0, hi, hz0, hz1, hz2⟩ := info_parts infoPc
  have hlo := h.lo
  have hwlt := h.lt
  obtain ⟨p0, cap0, c0, ho⟩ := h.own
  have hA := h.alloc (.cells #[.int .i64 1, .int .i64 n, .string ⟨#[]⟩] 121)
  have hoA := ho.alloc (.cells #[.int .i64 1, .int .i64 n, .string ⟨#[]⟩] 121)
  have hBA : BkR lo wb W (W.alloc (.cells #[.int .i64 1, .int .i64 n, .string ⟨#[]⟩] 121)) := BkR.alloc W (Nat.le_trans hlo (Nat.le_of_lt hwlt)) _
  clear h ho
  go_enter Try.func53, Try.ntmps53
  go_wp2_with (at_builtin; refine wpList_append_own _ rfl _ _ 110 rfl (wb + 1) 121 i0 _ 3 32 Try.underlying110 hi hz0 hz1 hz2 rfl (by decide) _ _ _ rfl hoA ⟨W.heap.size, 0, none⟩ 1 1 [.int .i64 1, .int .i64 n, .string ⟨#[]⟩] rfl rfl (lit_at W _ _) (by simp [Value.oneCell']) (by unfold maxLen; omega) (by omega) (by simp; omega) ?_; intro v4 w4 hown4 hgrow4 _; replace hown4 : w4.ownsRow (wb + 1) 121 3 v4 (P.length + 1) (pcs P ++ pcC ⟨1, n, []⟩) := hown4; rw [← pcs_snoc] at hown4; obtain ⟨p4, cap4, rfl⟩ := own_sliceR hown4; obtain ⟨hW4, hB4, ⟨u4, hu4⟩, hz4⟩ := hA.push (P2 := P ++ [⟨1, n, []⟩]) hoA hgrow4 (by rw [List.length_append]; exact hown4) (by rw [List.length_append, List.length_singleton]; omega); have hfin : Rp lo wb P b [⟨1, n, []⟩] W (.returned (.tuple #[])) _ := ⟨rfl, hW4, hBA.trans hB4⟩; clear hown4 hgrow4 hW4 hB4)
  exact bodyPost_end (v := .tuple #[]) (by simp [results, Try.results53, go_sem]) rfl hfin

set_option maxRecDepth 8000 in
set_option maxHeartbeats 4000000 in
theorem rint_any (lo wb : Nat) (n : Int) (W : World) {P : List Pc} {b : Bool} (h : RS lo wb W P b) (hP : P.length + 1 ≤ 1000000000) : Calls Try.prog 57 #[.pointer (some ⟨wb, 0, none⟩), .int .i64 n] W (Rp lo wb P b [⟨2, n, []⟩] W) := by
  obtain ⟨i0, hi, hz0, hz1, hz2⟩ := info_parts infoPc
  have hlo := h.lo
  have hwlt := h.lt
  obtain ⟨p0, cap0, c0, ho⟩ := h.own
  have hA := h.alloc (.cells #[.int .i64 2, .int .i64 n, .string ⟨#[]⟩] 121)
  have hoA := ho.alloc (.cells #[.int .i64 2, .int .i64 n, .string ⟨#[]⟩] 121)
  have hBA : BkR lo wb W (W.alloc (.cells #[.int .i64 2, .int .i64 n, .string ⟨#[]⟩] 121)) := BkR.alloc W (Nat.le_trans hlo (Nat.le_of_lt hwlt)) _
  clear h ho
  go_enter Try.func57, Try.ntmps57
  go_wp2_with (at_builtin; refine wpList_append_own _ rfl _ _ 110 rfl (wb + 1) 121 i0 _ 3 32 Try.underlying110 hi hz0 hz1 hz2 rfl (by decide) _ _ _ rfl hoA ⟨W.heap.size, 0, none⟩ 1 1 [.int .i64 2, .int .i64 n, .string ⟨#[]⟩] rfl rfl (lit_at W _ _) (by simp [Value.oneCell']) (by unfold maxLen; omega) (by omega) (by simp; omega) ?_; intro v4 w4 hown4 hgrow4 _; replace hown4 : w4.ownsRow (wb + 1) 121 3 v4 (P.length + 1) (pcs P ++ pcC ⟨2, n, []⟩) := hown4; rw [← pcs_snoc] at hown4; obtain ⟨p4, cap4, rfl⟩ := own_sliceR hown4; obtain ⟨hW4, hB4, ⟨u4, hu4⟩, hz4⟩ := hA.push (P2 := P ++ [⟨2, n, []⟩]) hoA hgrow4 (by rw [List.length_append]; exact hown4) (by rw [List.length_append, List.length_singleton]; omega); have hfin : Rp lo wb P b [⟨2, n, []⟩] W (.returned (.tuple #[])) _ := ⟨rfl, hW4, hBA.trans hB4⟩; clear hown4 hgrow4 hW4 hB4)
  exact bodyPost_end (v := .tuple #[]) (by simp [results, Try.results57, go_sem]) rfl hfin

set_option maxRecDepth 8000 in
set_option maxHeartbeats 4000000 in
theorem rtext_any (lo wb : Nat) (s : List UInt8) (W : World) {P : List Pc} {b : Bool} (h : RS lo wb W P b) (hP : P.length + 1 ≤ 1000000000) : Calls Try.prog 55 #[.pointer (some ⟨wb, 0, none⟩), .string ⟨s.toArray⟩] W (Rp lo wb P b [⟨3, 0, s⟩] W) := by
  obtain ⟨i0, hi, hz0, hz1, hz2⟩ := info_parts infoPc
  have hlo := h.lo
  have hwlt := h.lt
  obtain ⟨p0, cap0, c0, ho⟩ := h.own
  have hA := h.alloc (.cells #[.int .i64 3, .int .i64 0, .string ⟨s.toArray⟩] 121)
  have hoA := ho.alloc (.cells #[.int .i64 3, .int .i64 0, .string ⟨s.toArray⟩] 121)
  have hBA : BkR lo wb W (W.alloc (.cells #[.int .i64 3, .int .i64 0, .string ⟨s.toArray⟩] 121)) := BkR.alloc W (Nat.le_trans hlo (Nat.le_of_lt hwlt)) _
  clear h ho
  go_enter Try.func55, Try.ntmps55
  go_wp2_with (at_builtin; refine wpList_append_own _ rfl _ _ 110 rfl (wb + 1) 121 i0 _ 3 32 Try.underlying110 hi hz0 hz1 hz2 rfl (by decide) _ _ _ rfl hoA ⟨W.heap.size, 0, none⟩ 1 1 [.int .i64 3, .int .i64 0, .string ⟨s.toArray⟩] rfl rfl (lit_at W _ _) (by simp [Value.oneCell']) (by unfold maxLen; omega) (by omega) (by simp; omega) ?_; intro v4 w4 hown4 hgrow4 _; replace hown4 : w4.ownsRow (wb + 1) 121 3 v4 (P.length + 1) (pcs P ++ pcC ⟨3, 0, s⟩) := hown4; rw [← pcs_snoc] at hown4; obtain ⟨p4, cap4, rfl⟩ := own_sliceR hown4; obtain ⟨hW4, hB4, ⟨u4, hu4⟩, hz4⟩ := hA.push (P2 := P ++ [⟨3, 0, s⟩]) hoA hgrow4 (by rw [List.length_append]; exact hown4) (by rw [List.length_append, List.length_singleton]; omega); have hfin : Rp lo wb P b [⟨3, 0, s⟩] W (.returned (.tuple #[])) _ := ⟨rfl, hW4, hBA.trans hB4⟩; clear hown4 hgrow4 hW4 hB4)
  exact bodyPost_end (v := .tuple #[]) (by simp [results, Try.results55, go_sem]) rfl hfin

end Go.Proofs.Ytjgkjdalnjlefaa.V


namespace Go.Proofs.Ytjgkjdalnjlefaa.V
open Go.RowKit

/-- Behind an append to a row of one's own. -/
theorem below_own {n k m : Nat} {T : TypeId} {W X Y : World} {v : Value} {xs : List Value} (hB : Below n W X) (ho : X.ownsRow n T k v m xs) (hg : X.grownBy Y v.ownBlock) (hn : n ≤ X.heap.size) : Below n W Y := hB.trans ⟨hg.os, hg.tape, hg.output, hg.size, fun j hj => hg.block j (Nat.lt_of_lt_of_le hj hn) (fun e => by have := (ho.lt j e.symm).1; omega)⟩
theorem byte_snoc (l : List UInt8) (z : Int) (h0 : 0 ≤ z) (h1 : z < 256) : Go.Lib.byteCells l ++ [.int .u8 z] = Go.Lib.byteCells (l ++ [UInt8.ofNat z.toNat]) := by
  have h := bytes_snoc l (k := z.toNat) (by omega)
  rw [show ((z.toNat : Nat) : Int) = z by omega] at h
  exact h
theorem own_lit2V {w : World} {base n size : Nat} {e : TypeId} {v : Value} {xs : List Value} (h : w.ownsRow base e size v n xs) (hn : 0 < n) : ∃ g cap, v = .slice (some ⟨g, 0, none⟩) n cap ∧ n ≤ cap := by
  obtain ⟨_, h | ⟨g, cap, cur, rfl, _, _, h2, _⟩⟩ := h
  · omega
  · exact ⟨g, cap, rfl, h2⟩
/-- What seven answers. -/
def SvP (n : Nat) (W : World) (e : Ending) (W' : World) : Prop := ∃ g cap, e = .returned (.slice (some ⟨g, 0, none⟩) (encN n).length cap) ∧ W'.ownsRow W.heap.size 5 1 (.slice (some ⟨g, 0, none⟩) (encN n).length cap) (encN n).length (Go.Lib.byteCells (encN n)) ∧ Below W.heap.size W W'
theorem encN_ten (n : Nat) (hn : n < 18446744073709551616) : (encN n).length ≤ 10 := encN_len 10 n (by omega) (by decide)

set_option maxRecDepth 8000 in
set_option maxHeartbeats 4000000 in
theorem seven_any (n : Nat) (hn : n < 18446744073709551616) (W : World) : Calls Try.prog 59 #[.int .u64 (n : Int)] W (SvP n W) := by
  obtain ⟨i0, hi, hz0, hz1, hz2⟩ := info_parts infoU8
  have hten := encN_ten n hn
  go_enter Try.func59, Try.ntmps59
  go_wp2
  go_loopw [0, 3] (fun nv bv wr => ∃ (m : Nat) (acc : List UInt8), nv = .int .u64 (m : Int) ∧ m < 18446744073709551616 ∧ Hid (acc ++ encN m = encN n) ∧ wr.ownsRow W.heap.size 5 1 bv acc.length (Go.Lib.byteCells acc) ∧ Below W.heap.size W wr) (fun nv _ _ => (intOf nv).toNat)
  case atStart => exact ⟨n, [], rfl, hn, ⟨rfl⟩, World.ownsRow_nil _ _ _ _, Below.refl _ _⟩
  case round =>
    obtain ⟨m, acc, rfl, hm, he, ho, hB⟩ := hrel
    have hal : acc.length ≤ 10 := by
      have h := congrArg List.length he.out
      rw [List.length_append] at h
      omega
    have hbs := hB.size
    obtain ⟨pa, ca, rfl⟩ := own_slice ho
    by_cases hlt : m < 128
    · have hlt' : ¬ (127 : Int) < (m : Int) := by omega
      have hsn := byte_snoc acc (m : Int) (by omega) (by omega)
      have hmm : (m : Int) % 256 = (m : Int) := by omega
      have hoA := ho.alloc (.cells #[.int .u8 (m : Int)] 5)
      have hBA := hB.alloc hbs (.cells #[.int .u8 (m : Int)] 5)
      go_wp2_with (at_builtin; refine wpList_append_own _ rfl _ _ 22 rfl W.heap.size 5 i0 (.int .u8 0) 1 1 Try.underlying22 hi hz0 hz1 hz2 rfl (by decide) _ _ _ rfl hoA ⟨wr.heap.size, 0, none⟩ 1 1 [.int .u8 (m : Int)] rfl rfl (cell_one_new wr _ _) (by simp [Value.oneCell']) (by unfold maxLen; omega) (by omega) (by simp; omega) ?_; intro v4 w4 hown4 hgrow4 _; rw [hsn] at hown4; obtain ⟨g4, cap4, rfl, -⟩ := own_lit2V hown4 (by omega))
      have hB4 := below_own hBA hoA hgrow4 (by simp; omega)
      have hlen : acc.length + 1 = (encN n).length := by rw [← he.out, encN_small hlt, List.length_append]; rfl
      have hbyt : acc ++ [UInt8.ofNat (m : Int).toNat] = encN n := by rw [← he.out, encN_small hlt]; simp
      rw [hbyt] at hown4
      rw [hlen] at hown4 ⊢
      go_ret
      exact ⟨g4, cap4, rfl, hown4, hB4⟩
    · have hlt' : (127 : Int) < (m : Int) := by omega
      have hsn := byte_snoc acc ((m : Int) % 128 + 128) (by omega) (by omega)
      have hmm : ((m : Int) % 128 + 128) % 256 = (m : Int) % 128 + 128 := by omega
      have hoA := ho.alloc (.cells #[.int .u8 ((m : Int) % 128 + 128)] 5)
      have hBA := hB.alloc hbs (.cells #[.int .u8 ((m : Int) % 128 + 128)] 5)
      go_wp2_with (at_builtin; refine wpList_append_own _ rfl _ _ 22 rfl W.heap.size 5 i0 (.int .u8 0) 1 1 Try.underlying22 hi hz0 hz1 hz2 rfl (by decide) _ _ _ rfl hoA ⟨wr.heap.size, 0, none⟩ 1 1 [.int .u8 ((m : Int) % 128 + 128)] rfl rfl (cell_one_new wr _ _) (by simp [Value.oneCell']) (by unfold maxLen; omega) (by omega) (by simp; omega) ?_; intro v4 w4 hown4 hgrow4 _; rw [hsn] at hown4; obtain ⟨p4, cap4, rfl⟩ := own_slice hown4)
      have hB4 := below_own hBA hoA hgrow4 (by simp; omega)
      go_roundw
      case rel =>
        refine ⟨m / 128, acc ++ [UInt8.ofNat ((m : Int) % 128 + 128).toNat], by go_num, by omega, ⟨?_⟩, by rw [List.length_append]; exact hown4, hB4⟩
        rw [← he.out, encN_big hlt, List.append_assoc, show ((m : Int) % 128 + 128).toNat = m % 128 + 128 by omega]
        rfl
      case measure => simp [intOf]; omega

theorem zig_rg {z : Int} (h : Rg z) : zig z < 18446744073709551616 := by
  unfold zig
  unfold Rg at h
  split <;> omega
set_option maxHeartbeats 1000000 in
theorem signed_any (z : Int) (hz : Rg z) (W : World) : Calls Try.prog 60 #[.int .i64 z] W fun e W' => e = .returned (.int .u64 (zig z : Int)) ∧ W' = W := by
  unfold Rg at hz
  by_cases h0 : 0 ≤ z
  · have he : (zig z : Int) = 2 * z := by unfold zig; rw [if_neg (by omega)]; omega
    rw [he]
    clear he
    have hm : z % 18446744073709551616 = z := by omega
    have hm2 : (2 * z) % 18446744073709551616 = 2 * z := by omega
    go_enter Try.func60, Try.ntmps60
    go_wp2
    go_ret
    exact ⟨by first | rfl | (congr 2; omega), rfl⟩
  · have he : (zig z : Int) = 2 * (-(z + 1)) + 1 := by unfold zig; rw [if_pos (by omega)]; omega
    rw [he]
    clear he
    have hm : (-(z + 1)) % 18446744073709551616 = -(z + 1) := by omega
    have hm2 : (2 * (-(z + 1))) % 18446744073709551616 = 2 * (-(z + 1)) := by omega
    have hm3 : (2 * (-(z + 1)) + 1) % 18446744073709551616 = 2 * (-(z + 1)) + 1 := by omega
    go_enter Try.func60, Try.ntmps60
    go_wp2
    go_ret
    exact ⟨by first | rfl | (congr 2; omega), rfl⟩

end Go.Proofs.Ytjgkjdalnjlefaa.V


namespace Go.Proofs.Ytjgkjdalnjlefaa.V
open Go.RowKit

set_option maxRecDepth 8000 in
set_option maxHeartbeats 4000000 in
theorem rflag_true (lo wb : Nat) (W : World) {P : List Pc} {b : Bool} (h : RS lo wb W P b) (hP : P.length + 1 ≤ 1000000000) : Calls Try.prog 56 #[.pointer (some ⟨wb, 0, none⟩), .bool true] W (Rp lo wb P b [⟨4, 1, []⟩] W) := by
  obtain ⟨i0, hi, hz0, hz1, hz2⟩ := info_parts infoPc
  have hlo := h.lo
  have hwlt := h.lt
  obtain ⟨p0, cap0, c0, ho⟩ := h.own
  have hA := h.alloc (.cells #[.int .i64 4, .int .i64 1, .string ⟨#[]⟩] 121)
  have hoA := ho.alloc (.cells #[.int .i64 4, .int .i64 1, .string ⟨#[]⟩] 121)
  have hBA : BkR lo wb W (W.alloc (.cells #[.int .i64 4, .int .i64 1, .string ⟨#[]⟩] 121)) := BkR.alloc W (Nat.le_trans hlo (Nat.le_of_lt hwlt)) _
  clear h ho
  go_enter Try.func56, Try.ntmps56
  go_wp2_with (at_builtin; refine wpList_append_own _ rfl _ _ 110 rfl (wb + 1) 121 i0 _ 3 32 Try.underlying110 hi hz0 hz1 hz2 rfl (by decide) _ _ _ rfl hoA ⟨W.heap.size, 0, none⟩ 1 1 [.int .i64 4, .int .i64 1, .string ⟨#[]⟩] rfl rfl (lit_at W _ _) (by simp [Value.oneCell']) (by unfold maxLen; omega) (by omega) (by simp; omega) ?_; intro v4 w4 hown4 hgrow4 _; replace hown4 : w4.ownsRow (wb + 1) 121 3 v4 (P.length + 1) (pcs P ++ pcC ⟨4, 1, []⟩) := hown4; rw [← pcs_snoc] at hown4; obtain ⟨p4, cap4, rfl⟩ := own_sliceR hown4; obtain ⟨hW4, hB4, ⟨u4, hu4⟩, hz4⟩ := hA.push (P2 := P ++ [⟨4, 1, []⟩]) hoA hgrow4 (by rw [List.length_append]; exact hown4) (by rw [List.length_append, List.length_singleton]; omega); have hfin : Rp lo wb P b [⟨4, 1, []⟩] W (.returned (.tuple #[])) _ := ⟨rfl, hW4, hBA.trans hB4⟩; clear hown4 hgrow4 hW4 hB4)
  exact bodyPost_end (v := .tuple #[]) (by simp [results, Try.results56, go_sem]) rfl hfin

set_option maxRecDepth 8000 in
set_option maxHeartbeats 4000000 in
theorem rflag_false (lo wb : Nat) (W : World) {P : List Pc} {b : Bool} (h : RS lo wb W P b) (hP : P.length + 1 ≤ 1000000000) : Calls Try.prog 56 #[.pointer (some ⟨wb, 0, none⟩), .bool false] W (Rp lo wb P b [⟨4, 0, []⟩] W) := by
  obtain ⟨i0, hi, hz0, hz1, hz2⟩ := info_parts infoPc
  have hlo := h.lo
  have hwlt := h.lt
  obtain ⟨p0, cap0, c0, ho⟩ := h.own
  have hA := h.alloc (.cells #[.int .i64 4, .int .i64 0, .string ⟨#[]⟩] 121)
  have hoA := ho.alloc (.cells #[.int .i64 4, .int .i64 0, .string ⟨#[]⟩] 121)
  have hBA : BkR lo wb W (W.alloc (.cells #[.int .i64 4, .int .i64 0, .string ⟨#[]⟩] 121)) := BkR.alloc W (Nat.le_trans hlo (Nat.le_of_lt hwlt)) _
  clear h ho
  go_enter Try.func56, Try.ntmps56
  go_wp2_with (at_builtin; refine wpList_append_own _ rfl _ _ 110 rfl (wb + 1) 121 i0 _ 3 32 Try.underlying110 hi hz0 hz1 hz2 rfl (by decide) _ _ _ rfl hoA ⟨W.heap.size, 0, none⟩ 1 1 [.int .i64 4, .int .i64 0, .string ⟨#[]⟩] rfl rfl (lit_at W _ _) (by simp [Value.oneCell']) (by unfold maxLen; omega) (by omega) (by simp; omega) ?_; intro v4 w4 hown4 hgrow4 _; replace hown4 : w4.ownsRow (wb + 1) 121 3 v4 (P.length + 1) (pcs P ++ pcC ⟨4, 0, []⟩) := hown4; rw [← pcs_snoc] at hown4; obtain ⟨p4, cap4, rfl⟩ := own_sliceR hown4; obtain ⟨hW4, hB4, ⟨u4, hu4⟩, hz4⟩ := hA.push (P2 := P ++ [⟨4, 0, []⟩]) hoA hgrow4 (by rw [List.length_append]; exact hown4) (by rw [List.length_append, List.length_singleton]; omega); have hfin : Rp lo wb P b [⟨4, 0, []⟩] W (.returned (.tuple #[])) _ := ⟨rfl, hW4, hBA.trans hB4⟩; clear hown4 hgrow4 hW4 hB4)
  exact bodyPost_end (v := .tuple #[]) (by simp [results, Try.results56, go_sem]) rfl hfin

theorem rflag_any (lo wb : Nat) (x : Bool) (W : World) {P : List Pc} {b : Bool} (h : RS lo wb W P b) (hP : P.length + 1 ≤ 1000000000) : Calls Try.prog 56 #[.pointer (some ⟨wb, 0, none⟩), .bool x] W (Rp lo wb P b [⟨4, if x = true then 1 else 0, []⟩] W) := by
  cases x with
  | true => exact rflag_true lo wb W h hP
  | false => exact rflag_false lo wb W h hP

end Go.Proofs.Ytjgkjdalnjlefaa.V

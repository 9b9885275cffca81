import Derived.Test.YtjgngmmepheioaaJoin50
namespace Go.Proofs.Ytjgngmmepheioaa
open Go.RowKit

def HdEq (n1 n2 : List UInt8) (y1 y2 : Int) (o1 o2 : List (List UInt8 × List (List UInt8))) (t1 t2 : List (List UInt8 × List (Int × Int))) (g1 g2 : List (List UInt8 × Int)) : Prop := n1 = n2 ∧ y1 = y2 ∧ o1 = o2 ∧ t1 = t2 ∧ g1 = g2
set_option maxRecDepth 8000 in
set_option maxHeartbeats 1000000 in
theorem sameHeads_any (n1 n2 : List UInt8) (y1 y2 : Int) (o1 o2 : List (List UInt8 × List (List UInt8))) (t1 t2 : List (List UInt8 × List (Int × Int))) (g1 g2 : List (List UInt8 × Int)) (a31 a41 a51 a61 a71 a32 a42 a52 a62 a72 : Option Addr) (c31 c41 c51 c61 c71 c32 c42 c52 c62 c72 l61 l71 l62 l72 : Nat) (W : World) (hz : (o1.length ≤ 9223372036854775807 ∧ ∀ x ∈ o1, x.2.length ≤ 9223372036854775807) ∧ (t1.length ≤ 9223372036854775807 ∧ ∀ x ∈ t1, x.2.length ≤ 9223372036854775807) ∧ g1.length ≤ 9223372036854775807) (hO1 : RowR eO W AnyB o1 a31) (hO2 : RowR eO W AnyB o2 a32) (hT1 : RowR eT W AnyB t1 a41) (hT2 : RowR eT W AnyB t2 a42) (hG1 : RowR eG W AnyB g1 a51) (hG2 : RowR eG W AnyB g2 a52) : Calls Try.prog 22 #[.agg #[.string ⟨n1.toArray⟩, .int .i64 y1, .slice a31 o1.length c31, .slice a41 t1.length c41, .slice a51 g1.length c51, .slice a61 l61 c61, .slice a71 l71 c71], .agg #[.string ⟨n2.toArray⟩, .int .i64 y2, .slice a32 o2.length c32, .slice a42 t2.length c42, .slice a52 g2.length c52, .slice a62 l62 c62, .slice a72 l72 c72]] W (SmP (HdEq n1 n2 y1 y2 o1 o2 t1 t2 g1 g2) W) := by
  have hB : Below W.heap.size W ((W.alloc (.cells #[.string ⟨n1.toArray⟩, .int .i64 y1, .slice a31 o1.length c31, .slice a41 t1.length c41, .slice a51 g1.length c51, .slice a61 l61 c61, .slice a71 l71 c71] 29)).alloc (.cells #[.string ⟨n2.toArray⟩, .int .i64 y2, .slice a32 o2.length c32, .slice a42 t2.length c42, .slice a52 g2.length c52, .slice a62 l62 c62, .slice a72 l72 c72] 29)) := ((Below.refl _ _).alloc (Nat.le_refl _) _).alloc (by simp) _
  obtain ⟨Q, hQ⟩ : ∃ Q, SmP (HdEq n1 n2 y1 y2 o1 o2 t1 t2 g1 g2) W = Q := ⟨_, rfl⟩
  rw [hQ]
  have hQ := Hid.mk hQ
  have hno : ∀ W', ¬ (HdEq n1 n2 y1 y2 o1 o2 t1 t2 g1 g2) → Below W.heap.size W W' → Q (.returned (.bool false)) W' := fun W' hne hb => by
    rw [← hQ.out]
    exact ⟨hb, false, rfl, by simp only [Bool.false_eq_true, false_iff]; exact hne⟩
  by_cases h_n : n1 = n2
  rotate_left
  · have e1 : (n1 == n2) = false := by simp [h_n]
    have e2 : (n1 != n2) = true := by simp [h_n]
    have hfin := hno _ (fun h => h_n h.1) hB
    clear hno h_n hO1 hO2 hT1 hT2 hG1 hG2 hz
    go_enter Try.func22, Try.ntmps22
    go_wp2
    exact hfin
  subst h_n
  by_cases h_y : y1 = y2
  rotate_left
  · have e1 : (y1 == y2) = false := by simp [h_y]
    have e2 : (y1 != y2) = true := by simp [h_y]
    have hfin := hno _ (fun h => h_y h.2.1) hB
    clear hno h_y hO1 hO2 hT1 hT2 hG1 hG2 hz
    go_enter Try.func22, Try.ntmps22
    go_wp2
    exact hfin
  subst h_y
  by_cases h_o : o1.length = o2.length
  rotate_left
  · have e_o : ((o1.length : Int) != (o2.length : Int)) = true := by simp; omega
    have hfin := hno _ (fun h => h_o (by rw [h.2.2.1])) hB
    clear hno h_o hO1 hO2 hT1 hT2 hG1 hG2 hz
    go_enter Try.func22, Try.ntmps22
    go_wp2
    exact hfin
  have e_o : ((o1.length : Int) != (o2.length : Int)) = false := by simp; omega
  have hl_o := Hid.mk h_o
  clear h_o
  by_cases h_t : t1.length = t2.length
  rotate_left
  · have e_t : ((t1.length : Int) != (t2.length : Int)) = true := by simp; omega
    have hfin := hno _ (fun h => h_t (by rw [h.2.2.2.1])) hB
    clear hno h_t hO1 hO2 hT1 hT2 hG1 hG2 hz
    go_enter Try.func22, Try.ntmps22
    go_wp2
    exact hfin
  have e_t : ((t1.length : Int) != (t2.length : Int)) = false := by simp; omega
  have hl_t := Hid.mk h_t
  clear h_t
  by_cases h_g : g1.length = g2.length
  rotate_left
  · have e_g : ((g1.length : Int) != (g2.length : Int)) = true := by simp; omega
    have hfin := hno _ (fun h => h_g (by rw [h.2.2.2.2])) hB
    clear hno h_g hO1 hO2 hT1 hT2 hG1 hG2 hz
    go_enter Try.func22, Try.ntmps22
    go_wp2
    exact hfin
  have e_g : ((g1.length : Int) != (g2.length : Int)) = false := by simp; omega
  have hl_g := Hid.mk h_g
  clear h_g
  have hs1 : (W.alloc (.cells #[.string ⟨n1.toArray⟩, .int .i64 y1, .slice a31 o1.length c31, .slice a41 t1.length c41, .slice a51 g1.length c51, .slice a61 l61 c61, .slice a71 l71 c71] 29)).heap.size = W.heap.size + 1 := by simp
  have hsz : ((W.alloc (.cells #[.string ⟨n1.toArray⟩, .int .i64 y1, .slice a31 o1.length c31, .slice a41 t1.length c41, .slice a51 g1.length c51, .slice a61 l61 c61, .slice a71 l71 c71] 29)).alloc (.cells #[.string ⟨n1.toArray⟩, .int .i64 y1, .slice a32 o2.length c32, .slice a42 t2.length c42, .slice a52 g2.length c52, .slice a62 l62 c62, .slice a72 l72 c72] 29)).heap.size = W.heap.size + 1 + 1 := by simp
  have hx1 := ((bx_new W #[.string ⟨n1.toArray⟩, .int .i64 y1, .slice a31 o1.length c31, .slice a41 t1.length c41, .slice a51 g1.length c51, .slice a61 l61 c61, .slice a71 l71 c71] 29).kept (World.grownBy_alloc (W.alloc (.cells #[.string ⟨n1.toArray⟩, .int .i64 y1, .slice a31 o1.length c31, .slice a41 t1.length c41, .slice a51 g1.length c51, .slice a61 l61 c61, .slice a71 l71 c71] 29)) (.cells #[.string ⟨n1.toArray⟩, .int .i64 y1, .slice a32 o2.length c32, .slice a42 t2.length c42, .slice a52 g2.length c52, .slice a62 l62 c62, .slice a72 l72 c72] 29) none) (by simp)).2.1
  have hx2 := (bx_new (W.alloc (.cells #[.string ⟨n1.toArray⟩, .int .i64 y1, .slice a31 o1.length c31, .slice a41 t1.length c41, .slice a51 g1.length c51, .slice a61 l61 c61, .slice a71 l71 c71] 29)) #[.string ⟨n1.toArray⟩, .int .i64 y1, .slice a32 o2.length c32, .slice a42 t2.length c42, .slice a52 g2.length c52, .slice a62 l62 c62, .slice a72 l72 c72] 29).2.1
  rw [hs1] at hx2
  have xo : ((W.alloc (.cells #[.string ⟨n1.toArray⟩, .int .i64 y1, .slice a31 o1.length c31, .slice a41 t1.length c41, .slice a51 g1.length c51, .slice a61 l61 c61, .slice a71 l71 c71] 29)).alloc (.cells #[.string ⟨n1.toArray⟩, .int .i64 y1, .slice a32 o2.length c32, .slice a42 t2.length c42, .slice a52 g2.length c52, .slice a62 l62 c62, .slice a72 l72 c72] 29)).cell? ⟨W.heap.size, 2, none⟩ = _ := hx1 2 (by simp)
  have yo : ((W.alloc (.cells #[.string ⟨n1.toArray⟩, .int .i64 y1, .slice a31 o1.length c31, .slice a41 t1.length c41, .slice a51 g1.length c51, .slice a61 l61 c61, .slice a71 l71 c71] 29)).alloc (.cells #[.string ⟨n1.toArray⟩, .int .i64 y1, .slice a32 o2.length c32, .slice a42 t2.length c42, .slice a52 g2.length c52, .slice a62 l62 c62, .slice a72 l72 c72] 29)).cell? ⟨W.heap.size + 1, 2, none⟩ = _ := hx2 2 (by simp)
  have xt : ((W.alloc (.cells #[.string ⟨n1.toArray⟩, .int .i64 y1, .slice a31 o1.length c31, .slice a41 t1.length c41, .slice a51 g1.length c51, .slice a61 l61 c61, .slice a71 l71 c71] 29)).alloc (.cells #[.string ⟨n1.toArray⟩, .int .i64 y1, .slice a32 o2.length c32, .slice a42 t2.length c42, .slice a52 g2.length c52, .slice a62 l62 c62, .slice a72 l72 c72] 29)).cell? ⟨W.heap.size, 3, none⟩ = _ := hx1 3 (by simp)
  have yt : ((W.alloc (.cells #[.string ⟨n1.toArray⟩, .int .i64 y1, .slice a31 o1.length c31, .slice a41 t1.length c41, .slice a51 g1.length c51, .slice a61 l61 c61, .slice a71 l71 c71] 29)).alloc (.cells #[.string ⟨n1.toArray⟩, .int .i64 y1, .slice a32 o2.length c32, .slice a42 t2.length c42, .slice a52 g2.length c52, .slice a62 l62 c62, .slice a72 l72 c72] 29)).cell? ⟨W.heap.size + 1, 3, none⟩ = _ := hx2 3 (by simp)
  have xg : ((W.alloc (.cells #[.string ⟨n1.toArray⟩, .int .i64 y1, .slice a31 o1.length c31, .slice a41 t1.length c41, .slice a51 g1.length c51, .slice a61 l61 c61, .slice a71 l71 c71] 29)).alloc (.cells #[.string ⟨n1.toArray⟩, .int .i64 y1, .slice a32 o2.length c32, .slice a42 t2.length c42, .slice a52 g2.length c52, .slice a62 l62 c62, .slice a72 l72 c72] 29)).cell? ⟨W.heap.size, 4, none⟩ = _ := hx1 4 (by simp)
  have yg : ((W.alloc (.cells #[.string ⟨n1.toArray⟩, .int .i64 y1, .slice a31 o1.length c31, .slice a41 t1.length c41, .slice a51 g1.length c51, .slice a61 l61 c61, .slice a71 l71 c71] 29)).alloc (.cells #[.string ⟨n1.toArray⟩, .int .i64 y1, .slice a32 o2.length c32, .slice a42 t2.length c42, .slice a52 g2.length c52, .slice a62 l62 c62, .slice a72 l72 c72] 29)).cell? ⟨W.heap.size + 1, 4, none⟩ = _ := hx2 4 (by simp)
  have hO1 := row_bel hO1 hB (Nat.le_refl _)
  have hO2 := row_bel hO2 hB (Nat.le_refl _)
  have hT1 := row_bel hT1 hB (Nat.le_refl _)
  have hT2 := row_bel hT2 hB (Nat.le_refl _)
  have hG1 := row_bel hG1 hB (Nat.le_refl _)
  have hG2 := row_bel hG2 hB (Nat.le_refl _)
  obtain ⟨⟨zo, zo2⟩, ⟨zt, zt2⟩, zg⟩ := hz
  have hno2 := Hid.mk hno
  clear hx1 hx2 hs1 hno
  have hno := hno2
  clear hno2
  go_enter Try.func22, Try.ntmps22
  go_wp2
  go_loopw [5] (fun iv wr => ∃ i : Nat, iv = .int .i64 (i : Int) ∧ i ≤ o1.length ∧ Below ((W.alloc (.cells #[.string ⟨n1.toArray⟩, .int .i64 y1, .slice a31 o1.length c31, .slice a41 t1.length c41, .slice a51 g1.length c51, .slice a61 l61 c61, .slice a71 l71 c71] 29)).alloc (.cells #[.string ⟨n1.toArray⟩, .int .i64 y1, .slice a32 o2.length c32, .slice a42 t2.length c42, .slice a52 g2.length c52, .slice a62 l62 c62, .slice a72 l72 c72] 29)).heap.size ((W.alloc (.cells #[.string ⟨n1.toArray⟩, .int .i64 y1, .slice a31 o1.length c31, .slice a41 t1.length c41, .slice a51 g1.length c51, .slice a61 l61 c61, .slice a71 l71 c71] 29)).alloc (.cells #[.string ⟨n1.toArray⟩, .int .i64 y1, .slice a32 o2.length c32, .slice a42 t2.length c42, .slice a52 g2.length c52, .slice a62 l62 c62, .slice a72 l72 c72] 29)) wr ∧ Hid (∀ j (h1 : j < o1.length) (h2 : j < o2.length), j < i → o1[j] = o2[j])) (fun iv _ => o1.length - (intOf iv).toNat)
  case atStart => exact ⟨0, rfl, Nat.zero_le _, Below.refl _ _, ⟨fun j _ _ h => absurd h (Nat.not_lt_zero _)⟩⟩
  case round =>
    obtain ⟨w0, hw00⟩ : ∃ w0, w0 = wr := ⟨wr, rfl⟩
    subst hw00
    obtain ⟨i, rfl, hi, hBr, hall⟩ := hrel
    have q1 := (bel_cell hBr (show W.heap.size < ((W.alloc (.cells #[.string ⟨n1.toArray⟩, .int .i64 y1, .slice a31 o1.length c31, .slice a41 t1.length c41, .slice a51 g1.length c51, .slice a61 l61 c61, .slice a71 l71 c71] 29)).alloc (.cells #[.string ⟨n1.toArray⟩, .int .i64 y1, .slice a32 o2.length c32, .slice a42 t2.length c42, .slice a52 g2.length c52, .slice a62 l62 c62, .slice a72 l72 c72] 29)).heap.size by rw [hsz]; omega) 2).trans xo
    have q2 := (bel_cell hBr (show W.heap.size + 1 < ((W.alloc (.cells #[.string ⟨n1.toArray⟩, .int .i64 y1, .slice a31 o1.length c31, .slice a41 t1.length c41, .slice a51 g1.length c51, .slice a61 l61 c61, .slice a71 l71 c71] 29)).alloc (.cells #[.string ⟨n1.toArray⟩, .int .i64 y1, .slice a32 o2.length c32, .slice a42 t2.length c42, .slice a52 g2.length c52, .slice a62 l62 c62, .slice a72 l72 c72] 29)).heap.size by rw [hsz]; omega) 2).trans yo
    by_cases hlt : i < o1.length
    · have hlt' : (i : Int) < (o1.length : Int) := by omega
      have hiy : i < o2.length := by have := hl_o.out; omega
      have hlt2 : (i : Int) < (o2.length : Int) := by omega
      have hi0 : (0 : Int) ≤ (i : Int) := by omega
      obtain ⟨g, o, hga⟩ := hO1.some hlt
      obtain ⟨g', o', hgb⟩ := hO2.some hiy
      have hFr := row_bel hO1 hBr (Nat.le_refl _)
      have hGr := row_bel hO2 hBr (Nat.le_refl _)
      rw [hga] at hFr q1
      rw [hgb] at hGr q2
      clear hga hgb
      obtain ⟨cx0, -, -, ⟨ax, cx, rfl, hRx⟩, hcx⟩ := hFr.item hlt
      obtain ⟨cy0, -, -, ⟨ay, cy, rfl, hRy⟩, hcy⟩ := hGr.item hiy
      have hzi := zo2 _ (List.getElem_mem hlt)
      have hstep : o1[i] = o2[i] → ∀ j (h1 : j < o1.length) (h2 : j < o2.length), j < i + 1 → o1[j] = o2[j] := fun he j h1 h2 hj => by
        by_cases hji : j < i
        · exact hall.out j h1 h2 hji
        · obtain rfl : j = i := by omega
          exact he
      have hne : ¬ o1[i] = o2[i] → ¬ (HdEq n1 n1 y1 y1 o1 o2 t1 t2 g1 g2) := fun h e => by
        have e2 := e.2.2.1
        subst e2
        exact h rfl
      have hstep := Hid.mk hstep
      have hne := Hid.mk hne
      generalize o1[i] = x at hcx hRx hzi hstep hne
      generalize o2[i] = y at hcy hRy hstep hne
      obtain ⟨nx, lx⟩ := x
      obtain ⟨ny, ly⟩ := y
      have kx0 : w0.cell? ⟨g, o + i * 2, none⟩ = some (.string ⟨nx.toArray⟩) := hcx 0 (by decide)
      have kx1 : w0.cell? ⟨g, o + i * 2 + 1, none⟩ = some (.slice ax lx.length cx) := hcx 1 (by decide)
      have ky0 : w0.cell? ⟨g', o' + i * 2, none⟩ = some (.string ⟨ny.toArray⟩) := hcy 0 (by decide)
      have ky1 : w0.cell? ⟨g', o' + i * 2 + 1, none⟩ = some (.slice ay ly.length cy) := hcy 1 (by decide)
      have hgs : g < w0.heap.size := World.block_lt_of_cell? _ _ kx0
      have hgs' : g' < w0.heap.size := World.block_lt_of_cell? _ _ ky0
      have hw1 : W.heap.size + 1 < w0.heap.size := World.block_lt_of_cell? _ _ q2
      have hw0 : W.heap.size < w0.heap.size := by omega
      clear hcx hcy hFr hGr hall
      have hBv := (hBr.alloc hBr.size (.cells #[.string ⟨nx.toArray⟩, .slice ax lx.length cx] 92)).alloc (by have := hBr.size; simp at this ⊢; omega) (.cells #[.string ⟨ny.toArray⟩, .slice ay ly.length cy] 92)
      have hBn : Below w0.heap.size w0 ((w0.alloc (.cells #[.string ⟨nx.toArray⟩, .slice ax lx.length cx] 92)).alloc (.cells #[.string ⟨ny.toArray⟩, .slice ay ly.length cy] 92)) := ((Below.refl _ _).alloc (Nat.le_refl _) _).alloc (by simp) _
      have hnov := fun h => hno.out _ h (Below.tr hB hBv (by rw [hsz]; omega))
      by_cases hn : nx = ny
      rotate_left
      · have e1 : (nx == ny) = false := by simp [hn]
        have e2 : (nx != ny) = true := by simp [hn]
        have hfin := hnov (hne.out (fun h => hn (by cases h; rfl)))
        clear hno hnov hne hstep hn hBv hzi hRx hRy
        go_wp2
        exact hfin
      subst hn
      by_cases hll : lx.length = ly.length
      rotate_left
      · have e1 : ((lx.length : Int) != (ly.length : Int)) = true := by simp; omega
        have hfin := hnov (hne.out (fun h => hll (by cases h; rfl)))
        clear hno hnov hne hstep hll hBv hzi hRx hRy
        go_wp2
        exact hfin
      have e1 : ((lx.length : Int) != (ly.length : Int)) = false := by simp; omega
      have hll2 := Hid.mk hll
      clear hll
      have hsv : (w0.alloc (.cells #[.string ⟨nx.toArray⟩, .slice ax lx.length cx] 92)).heap.size = w0.heap.size + 1 := by simp
      have hsv2 : ((w0.alloc (.cells #[.string ⟨nx.toArray⟩, .slice ax lx.length cx] 92)).alloc (.cells #[.string ⟨nx.toArray⟩, .slice ay ly.length cy] 92)).heap.size = w0.heap.size + 1 + 1 := by simp
      have hbx := ((bx_new w0 #[.string ⟨nx.toArray⟩, .slice ax lx.length cx] 92).kept (World.grownBy_alloc (w0.alloc (.cells #[.string ⟨nx.toArray⟩, .slice ax lx.length cx] 92)) (.cells #[.string ⟨nx.toArray⟩, .slice ay ly.length cy] 92) none) (by simp)).2.1 1 (by simp)
      have hby := (bx_new (w0.alloc (.cells #[.string ⟨nx.toArray⟩, .slice ax lx.length cx] 92)) #[.string ⟨nx.toArray⟩, .slice ay ly.length cy] 92).2.1 1 (by simp)
      rw [hsv] at hby
      have hRx := row_bel hRx hBn (Nat.le_refl _)
      have hRy := row_bel hRy hBn (Nat.le_refl _)
      have hzi : lx.length ≤ 9223372036854775807 := hzi
      clear hnov hBn hsv
      go_wp2
      go_loopw [8] (fun kv wr => ∃ k : Nat, kv = .int .i64 (k : Int) ∧ k ≤ lx.length ∧ Below ((w0.alloc (.cells #[.string ⟨nx.toArray⟩, .slice ax lx.length cx] 92)).alloc (.cells #[.string ⟨nx.toArray⟩, .slice ay ly.length cy] 92)).heap.size ((w0.alloc (.cells #[.string ⟨nx.toArray⟩, .slice ax lx.length cx] 92)).alloc (.cells #[.string ⟨nx.toArray⟩, .slice ay ly.length cy] 92)) wr ∧ Hid (∀ j (h1 : j < lx.length) (h2 : j < ly.length), j < k → lx[j] = ly[j])) (fun kv _ => lx.length - (intOf kv).toNat)
      case atStart => exact ⟨0, rfl, Nat.zero_le _, Below.refl _ _, ⟨fun j _ _ h => absurd h (Nat.not_lt_zero _)⟩⟩
      case round =>
        obtain ⟨k, rfl, hk, hBk, hallk⟩ := hrel
        have z1 := (bel_cell hBk (show w0.heap.size < ((w0.alloc (.cells #[.string ⟨nx.toArray⟩, .slice ax lx.length cx] 92)).alloc (.cells #[.string ⟨nx.toArray⟩, .slice ay ly.length cy] 92)).heap.size by rw [hsv2]; omega) 1).trans hbx
        have z2 := (bel_cell hBk (show w0.heap.size + 1 < ((w0.alloc (.cells #[.string ⟨nx.toArray⟩, .slice ax lx.length cx] 92)).alloc (.cells #[.string ⟨nx.toArray⟩, .slice ay ly.length cy] 92)).heap.size by rw [hsv2]; omega) 1).trans hby
        have hBk2 := Below.tr hBv hBk (by rw [hsv2]; have := hBr.size; omega)
        by_cases hkt : k < lx.length
        · have hkt' : (k : Int) < (lx.length : Int) := by omega
          have hky : k < ly.length := by have := hll2.out; omega
          have hkt2 : (k : Int) < (ly.length : Int) := by omega
          have hk0 : (0 : Int) ≤ (k : Int) := by omega
          obtain ⟨p, r, hpa⟩ := hRx.some hkt
          obtain ⟨p', r', hpb⟩ := hRy.some hky
          have hFk := row_bel hRx hBk (Nat.le_refl _)
          have hGk := row_bel hRy hBk (Nat.le_refl _)
          rw [hpa] at hFk z1
          rw [hpb] at hGk z2
          clear hpa hpb
          obtain ⟨cxk, -, -, hEx, hcxk⟩ := hFk.item hkt
          obtain ⟨cyk, -, -, hEy, hcyk⟩ := hGk.item hky
          have hstk : lx[k] = ly[k] → ∀ j (h1 : j < lx.length) (h2 : j < ly.length), j < k + 1 → lx[j] = ly[j] := fun he j h1 h2 hj => by
            by_cases hji : j < k
            · exact hallk.out j h1 h2 hji
            · obtain rfl : j = k := by omega
              exact he
          have hnk : ¬ lx[k] = ly[k] → ¬ (HdEq n1 n1 y1 y1 o1 o2 t1 t2 g1 g2) := fun h => hne.out (fun e => by cases e; exact h rfl)
          have hstk := Hid.mk hstk
          have hnk := Hid.mk hnk
          generalize lx[k] = u at hEx hstk hnk
          generalize ly[k] = v at hEy hstk hnk
          have hEx : cxk = [.string ⟨u.toArray⟩] := hEx
          have hEy : cyk = [.string ⟨v.toArray⟩] := hEy
          subst hEx
          subst hEy
          have ku : wr.cell? ⟨p, r + k, none⟩ = some (.string ⟨u.toArray⟩) := by have h := hcxk 0 (by decide); rw [show eS.k = 1 from rfl, Nat.mul_one] at h; exact h
          have kv : wr.cell? ⟨p', r' + k, none⟩ = some (.string ⟨v.toArray⟩) := by have h := hcyk 0 (by decide); rw [show eS.k = 1 from rfl, Nat.mul_one] at h; exact h
          have hS0 : wr.drew.cell? ⟨w0.heap.size, 1, none⟩ = some (.slice (some ⟨p, r, none⟩) lx.length cx) ∧ wr.drew.cell? ⟨w0.heap.size + 1, 1, none⟩ = some (.slice (some ⟨p', r', none⟩) ly.length cy) ∧ wr.drew.cell? ⟨p, r + k, none⟩ = some (.string ⟨u.toArray⟩) ∧ wr.drew.cell? ⟨p', r' + k, none⟩ = some (.string ⟨v.toArray⟩) := ⟨z1, z2, ku, kv⟩
          have hBd : Below wr.heap.size wr wr.drew := (Below.refl _ _).drew
          have hBk3 := Below.tr hBk hBd hBk.size
          have hBk4 := Below.tr hBk2 hBd hBk2.size
          clear hcxk hcyk hFk hGk hRx hRy hallk
          by_cases huv : u = v
          · have hst := Hid.mk (hstk.out huv)
            subst huv
            clear hstk hnk hno hne hstep
            go_wp2
            go_region_held3 (fun X => X.cell? ⟨w0.heap.size, 1, none⟩ = some (.slice (some ⟨p, r, none⟩) lx.length cx) ∧ X.cell? ⟨w0.heap.size + 1, 1, none⟩ = some (.slice (some ⟨p', r', none⟩) ly.length cy) ∧ X.cell? ⟨p, r + k, none⟩ = some (.string ⟨u.toArray⟩) ∧ X.cell? ⟨p', r' + k, none⟩ = some (.string ⟨u.toArray⟩)) (assumption) (fail)
            go_wp2
            go_roundw
            case rel => exact ⟨k + 1, by go_num, by omega, hBk3, hst⟩
            case measure => simp [intOf]; omega
          · have e3 : (u == v) = false := by simp [huv]
            have e4 : (u != v) = true := by simp [huv]
            have hfin := hno.out _ (hnk.out huv) (Below.tr hB hBk4 (by rw [hsz]; omega))
            clear hstk hnk hno hne hstep huv
            go_wp2
            go_region_held3 (fun X => X.cell? ⟨w0.heap.size, 1, none⟩ = some (.slice (some ⟨p, r, none⟩) lx.length cx) ∧ X.cell? ⟨w0.heap.size + 1, 1, none⟩ = some (.slice (some ⟨p', r', none⟩) ly.length cy) ∧ X.cell? ⟨p, r + k, none⟩ = some (.string ⟨u.toArray⟩) ∧ X.cell? ⟨p', r' + k, none⟩ = some (.string ⟨v.toArray⟩)) (assumption) (fail)
            go_wp2
            exact hfin
        · have hkt' : ¬ (k : Int) < (lx.length : Int) := by omega
          have hst := Hid.mk (hstep.out (by rw [list_all hll2.out (fun j h1 h2 => hallk.out j h1 h2 (by omega))]))
          clear hallk hstep hne hno
          go_wp2
          go_roundw
          case rel => exact ⟨i + 1, by go_num, by omega, hBk2, hst⟩
          case measure => simp [intOf]; omega
    · have hlt' : ¬ (i : Int) < (o1.length : Int) := by omega
      have heq_o : Hid (o1 = o2) := ⟨list_all hl_o.out (fun j h1 h2 => hall.out j h1 h2 (by omega))⟩
      clear hall
      have hBr1 := hBr
      clear hBr hi hlt
      go_wp2
      go_loopw [9] (fun iv wr => ∃ i : Nat, iv = .int .i64 (i : Int) ∧ i ≤ t1.length ∧ Below ((W.alloc (.cells #[.string ⟨n1.toArray⟩, .int .i64 y1, .slice a31 o1.length c31, .slice a41 t1.length c41, .slice a51 g1.length c51, .slice a61 l61 c61, .slice a71 l71 c71] 29)).alloc (.cells #[.string ⟨n1.toArray⟩, .int .i64 y1, .slice a32 o2.length c32, .slice a42 t2.length c42, .slice a52 g2.length c52, .slice a62 l62 c62, .slice a72 l72 c72] 29)).heap.size ((W.alloc (.cells #[.string ⟨n1.toArray⟩, .int .i64 y1, .slice a31 o1.length c31, .slice a41 t1.length c41, .slice a51 g1.length c51, .slice a61 l61 c61, .slice a71 l71 c71] 29)).alloc (.cells #[.string ⟨n1.toArray⟩, .int .i64 y1, .slice a32 o2.length c32, .slice a42 t2.length c42, .slice a52 g2.length c52, .slice a62 l62 c62, .slice a72 l72 c72] 29)) wr ∧ Hid (∀ j (h1 : j < t1.length) (h2 : j < t2.length), j < i → t1[j] = t2[j])) (fun iv _ => t1.length - (intOf iv).toNat)
      case atStart => exact ⟨0, rfl, Nat.zero_le _, hBr1, ⟨fun j _ _ h => absurd h (Nat.not_lt_zero _)⟩⟩
      case round =>
        obtain ⟨w0, hw00⟩ : ∃ w0, w0 = wr := ⟨wr, rfl⟩
        subst hw00
        obtain ⟨i, rfl, hi, hBr, hall⟩ := hrel
        have q1 := (bel_cell hBr (show W.heap.size < ((W.alloc (.cells #[.string ⟨n1.toArray⟩, .int .i64 y1, .slice a31 o1.length c31, .slice a41 t1.length c41, .slice a51 g1.length c51, .slice a61 l61 c61, .slice a71 l71 c71] 29)).alloc (.cells #[.string ⟨n1.toArray⟩, .int .i64 y1, .slice a32 o2.length c32, .slice a42 t2.length c42, .slice a52 g2.length c52, .slice a62 l62 c62, .slice a72 l72 c72] 29)).heap.size by rw [hsz]; omega) 3).trans xt
        have q2 := (bel_cell hBr (show W.heap.size + 1 < ((W.alloc (.cells #[.string ⟨n1.toArray⟩, .int .i64 y1, .slice a31 o1.length c31, .slice a41 t1.length c41, .slice a51 g1.length c51, .slice a61 l61 c61, .slice a71 l71 c71] 29)).alloc (.cells #[.string ⟨n1.toArray⟩, .int .i64 y1, .slice a32 o2.length c32, .slice a42 t2.length c42, .slice a52 g2.length c52, .slice a62 l62 c62, .slice a72 l72 c72] 29)).heap.size by rw [hsz]; omega) 3).trans yt
        by_cases hlt : i < t1.length
        · have hlt' : (i : Int) < (t1.length : Int) := by omega
          have hiy : i < t2.length := by have := hl_t.out; omega
          have hlt2 : (i : Int) < (t2.length : Int) := by omega
          have hi0 : (0 : Int) ≤ (i : Int) := by omega
          obtain ⟨g, o, hga⟩ := hT1.some hlt
          obtain ⟨g', o', hgb⟩ := hT2.some hiy
          have hFr := row_bel hT1 hBr (Nat.le_refl _)
          have hGr := row_bel hT2 hBr (Nat.le_refl _)
          rw [hga] at hFr q1
          rw [hgb] at hGr q2
          clear hga hgb
          obtain ⟨cx0, -, -, ⟨ax, cx, rfl, hRx⟩, hcx⟩ := hFr.item hlt
          obtain ⟨cy0, -, -, ⟨ay, cy, rfl, hRy⟩, hcy⟩ := hGr.item hiy
          have hzi := zt2 _ (List.getElem_mem hlt)
          have hstep : t1[i] = t2[i] → ∀ j (h1 : j < t1.length) (h2 : j < t2.length), j < i + 1 → t1[j] = t2[j] := fun he j h1 h2 hj => by
            by_cases hji : j < i
            · exact hall.out j h1 h2 hji
            · obtain rfl : j = i := by omega
              exact he
          have hne : ¬ t1[i] = t2[i] → ¬ (HdEq n1 n1 y1 y1 o1 o2 t1 t2 g1 g2) := fun h e => by
            have e2 := e.2.2.2.1
            subst e2
            exact h rfl
          have hstep := Hid.mk hstep
          have hne := Hid.mk hne
          generalize t1[i] = x at hcx hRx hzi hstep hne
          generalize t2[i] = y at hcy hRy hstep hne
          obtain ⟨nx, lx⟩ := x
          obtain ⟨ny, ly⟩ := y
          have kx0 : w0.cell? ⟨g, o + i * 2, none⟩ = some (.string ⟨nx.toArray⟩) := hcx 0 (by decide)
          have kx1 : w0.cell? ⟨g, o + i * 2 + 1, none⟩ = some (.slice ax lx.length cx) := hcx 1 (by decide)
          have ky0 : w0.cell? ⟨g', o' + i * 2, none⟩ = some (.string ⟨ny.toArray⟩) := hcy 0 (by decide)
          have ky1 : w0.cell? ⟨g', o' + i * 2 + 1, none⟩ = some (.slice ay ly.length cy) := hcy 1 (by decide)
          have hgs : g < w0.heap.size := World.block_lt_of_cell? _ _ kx0
          have hgs' : g' < w0.heap.size := World.block_lt_of_cell? _ _ ky0
          have hw1 : W.heap.size + 1 < w0.heap.size := World.block_lt_of_cell? _ _ q2
          have hw0 : W.heap.size < w0.heap.size := by omega
          clear hcx hcy hFr hGr hall
          have hBv := (hBr.alloc hBr.size (.cells #[.string ⟨nx.toArray⟩, .slice ax lx.length cx] 95)).alloc (by have := hBr.size; simp at this ⊢; omega) (.cells #[.string ⟨ny.toArray⟩, .slice ay ly.length cy] 95)
          have hBn : Below w0.heap.size w0 ((w0.alloc (.cells #[.string ⟨nx.toArray⟩, .slice ax lx.length cx] 95)).alloc (.cells #[.string ⟨ny.toArray⟩, .slice ay ly.length cy] 95)) := ((Below.refl _ _).alloc (Nat.le_refl _) _).alloc (by simp) _
          have hnov := fun h => hno.out _ h (Below.tr hB hBv (by rw [hsz]; omega))
          by_cases hn : nx = ny
          rotate_left
          · have e1 : (nx == ny) = false := by simp [hn]
            have e2 : (nx != ny) = true := by simp [hn]
            have hfin := hnov (hne.out (fun h => hn (by cases h; rfl)))
            clear hno hnov hne hstep hn hBv hzi hRx hRy
            go_wp2
            exact hfin
          subst hn
          by_cases hll : lx.length = ly.length
          rotate_left
          · have e1 : ((lx.length : Int) != (ly.length : Int)) = true := by simp; omega
            have hfin := hnov (hne.out (fun h => hll (by cases h; rfl)))
            clear hno hnov hne hstep hll hBv hzi hRx hRy
            go_wp2
            exact hfin
          have e1 : ((lx.length : Int) != (ly.length : Int)) = false := by simp; omega
          have hll2 := Hid.mk hll
          clear hll
          have hsv : (w0.alloc (.cells #[.string ⟨nx.toArray⟩, .slice ax lx.length cx] 95)).heap.size = w0.heap.size + 1 := by simp
          have hsv2 : ((w0.alloc (.cells #[.string ⟨nx.toArray⟩, .slice ax lx.length cx] 95)).alloc (.cells #[.string ⟨nx.toArray⟩, .slice ay ly.length cy] 95)).heap.size = w0.heap.size + 1 + 1 := by simp
          have hbx := ((bx_new w0 #[.string ⟨nx.toArray⟩, .slice ax lx.length cx] 95).kept (World.grownBy_alloc (w0.alloc (.cells #[.string ⟨nx.toArray⟩, .slice ax lx.length cx] 95)) (.cells #[.string ⟨nx.toArray⟩, .slice ay ly.length cy] 95) none) (by simp)).2.1 1 (by simp)
          have hby := (bx_new (w0.alloc (.cells #[.string ⟨nx.toArray⟩, .slice ax lx.length cx] 95)) #[.string ⟨nx.toArray⟩, .slice ay ly.length cy] 95).2.1 1 (by simp)
          rw [hsv] at hby
          have hRx := row_bel hRx hBn (Nat.le_refl _)
          have hRy := row_bel hRy hBn (Nat.le_refl _)
          have hzi : lx.length ≤ 9223372036854775807 := hzi
          clear hnov hBn hsv
          go_wp2
          go_loopw [12] (fun kv wr => ∃ k : Nat, kv = .int .i64 (k : Int) ∧ k ≤ lx.length ∧ Below ((w0.alloc (.cells #[.string ⟨nx.toArray⟩, .slice ax lx.length cx] 95)).alloc (.cells #[.string ⟨nx.toArray⟩, .slice ay ly.length cy] 95)).heap.size ((w0.alloc (.cells #[.string ⟨nx.toArray⟩, .slice ax lx.length cx] 95)).alloc (.cells #[.string ⟨nx.toArray⟩, .slice ay ly.length cy] 95)) wr ∧ Hid (∀ j (h1 : j < lx.length) (h2 : j < ly.length), j < k → lx[j] = ly[j])) (fun kv _ => lx.length - (intOf kv).toNat)
          case atStart => exact ⟨0, rfl, Nat.zero_le _, Below.refl _ _, ⟨fun j _ _ h => absurd h (Nat.not_lt_zero _)⟩⟩
          case round =>
            obtain ⟨k, rfl, hk, hBk, hallk⟩ := hrel
            have z1 := (bel_cell hBk (show w0.heap.size < ((w0.alloc (.cells #[.string ⟨nx.toArray⟩, .slice ax lx.length cx] 95)).alloc (.cells #[.string ⟨nx.toArray⟩, .slice ay ly.length cy] 95)).heap.size by rw [hsv2]; omega) 1).trans hbx
            have z2 := (bel_cell hBk (show w0.heap.size + 1 < ((w0.alloc (.cells #[.string ⟨nx.toArray⟩, .slice ax lx.length cx] 95)).alloc (.cells #[.string ⟨nx.toArray⟩, .slice ay ly.length cy] 95)).heap.size by rw [hsv2]; omega) 1).trans hby
            have hBk2 := Below.tr hBv hBk (by rw [hsv2]; have := hBr.size; omega)
            by_cases hkt : k < lx.length
            · have hkt' : (k : Int) < (lx.length : Int) := by omega
              have hky : k < ly.length := by have := hll2.out; omega
              have hkt2 : (k : Int) < (ly.length : Int) := by omega
              have hk0 : (0 : Int) ≤ (k : Int) := by omega
              obtain ⟨p, r, hpa⟩ := hRx.some hkt
              obtain ⟨p', r', hpb⟩ := hRy.some hky
              have hFk := row_bel hRx hBk (Nat.le_refl _)
              have hGk := row_bel hRy hBk (Nat.le_refl _)
              rw [hpa] at hFk z1
              rw [hpb] at hGk z2
              clear hpa hpb
              obtain ⟨cxk, -, -, hEx, hcxk⟩ := hFk.item hkt
              obtain ⟨cyk, -, -, hEy, hcyk⟩ := hGk.item hky
              have hstk : lx[k] = ly[k] → ∀ j (h1 : j < lx.length) (h2 : j < ly.length), j < k + 1 → lx[j] = ly[j] := fun he j h1 h2 hj => by
                by_cases hji : j < k
                · exact hallk.out j h1 h2 hji
                · obtain rfl : j = k := by omega
                  exact he
              have hnk : ¬ lx[k] = ly[k] → ¬ (HdEq n1 n1 y1 y1 o1 o2 t1 t2 g1 g2) := fun h => hne.out (fun e => by cases e; exact h rfl)
              have hstk := Hid.mk hstk
              have hnk := Hid.mk hnk
              generalize lx[k] = u at hEx hstk hnk
              generalize ly[k] = v at hEy hstk hnk
              obtain ⟨ua, ub⟩ := u
              obtain ⟨va, vb⟩ := v
              have hEx : cxk = [.int .i64 ua, .int .i64 ub] := hEx.1
              have hEy : cyk = [.int .i64 va, .int .i64 vb] := hEy.1
              subst hEx
              subst hEy
              have hS0 : wr.drew.cell? ⟨w0.heap.size, 1, none⟩ = some (.slice (some ⟨p, r, none⟩) lx.length cx) ∧ wr.drew.cell? ⟨w0.heap.size + 1, 1, none⟩ = some (.slice (some ⟨p', r', none⟩) ly.length cy) ∧ wr.drew.cell? ⟨p, r + k * 2, none⟩ = some (.int .i64 ua) ∧ wr.drew.cell? ⟨p, r + k * 2 + 1, none⟩ = some (.int .i64 ub) ∧ wr.drew.cell? ⟨p', r' + k * 2, none⟩ = some (.int .i64 va) ∧ wr.drew.cell? ⟨p', r' + k * 2 + 1, none⟩ = some (.int .i64 vb) := ⟨z1, z2, hcxk 0 (by decide), hcxk 1 (by decide), hcyk 0 (by decide), hcyk 1 (by decide)⟩
              have hBd : Below wr.heap.size wr wr.drew := (Below.refl _ _).drew
              have hBk3 := Below.tr hBk hBd hBk.size
              have hBk4 := Below.tr hBk2 hBd hBk2.size
              clear hcxk hcyk hFk hGk hRx hRy hallk
              by_cases h_ua : ua = va
              rotate_left
              · have e3 : (ua == va) = false := by simp [h_ua]
                have e4 : (ua != va) = true := by simp [h_ua]
                have hfin := hno.out _ (hnk.out (fun h => h_ua (by cases h; rfl))) (Below.tr hB hBk4 (by rw [hsz]; omega))
                clear hstk hnk hno hne hstep h_ua
                go_wp2
                go_region_held3 (fun X => X.cell? ⟨w0.heap.size, 1, none⟩ = some (.slice (some ⟨p, r, none⟩) lx.length cx) ∧ X.cell? ⟨w0.heap.size + 1, 1, none⟩ = some (.slice (some ⟨p', r', none⟩) ly.length cy) ∧ X.cell? ⟨p, r + k * 2, none⟩ = some (.int .i64 ua) ∧ X.cell? ⟨p, r + k * 2 + 1, none⟩ = some (.int .i64 ub) ∧ X.cell? ⟨p', r' + k * 2, none⟩ = some (.int .i64 va) ∧ X.cell? ⟨p', r' + k * 2 + 1, none⟩ = some (.int .i64 vb)) (assumption) (fail)
                go_wp2
                exact hfin
              subst h_ua
              by_cases h_ub : ub = vb
              rotate_left
              · have e3 : (ub == vb) = false := by simp [h_ub]
                have e4 : (ub != vb) = true := by simp [h_ub]
                have hfin := hno.out _ (hnk.out (fun h => h_ub (by cases h; rfl))) (Below.tr hB hBk4 (by rw [hsz]; omega))
                clear hstk hnk hno hne hstep h_ub
                go_wp2
                go_region_held3 (fun X => X.cell? ⟨w0.heap.size, 1, none⟩ = some (.slice (some ⟨p, r, none⟩) lx.length cx) ∧ X.cell? ⟨w0.heap.size + 1, 1, none⟩ = some (.slice (some ⟨p', r', none⟩) ly.length cy) ∧ X.cell? ⟨p, r + k * 2, none⟩ = some (.int .i64 ua) ∧ X.cell? ⟨p, r + k * 2 + 1, none⟩ = some (.int .i64 ub) ∧ X.cell? ⟨p', r' + k * 2, none⟩ = some (.int .i64 ua) ∧ X.cell? ⟨p', r' + k * 2 + 1, none⟩ = some (.int .i64 vb)) (assumption) (fail)
                go_wp2
                exact hfin
              subst h_ub
              have hst := Hid.mk (hstk.out rfl)
              clear hstk hnk hno hne hstep
              go_wp2
              go_region_held3 (fun X => X.cell? ⟨w0.heap.size, 1, none⟩ = some (.slice (some ⟨p, r, none⟩) lx.length cx) ∧ X.cell? ⟨w0.heap.size + 1, 1, none⟩ = some (.slice (some ⟨p', r', none⟩) ly.length cy) ∧ X.cell? ⟨p, r + k * 2, none⟩ = some (.int .i64 ua) ∧ X.cell? ⟨p, r + k * 2 + 1, none⟩ = some (.int .i64 ub) ∧ X.cell? ⟨p', r' + k * 2, none⟩ = some (.int .i64 ua) ∧ X.cell? ⟨p', r' + k * 2 + 1, none⟩ = some (.int .i64 ub)) (assumption) (fail)
              go_wp2
              go_roundw
              case rel => exact ⟨k + 1, by go_num, by omega, hBk3, hst⟩
              case measure => simp [intOf]; omega
            · have hkt' : ¬ (k : Int) < (lx.length : Int) := by omega
              have hst := Hid.mk (hstep.out (by rw [list_all hll2.out (fun j h1 h2 => hallk.out j h1 h2 (by omega))]))
              clear hallk hstep hne hno
              go_wp2
              go_roundw
              case rel => exact ⟨i + 1, by go_num, by omega, hBk2, hst⟩
              case measure => simp [intOf]; omega
        · have hlt' : ¬ (i : Int) < (t1.length : Int) := by omega
          have heq_t : Hid (t1 = t2) := ⟨list_all hl_t.out (fun j h1 h2 => hall.out j h1 h2 (by omega))⟩
          clear hall
          have hBr2 := hBr
          clear hBr hi hlt
          go_wp2
          go_loopw [13] (fun iv wr => ∃ i : Nat, iv = .int .i64 (i : Int) ∧ i ≤ g1.length ∧ Below ((W.alloc (.cells #[.string ⟨n1.toArray⟩, .int .i64 y1, .slice a31 o1.length c31, .slice a41 t1.length c41, .slice a51 g1.length c51, .slice a61 l61 c61, .slice a71 l71 c71] 29)).alloc (.cells #[.string ⟨n1.toArray⟩, .int .i64 y1, .slice a32 o2.length c32, .slice a42 t2.length c42, .slice a52 g2.length c52, .slice a62 l62 c62, .slice a72 l72 c72] 29)).heap.size ((W.alloc (.cells #[.string ⟨n1.toArray⟩, .int .i64 y1, .slice a31 o1.length c31, .slice a41 t1.length c41, .slice a51 g1.length c51, .slice a61 l61 c61, .slice a71 l71 c71] 29)).alloc (.cells #[.string ⟨n1.toArray⟩, .int .i64 y1, .slice a32 o2.length c32, .slice a42 t2.length c42, .slice a52 g2.length c52, .slice a62 l62 c62, .slice a72 l72 c72] 29)) wr ∧ Hid (∀ j (h1 : j < g1.length) (h2 : j < g2.length), j < i → g1[j] = g2[j])) (fun iv _ => g1.length - (intOf iv).toNat)
          case atStart => exact ⟨0, rfl, Nat.zero_le _, hBr2, ⟨fun j _ _ h => absurd h (Nat.not_lt_zero _)⟩⟩
          case round =>
            obtain ⟨i, rfl, hi, hBr, hall⟩ := hrel
            have q1 := (bel_cell hBr (show W.heap.size < ((W.alloc (.cells #[.string ⟨n1.toArray⟩, .int .i64 y1, .slice a31 o1.length c31, .slice a41 t1.length c41, .slice a51 g1.length c51, .slice a61 l61 c61, .slice a71 l71 c71] 29)).alloc (.cells #[.string ⟨n1.toArray⟩, .int .i64 y1, .slice a32 o2.length c32, .slice a42 t2.length c42, .slice a52 g2.length c52, .slice a62 l62 c62, .slice a72 l72 c72] 29)).heap.size by rw [hsz]; omega) 4).trans xg
            have q2 := (bel_cell hBr (show W.heap.size + 1 < ((W.alloc (.cells #[.string ⟨n1.toArray⟩, .int .i64 y1, .slice a31 o1.length c31, .slice a41 t1.length c41, .slice a51 g1.length c51, .slice a61 l61 c61, .slice a71 l71 c71] 29)).alloc (.cells #[.string ⟨n1.toArray⟩, .int .i64 y1, .slice a32 o2.length c32, .slice a42 t2.length c42, .slice a52 g2.length c52, .slice a62 l62 c62, .slice a72 l72 c72] 29)).heap.size by rw [hsz]; omega) 4).trans yg
            by_cases hlt : i < g1.length
            · have hlt' : (i : Int) < (g1.length : Int) := by omega
              have hiy : i < g2.length := by have := hl_g.out; omega
              have hlt2 : (i : Int) < (g2.length : Int) := by omega
              have hi0 : (0 : Int) ≤ (i : Int) := by omega
              obtain ⟨g, o, hga⟩ := hG1.some hlt
              obtain ⟨g', o', hgb⟩ := hG2.some hiy
              have hFr := row_bel hG1 hBr (Nat.le_refl _)
              have hGr := row_bel hG2 hBr (Nat.le_refl _)
              rw [hga] at hFr q1
              rw [hgb] at hGr q2
              clear hga hgb
              obtain ⟨cx0, -, -, hEx, hcx⟩ := hFr.item hlt
              obtain ⟨cy0, -, -, hEy, hcy⟩ := hGr.item hiy
              have hstep : g1[i] = g2[i] → ∀ j (h1 : j < g1.length) (h2 : j < g2.length), j < i + 1 → g1[j] = g2[j] := fun he j h1 h2 hj => by
                by_cases hji : j < i
                · exact hall.out j h1 h2 hji
                · obtain rfl : j = i := by omega
                  exact he
              have hne : ¬ g1[i] = g2[i] → ¬ (HdEq n1 n1 y1 y1 o1 o2 t1 t2 g1 g2) := fun h e => by
                have e2 := e.2.2.2.2
                subst e2
                exact h rfl
              have hstep := Hid.mk hstep
              have hne := Hid.mk hne
              generalize g1[i] = x at hEx hstep hne
              generalize g2[i] = y at hEy hstep hne
              obtain ⟨ua, ub⟩ := x
              obtain ⟨va, vb⟩ := y
              have hEx : cx0 = [.string ⟨ua.toArray⟩, .int .i64 ub] := hEx.1
              have hEy : cy0 = [.string ⟨va.toArray⟩, .int .i64 vb] := hEy.1
              subst hEx
              subst hEy
              have hS0 : wr.drew.cell? ⟨W.heap.size, 4, none⟩ = some (.slice (some ⟨g, o, none⟩) g1.length c51) ∧ wr.drew.cell? ⟨W.heap.size + 1, 4, none⟩ = some (.slice (some ⟨g', o', none⟩) g2.length c52) ∧ wr.drew.cell? ⟨g, o + i * 2, none⟩ = some (.string ⟨ua.toArray⟩) ∧ wr.drew.cell? ⟨g, o + i * 2 + 1, none⟩ = some (.int .i64 ub) ∧ wr.drew.cell? ⟨g', o' + i * 2, none⟩ = some (.string ⟨va.toArray⟩) ∧ wr.drew.cell? ⟨g', o' + i * 2 + 1, none⟩ = some (.int .i64 vb) := ⟨q1, q2, hcx 0 (by decide), hcx 1 (by decide), hcy 0 (by decide), hcy 1 (by decide)⟩
              have hBd : Below wr.heap.size wr wr.drew := (Below.refl _ _).drew
              have hBk3 := Below.tr hBr hBd hBr.size
              clear hcx hcy hFr hGr hall
              by_cases h_ua : ua = va
              rotate_left
              · have e3 : (ua == va) = false := by simp [h_ua]
                have e4 : (ua != va) = true := by simp [h_ua]
                have hfin := hno.out _ (hne.out (fun h => h_ua (by cases h; rfl))) (Below.tr hB hBk3 (by rw [hsz]; omega))
                clear hstep hne hno h_ua
                go_wp2
                go_region_held3 (fun X => X.cell? ⟨W.heap.size, 4, none⟩ = some (.slice (some ⟨g, o, none⟩) g1.length c51) ∧ X.cell? ⟨W.heap.size + 1, 4, none⟩ = some (.slice (some ⟨g', o', none⟩) g2.length c52) ∧ X.cell? ⟨g, o + i * 2, none⟩ = some (.string ⟨ua.toArray⟩) ∧ X.cell? ⟨g, o + i * 2 + 1, none⟩ = some (.int .i64 ub) ∧ X.cell? ⟨g', o' + i * 2, none⟩ = some (.string ⟨va.toArray⟩) ∧ X.cell? ⟨g', o' + i * 2 + 1, none⟩ = some (.int .i64 vb)) (assumption) (fail)
                go_wp2
                exact hfin
              subst h_ua
              by_cases h_ub : ub = vb
              rotate_left
              · have e3 : (ub == vb) = false := by simp [h_ub]
                have e4 : (ub != vb) = true := by simp [h_ub]
                have hfin := hno.out _ (hne.out (fun h => h_ub (by cases h; rfl))) (Below.tr hB hBk3 (by rw [hsz]; omega))
                clear hstep hne hno h_ub
                go_wp2
                go_region_held3 (fun X => X.cell? ⟨W.heap.size, 4, none⟩ = some (.slice (some ⟨g, o, none⟩) g1.length c51) ∧ X.cell? ⟨W.heap.size + 1, 4, none⟩ = some (.slice (some ⟨g', o', none⟩) g2.length c52) ∧ X.cell? ⟨g, o + i * 2, none⟩ = some (.string ⟨ua.toArray⟩) ∧ X.cell? ⟨g, o + i * 2 + 1, none⟩ = some (.int .i64 ub) ∧ X.cell? ⟨g', o' + i * 2, none⟩ = some (.string ⟨ua.toArray⟩) ∧ X.cell? ⟨g', o' + i * 2 + 1, none⟩ = some (.int .i64 vb)) (assumption) (fail)
                go_wp2
                exact hfin
              subst h_ub
              have hst := Hid.mk (hstep.out rfl)
              clear hstep hne hno
              go_wp2
              go_region_held3 (fun X => X.cell? ⟨W.heap.size, 4, none⟩ = some (.slice (some ⟨g, o, none⟩) g1.length c51) ∧ X.cell? ⟨W.heap.size + 1, 4, none⟩ = some (.slice (some ⟨g', o', none⟩) g2.length c52) ∧ X.cell? ⟨g, o + i * 2, none⟩ = some (.string ⟨ua.toArray⟩) ∧ X.cell? ⟨g, o + i * 2 + 1, none⟩ = some (.int .i64 ub) ∧ X.cell? ⟨g', o' + i * 2, none⟩ = some (.string ⟨ua.toArray⟩) ∧ X.cell? ⟨g', o' + i * 2 + 1, none⟩ = some (.int .i64 ub)) (assumption) (fail)
              go_wp2
              go_roundw
              case rel => exact ⟨i + 1, by go_num, by omega, hBk3, hst⟩
              case measure => simp [intOf]; omega
            · have hlt' : ¬ (i : Int) < (g1.length : Int) := by omega
              have heq_g : g1 = g2 := list_all hl_g.out (fun j h1 h2 => hall.out j h1 h2 (by omega))
              have hfin : Q (.returned (.bool true)) wr := by
                rw [← hQ.out]
                exact ⟨Below.tr hB hBr (by rw [hsz]; omega), true, rfl, fun _ => ⟨rfl, rfl, heq_o.out, heq_t.out, heq_g⟩, fun _ => rfl⟩
              clear hall heq_g hno
              go_wp2
              exact hfin



end Go.Proofs.Ytjgngmmepheioaa

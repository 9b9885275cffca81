import Derived.Test.YthnmjafoplfikaaGreatDoorTurnYSe
namespace Go.Proofs.YthnmjafoplfikaaGreatDoor
open Go.RowKit

set_option maxRecDepth 8000 in
set_option maxHeartbeats 1000000 in
theorem sameLine_any (n1 n2 : List UInt8) (i1 i2 m1 m2 : Bool) (t1 t2 o1 o2 g1 g2 : Int) (l1 l2 : List Cl) (a a2 : Option Addr) (c c2 : Nat) (W : World) (hz : l1.length ≤ 9223372036854775807 ∧ ∀ x ∈ l1, SzC x) (hF : RowR eC W AnyB l1 a) (hG : RowR eC W AnyB l2 a2) : Calls Tryz.prog 37 #[.agg #[.string ⟨n1.toArray⟩, .bool i1, .bool m1, .int .i64 t1, .int .i64 o1, .int .i64 g1, .slice a l1.length c], .agg #[.string ⟨n2.toArray⟩, .bool i2, .bool m2, .int .i64 t2, .int .i64 o2, .int .i64 g2, .slice a2 l2.length c2]] W (SmP (Ln.mk n1 i1 m1 t1 o1 g1 l1 = Ln.mk n2 i2 m2 t2 o2 g2 l2) W) := by
  have hB : Below W.heap.size W ((W.alloc (.cells #[.string ⟨n1.toArray⟩, .bool i1, .bool m1, .int .i64 t1, .int .i64 o1, .int .i64 g1, .slice a l1.length c] 78)).alloc (.cells #[.string ⟨n2.toArray⟩, .bool i2, .bool m2, .int .i64 t2, .int .i64 o2, .int .i64 g2, .slice a2 l2.length c2] 78)) := ((Below.refl _ _).alloc (Nat.le_refl _) _).alloc (by simp) _
  obtain ⟨Q, hQ⟩ : ∃ Q, SmP (Ln.mk n1 i1 m1 t1 o1 g1 l1 = Ln.mk n2 i2 m2 t2 o2 g2 l2) W = Q := ⟨_, rfl⟩
  rw [hQ]
  have hQ := Hid.mk hQ
  have hno : ∀ W', ¬ (Ln.mk n1 i1 m1 t1 o1 g1 l1 = Ln.mk n2 i2 m2 t2 o2 g2 l2) → Below W.heap.size W W' → Q (.returned (.bool false)) W' := fun W' hne hb => by
    rw [← hQ.out]
    exact ⟨hb, false, rfl, by simp only [Bool.false_eq_true, false_iff]; exact hne⟩
  by_cases h_n : n1 = n2
  rotate_left
  · have e1 : (n1 == n2) = false := by simp [h_n]
    have e2 : (n1 != n2) = true := by simp [h_n]
    have hfin := hno _ (fun e => h_n (by cases e; rfl)) hB
    clear hno h_n hF hG hz
    go_enter Tryz.func37, Tryz.ntmps37
    go_wp2
    exact hfin
  subst h_n
  by_cases h_i : i1 = i2
  rotate_left
  · have e1 : (i1 == i2) = false := by simp [h_i]
    have e2 : (i1 != i2) = true := by simp [h_i]
    have hfin := hno _ (fun e => h_i (by cases e; rfl)) hB
    clear hno h_i hF hG hz
    go_enter Tryz.func37, Tryz.ntmps37
    go_wp2
    exact hfin
  subst h_i
  by_cases h_m : m1 = m2
  rotate_left
  · have e1 : (m1 == m2) = false := by simp [h_m]
    have e2 : (m1 != m2) = true := by simp [h_m]
    have hfin := hno _ (fun e => h_m (by cases e; rfl)) hB
    clear hno h_m hF hG hz
    go_enter Tryz.func37, Tryz.ntmps37
    go_wp2
    exact hfin
  subst h_m
  by_cases h_t : t1 = t2
  rotate_left
  · have e1 : (t1 == t2) = false := by simp [h_t]
    have e2 : (t1 != t2) = true := by simp [h_t]
    have hfin := hno _ (fun e => h_t (by cases e; rfl)) hB
    clear hno h_t hF hG hz
    go_enter Tryz.func37, Tryz.ntmps37
    go_wp2
    exact hfin
  subst h_t
  by_cases h_o : o1 = o2
  rotate_left
  · have e1 : (o1 == o2) = false := by simp [h_o]
    have e2 : (o1 != o2) = true := by simp [h_o]
    have hfin := hno _ (fun e => h_o (by cases e; rfl)) hB
    clear hno h_o hF hG hz
    go_enter Tryz.func37, Tryz.ntmps37
    go_wp2
    exact hfin
  subst h_o
  by_cases h_g : g1 = g2
  rotate_left
  · have e1 : (g1 == g2) = false := by simp [h_g]
    have e2 : (g1 != g2) = true := by simp [h_g]
    have hfin := hno _ (fun e => h_g (by cases e; rfl)) hB
    clear hno h_g hF hG hz
    go_enter Tryz.func37, Tryz.ntmps37
    go_wp2
    exact hfin
  subst h_g
  by_cases h4 : l1.length = l2.length
  rotate_left
  · have e4 : ((l1.length : Int) != (l2.length : Int)) = true := by simp; omega
    have hfin := hno _ (fun e => h4 (by cases e; rfl)) hB
    clear hno h4 hF hG hz
    go_enter Tryz.func37, Tryz.ntmps37
    go_wp2
    exact hfin
  have e4 : ((l1.length : Int) != (l2.length : Int)) = false := by simp; omega
  have hl4 := Hid.mk h4
  clear h4
  have hs1 : (W.alloc (.cells #[.string ⟨n1.toArray⟩, .bool i1, .bool m1, .int .i64 t1, .int .i64 o1, .int .i64 g1, .slice a l1.length c] 78)).heap.size = W.heap.size + 1 := by simp
  have hsz : ((W.alloc (.cells #[.string ⟨n1.toArray⟩, .bool i1, .bool m1, .int .i64 t1, .int .i64 o1, .int .i64 g1, .slice a l1.length c] 78)).alloc (.cells #[.string ⟨n1.toArray⟩, .bool i1, .bool m1, .int .i64 t1, .int .i64 o1, .int .i64 g1, .slice a2 l2.length c2] 78)).heap.size = W.heap.size + 1 + 1 := by simp
  have hx1 := ((bx_new W #[.string ⟨n1.toArray⟩, .bool i1, .bool m1, .int .i64 t1, .int .i64 o1, .int .i64 g1, .slice a l1.length c] 78).kept (World.grownBy_alloc (W.alloc (.cells #[.string ⟨n1.toArray⟩, .bool i1, .bool m1, .int .i64 t1, .int .i64 o1, .int .i64 g1, .slice a l1.length c] 78)) (.cells #[.string ⟨n1.toArray⟩, .bool i1, .bool m1, .int .i64 t1, .int .i64 o1, .int .i64 g1, .slice a2 l2.length c2] 78) none) (by simp)).2.1 6 (by simp)
  have hx2 := (bx_new (W.alloc (.cells #[.string ⟨n1.toArray⟩, .bool i1, .bool m1, .int .i64 t1, .int .i64 o1, .int .i64 g1, .slice a l1.length c] 78)) #[.string ⟨n1.toArray⟩, .bool i1, .bool m1, .int .i64 t1, .int .i64 o1, .int .i64 g1, .slice a2 l2.length c2] 78).2.1 6 (by simp)
  rw [hs1] at hx2
  have hF2 := row_bel hF hB (Nat.le_refl _)
  have hG2 := row_bel hG hB (Nat.le_refl _)
  have hzl := hz.1
  clear hF hG hs1
  go_enter Tryz.func37, Tryz.ntmps37
  go_wp2
  go_loopw [5] (fun iv wr => ∃ i : Nat, iv = .int .i64 (i : Int) ∧ i ≤ l1.length ∧ Below ((W.alloc (.cells #[.string ⟨n1.toArray⟩, .bool i1, .bool m1, .int .i64 t1, .int .i64 o1, .int .i64 g1, .slice a l1.length c] 78)).alloc (.cells #[.string ⟨n1.toArray⟩, .bool i1, .bool m1, .int .i64 t1, .int .i64 o1, .int .i64 g1, .slice a2 l2.length c2] 78)).heap.size ((W.alloc (.cells #[.string ⟨n1.toArray⟩, .bool i1, .bool m1, .int .i64 t1, .int .i64 o1, .int .i64 g1, .slice a l1.length c] 78)).alloc (.cells #[.string ⟨n1.toArray⟩, .bool i1, .bool m1, .int .i64 t1, .int .i64 o1, .int .i64 g1, .slice a2 l2.length c2] 78)) wr ∧ Hid (∀ j (h1 : j < l1.length) (h2 : j < l2.length), j < i → l1[j] = l2[j])) (fun iv _ => l1.length - (intOf iv).toNat)
  case atStart => exact ⟨0, rfl, Nat.zero_le _, Below.refl _ _, ⟨fun j _ _ h => absurd h (Nat.not_lt_zero _)⟩⟩
  case round =>
    obtain ⟨i, rfl, hi, hBr, hall⟩ := hrel
    have q1 := (bel_cell hBr (show W.heap.size < ((W.alloc (.cells #[.string ⟨n1.toArray⟩, .bool i1, .bool m1, .int .i64 t1, .int .i64 o1, .int .i64 g1, .slice a l1.length c] 78)).alloc (.cells #[.string ⟨n1.toArray⟩, .bool i1, .bool m1, .int .i64 t1, .int .i64 o1, .int .i64 g1, .slice a2 l2.length c2] 78)).heap.size by rw [hsz]; omega) 6).trans hx1
    have q2 := (bel_cell hBr (show W.heap.size + 1 < ((W.alloc (.cells #[.string ⟨n1.toArray⟩, .bool i1, .bool m1, .int .i64 t1, .int .i64 o1, .int .i64 g1, .slice a l1.length c] 78)).alloc (.cells #[.string ⟨n1.toArray⟩, .bool i1, .bool m1, .int .i64 t1, .int .i64 o1, .int .i64 g1, .slice a2 l2.length c2] 78)).heap.size by rw [hsz]; omega) 6).trans hx2
    have hBW := Below.tr hB hBr (by rw [hsz]; omega)
    by_cases hlt : i < l1.length
    · have hlt' : (i : Int) < (l1.length : Int) := by omega
      have hiy : i < l2.length := by have := hl4.out; omega
      have hlt2 : (i : Int) < (l2.length : Int) := by omega
      have hi0 : (0 : Int) ≤ (i : Int) := by omega
      obtain ⟨g, o, rfl⟩ := hF2.some hlt
      obtain ⟨g', o', rfl⟩ := hG2.some hiy
      have hFr := row_bel hF2 hBr (Nat.le_refl _)
      have hGr := row_bel hG2 hBr (Nat.le_refl _)
      obtain ⟨cx, -, -, ⟨a8, c8, b8, d8, rfl, -, -, hF8, hF8b⟩, hcx⟩ := hFr.item hlt
      obtain ⟨cy, -, -, ⟨a9, c9, b9, d9, rfl, -, -, hF9, hF9b⟩, hcy⟩ := hGr.item hiy
      have hzi := hz.2 _ (List.getElem_mem hlt)
      have hstep : l1[i] = l2[i] → ∀ j (h1 : j < l1.length) (h2 : j < l2.length), j < i + 1 → l1[j] = l2[j] := fun he j h1 h2 hj => by
        by_cases hji : j < i
        · exact hall.out j h1 h2 hji
        · obtain rfl : j = i := by omega
          exact he
      have hne : ¬ l1[i] = l2[i] → ¬ (Ln.mk n1 i1 m1 t1 o1 g1 l1 = Ln.mk n1 i1 m1 t1 o1 g1 l2) := fun h e => by cases e; exact h rfl
      have hstep := Hid.mk hstep
      have hne := Hid.mk hne
      generalize l1[i] = x at hcx hF8 hF8b hzi hstep hne
      generalize l2[i] = y at hcy hF9 hF9b hstep hne
      obtain ⟨xp, xu, xg, xb⟩ := x
      obtain ⟨yp, yu, yg, yb⟩ := y
      have kx0 : wr.cell? ⟨g, o + i * 12, none⟩ = some (.int .i64 xp) := hcx 0 (by decide)
      have kx1 : wr.cell? ⟨g, o + i * 12 + 1, none⟩ = some (.bool xu) := hcx 1 (by decide)
      have kx2 : wr.cell? ⟨g, o + i * 12 + 2, none⟩ = some (.int .i64 xg.op) := hcx 2 (by decide)
      have kx3 : wr.cell? ⟨g, o + i * 12 + 3, none⟩ = some (.int .i64 xg.num) := hcx 3 (by decide)
      have kx4 : wr.cell? ⟨g, o + i * 12 + 4, none⟩ = some (.int .i64 xg.den) := hcx 4 (by decide)
      have kx5 : wr.cell? ⟨g, o + i * 12 + 5, none⟩ = some (.int .i64 xg.mode) := hcx 5 (by decide)
      have kx6 : wr.cell? ⟨g, o + i * 12 + 6, none⟩ = some (.slice a8 xg.args.len c8) := hcx 6 (by decide)
      have kx7 : wr.cell? ⟨g, o + i * 12 + 7, none⟩ = some (.int .i64 xb.op) := hcx 7 (by decide)
      have kx8 : wr.cell? ⟨g, o + i * 12 + 8, none⟩ = some (.int .i64 xb.num) := hcx 8 (by decide)
      have kx9 : wr.cell? ⟨g, o + i * 12 + 9, none⟩ = some (.int .i64 xb.den) := hcx 9 (by decide)
      have kx10 : wr.cell? ⟨g, o + i * 12 + 10, none⟩ = some (.int .i64 xb.mode) := hcx 10 (by decide)
      have kx11 : wr.cell? ⟨g, o + i * 12 + 11, none⟩ = some (.slice b8 xb.args.len d8) := hcx 11 (by decide)
      have ky0 : wr.cell? ⟨g', o' + i * 12, none⟩ = some (.int .i64 yp) := hcy 0 (by decide)
      have ky1 : wr.cell? ⟨g', o' + i * 12 + 1, none⟩ = some (.bool yu) := hcy 1 (by decide)
      have ky2 : wr.cell? ⟨g', o' + i * 12 + 2, none⟩ = some (.int .i64 yg.op) := hcy 2 (by decide)
      have ky3 : wr.cell? ⟨g', o' + i * 12 + 3, none⟩ = some (.int .i64 yg.num) := hcy 3 (by decide)
      have ky4 : wr.cell? ⟨g', o' + i * 12 + 4, none⟩ = some (.int .i64 yg.den) := hcy 4 (by decide)
      have ky5 : wr.cell? ⟨g', o' + i * 12 + 5, none⟩ = some (.int .i64 yg.mode) := hcy 5 (by decide)
      have ky6 : wr.cell? ⟨g', o' + i * 12 + 6, none⟩ = some (.slice a9 yg.args.len c9) := hcy 6 (by decide)
      have ky7 : wr.cell? ⟨g', o' + i * 12 + 7, none⟩ = some (.int .i64 yb.op) := hcy 7 (by decide)
      have ky8 : wr.cell? ⟨g', o' + i * 12 + 8, none⟩ = some (.int .i64 yb.num) := hcy 8 (by decide)
      have ky9 : wr.cell? ⟨g', o' + i * 12 + 9, none⟩ = some (.int .i64 yb.den) := hcy 9 (by decide)
      have ky10 : wr.cell? ⟨g', o' + i * 12 + 10, none⟩ = some (.int .i64 yb.mode) := hcy 10 (by decide)
      have ky11 : wr.cell? ⟨g', o' + i * 12 + 11, none⟩ = some (.slice b9 yb.args.len d9) := hcy 11 (by decide)
      have hgs : g < wr.heap.size := World.block_lt_of_cell? _ _ kx0
      have hgs' : g' < wr.heap.size := World.block_lt_of_cell? _ _ ky0
      have hw1 : W.heap.size + 1 < wr.heap.size := World.block_lt_of_cell? _ _ q2
      have hw0 : W.heap.size < wr.heap.size := by omega
      clear hcx hcy hFr hGr hF2 hG2 hx1 hx2 hall
      have hBv := (hBr.alloc hBr.size (.cells #[.int .i64 xp, .bool xu, .int .i64 xg.op, .int .i64 xg.num, .int .i64 xg.den, .int .i64 xg.mode, .slice a8 xg.args.len c8, .int .i64 xb.op, .int .i64 xb.num, .int .i64 xb.den, .int .i64 xb.mode, .slice b8 xb.args.len d8] 80)).alloc (by have := hBr.size; simp at this ⊢; omega) (.cells #[.int .i64 yp, .bool yu, .int .i64 yg.op, .int .i64 yg.num, .int .i64 yg.den, .int .i64 yg.mode, .slice a9 yg.args.len c9, .int .i64 yb.op, .int .i64 yb.num, .int .i64 yb.den, .int .i64 yb.mode, .slice b9 yb.args.len d9] 80)
      have hnov := fun h => hno ((wr.alloc (.cells #[.int .i64 xp, .bool xu, .int .i64 xg.op, .int .i64 xg.num, .int .i64 xg.den, .int .i64 xg.mode, .slice a8 xg.args.len c8, .int .i64 xb.op, .int .i64 xb.num, .int .i64 xb.den, .int .i64 xb.mode, .slice b8 xb.args.len d8] 80)).alloc (.cells #[.int .i64 yp, .bool yu, .int .i64 yg.op, .int .i64 yg.num, .int .i64 yg.den, .int .i64 yg.mode, .slice a9 yg.args.len c9, .int .i64 yb.op, .int .i64 yb.num, .int .i64 yb.den, .int .i64 yb.mode, .slice b9 yb.args.len d9] 80)) h (Below.tr hB hBv (by rw [hsz]; omega))
      by_cases hp : xp = yp
      rotate_left
      · have e5 : (xp != yp) = true := by simp [hp]
        have hfin := hnov (hne.out (fun h => hp (by cases h; rfl)))
        clear hno hnov hne hstep hp hF8 hF8b hF9 hF9b hBv hzi
        go_wp2
        exact hfin
      have e5 : (xp != yp) = false := by simp [hp]
      by_cases hu : xu = yu
      rotate_left
      · have hfin := hnov (hne.out (fun h => hu (by cases h; rfl)))
        clear hno hnov hne hstep hp hF8 hF8b hF9 hF9b hBv hzi
        cases xu <;> cases yu
        · exact absurd rfl hu
        · go_wp2
          exact hfin
        · go_wp2
          exact hfin
        · exact absurd rfl hu
      subst hu
      have hsv : (wr.alloc (.cells #[.int .i64 xp, .bool xu, .int .i64 xg.op, .int .i64 xg.num, .int .i64 xg.den, .int .i64 xg.mode, .slice a8 xg.args.len c8, .int .i64 xb.op, .int .i64 xb.num, .int .i64 xb.den, .int .i64 xb.mode, .slice b8 xb.args.len d8] 80)).heap.size = wr.heap.size + 1 := by simp
      have hsv2 : ((wr.alloc (.cells #[.int .i64 xp, .bool xu, .int .i64 xg.op, .int .i64 xg.num, .int .i64 xg.den, .int .i64 xg.mode, .slice a8 xg.args.len c8, .int .i64 xb.op, .int .i64 xb.num, .int .i64 xb.den, .int .i64 xb.mode, .slice b8 xb.args.len d8] 80)).alloc (.cells #[.int .i64 yp, .bool xu, .int .i64 yg.op, .int .i64 yg.num, .int .i64 yg.den, .int .i64 yg.mode, .slice a9 yg.args.len c9, .int .i64 yb.op, .int .i64 yb.num, .int .i64 yb.den, .int .i64 yb.mode, .slice b9 yb.args.len d9] 80)).heap.size = wr.heap.size + 1 + 1 := by simp
      have hbx := (bx_new wr #[.int .i64 xp, .bool xu, .int .i64 xg.op, .int .i64 xg.num, .int .i64 xg.den, .int .i64 xg.mode, .slice a8 xg.args.len c8, .int .i64 xb.op, .int .i64 xb.num, .int .i64 xb.den, .int .i64 xb.mode, .slice b8 xb.args.len d8] 80).kept (World.grownBy_alloc (wr.alloc (.cells #[.int .i64 xp, .bool xu, .int .i64 xg.op, .int .i64 xg.num, .int .i64 xg.den, .int .i64 xg.mode, .slice a8 xg.args.len c8, .int .i64 xb.op, .int .i64 xb.num, .int .i64 xb.den, .int .i64 xb.mode, .slice b8 xb.args.len d8] 80)) (.cells #[.int .i64 yp, .bool xu, .int .i64 yg.op, .int .i64 yg.num, .int .i64 yg.den, .int .i64 yg.mode, .slice a9 yg.args.len c9, .int .i64 yb.op, .int .i64 yb.num, .int .i64 yb.den, .int .i64 yb.mode, .slice b9 yb.args.len d9] 80) none) (by simp)
      have hby := bx_new (wr.alloc (.cells #[.int .i64 xp, .bool xu, .int .i64 xg.op, .int .i64 xg.num, .int .i64 xg.den, .int .i64 xg.mode, .slice a8 xg.args.len c8, .int .i64 xb.op, .int .i64 xb.num, .int .i64 xb.den, .int .i64 xb.mode, .slice b8 xb.args.len d8] 80)) #[.int .i64 yp, .bool xu, .int .i64 yg.op, .int .i64 yg.num, .int .i64 yg.den, .int .i64 yg.mode, .slice a9 yg.args.len c9, .int .i64 yb.op, .int .i64 yb.num, .int .i64 yb.den, .int .i64 yb.mode, .slice b9 yb.args.len d9] 80
      rw [hsv] at hby
      have hBn : Below wr.heap.size wr ((wr.alloc (.cells #[.int .i64 xp, .bool xu, .int .i64 xg.op, .int .i64 xg.num, .int .i64 xg.den, .int .i64 xg.mode, .slice a8 xg.args.len c8, .int .i64 xb.op, .int .i64 xb.num, .int .i64 xb.den, .int .i64 xb.mode, .slice b8 xb.args.len d8] 80)).alloc (.cells #[.int .i64 yp, .bool xu, .int .i64 yg.op, .int .i64 yg.num, .int .i64 yg.den, .int .i64 yg.mode, .slice a9 yg.args.len c9, .int .i64 yb.op, .int .i64 yb.num, .int .i64 yb.den, .int .i64 yb.mode, .slice b9 yb.args.len d9] 80)) := ((Below.refl _ _).alloc (Nat.le_refl _) _).alloc (by simp) _
      have hc1 := sameExpr_any _ xg yg a8 a9 c8 c9 ((wr.alloc (.cells #[.int .i64 xp, .bool xu, .int .i64 xg.op, .int .i64 xg.num, .int .i64 xg.den, .int .i64 xg.mode, .slice a8 xg.args.len c8, .int .i64 xb.op, .int .i64 xb.num, .int .i64 xb.den, .int .i64 xb.mode, .slice b8 xb.args.len d8] 80)).alloc (.cells #[.int .i64 yp, .bool xu, .int .i64 yg.op, .int .i64 yg.num, .int .i64 yg.den, .int .i64 yg.mode, .slice a9 yg.args.len c9, .int .i64 yb.op, .int .i64 yb.num, .int .i64 yb.den, .int .i64 yb.mode, .slice b9 yb.args.len d9] 80)) (Nat.le_refl _) hzi.1 (fo_bel hF8 hBn (Nat.le_refl _)) (fo_bel hF9 hBn (Nat.le_refl _))
      have hF8b := fo_bel hF8b hBn (Nat.le_refl _)
      have hF9b := fo_bel hF9b hBn (Nat.le_refl _)
      have hcl : xg = yg → xb = yb → Cl.mk xp xu xg xb = Cl.mk yp xu yg yb := fun h3 h4 => by
        cases hp; cases h3; cases h4
        rfl
      have hcl := Hid.mk hcl
      clear hp hF8 hF9 hnov hBn hsv
      go_wp2_with (first | (go_at_call 38; go_loud (refine hc1.mono ?_; clear hc1; rintro e w5 ⟨hB5, r1, rfl, hr1⟩; have hBz := Below.tr hBv hB5 (by rw [hsv2]; have := hBr.size; omega); have zx0 : w5.cell? ⟨wr.heap.size, 0, none⟩ = some (.int .i64 xp) := (bel_cell hB5 (by rw [hsv2]; omega) 0).trans (hbx.2.1 0 (by simp)); have zx1 : w5.cell? ⟨wr.heap.size, 1, none⟩ = some (.bool xu) := (bel_cell hB5 (by rw [hsv2]; omega) 1).trans (hbx.2.1 1 (by simp)); have zx2 : w5.cell? ⟨wr.heap.size, 2, none⟩ = some (.int .i64 xg.op) := (bel_cell hB5 (by rw [hsv2]; omega) 2).trans (hbx.2.1 2 (by simp)); have zx3 : w5.cell? ⟨wr.heap.size, 3, none⟩ = some (.int .i64 xg.num) := (bel_cell hB5 (by rw [hsv2]; omega) 3).trans (hbx.2.1 3 (by simp)); have zx4 : w5.cell? ⟨wr.heap.size, 4, none⟩ = some (.int .i64 xg.den) := (bel_cell hB5 (by rw [hsv2]; omega) 4).trans (hbx.2.1 4 (by simp)); have zx5 : w5.cell? ⟨wr.heap.size, 5, none⟩ = some (.int .i64 xg.mode) := (bel_cell hB5 (by rw [hsv2]; omega) 5).trans (hbx.2.1 5 (by simp)); have zx6 : w5.cell? ⟨wr.heap.size, 6, none⟩ = some (.slice a8 xg.args.len c8) := (bel_cell hB5 (by rw [hsv2]; omega) 6).trans (hbx.2.1 6 (by simp)); have zx7 : w5.cell? ⟨wr.heap.size, 7, none⟩ = some (.int .i64 xb.op) := (bel_cell hB5 (by rw [hsv2]; omega) 7).trans (hbx.2.1 7 (by simp)); have zx8 : w5.cell? ⟨wr.heap.size, 8, none⟩ = some (.int .i64 xb.num) := (bel_cell hB5 (by rw [hsv2]; omega) 8).trans (hbx.2.1 8 (by simp)); have zx9 : w5.cell? ⟨wr.heap.size, 9, none⟩ = some (.int .i64 xb.den) := (bel_cell hB5 (by rw [hsv2]; omega) 9).trans (hbx.2.1 9 (by simp)); have zx10 : w5.cell? ⟨wr.heap.size, 10, none⟩ = some (.int .i64 xb.mode) := (bel_cell hB5 (by rw [hsv2]; omega) 10).trans (hbx.2.1 10 (by simp)); have zx11 : w5.cell? ⟨wr.heap.size, 11, none⟩ = some (.slice b8 xb.args.len d8) := (bel_cell hB5 (by rw [hsv2]; omega) 11).trans (hbx.2.1 11 (by simp)); have zy0 : w5.cell? ⟨wr.heap.size + 1, 0, none⟩ = some (.int .i64 yp) := (bel_cell hB5 (by rw [hsv2]; omega) 0).trans (hby.2.1 0 (by simp)); have zy1 : w5.cell? ⟨wr.heap.size + 1, 1, none⟩ = some (.bool xu) := (bel_cell hB5 (by rw [hsv2]; omega) 1).trans (hby.2.1 1 (by simp)); have zy2 : w5.cell? ⟨wr.heap.size + 1, 2, none⟩ = some (.int .i64 yg.op) := (bel_cell hB5 (by rw [hsv2]; omega) 2).trans (hby.2.1 2 (by simp)); have zy3 : w5.cell? ⟨wr.heap.size + 1, 3, none⟩ = some (.int .i64 yg.num) := (bel_cell hB5 (by rw [hsv2]; omega) 3).trans (hby.2.1 3 (by simp)); have zy4 : w5.cell? ⟨wr.heap.size + 1, 4, none⟩ = some (.int .i64 yg.den) := (bel_cell hB5 (by rw [hsv2]; omega) 4).trans (hby.2.1 4 (by simp)); have zy5 : w5.cell? ⟨wr.heap.size + 1, 5, none⟩ = some (.int .i64 yg.mode) := (bel_cell hB5 (by rw [hsv2]; omega) 5).trans (hby.2.1 5 (by simp)); have zy6 : w5.cell? ⟨wr.heap.size + 1, 6, none⟩ = some (.slice a9 yg.args.len c9) := (bel_cell hB5 (by rw [hsv2]; omega) 6).trans (hby.2.1 6 (by simp)); have zy7 : w5.cell? ⟨wr.heap.size + 1, 7, none⟩ = some (.int .i64 yb.op) := (bel_cell hB5 (by rw [hsv2]; omega) 7).trans (hby.2.1 7 (by simp)); have zy8 : w5.cell? ⟨wr.heap.size + 1, 8, none⟩ = some (.int .i64 yb.num) := (bel_cell hB5 (by rw [hsv2]; omega) 8).trans (hby.2.1 8 (by simp)); have zy9 : w5.cell? ⟨wr.heap.size + 1, 9, none⟩ = some (.int .i64 yb.den) := (bel_cell hB5 (by rw [hsv2]; omega) 9).trans (hby.2.1 9 (by simp)); have zy10 : w5.cell? ⟨wr.heap.size + 1, 10, none⟩ = some (.int .i64 yb.mode) := (bel_cell hB5 (by rw [hsv2]; omega) 10).trans (hby.2.1 10 (by simp)); have zy11 : w5.cell? ⟨wr.heap.size + 1, 11, none⟩ = some (.slice b9 yb.args.len d9) := (bel_cell hB5 (by rw [hsv2]; omega) 11).trans (hby.2.1 11 (by simp)); have hc2 := sameExpr_any _ xb yb b8 b9 d8 d9 w5 (Nat.le_refl _) hzi.2 (fo_bel hF8b hB5 (Nat.le_refl _)) (fo_bel hF9b hB5 (Nat.le_refl _)); clear hbx hby hF8b hF9b; cases r1)))
      · have hfin := hno w5 (hne.out (fun h => by have := hr1.2 (by cases h; rfl); cases this)) (Below.tr hB hBz (by rw [hsz]; omega))
        clear hno hne hstep hr1 hcl hc2
        go_wp2
        exact hfin
      · go_wp2
        rename_i x0 f0 hf0
        simp only [List.getElem?_cons_zero, Option.some.injEq] at hf0
        subst hf0
        go_wp2
        rename_i x0 f0 hf0
        simp only [List.getElem?_cons_zero, Option.some.injEq] at hf0
        subst hf0
        go_wp2_with (first | (go_at_call 38; go_loud (refine hc2.mono ?_; clear hc2; rintro e w6 ⟨hB6, r2, rfl, hr2⟩; have hBy := Below.tr hBz hB6 hBz.size; cases r2)))
        · have hfin := hno w6 (hne.out (fun h => by have := hr2.2 (by cases h; rfl); cases this)) (Below.tr hB hBy (by rw [hsz]; omega))
          clear hno hne hstep hr1 hcl hr2
          go_wp2
          exact hfin
        · have hst := Hid.mk (hstep.out (hcl.out (hr1.1 (by trivial)) (hr2.1 (by trivial))))
          clear hno hne hstep hr1 hcl hr2
          go_wp2
          go_roundw
          case rel => exact ⟨i + 1, by go_num, by omega, hBy, hst⟩
          case measure => simp [intOf]; omega
    · have hlt' : ¬ (i : Int) < (l1.length : Int) := by omega
      have hfin : Q (.returned (.bool true)) wr := by
        rw [← hQ.out]
        refine ⟨hBW, true, rfl, fun _ => ?_, fun _ => rfl⟩
        rw [list_all hl4.out (fun j h1 h2 => hall.out j h1 h2 (by omega))]
      clear hno hall
      go_wp2
      exact hfin
end Go.Proofs.YthnmjafoplfikaaGreatDoor

import Derived.Test.YtmklkcefbabhbaaGreatJoin52
namespace Go.Proofs.YtmklkcefbabhbaaGreat
open Go.RowKit

/-- Yes or no. -/
def YnP (W : World) (e : Ending) (W' : World) : Prop := Below W.heap.size W W' ∧ ∃ b : Bool, e = .returned (.bool b)
set_option maxRecDepth 8000 in
set_option maxHeartbeats 20000000 in
theorem small_any (p : Pk) (a3 a4 a5 a6 a7 : Option Addr) (c3 c4 c5 c6 c7 : Nat) (W : World) (hz : SzP p) (hO : RowR eO W AnyB p.opts a3) (hT : RowR eT W AnyB p.tabs a4) (hL : RowR eL W AnyB p.lns a6) (hK : RowR eK W AnyB p.cks a7) : Calls Tryz.prog 5 #[.agg #[.string ⟨p.name.toArray⟩, .int .i64 p.year, .slice a3 p.opts.length c3, .slice a4 p.tabs.length c4, .slice a5 p.grps.length c5, .slice a6 p.lns.length c6, .slice a7 p.cks.length c7]] W (YnP W) := by
  have hB : Below W.heap.size W (W.alloc (.cells #[.string ⟨p.name.toArray⟩, .int .i64 p.year, .slice a3 p.opts.length c3, .slice a4 p.tabs.length c4, .slice a5 p.grps.length c5, .slice a6 p.lns.length c6, .slice a7 p.cks.length c7] 28)) := (Below.refl _ _).alloc (Nat.le_refl _) _
  have hsz : (W.alloc (.cells #[.string ⟨p.name.toArray⟩, .int .i64 p.year, .slice a3 p.opts.length c3, .slice a4 p.tabs.length c4, .slice a5 p.grps.length c5, .slice a6 p.lns.length c6, .slice a7 p.cks.length c7] 28)).heap.size = W.heap.size + 1 := by simp
  have hbx := (bx_new W #[.string ⟨p.name.toArray⟩, .int .i64 p.year, .slice a3 p.opts.length c3, .slice a4 p.tabs.length c4, .slice a5 p.grps.length c5, .slice a6 p.lns.length c6, .slice a7 p.cks.length c7] 28).2.1
  have hO := row_bel hO hB (Nat.le_refl _)
  have hT := row_bel hT hB (Nat.le_refl _)
  have hL := row_bel hL hB (Nat.le_refl _)
  have hK := row_bel hK hB (Nat.le_refl _)
  have zo := hz.opts.1
  have zt := hz.tabs.1
  have zl := hz.lns.1
  have zk := hz.cks.1
  obtain ⟨Q, hQ⟩ : ∃ Q, YnP W = Q := ⟨_, rfl⟩
  rw [hQ]
  have hQ := Hid.mk hQ
  have x2 : (W.alloc (.cells #[.string ⟨p.name.toArray⟩, .int .i64 p.year, .slice a3 p.opts.length c3, .slice a4 p.tabs.length c4, .slice a5 p.grps.length c5, .slice a6 p.lns.length c6, .slice a7 p.cks.length c7] 28)).cell? ⟨W.heap.size, 2, none⟩ = some (.slice a3 p.opts.length c3) := hbx 2 (by simp)
  have x3 : (W.alloc (.cells #[.string ⟨p.name.toArray⟩, .int .i64 p.year, .slice a3 p.opts.length c3, .slice a4 p.tabs.length c4, .slice a5 p.grps.length c5, .slice a6 p.lns.length c6, .slice a7 p.cks.length c7] 28)).cell? ⟨W.heap.size, 3, none⟩ = some (.slice a4 p.tabs.length c4) := hbx 3 (by simp)
  have x5 : (W.alloc (.cells #[.string ⟨p.name.toArray⟩, .int .i64 p.year, .slice a3 p.opts.length c3, .slice a4 p.tabs.length c4, .slice a5 p.grps.length c5, .slice a6 p.lns.length c6, .slice a7 p.cks.length c7] 28)).cell? ⟨W.heap.size, 5, none⟩ = some (.slice a6 p.lns.length c6) := hbx 5 (by simp)
  have x6 : (W.alloc (.cells #[.string ⟨p.name.toArray⟩, .int .i64 p.year, .slice a3 p.opts.length c3, .slice a4 p.tabs.length c4, .slice a5 p.grps.length c5, .slice a6 p.lns.length c6, .slice a7 p.cks.length c7] 28)).cell? ⟨W.heap.size, 6, none⟩ = some (.slice a7 p.cks.length c7) := hbx 6 (by simp)
  clear hbx
  go_enter Tryz.func5, Tryz.ntmps5
  go_wp2
  go_loopw [3, 4] (fun nv iv wr => ∃ (i : Nat) (n : Int), nv = .int .i64 n ∧ iv = .int .i64 (i : Int) ∧ i ≤ p.opts.length ∧ Below (W.alloc (.cells #[.string ⟨p.name.toArray⟩, .int .i64 p.year, .slice a3 p.opts.length c3, .slice a4 p.tabs.length c4, .slice a5 p.grps.length c5, .slice a6 p.lns.length c6, .slice a7 p.cks.length c7] 28)).heap.size (W.alloc (.cells #[.string ⟨p.name.toArray⟩, .int .i64 p.year, .slice a3 p.opts.length c3, .slice a4 p.tabs.length c4, .slice a5 p.grps.length c5, .slice a6 p.lns.length c6, .slice a7 p.cks.length c7] 28)) wr) (fun _ iv _ => p.opts.length - (intOf iv).toNat)
  case atStart => exact ⟨0, _, rfl, rfl, Nat.zero_le _, Below.refl _ _⟩
  case round =>
    obtain ⟨i, n, rfl, rfl, hi, hBr⟩ := hrel
    obtain ⟨w0, hw00⟩ : ∃ w0, w0 = wr := ⟨wr, rfl⟩
    subst hw00
    have q1 := (bel_cell hBr (show W.heap.size < (W.alloc (.cells #[.string ⟨p.name.toArray⟩, .int .i64 p.year, .slice a3 p.opts.length c3, .slice a4 p.tabs.length c4, .slice a5 p.grps.length c5, .slice a6 p.lns.length c6, .slice a7 p.cks.length c7] 28)).heap.size by rw [hsz]; omega) 2).trans x2
    by_cases hgo : i < p.opts.length ∧ n ≤ 32768
    · obtain ⟨hlt, hnm⟩ := hgo
      have hlt' : (i : Int) < (p.opts.length : Int) := by omega
      have hi0 : (0 : Int) ≤ (i : Int) := by omega
      obtain ⟨g, o, hga⟩ := hO.some hlt
      have hFr := row_bel hO hBr (Nat.le_refl _)
      rw [hga] at hFr q1
      clear hga
      obtain ⟨cx, -, -, hEx, hcx⟩ := hFr.item hlt
      have hmem := List.getElem_mem hlt
      generalize p.opts[i] = x at hEx hcx hmem
      obtain ⟨ax, cx2, rfl, -⟩ := hEx
      have kx1 : w0.cell? ⟨g, o + i * 2 + 1, none⟩ = some (.slice ax x.2.length cx2) := hcx 1 (by decide)
      clear hcx hFr hmem
      go_wp2
      go_roundw
      case rel => exact ⟨i + 1, _, rfl, by go_num, by omega, hBr⟩
      case measure => simp [intOf]; omega
    · have hcond : ¬ ((i : Int) < (p.opts.length : Int)) ∨ ((i : Int) < (p.opts.length : Int) ∧ ¬ n ≤ 32768) := by omega
      have hBq := Below.tr hB hBr (by rw [hsz]; omega)
      have hBe := hBr
      clear hgo hi
      rcases hcond with hc | ⟨hc1, hc2⟩
      · go_wp2
        go_loopw [3, 5] (fun nv iv wr => ∃ (i : Nat) (n : Int), nv = .int .i64 n ∧ iv = .int .i64 (i : Int) ∧ i ≤ p.tabs.length ∧ Below (W.alloc (.cells #[.string ⟨p.name.toArray⟩, .int .i64 p.year, .slice a3 p.opts.length c3, .slice a4 p.tabs.length c4, .slice a5 p.grps.length c5, .slice a6 p.lns.length c6, .slice a7 p.cks.length c7] 28)).heap.size (W.alloc (.cells #[.string ⟨p.name.toArray⟩, .int .i64 p.year, .slice a3 p.opts.length c3, .slice a4 p.tabs.length c4, .slice a5 p.grps.length c5, .slice a6 p.lns.length c6, .slice a7 p.cks.length c7] 28)) wr) (fun _ iv _ => p.tabs.length - (intOf iv).toNat)
        case atStart => exact ⟨0, _, rfl, rfl, Nat.zero_le _, hBe⟩
        case round =>
          obtain ⟨i, n, rfl, rfl, hi, hBr⟩ := hrel
          obtain ⟨w0, hw00⟩ : ∃ w0, w0 = wr := ⟨wr, rfl⟩
          subst hw00
          have q1 := (bel_cell hBr (show W.heap.size < (W.alloc (.cells #[.string ⟨p.name.toArray⟩, .int .i64 p.year, .slice a3 p.opts.length c3, .slice a4 p.tabs.length c4, .slice a5 p.grps.length c5, .slice a6 p.lns.length c6, .slice a7 p.cks.length c7] 28)).heap.size by rw [hsz]; omega) 3).trans x3
          by_cases hgo : i < p.tabs.length ∧ n ≤ 32768
          · obtain ⟨hlt, hnm⟩ := hgo
            have hlt' : (i : Int) < (p.tabs.length : Int) := by omega
            have hi0 : (0 : Int) ≤ (i : Int) := by omega
            obtain ⟨g, o, hga⟩ := hT.some hlt
            have hFr := row_bel hT hBr (Nat.le_refl _)
            rw [hga] at hFr q1
            clear hga
            obtain ⟨cx, -, -, hEx, hcx⟩ := hFr.item hlt
            have hmem := List.getElem_mem hlt
            generalize p.tabs[i] = x at hEx hcx hmem
            obtain ⟨ax, cx2, rfl, -⟩ := hEx
            have kx1 : w0.cell? ⟨g, o + i * 2 + 1, none⟩ = some (.slice ax x.2.length cx2) := hcx 1 (by decide)
            clear hcx hFr hmem
            go_wp2
            go_roundw
            case rel => exact ⟨i + 1, _, rfl, by go_num, by omega, hBr⟩
            case measure => simp [intOf]; omega
          · have hcond : ¬ ((i : Int) < (p.tabs.length : Int)) ∨ ((i : Int) < (p.tabs.length : Int) ∧ ¬ n ≤ 32768) := by omega
            have hBq := Below.tr hB hBr (by rw [hsz]; omega)
            have hBe := hBr
            clear hgo hi
            rcases hcond with hc | ⟨hc1, hc2⟩
            · go_wp2
              go_loopw [3, 6] (fun nv iv wr => ∃ (i : Nat) (n : Int), nv = .int .i64 n ∧ iv = .int .i64 (i : Int) ∧ i ≤ p.lns.length ∧ Below (W.alloc (.cells #[.string ⟨p.name.toArray⟩, .int .i64 p.year, .slice a3 p.opts.length c3, .slice a4 p.tabs.length c4, .slice a5 p.grps.length c5, .slice a6 p.lns.length c6, .slice a7 p.cks.length c7] 28)).heap.size (W.alloc (.cells #[.string ⟨p.name.toArray⟩, .int .i64 p.year, .slice a3 p.opts.length c3, .slice a4 p.tabs.length c4, .slice a5 p.grps.length c5, .slice a6 p.lns.length c6, .slice a7 p.cks.length c7] 28)) wr) (fun _ iv _ => p.lns.length - (intOf iv).toNat)
              case atStart => exact ⟨0, _, rfl, rfl, Nat.zero_le _, hBe⟩
              case round =>
                obtain ⟨i, n, rfl, rfl, hi, hBr⟩ := hrel
                obtain ⟨w0, hw00⟩ : ∃ w0, w0 = wr := ⟨wr, rfl⟩
                subst hw00
                have q1 := (bel_cell hBr (show W.heap.size < (W.alloc (.cells #[.string ⟨p.name.toArray⟩, .int .i64 p.year, .slice a3 p.opts.length c3, .slice a4 p.tabs.length c4, .slice a5 p.grps.length c5, .slice a6 p.lns.length c6, .slice a7 p.cks.length c7] 28)).heap.size by rw [hsz]; omega) 5).trans x5
                by_cases hgo : i < p.lns.length ∧ n ≤ 32768
                · obtain ⟨hlt, hnm⟩ := hgo
                  have hlt' : (i : Int) < (p.lns.length : Int) := by omega
                  have hi0 : (0 : Int) ≤ (i : Int) := by omega
                  obtain ⟨g, o, hga⟩ := hL.some hlt
                  have hFr := row_bel hL hBr (Nat.le_refl _)
                  rw [hga] at hFr q1
                  clear hga
                  obtain ⟨cx, -, -, hEx, hcx⟩ := hFr.item hlt
                  have hmem := List.getElem_mem hlt
                  generalize p.lns[i] = x at hEx hcx hmem
                  obtain ⟨ax, cx2, rfl, -, hRx⟩ := hEx
                  have kx0 : w0.cell? ⟨g, o + i * 7, none⟩ = some (.string ⟨x.name.toArray⟩) := hcx 0 (by decide)
                  have kx6 : w0.cell? ⟨g, o + i * 7 + 6, none⟩ = some (.slice ax x.cls.length cx2) := hcx 6 (by decide)
                  have hzx := hz.lns.2 x hmem
                  have hzc := hzx.2.1
                  have hgs : g < w0.heap.size := World.block_lt_of_cell? _ _ kx0
                  have hW0 : W.heap.size < w0.heap.size := World.block_lt_of_cell? _ _ q1
                  clear hcx hFr hmem
                  go_wp2
                  go_loopw [3, 7] (fun nv kv wr => ∃ (k : Nat) (m : Int), nv = .int .i64 m ∧ kv = .int .i64 (k : Int) ∧ k ≤ x.cls.length ∧ Below w0.heap.size w0 wr) (fun _ kv _ => x.cls.length - (intOf kv).toNat)
                  case atStart => exact ⟨0, _, rfl, rfl, Nat.zero_le _, Below.refl _ _⟩
                  case round =>
                    obtain ⟨k, m, rfl, rfl, hk, hBk⟩ := hrel
                    have z1 := (bel_cell hBk hW0 5).trans q1
                    have z6 := (bel_cell hBk hgs (o + i * 7 + 6)).trans kx6
                    have hBrk := Below.tr hBr hBk hBr.size
                    by_cases hgk : k < x.cls.length ∧ m ≤ 32768
                    · obtain ⟨hkt, hkm⟩ := hgk
                      have hkt' : (k : Int) < (x.cls.length : Int) := by omega
                      have hk0 : (0 : Int) ≤ (k : Int) := by omega
                      obtain ⟨u, v, hua⟩ := hRx.some hkt
                      have hRk := row_bel hRx hBk (Nat.le_refl _)
                      rw [hua] at hRk z6
                      clear hua
                      obtain ⟨cy, -, -, ⟨a8, c8, b8, d8, rfl, -, -, hFg, hFb⟩, hcy⟩ := hRk.item hkt
                      have hzy := hzx.2.2 _ (List.getElem_mem hkt)
                      generalize x.cls[k] = y at hFg hFb hcy hzy
                      have ky0 : wr.cell? ⟨u, v + k * 12, none⟩ = some (.int .i64 y.pri) := hcy 0 (by decide)
                      have ky1 : wr.cell? ⟨u, v + k * 12 + 1, none⟩ = some (.bool y.guarded) := hcy 1 (by decide)
                      have ky2 : wr.cell? ⟨u, v + k * 12 + 2, none⟩ = some (.int .i64 y.guard.op) := hcy 2 (by decide)
                      have ky3 : wr.cell? ⟨u, v + k * 12 + 3, none⟩ = some (.int .i64 y.guard.num) := hcy 3 (by decide)
                      have ky4 : wr.cell? ⟨u, v + k * 12 + 4, none⟩ = some (.int .i64 y.guard.den) := hcy 4 (by decide)
                      have ky5 : wr.cell? ⟨u, v + k * 12 + 5, none⟩ = some (.int .i64 y.guard.mode) := hcy 5 (by decide)
                      have ky6 : wr.cell? ⟨u, v + k * 12 + 6, none⟩ = some (.slice a8 y.guard.args.len c8) := hcy 6 (by decide)
                      have ky7 : wr.cell? ⟨u, v + k * 12 + 7, none⟩ = some (.int .i64 y.body.op) := hcy 7 (by decide)
                      have ky8 : wr.cell? ⟨u, v + k * 12 + 8, none⟩ = some (.int .i64 y.body.num) := hcy 8 (by decide)
                      have ky9 : wr.cell? ⟨u, v + k * 12 + 9, none⟩ = some (.int .i64 y.body.den) := hcy 9 (by decide)
                      have ky10 : wr.cell? ⟨u, v + k * 12 + 10, none⟩ = some (.int .i64 y.body.mode) := hcy 10 (by decide)
                      have ky11 : wr.cell? ⟨u, v + k * 12 + 11, none⟩ = some (.slice b8 y.body.args.len d8) := hcy 11 (by decide)
                      have hus : u < wr.heap.size := World.block_lt_of_cell? _ _ ky0
                      have hgw : g < wr.heap.size := World.block_lt_of_cell? _ _ z6
                      have hWw : W.heap.size < wr.heap.size := World.block_lt_of_cell? _ _ z1
                      clear hcy hRk
                      have hS0 : wr.drew.cell? ⟨W.heap.size, 5, none⟩ = some (.slice (some ⟨g, o, none⟩) p.lns.length c6) ∧ wr.drew.cell? ⟨g, o + i * 7 + 6, none⟩ = some (.slice (some ⟨u, v, none⟩) x.cls.length cx2) ∧ wr.drew.cell? ⟨u, v + k * 12 + 2, none⟩ = some (.int .i64 y.guard.op) ∧ wr.drew.cell? ⟨u, v + k * 12 + 3, none⟩ = some (.int .i64 y.guard.num) ∧ wr.drew.cell? ⟨u, v + k * 12 + 4, none⟩ = some (.int .i64 y.guard.den) ∧ wr.drew.cell? ⟨u, v + k * 12 + 5, none⟩ = some (.int .i64 y.guard.mode) ∧ wr.drew.cell? ⟨u, v + k * 12 + 6, none⟩ = some (.slice a8 y.guard.args.len c8) ∧ wr.drew.cell? ⟨u, v + k * 12 + 7, none⟩ = some (.int .i64 y.body.op) ∧ wr.drew.cell? ⟨u, v + k * 12 + 8, none⟩ = some (.int .i64 y.body.num) ∧ wr.drew.cell? ⟨u, v + k * 12 + 9, none⟩ = some (.int .i64 y.body.den) ∧ wr.drew.cell? ⟨u, v + k * 12 + 10, none⟩ = some (.int .i64 y.body.mode) ∧ wr.drew.cell? ⟨u, v + k * 12 + 11, none⟩ = some (.slice b8 y.body.args.len d8) := ⟨z1, z6, ky2, ky3, ky4, ky5, ky6, ky7, ky8, ky9, ky10, ky11⟩
                      have hBd : Below wr.heap.size wr wr.drew := (Below.refl _ _).drew
                      have hFb1 := fo_bel hFb hBd (Nat.le_refl _)
                      have hc1 := fun m => nodes_any _ y.guard a8 c8 m wr.drew (Nat.le_refl _) hzy.1 (fo_bel hFg hBd (Nat.le_refl _))
                      have hkeep : ∀ X, Below wr.drew.heap.size wr.drew X → X.cell? ⟨W.heap.size, 5, none⟩ = some (.slice (some ⟨g, o, none⟩) p.lns.length c6) ∧ X.cell? ⟨g, o + i * 7 + 6, none⟩ = some (.slice (some ⟨u, v, none⟩) x.cls.length cx2) ∧ X.cell? ⟨u, v + k * 12 + 2, none⟩ = some (.int .i64 y.guard.op) ∧ X.cell? ⟨u, v + k * 12 + 3, none⟩ = some (.int .i64 y.guard.num) ∧ X.cell? ⟨u, v + k * 12 + 4, none⟩ = some (.int .i64 y.guard.den) ∧ X.cell? ⟨u, v + k * 12 + 5, none⟩ = some (.int .i64 y.guard.mode) ∧ X.cell? ⟨u, v + k * 12 + 6, none⟩ = some (.slice a8 y.guard.args.len c8) ∧ X.cell? ⟨u, v + k * 12 + 7, none⟩ = some (.int .i64 y.body.op) ∧ X.cell? ⟨u, v + k * 12 + 8, none⟩ = some (.int .i64 y.body.num) ∧ X.cell? ⟨u, v + k * 12 + 9, none⟩ = some (.int .i64 y.body.den) ∧ X.cell? ⟨u, v + k * 12 + 10, none⟩ = some (.int .i64 y.body.mode) ∧ X.cell? ⟨u, v + k * 12 + 11, none⟩ = some (.slice b8 y.body.args.len d8) := fun X hX => by
                        have kk := fun {b : Nat} (hb : b < wr.drew.heap.size) (j : Nat) => bel_cell hX hb j
                        exact ⟨(kk hWw _).trans z1, (kk hgw _).trans z6, (kk hus _).trans ky2, (kk hus _).trans ky3, (kk hus _).trans ky4, (kk hus _).trans ky5, (kk hus _).trans ky6, (kk hus _).trans ky7, (kk hus _).trans ky8, (kk hus _).trans ky9, (kk hus _).trans ky10, (kk hus _).trans ky11⟩
                      clear ky0 ky1 ky2 ky3 ky4 ky5 ky6 ky7 ky8 ky9 ky10 ky11
                      go_wp2
                      go_region_held3 (fun X => X.cell? ⟨W.heap.size, 5, none⟩ = some (.slice (some ⟨g, o, none⟩) p.lns.length c6) ∧ X.cell? ⟨g, o + i * 7 + 6, none⟩ = some (.slice (some ⟨u, v, none⟩) x.cls.length cx2) ∧ X.cell? ⟨u, v + k * 12 + 2, none⟩ = some (.int .i64 y.guard.op) ∧ X.cell? ⟨u, v + k * 12 + 3, none⟩ = some (.int .i64 y.guard.num) ∧ X.cell? ⟨u, v + k * 12 + 4, none⟩ = some (.int .i64 y.guard.den) ∧ X.cell? ⟨u, v + k * 12 + 5, none⟩ = some (.int .i64 y.guard.mode) ∧ X.cell? ⟨u, v + k * 12 + 6, none⟩ = some (.slice a8 y.guard.args.len c8) ∧ X.cell? ⟨u, v + k * 12 + 7, none⟩ = some (.int .i64 y.body.op) ∧ X.cell? ⟨u, v + k * 12 + 8, none⟩ = some (.int .i64 y.body.num) ∧ X.cell? ⟨u, v + k * 12 + 9, none⟩ = some (.int .i64 y.body.den) ∧ X.cell? ⟨u, v + k * 12 + 10, none⟩ = some (.int .i64 y.body.mode) ∧ X.cell? ⟨u, v + k * 12 + 11, none⟩ = some (.slice b8 y.body.args.len d8)) (assumption)
                        (first | (go_at_call 13; refine (hc1 _).mono ?_; clear hc1; rintro e w5 ⟨hB5, n5, rfl⟩; have hS5 := hkeep w5 hB5; have hc2 := fun m => nodes_any _ y.body b8 d8 m w5 (Nat.le_refl _) hzy.2 (fo_bel hFb1 hB5 (Nat.le_refl _))) | (go_at_call 13; refine (hc2 _).mono ?_; clear hc2; rintro e w6 ⟨hB6, n6, rfl⟩; have hB56 := Below.tr hB5 hB6 hB5.size; have hS6 := hkeep w6 hB56))
                      have hBn := Below.tr hBk (Below.tr hBd hB56 hBd.size) hBk.size
                      clear hkeep hS0
                      go_wp2
                      go_roundw
                      case rel => exact ⟨k + 1, _, rfl, by go_num, by omega, hBn⟩
                      case measure => simp [intOf]; omega
                    · have hck : ¬ ((k : Int) < (x.cls.length : Int)) ∨ ((k : Int) < (x.cls.length : Int) ∧ ¬ m ≤ 32768) := by omega
                      rcases hck with hc | ⟨hc1, hc2⟩
                      · go_wp2
                        go_roundw
                        case rel => exact ⟨i + 1, _, rfl, by go_num, by omega, hBrk⟩
                        case measure => simp [intOf]; omega
                      · go_wp2
                        go_roundw
                        case rel => exact ⟨i + 1, _, rfl, by go_num, by omega, hBrk⟩
                        case measure => simp [intOf]; omega
                · have hcond : ¬ ((i : Int) < (p.lns.length : Int)) ∨ ((i : Int) < (p.lns.length : Int) ∧ ¬ n ≤ 32768) := by omega
                  have hBq := Below.tr hB hBr (by rw [hsz]; omega)
                  have hBe := hBr
                  clear hgo hi
                  rcases hcond with hc | ⟨hc1, hc2⟩
                  · go_wp2
                    go_loopw [3, 8] (fun nv iv wr => ∃ (i : Nat) (n : Int), nv = .int .i64 n ∧ iv = .int .i64 (i : Int) ∧ i ≤ p.cks.length ∧ Below (W.alloc (.cells #[.string ⟨p.name.toArray⟩, .int .i64 p.year, .slice a3 p.opts.length c3, .slice a4 p.tabs.length c4, .slice a5 p.grps.length c5, .slice a6 p.lns.length c6, .slice a7 p.cks.length c7] 28)).heap.size (W.alloc (.cells #[.string ⟨p.name.toArray⟩, .int .i64 p.year, .slice a3 p.opts.length c3, .slice a4 p.tabs.length c4, .slice a5 p.grps.length c5, .slice a6 p.lns.length c6, .slice a7 p.cks.length c7] 28)) wr) (fun _ iv _ => p.cks.length - (intOf iv).toNat)
                    case atStart => exact ⟨0, _, rfl, rfl, Nat.zero_le _, hBe⟩
                    case round =>
                      obtain ⟨i, n, rfl, rfl, hi, hBr⟩ := hrel
                      obtain ⟨w0, hw00⟩ : ∃ w0, w0 = wr := ⟨wr, rfl⟩
                      subst hw00
                      have q1 := (bel_cell hBr (show W.heap.size < (W.alloc (.cells #[.string ⟨p.name.toArray⟩, .int .i64 p.year, .slice a3 p.opts.length c3, .slice a4 p.tabs.length c4, .slice a5 p.grps.length c5, .slice a6 p.lns.length c6, .slice a7 p.cks.length c7] 28)).heap.size by rw [hsz]; omega) 6).trans x6
                      by_cases hgo : i < p.cks.length ∧ n ≤ 32768
                      · obtain ⟨hlt, hnm⟩ := hgo
                        have hlt' : (i : Int) < (p.cks.length : Int) := by omega
                        have hi0 : (0 : Int) ≤ (i : Int) := by omega
                        obtain ⟨g, o, hga⟩ := hK.some hlt
                        have hFr := row_bel hK hBr (Nat.le_refl _)
                        rw [hga] at hFr q1
                        clear hga
                        obtain ⟨cx, -, -, hEx, hcx⟩ := hFr.item hlt
                        have hmem := List.getElem_mem hlt
                        generalize p.cks[i] = x at hEx hcx hmem
                        obtain ⟨ax, cx2, rfl, -, -, hFx⟩ := hEx
                        have ky0 : w0.cell? ⟨g, o + i * 9, none⟩ = some (.string ⟨x.name.toArray⟩) := hcx 0 (by decide)
                        have ky1 : w0.cell? ⟨g, o + i * 9 + 1, none⟩ = some (.bool x.hard) := hcx 1 (by decide)
                        have ky2 : w0.cell? ⟨g, o + i * 9 + 2, none⟩ = some (.int .i64 x.group) := hcx 2 (by decide)
                        have ky3 : w0.cell? ⟨g, o + i * 9 + 3, none⟩ = some (.int .i64 x.when_.op) := hcx 3 (by decide)
                        have ky4 : w0.cell? ⟨g, o + i * 9 + 4, none⟩ = some (.int .i64 x.when_.num) := hcx 4 (by decide)
                        have ky5 : w0.cell? ⟨g, o + i * 9 + 5, none⟩ = some (.int .i64 x.when_.den) := hcx 5 (by decide)
                        have ky6 : w0.cell? ⟨g, o + i * 9 + 6, none⟩ = some (.int .i64 x.when_.mode) := hcx 6 (by decide)
                        have ky7 : w0.cell? ⟨g, o + i * 9 + 7, none⟩ = some (.slice ax x.when_.args.len cx2) := hcx 7 (by decide)
                        have ky8 : w0.cell? ⟨g, o + i * 9 + 8, none⟩ = some (.string ⟨x.text.toArray⟩) := hcx 8 (by decide)
                        have hzx := hz.cks.2 x hmem
                        have hgs : g < w0.heap.size := World.block_lt_of_cell? _ _ ky0
                        have hW0 : W.heap.size < w0.heap.size := World.block_lt_of_cell? _ _ q1
                        have hS0 : w0.drew.cell? ⟨W.heap.size, 6, none⟩ = some (.slice (some ⟨g, o, none⟩) p.cks.length c7) ∧ w0.drew.cell? ⟨g, o + i * 9, none⟩ = some (.string ⟨x.name.toArray⟩) ∧ w0.drew.cell? ⟨g, o + i * 9 + 3, none⟩ = some (.int .i64 x.when_.op) ∧ w0.drew.cell? ⟨g, o + i * 9 + 4, none⟩ = some (.int .i64 x.when_.num) ∧ w0.drew.cell? ⟨g, o + i * 9 + 5, none⟩ = some (.int .i64 x.when_.den) ∧ w0.drew.cell? ⟨g, o + i * 9 + 6, none⟩ = some (.int .i64 x.when_.mode) ∧ w0.drew.cell? ⟨g, o + i * 9 + 7, none⟩ = some (.slice ax x.when_.args.len cx2) ∧ w0.drew.cell? ⟨g, o + i * 9 + 8, none⟩ = some (.string ⟨x.text.toArray⟩) := ⟨q1, ky0, ky3, ky4, ky5, ky6, ky7, ky8⟩
                        have hBd : Below w0.heap.size w0 w0.drew := (Below.refl _ _).drew
                        have hc1 := fun m => nodes_any _ x.when_ ax cx2 m w0.drew (Nat.le_refl _) hzx.2.2 (fo_bel hFx hBd (Nat.le_refl _))
                        have hkeep : ∀ X, Below w0.drew.heap.size w0.drew X → X.cell? ⟨W.heap.size, 6, none⟩ = some (.slice (some ⟨g, o, none⟩) p.cks.length c7) ∧ X.cell? ⟨g, o + i * 9, none⟩ = some (.string ⟨x.name.toArray⟩) ∧ X.cell? ⟨g, o + i * 9 + 3, none⟩ = some (.int .i64 x.when_.op) ∧ X.cell? ⟨g, o + i * 9 + 4, none⟩ = some (.int .i64 x.when_.num) ∧ X.cell? ⟨g, o + i * 9 + 5, none⟩ = some (.int .i64 x.when_.den) ∧ X.cell? ⟨g, o + i * 9 + 6, none⟩ = some (.int .i64 x.when_.mode) ∧ X.cell? ⟨g, o + i * 9 + 7, none⟩ = some (.slice ax x.when_.args.len cx2) ∧ X.cell? ⟨g, o + i * 9 + 8, none⟩ = some (.string ⟨x.text.toArray⟩) := fun X hX => by
                          have kk := fun {b : Nat} (hb : b < w0.drew.heap.size) (j : Nat) => bel_cell hX hb j
                          exact ⟨(kk hW0 _).trans q1, (kk hgs _).trans ky0, (kk hgs _).trans ky3, (kk hgs _).trans ky4, (kk hgs _).trans ky5, (kk hgs _).trans ky6, (kk hgs _).trans ky7, (kk hgs _).trans ky8⟩
                        clear hcx hFr hmem ky0 ky1 ky2 ky3 ky4 ky5 ky6 ky7 ky8
                        go_wp2
                        go_region_held3 (fun X => X.cell? ⟨W.heap.size, 6, none⟩ = some (.slice (some ⟨g, o, none⟩) p.cks.length c7) ∧ X.cell? ⟨g, o + i * 9, none⟩ = some (.string ⟨x.name.toArray⟩) ∧ X.cell? ⟨g, o + i * 9 + 3, none⟩ = some (.int .i64 x.when_.op) ∧ X.cell? ⟨g, o + i * 9 + 4, none⟩ = some (.int .i64 x.when_.num) ∧ X.cell? ⟨g, o + i * 9 + 5, none⟩ = some (.int .i64 x.when_.den) ∧ X.cell? ⟨g, o + i * 9 + 6, none⟩ = some (.int .i64 x.when_.mode) ∧ X.cell? ⟨g, o + i * 9 + 7, none⟩ = some (.slice ax x.when_.args.len cx2) ∧ X.cell? ⟨g, o + i * 9 + 8, none⟩ = some (.string ⟨x.text.toArray⟩)) (assumption)
                          (first | (go_at_call 13; refine (hc1 _).mono ?_; clear hc1; rintro e w5 ⟨hB5, n5, rfl⟩; have hS5 := hkeep w5 hB5))
                        have hBn := Below.tr hBr (Below.tr hBd hB5 hBd.size) hBr.size
                        clear hkeep hS0
                        go_wp2
                        go_roundw
                        case rel => exact ⟨i + 1, _, rfl, by go_num, by omega, hBn⟩
                        case measure => simp [intOf]; omega
                      · have hcond : ¬ ((i : Int) < (p.cks.length : Int)) ∨ ((i : Int) < (p.cks.length : Int) ∧ ¬ n ≤ 32768) := by omega
                        have hBq := Below.tr hB hBr (by rw [hsz]; omega)
                        have hBe := hBr
                        clear hgo hi
                        have hfin : ∀ b : Bool, Q (.returned (.bool b)) w0 := fun b => by
                          rw [← hQ.out]
                          exact ⟨hBq, b, rfl⟩
                        rcases hcond with hc | ⟨hc1, hc2⟩
                        · go_wp2
                          exact hfin _
                        · go_wp2
                          exact hfin _

                  · go_wp2
                    go_loopw [3, 8] (fun nv iv wr => ∃ (i : Nat) (n : Int), nv = .int .i64 n ∧ iv = .int .i64 (i : Int) ∧ i ≤ p.cks.length ∧ Below (W.alloc (.cells #[.string ⟨p.name.toArray⟩, .int .i64 p.year, .slice a3 p.opts.length c3, .slice a4 p.tabs.length c4, .slice a5 p.grps.length c5, .slice a6 p.lns.length c6, .slice a7 p.cks.length c7] 28)).heap.size (W.alloc (.cells #[.string ⟨p.name.toArray⟩, .int .i64 p.year, .slice a3 p.opts.length c3, .slice a4 p.tabs.length c4, .slice a5 p.grps.length c5, .slice a6 p.lns.length c6, .slice a7 p.cks.length c7] 28)) wr) (fun _ iv _ => p.cks.length - (intOf iv).toNat)
                    case atStart => exact ⟨0, _, rfl, rfl, Nat.zero_le _, hBe⟩
                    case round =>
                      obtain ⟨i, n, rfl, rfl, hi, hBr⟩ := hrel
                      obtain ⟨w0, hw00⟩ : ∃ w0, w0 = wr := ⟨wr, rfl⟩
                      subst hw00
                      have q1 := (bel_cell hBr (show W.heap.size < (W.alloc (.cells #[.string ⟨p.name.toArray⟩, .int .i64 p.year, .slice a3 p.opts.length c3, .slice a4 p.tabs.length c4, .slice a5 p.grps.length c5, .slice a6 p.lns.length c6, .slice a7 p.cks.length c7] 28)).heap.size by rw [hsz]; omega) 6).trans x6
                      by_cases hgo : i < p.cks.length ∧ n ≤ 32768
                      · obtain ⟨hlt, hnm⟩ := hgo
                        have hlt' : (i : Int) < (p.cks.length : Int) := by omega
                        have hi0 : (0 : Int) ≤ (i : Int) := by omega
                        obtain ⟨g, o, hga⟩ := hK.some hlt
                        have hFr := row_bel hK hBr (Nat.le_refl _)
                        rw [hga] at hFr q1
                        clear hga
                        obtain ⟨cx, -, -, hEx, hcx⟩ := hFr.item hlt
                        have hmem := List.getElem_mem hlt
                        generalize p.cks[i] = x at hEx hcx hmem
                        obtain ⟨ax, cx2, rfl, -, -, hFx⟩ := hEx
                        have ky0 : w0.cell? ⟨g, o + i * 9, none⟩ = some (.string ⟨x.name.toArray⟩) := hcx 0 (by decide)
                        have ky1 : w0.cell? ⟨g, o + i * 9 + 1, none⟩ = some (.bool x.hard) := hcx 1 (by decide)
                        have ky2 : w0.cell? ⟨g, o + i * 9 + 2, none⟩ = some (.int .i64 x.group) := hcx 2 (by decide)
                        have ky3 : w0.cell? ⟨g, o + i * 9 + 3, none⟩ = some (.int .i64 x.when_.op) := hcx 3 (by decide)
                        have ky4 : w0.cell? ⟨g, o + i * 9 + 4, none⟩ = some (.int .i64 x.when_.num) := hcx 4 (by decide)
                        have ky5 : w0.cell? ⟨g, o + i * 9 + 5, none⟩ = some (.int .i64 x.when_.den) := hcx 5 (by decide)
                        have ky6 : w0.cell? ⟨g, o + i * 9 + 6, none⟩ = some (.int .i64 x.when_.mode) := hcx 6 (by decide)
                        have ky7 : w0.cell? ⟨g, o + i * 9 + 7, none⟩ = some (.slice ax x.when_.args.len cx2) := hcx 7 (by decide)
                        have ky8 : w0.cell? ⟨g, o + i * 9 + 8, none⟩ = some (.string ⟨x.text.toArray⟩) := hcx 8 (by decide)
                        have hzx := hz.cks.2 x hmem
                        have hgs : g < w0.heap.size := World.block_lt_of_cell? _ _ ky0
                        have hW0 : W.heap.size < w0.heap.size := World.block_lt_of_cell? _ _ q1
                        have hS0 : w0.drew.cell? ⟨W.heap.size, 6, none⟩ = some (.slice (some ⟨g, o, none⟩) p.cks.length c7) ∧ w0.drew.cell? ⟨g, o + i * 9, none⟩ = some (.string ⟨x.name.toArray⟩) ∧ w0.drew.cell? ⟨g, o + i * 9 + 3, none⟩ = some (.int .i64 x.when_.op) ∧ w0.drew.cell? ⟨g, o + i * 9 + 4, none⟩ = some (.int .i64 x.when_.num) ∧ w0.drew.cell? ⟨g, o + i * 9 + 5, none⟩ = some (.int .i64 x.when_.den) ∧ w0.drew.cell? ⟨g, o + i * 9 + 6, none⟩ = some (.int .i64 x.when_.mode) ∧ w0.drew.cell? ⟨g, o + i * 9 + 7, none⟩ = some (.slice ax x.when_.args.len cx2) ∧ w0.drew.cell? ⟨g, o + i * 9 + 8, none⟩ = some (.string ⟨x.text.toArray⟩) := ⟨q1, ky0, ky3, ky4, ky5, ky6, ky7, ky8⟩
                        have hBd : Below w0.heap.size w0 w0.drew := (Below.refl _ _).drew
                        have hc1 := fun m => nodes_any _ x.when_ ax cx2 m w0.drew (Nat.le_refl _) hzx.2.2 (fo_bel hFx hBd (Nat.le_refl _))
                        have hkeep : ∀ X, Below w0.drew.heap.size w0.drew X → X.cell? ⟨W.heap.size, 6, none⟩ = some (.slice (some ⟨g, o, none⟩) p.cks.length c7) ∧ X.cell? ⟨g, o + i * 9, none⟩ = some (.string ⟨x.name.toArray⟩) ∧ X.cell? ⟨g, o + i * 9 + 3, none⟩ = some (.int .i64 x.when_.op) ∧ X.cell? ⟨g, o + i * 9 + 4, none⟩ = some (.int .i64 x.when_.num) ∧ X.cell? ⟨g, o + i * 9 + 5, none⟩ = some (.int .i64 x.when_.den) ∧ X.cell? ⟨g, o + i * 9 + 6, none⟩ = some (.int .i64 x.when_.mode) ∧ X.cell? ⟨g, o + i * 9 + 7, none⟩ = some (.slice ax x.when_.args.len cx2) ∧ X.cell? ⟨g, o + i * 9 + 8, none⟩ = some (.string ⟨x.text.toArray⟩) := fun X hX => by
                          have kk := fun {b : Nat} (hb : b < w0.drew.heap.size) (j : Nat) => bel_cell hX hb j
                          exact ⟨(kk hW0 _).trans q1, (kk hgs _).trans ky0, (kk hgs _).trans ky3, (kk hgs _).trans ky4, (kk hgs _).trans ky5, (kk hgs _).trans ky6, (kk hgs _).trans ky7, (kk hgs _).trans ky8⟩
                        clear hcx hFr hmem ky0 ky1 ky2 ky3 ky4 ky5 ky6 ky7 ky8
                        go_wp2
                        go_region_held3 (fun X => X.cell? ⟨W.heap.size, 6, none⟩ = some (.slice (some ⟨g, o, none⟩) p.cks.length c7) ∧ X.cell? ⟨g, o + i * 9, none⟩ = some (.string ⟨x.name.toArray⟩) ∧ X.cell? ⟨g, o + i * 9 + 3, none⟩ = some (.int .i64 x.when_.op) ∧ X.cell? ⟨g, o + i * 9 + 4, none⟩ = some (.int .i64 x.when_.num) ∧ X.cell? ⟨g, o + i * 9 + 5, none⟩ = some (.int .i64 x.when_.den) ∧ X.cell? ⟨g, o + i * 9 + 6, none⟩ = some (.int .i64 x.when_.mode) ∧ X.cell? ⟨g, o + i * 9 + 7, none⟩ = some (.slice ax x.when_.args.len cx2) ∧ X.cell? ⟨g, o + i * 9 + 8, none⟩ = some (.string ⟨x.text.toArray⟩)) (assumption)
                          (first | (go_at_call 13; refine (hc1 _).mono ?_; clear hc1; rintro e w5 ⟨hB5, n5, rfl⟩; have hS5 := hkeep w5 hB5))
                        have hBn := Below.tr hBr (Below.tr hBd hB5 hBd.size) hBr.size
                        clear hkeep hS0
                        go_wp2
                        go_roundw
                        case rel => exact ⟨i + 1, _, rfl, by go_num, by omega, hBn⟩
                        case measure => simp [intOf]; omega
                      · have hcond : ¬ ((i : Int) < (p.cks.length : Int)) ∨ ((i : Int) < (p.cks.length : Int) ∧ ¬ n ≤ 32768) := by omega
                        have hBq := Below.tr hB hBr (by rw [hsz]; omega)
                        have hBe := hBr
                        clear hgo hi
                        have hfin : ∀ b : Bool, Q (.returned (.bool b)) w0 := fun b => by
                          rw [← hQ.out]
                          exact ⟨hBq, b, rfl⟩
                        rcases hcond with hc | ⟨hc1, hc2⟩
                        · go_wp2
                          exact hfin _
                        · go_wp2
                          exact hfin _


            · go_wp2
              go_loopw [3, 6] (fun nv iv wr => ∃ (i : Nat) (n : Int), nv = .int .i64 n ∧ iv = .int .i64 (i : Int) ∧ i ≤ p.lns.length ∧ Below (W.alloc (.cells #[.string ⟨p.name.toArray⟩, .int .i64 p.year, .slice a3 p.opts.length c3, .slice a4 p.tabs.length c4, .slice a5 p.grps.length c5, .slice a6 p.lns.length c6, .slice a7 p.cks.length c7] 28)).heap.size (W.alloc (.cells #[.string ⟨p.name.toArray⟩, .int .i64 p.year, .slice a3 p.opts.length c3, .slice a4 p.tabs.length c4, .slice a5 p.grps.length c5, .slice a6 p.lns.length c6, .slice a7 p.cks.length c7] 28)) wr) (fun _ iv _ => p.lns.length - (intOf iv).toNat)
              case atStart => exact ⟨0, _, rfl, rfl, Nat.zero_le _, hBe⟩
              case round =>
                obtain ⟨i, n, rfl, rfl, hi, hBr⟩ := hrel
                obtain ⟨w0, hw00⟩ : ∃ w0, w0 = wr := ⟨wr, rfl⟩
                subst hw00
                have q1 := (bel_cell hBr (show W.heap.size < (W.alloc (.cells #[.string ⟨p.name.toArray⟩, .int .i64 p.year, .slice a3 p.opts.length c3, .slice a4 p.tabs.length c4, .slice a5 p.grps.length c5, .slice a6 p.lns.length c6, .slice a7 p.cks.length c7] 28)).heap.size by rw [hsz]; omega) 5).trans x5
                by_cases hgo : i < p.lns.length ∧ n ≤ 32768
                · obtain ⟨hlt, hnm⟩ := hgo
                  have hlt' : (i : Int) < (p.lns.length : Int) := by omega
                  have hi0 : (0 : Int) ≤ (i : Int) := by omega
                  obtain ⟨g, o, hga⟩ := hL.some hlt
                  have hFr := row_bel hL hBr (Nat.le_refl _)
                  rw [hga] at hFr q1
                  clear hga
                  obtain ⟨cx, -, -, hEx, hcx⟩ := hFr.item hlt
                  have hmem := List.getElem_mem hlt
                  generalize p.lns[i] = x at hEx hcx hmem
                  obtain ⟨ax, cx2, rfl, -, hRx⟩ := hEx
                  have kx0 : w0.cell? ⟨g, o + i * 7, none⟩ = some (.string ⟨x.name.toArray⟩) := hcx 0 (by decide)
                  have kx6 : w0.cell? ⟨g, o + i * 7 + 6, none⟩ = some (.slice ax x.cls.length cx2) := hcx 6 (by decide)
                  have hzx := hz.lns.2 x hmem
                  have hzc := hzx.2.1
                  have hgs : g < w0.heap.size := World.block_lt_of_cell? _ _ kx0
                  have hW0 : W.heap.size < w0.heap.size := World.block_lt_of_cell? _ _ q1
                  clear hcx hFr hmem
                  go_wp2
                  go_loopw [3, 7] (fun nv kv wr => ∃ (k : Nat) (m : Int), nv = .int .i64 m ∧ kv = .int .i64 (k : Int) ∧ k ≤ x.cls.length ∧ Below w0.heap.size w0 wr) (fun _ kv _ => x.cls.length - (intOf kv).toNat)
                  case atStart => exact ⟨0, _, rfl, rfl, Nat.zero_le _, Below.refl _ _⟩
                  case round =>
                    obtain ⟨k, m, rfl, rfl, hk, hBk⟩ := hrel
                    have z1 := (bel_cell hBk hW0 5).trans q1
                    have z6 := (bel_cell hBk hgs (o + i * 7 + 6)).trans kx6
                    have hBrk := Below.tr hBr hBk hBr.size
                    by_cases hgk : k < x.cls.length ∧ m ≤ 32768
                    · obtain ⟨hkt, hkm⟩ := hgk
                      have hkt' : (k : Int) < (x.cls.length : Int) := by omega
                      have hk0 : (0 : Int) ≤ (k : Int) := by omega
                      obtain ⟨u, v, hua⟩ := hRx.some hkt
                      have hRk := row_bel hRx hBk (Nat.le_refl _)
                      rw [hua] at hRk z6
                      clear hua
                      obtain ⟨cy, -, -, ⟨a8, c8, b8, d8, rfl, -, -, hFg, hFb⟩, hcy⟩ := hRk.item hkt
                      have hzy := hzx.2.2 _ (List.getElem_mem hkt)
                      generalize x.cls[k] = y at hFg hFb hcy hzy
                      have ky0 : wr.cell? ⟨u, v + k * 12, none⟩ = some (.int .i64 y.pri) := hcy 0 (by decide)
                      have ky1 : wr.cell? ⟨u, v + k * 12 + 1, none⟩ = some (.bool y.guarded) := hcy 1 (by decide)
                      have ky2 : wr.cell? ⟨u, v + k * 12 + 2, none⟩ = some (.int .i64 y.guard.op) := hcy 2 (by decide)
                      have ky3 : wr.cell? ⟨u, v + k * 12 + 3, none⟩ = some (.int .i64 y.guard.num) := hcy 3 (by decide)
                      have ky4 : wr.cell? ⟨u, v + k * 12 + 4, none⟩ = some (.int .i64 y.guard.den) := hcy 4 (by decide)
                      have ky5 : wr.cell? ⟨u, v + k * 12 + 5, none⟩ = some (.int .i64 y.guard.mode) := hcy 5 (by decide)
                      have ky6 : wr.cell? ⟨u, v + k * 12 + 6, none⟩ = some (.slice a8 y.guard.args.len c8) := hcy 6 (by decide)
                      have ky7 : wr.cell? ⟨u, v + k * 12 + 7, none⟩ = some (.int .i64 y.body.op) := hcy 7 (by decide)
                      have ky8 : wr.cell? ⟨u, v + k * 12 + 8, none⟩ = some (.int .i64 y.body.num) := hcy 8 (by decide)
                      have ky9 : wr.cell? ⟨u, v + k * 12 + 9, none⟩ = some (.int .i64 y.body.den) := hcy 9 (by decide)
                      have ky10 : wr.cell? ⟨u, v + k * 12 + 10, none⟩ = some (.int .i64 y.body.mode) := hcy 10 (by decide)
                      have ky11 : wr.cell? ⟨u, v + k * 12 + 11, none⟩ = some (.slice b8 y.body.args.len d8) := hcy 11 (by decide)
                      have hus : u < wr.heap.size := World.block_lt_of_cell? _ _ ky0
                      have hgw : g < wr.heap.size := World.block_lt_of_cell? _ _ z6
                      have hWw : W.heap.size < wr.heap.size := World.block_lt_of_cell? _ _ z1
                      clear hcy hRk
                      have hS0 : wr.drew.cell? ⟨W.heap.size, 5, none⟩ = some (.slice (some ⟨g, o, none⟩) p.lns.length c6) ∧ wr.drew.cell? ⟨g, o + i * 7 + 6, none⟩ = some (.slice (some ⟨u, v, none⟩) x.cls.length cx2) ∧ wr.drew.cell? ⟨u, v + k * 12 + 2, none⟩ = some (.int .i64 y.guard.op) ∧ wr.drew.cell? ⟨u, v + k * 12 + 3, none⟩ = some (.int .i64 y.guard.num) ∧ wr.drew.cell? ⟨u, v + k * 12 + 4, none⟩ = some (.int .i64 y.guard.den) ∧ wr.drew.cell? ⟨u, v + k * 12 + 5, none⟩ = some (.int .i64 y.guard.mode) ∧ wr.drew.cell? ⟨u, v + k * 12 + 6, none⟩ = some (.slice a8 y.guard.args.len c8) ∧ wr.drew.cell? ⟨u, v + k * 12 + 7, none⟩ = some (.int .i64 y.body.op) ∧ wr.drew.cell? ⟨u, v + k * 12 + 8, none⟩ = some (.int .i64 y.body.num) ∧ wr.drew.cell? ⟨u, v + k * 12 + 9, none⟩ = some (.int .i64 y.body.den) ∧ wr.drew.cell? ⟨u, v + k * 12 + 10, none⟩ = some (.int .i64 y.body.mode) ∧ wr.drew.cell? ⟨u, v + k * 12 + 11, none⟩ = some (.slice b8 y.body.args.len d8) := ⟨z1, z6, ky2, ky3, ky4, ky5, ky6, ky7, ky8, ky9, ky10, ky11⟩
                      have hBd : Below wr.heap.size wr wr.drew := (Below.refl _ _).drew
                      have hFb1 := fo_bel hFb hBd (Nat.le_refl _)
                      have hc1 := fun m => nodes_any _ y.guard a8 c8 m wr.drew (Nat.le_refl _) hzy.1 (fo_bel hFg hBd (Nat.le_refl _))
                      have hkeep : ∀ X, Below wr.drew.heap.size wr.drew X → X.cell? ⟨W.heap.size, 5, none⟩ = some (.slice (some ⟨g, o, none⟩) p.lns.length c6) ∧ X.cell? ⟨g, o + i * 7 + 6, none⟩ = some (.slice (some ⟨u, v, none⟩) x.cls.length cx2) ∧ X.cell? ⟨u, v + k * 12 + 2, none⟩ = some (.int .i64 y.guard.op) ∧ X.cell? ⟨u, v + k * 12 + 3, none⟩ = some (.int .i64 y.guard.num) ∧ X.cell? ⟨u, v + k * 12 + 4, none⟩ = some (.int .i64 y.guard.den) ∧ X.cell? ⟨u, v + k * 12 + 5, none⟩ = some (.int .i64 y.guard.mode) ∧ X.cell? ⟨u, v + k * 12 + 6, none⟩ = some (.slice a8 y.guard.args.len c8) ∧ X.cell? ⟨u, v + k * 12 + 7, none⟩ = some (.int .i64 y.body.op) ∧ X.cell? ⟨u, v + k * 12 + 8, none⟩ = some (.int .i64 y.body.num) ∧ X.cell? ⟨u, v + k * 12 + 9, none⟩ = some (.int .i64 y.body.den) ∧ X.cell? ⟨u, v + k * 12 + 10, none⟩ = some (.int .i64 y.body.mode) ∧ X.cell? ⟨u, v + k * 12 + 11, none⟩ = some (.slice b8 y.body.args.len d8) := fun X hX => by
                        have kk := fun {b : Nat} (hb : b < wr.drew.heap.size) (j : Nat) => bel_cell hX hb j
                        exact ⟨(kk hWw _).trans z1, (kk hgw _).trans z6, (kk hus _).trans ky2, (kk hus _).trans ky3, (kk hus _).trans ky4, (kk hus _).trans ky5, (kk hus _).trans ky6, (kk hus _).trans ky7, (kk hus _).trans ky8, (kk hus _).trans ky9, (kk hus _).trans ky10, (kk hus _).trans ky11⟩
                      clear ky0 ky1 ky2 ky3 ky4 ky5 ky6 ky7 ky8 ky9 ky10 ky11
                      go_wp2
                      go_region_held3 (fun X => X.cell? ⟨W.heap.size, 5, none⟩ = some (.slice (some ⟨g, o, none⟩) p.lns.length c6) ∧ X.cell? ⟨g, o + i * 7 + 6, none⟩ = some (.slice (some ⟨u, v, none⟩) x.cls.length cx2) ∧ X.cell? ⟨u, v + k * 12 + 2, none⟩ = some (.int .i64 y.guard.op) ∧ X.cell? ⟨u, v + k * 12 + 3, none⟩ = some (.int .i64 y.guard.num) ∧ X.cell? ⟨u, v + k * 12 + 4, none⟩ = some (.int .i64 y.guard.den) ∧ X.cell? ⟨u, v + k * 12 + 5, none⟩ = some (.int .i64 y.guard.mode) ∧ X.cell? ⟨u, v + k * 12 + 6, none⟩ = some (.slice a8 y.guard.args.len c8) ∧ X.cell? ⟨u, v + k * 12 + 7, none⟩ = some (.int .i64 y.body.op) ∧ X.cell? ⟨u, v + k * 12 + 8, none⟩ = some (.int .i64 y.body.num) ∧ X.cell? ⟨u, v + k * 12 + 9, none⟩ = some (.int .i64 y.body.den) ∧ X.cell? ⟨u, v + k * 12 + 10, none⟩ = some (.int .i64 y.body.mode) ∧ X.cell? ⟨u, v + k * 12 + 11, none⟩ = some (.slice b8 y.body.args.len d8)) (assumption)
                        (first | (go_at_call 13; refine (hc1 _).mono ?_; clear hc1; rintro e w5 ⟨hB5, n5, rfl⟩; have hS5 := hkeep w5 hB5; have hc2 := fun m => nodes_any _ y.body b8 d8 m w5 (Nat.le_refl _) hzy.2 (fo_bel hFb1 hB5 (Nat.le_refl _))) | (go_at_call 13; refine (hc2 _).mono ?_; clear hc2; rintro e w6 ⟨hB6, n6, rfl⟩; have hB56 := Below.tr hB5 hB6 hB5.size; have hS6 := hkeep w6 hB56))
                      have hBn := Below.tr hBk (Below.tr hBd hB56 hBd.size) hBk.size
                      clear hkeep hS0
                      go_wp2
                      go_roundw
                      case rel => exact ⟨k + 1, _, rfl, by go_num, by omega, hBn⟩
                      case measure => simp [intOf]; omega
                    · have hck : ¬ ((k : Int) < (x.cls.length : Int)) ∨ ((k : Int) < (x.cls.length : Int) ∧ ¬ m ≤ 32768) := by omega
                      rcases hck with hc | ⟨hc1, hc2⟩
                      · go_wp2
                        go_roundw
                        case rel => exact ⟨i + 1, _, rfl, by go_num, by omega, hBrk⟩
                        case measure => simp [intOf]; omega
                      · go_wp2
                        go_roundw
                        case rel => exact ⟨i + 1, _, rfl, by go_num, by omega, hBrk⟩
                        case measure => simp [intOf]; omega
                · have hcond : ¬ ((i : Int) < (p.lns.length : Int)) ∨ ((i : Int) < (p.lns.length : Int) ∧ ¬ n ≤ 32768) := by omega
                  have hBq := Below.tr hB hBr (by rw [hsz]; omega)
                  have hBe := hBr
                  clear hgo hi
                  rcases hcond with hc | ⟨hc1, hc2⟩
                  · go_wp2
                    go_loopw [3, 8] (fun nv iv wr => ∃ (i : Nat) (n : Int), nv = .int .i64 n ∧ iv = .int .i64 (i : Int) ∧ i ≤ p.cks.length ∧ Below (W.alloc (.cells #[.string ⟨p.name.toArray⟩, .int .i64 p.year, .slice a3 p.opts.length c3, .slice a4 p.tabs.length c4, .slice a5 p.grps.length c5, .slice a6 p.lns.length c6, .slice a7 p.cks.length c7] 28)).heap.size (W.alloc (.cells #[.string ⟨p.name.toArray⟩, .int .i64 p.year, .slice a3 p.opts.length c3, .slice a4 p.tabs.length c4, .slice a5 p.grps.length c5, .slice a6 p.lns.length c6, .slice a7 p.cks.length c7] 28)) wr) (fun _ iv _ => p.cks.length - (intOf iv).toNat)
                    case atStart => exact ⟨0, _, rfl, rfl, Nat.zero_le _, hBe⟩
                    case round =>
                      obtain ⟨i, n, rfl, rfl, hi, hBr⟩ := hrel
                      obtain ⟨w0, hw00⟩ : ∃ w0, w0 = wr := ⟨wr, rfl⟩
                      subst hw00
                      have q1 := (bel_cell hBr (show W.heap.size < (W.alloc (.cells #[.string ⟨p.name.toArray⟩, .int .i64 p.year, .slice a3 p.opts.length c3, .slice a4 p.tabs.length c4, .slice a5 p.grps.length c5, .slice a6 p.lns.length c6, .slice a7 p.cks.length c7] 28)).heap.size by rw [hsz]; omega) 6).trans x6
                      by_cases hgo : i < p.cks.length ∧ n ≤ 32768
                      · obtain ⟨hlt, hnm⟩ := hgo
                        have hlt' : (i : Int) < (p.cks.length : Int) := by omega
                        have hi0 : (0 : Int) ≤ (i : Int) := by omega
                        obtain ⟨g, o, hga⟩ := hK.some hlt
                        have hFr := row_bel hK hBr (Nat.le_refl _)
                        rw [hga] at hFr q1
                        clear hga
                        obtain ⟨cx, -, -, hEx, hcx⟩ := hFr.item hlt
                        have hmem := List.getElem_mem hlt
                        generalize p.cks[i] = x at hEx hcx hmem
                        obtain ⟨ax, cx2, rfl, -, -, hFx⟩ := hEx
                        have ky0 : w0.cell? ⟨g, o + i * 9, none⟩ = some (.string ⟨x.name.toArray⟩) := hcx 0 (by decide)
                        have ky1 : w0.cell? ⟨g, o + i * 9 + 1, none⟩ = some (.bool x.hard) := hcx 1 (by decide)
                        have ky2 : w0.cell? ⟨g, o + i * 9 + 2, none⟩ = some (.int .i64 x.group) := hcx 2 (by decide)
                        have ky3 : w0.cell? ⟨g, o + i * 9 + 3, none⟩ = some (.int .i64 x.when_.op) := hcx 3 (by decide)
                        have ky4 : w0.cell? ⟨g, o + i * 9 + 4, none⟩ = some (.int .i64 x.when_.num) := hcx 4 (by decide)
                        have ky5 : w0.cell? ⟨g, o + i * 9 + 5, none⟩ = some (.int .i64 x.when_.den) := hcx 5 (by decide)
                        have ky6 : w0.cell? ⟨g, o + i * 9 + 6, none⟩ = some (.int .i64 x.when_.mode) := hcx 6 (by decide)
                        have ky7 : w0.cell? ⟨g, o + i * 9 + 7, none⟩ = some (.slice ax x.when_.args.len cx2) := hcx 7 (by decide)
                        have ky8 : w0.cell? ⟨g, o + i * 9 + 8, none⟩ = some (.string ⟨x.text.toArray⟩) := hcx 8 (by decide)
                        have hzx := hz.cks.2 x hmem
                        have hgs : g < w0.heap.size := World.block_lt_of_cell? _ _ ky0
                        have hW0 : W.heap.size < w0.heap.size := World.block_lt_of_cell? _ _ q1
                        have hS0 : w0.drew.cell? ⟨W.heap.size, 6, none⟩ = some (.slice (some ⟨g, o, none⟩) p.cks.length c7) ∧ w0.drew.cell? ⟨g, o + i * 9, none⟩ = some (.string ⟨x.name.toArray⟩) ∧ w0.drew.cell? ⟨g, o + i * 9 + 3, none⟩ = some (.int .i64 x.when_.op) ∧ w0.drew.cell? ⟨g, o + i * 9 + 4, none⟩ = some (.int .i64 x.when_.num) ∧ w0.drew.cell? ⟨g, o + i * 9 + 5, none⟩ = some (.int .i64 x.when_.den) ∧ w0.drew.cell? ⟨g, o + i * 9 + 6, none⟩ = some (.int .i64 x.when_.mode) ∧ w0.drew.cell? ⟨g, o + i * 9 + 7, none⟩ = some (.slice ax x.when_.args.len cx2) ∧ w0.drew.cell? ⟨g, o + i * 9 + 8, none⟩ = some (.string ⟨x.text.toArray⟩) := ⟨q1, ky0, ky3, ky4, ky5, ky6, ky7, ky8⟩
                        have hBd : Below w0.heap.size w0 w0.drew := (Below.refl _ _).drew
                        have hc1 := fun m => nodes_any _ x.when_ ax cx2 m w0.drew (Nat.le_refl _) hzx.2.2 (fo_bel hFx hBd (Nat.le_refl _))
                        have hkeep : ∀ X, Below w0.drew.heap.size w0.drew X → X.cell? ⟨W.heap.size, 6, none⟩ = some (.slice (some ⟨g, o, none⟩) p.cks.length c7) ∧ X.cell? ⟨g, o + i * 9, none⟩ = some (.string ⟨x.name.toArray⟩) ∧ X.cell? ⟨g, o + i * 9 + 3, none⟩ = some (.int .i64 x.when_.op) ∧ X.cell? ⟨g, o + i * 9 + 4, none⟩ = some (.int .i64 x.when_.num) ∧ X.cell? ⟨g, o + i * 9 + 5, none⟩ = some (.int .i64 x.when_.den) ∧ X.cell? ⟨g, o + i * 9 + 6, none⟩ = some (.int .i64 x.when_.mode) ∧ X.cell? ⟨g, o + i * 9 + 7, none⟩ = some (.slice ax x.when_.args.len cx2) ∧ X.cell? ⟨g, o + i * 9 + 8, none⟩ = some (.string ⟨x.text.toArray⟩) := fun X hX => by
                          have kk := fun {b : Nat} (hb : b < w0.drew.heap.size) (j : Nat) => bel_cell hX hb j
                          exact ⟨(kk hW0 _).trans q1, (kk hgs _).trans ky0, (kk hgs _).trans ky3, (kk hgs _).trans ky4, (kk hgs _).trans ky5, (kk hgs _).trans ky6, (kk hgs _).trans ky7, (kk hgs _).trans ky8⟩
                        clear hcx hFr hmem ky0 ky1 ky2 ky3 ky4 ky5 ky6 ky7 ky8
                        go_wp2
                        go_region_held3 (fun X => X.cell? ⟨W.heap.size, 6, none⟩ = some (.slice (some ⟨g, o, none⟩) p.cks.length c7) ∧ X.cell? ⟨g, o + i * 9, none⟩ = some (.string ⟨x.name.toArray⟩) ∧ X.cell? ⟨g, o + i * 9 + 3, none⟩ = some (.int .i64 x.when_.op) ∧ X.cell? ⟨g, o + i * 9 + 4, none⟩ = some (.int .i64 x.when_.num) ∧ X.cell? ⟨g, o + i * 9 + 5, none⟩ = some (.int .i64 x.when_.den) ∧ X.cell? ⟨g, o + i * 9 + 6, none⟩ = some (.int .i64 x.when_.mode) ∧ X.cell? ⟨g, o + i * 9 + 7, none⟩ = some (.slice ax x.when_.args.len cx2) ∧ X.cell? ⟨g, o + i * 9 + 8, none⟩ = some (.string ⟨x.text.toArray⟩)) (assumption)
                          (first | (go_at_call 13; refine (hc1 _).mono ?_; clear hc1; rintro e w5 ⟨hB5, n5, rfl⟩; have hS5 := hkeep w5 hB5))
                        have hBn := Below.tr hBr (Below.tr hBd hB5 hBd.size) hBr.size
                        clear hkeep hS0
                        go_wp2
                        go_roundw
                        case rel => exact ⟨i + 1, _, rfl, by go_num, by omega, hBn⟩
                        case measure => simp [intOf]; omega
                      · have hcond : ¬ ((i : Int) < (p.cks.length : Int)) ∨ ((i : Int) < (p.cks.length : Int) ∧ ¬ n ≤ 32768) := by omega
                        have hBq := Below.tr hB hBr (by rw [hsz]; omega)
                        have hBe := hBr
                        clear hgo hi
                        have hfin : ∀ b : Bool, Q (.returned (.bool b)) w0 := fun b => by
                          rw [← hQ.out]
                          exact ⟨hBq, b, rfl⟩
                        rcases hcond with hc | ⟨hc1, hc2⟩
                        · go_wp2
                          exact hfin _
                        · go_wp2
                          exact hfin _

                  · go_wp2
                    go_loopw [3, 8] (fun nv iv wr => ∃ (i : Nat) (n : Int), nv = .int .i64 n ∧ iv = .int .i64 (i : Int) ∧ i ≤ p.cks.length ∧ Below (W.alloc (.cells #[.string ⟨p.name.toArray⟩, .int .i64 p.year, .slice a3 p.opts.length c3, .slice a4 p.tabs.length c4, .slice a5 p.grps.length c5, .slice a6 p.lns.length c6, .slice a7 p.cks.length c7] 28)).heap.size (W.alloc (.cells #[.string ⟨p.name.toArray⟩, .int .i64 p.year, .slice a3 p.opts.length c3, .slice a4 p.tabs.length c4, .slice a5 p.grps.length c5, .slice a6 p.lns.length c6, .slice a7 p.cks.length c7] 28)) wr) (fun _ iv _ => p.cks.length - (intOf iv).toNat)
                    case atStart => exact ⟨0, _, rfl, rfl, Nat.zero_le _, hBe⟩
                    case round =>
                      obtain ⟨i, n, rfl, rfl, hi, hBr⟩ := hrel
                      obtain ⟨w0, hw00⟩ : ∃ w0, w0 = wr := ⟨wr, rfl⟩
                      subst hw00
                      have q1 := (bel_cell hBr (show W.heap.size < (W.alloc (.cells #[.string ⟨p.name.toArray⟩, .int .i64 p.year, .slice a3 p.opts.length c3, .slice a4 p.tabs.length c4, .slice a5 p.grps.length c5, .slice a6 p.lns.length c6, .slice a7 p.cks.length c7] 28)).heap.size by rw [hsz]; omega) 6).trans x6
                      by_cases hgo : i < p.cks.length ∧ n ≤ 32768
                      · obtain ⟨hlt, hnm⟩ := hgo
                        have hlt' : (i : Int) < (p.cks.length : Int) := by omega
                        have hi0 : (0 : Int) ≤ (i : Int) := by omega
                        obtain ⟨g, o, hga⟩ := hK.some hlt
                        have hFr := row_bel hK hBr (Nat.le_refl _)
                        rw [hga] at hFr q1
                        clear hga
                        obtain ⟨cx, -, -, hEx, hcx⟩ := hFr.item hlt
                        have hmem := List.getElem_mem hlt
                        generalize p.cks[i] = x at hEx hcx hmem
                        obtain ⟨ax, cx2, rfl, -, -, hFx⟩ := hEx
                        have ky0 : w0.cell? ⟨g, o + i * 9, none⟩ = some (.string ⟨x.name.toArray⟩) := hcx 0 (by decide)
                        have ky1 : w0.cell? ⟨g, o + i * 9 + 1, none⟩ = some (.bool x.hard) := hcx 1 (by decide)
                        have ky2 : w0.cell? ⟨g, o + i * 9 + 2, none⟩ = some (.int .i64 x.group) := hcx 2 (by decide)
                        have ky3 : w0.cell? ⟨g, o + i * 9 + 3, none⟩ = some (.int .i64 x.when_.op) := hcx 3 (by decide)
                        have ky4 : w0.cell? ⟨g, o + i * 9 + 4, none⟩ = some (.int .i64 x.when_.num) := hcx 4 (by decide)
                        have ky5 : w0.cell? ⟨g, o + i * 9 + 5, none⟩ = some (.int .i64 x.when_.den) := hcx 5 (by decide)
                        have ky6 : w0.cell? ⟨g, o + i * 9 + 6, none⟩ = some (.int .i64 x.when_.mode) := hcx 6 (by decide)
                        have ky7 : w0.cell? ⟨g, o + i * 9 + 7, none⟩ = some (.slice ax x.when_.args.len cx2) := hcx 7 (by decide)
                        have ky8 : w0.cell? ⟨g, o + i * 9 + 8, none⟩ = some (.string ⟨x.text.toArray⟩) := hcx 8 (by decide)
                        have hzx := hz.cks.2 x hmem
                        have hgs : g < w0.heap.size := World.block_lt_of_cell? _ _ ky0
                        have hW0 : W.heap.size < w0.heap.size := World.block_lt_of_cell? _ _ q1
                        have hS0 : w0.drew.cell? ⟨W.heap.size, 6, none⟩ = some (.slice (some ⟨g, o, none⟩) p.cks.length c7) ∧ w0.drew.cell? ⟨g, o + i * 9, none⟩ = some (.string ⟨x.name.toArray⟩) ∧ w0.drew.cell? ⟨g, o + i * 9 + 3, none⟩ = some (.int .i64 x.when_.op) ∧ w0.drew.cell? ⟨g, o + i * 9 + 4, none⟩ = some (.int .i64 x.when_.num) ∧ w0.drew.cell? ⟨g, o + i * 9 + 5, none⟩ = some (.int .i64 x.when_.den) ∧ w0.drew.cell? ⟨g, o + i * 9 + 6, none⟩ = some (.int .i64 x.when_.mode) ∧ w0.drew.cell? ⟨g, o + i * 9 + 7, none⟩ = some (.slice ax x.when_.args.len cx2) ∧ w0.drew.cell? ⟨g, o + i * 9 + 8, none⟩ = some (.string ⟨x.text.toArray⟩) := ⟨q1, ky0, ky3, ky4, ky5, ky6, ky7, ky8⟩
                        have hBd : Below w0.heap.size w0 w0.drew := (Below.refl _ _).drew
                        have hc1 := fun m => nodes_any _ x.when_ ax cx2 m w0.drew (Nat.le_refl _) hzx.2.2 (fo_bel hFx hBd (Nat.le_refl _))
                        have hkeep : ∀ X, Below w0.drew.heap.size w0.drew X → X.cell? ⟨W.heap.size, 6, none⟩ = some (.slice (some ⟨g, o, none⟩) p.cks.length c7) ∧ X.cell? ⟨g, o + i * 9, none⟩ = some (.string ⟨x.name.toArray⟩) ∧ X.cell? ⟨g, o + i * 9 + 3, none⟩ = some (.int .i64 x.when_.op) ∧ X.cell? ⟨g, o + i * 9 + 4, none⟩ = some (.int .i64 x.when_.num) ∧ X.cell? ⟨g, o + i * 9 + 5, none⟩ = some (.int .i64 x.when_.den) ∧ X.cell? ⟨g, o + i * 9 + 6, none⟩ = some (.int .i64 x.when_.mode) ∧ X.cell? ⟨g, o + i * 9 + 7, none⟩ = some (.slice ax x.when_.args.len cx2) ∧ X.cell? ⟨g, o + i * 9 + 8, none⟩ = some (.string ⟨x.text.toArray⟩) := fun X hX => by
                          have kk := fun {b : Nat} (hb : b < w0.drew.heap.size) (j : Nat) => bel_cell hX hb j
                          exact ⟨(kk hW0 _).trans q1, (kk hgs _).trans ky0, (kk hgs _).trans ky3, (kk hgs _).trans ky4, (kk hgs _).trans ky5, (kk hgs _).trans ky6, (kk hgs _).trans ky7, (kk hgs _).trans ky8⟩
                        clear hcx hFr hmem ky0 ky1 ky2 ky3 ky4 ky5 ky6 ky7 ky8
                        go_wp2
                        go_region_held3 (fun X => X.cell? ⟨W.heap.size, 6, none⟩ = some (.slice (some ⟨g, o, none⟩) p.cks.length c7) ∧ X.cell? ⟨g, o + i * 9, none⟩ = some (.string ⟨x.name.toArray⟩) ∧ X.cell? ⟨g, o + i * 9 + 3, none⟩ = some (.int .i64 x.when_.op) ∧ X.cell? ⟨g, o + i * 9 + 4, none⟩ = some (.int .i64 x.when_.num) ∧ X.cell? ⟨g, o + i * 9 + 5, none⟩ = some (.int .i64 x.when_.den) ∧ X.cell? ⟨g, o + i * 9 + 6, none⟩ = some (.int .i64 x.when_.mode) ∧ X.cell? ⟨g, o + i * 9 + 7, none⟩ = some (.slice ax x.when_.args.len cx2) ∧ X.cell? ⟨g, o + i * 9 + 8, none⟩ = some (.string ⟨x.text.toArray⟩)) (assumption)
                          (first | (go_at_call 13; refine (hc1 _).mono ?_; clear hc1; rintro e w5 ⟨hB5, n5, rfl⟩; have hS5 := hkeep w5 hB5))
                        have hBn := Below.tr hBr (Below.tr hBd hB5 hBd.size) hBr.size
                        clear hkeep hS0
                        go_wp2
                        go_roundw
                        case rel => exact ⟨i + 1, _, rfl, by go_num, by omega, hBn⟩
                        case measure => simp [intOf]; omega
                      · have hcond : ¬ ((i : Int) < (p.cks.length : Int)) ∨ ((i : Int) < (p.cks.length : Int) ∧ ¬ n ≤ 32768) := by omega
                        have hBq := Below.tr hB hBr (by rw [hsz]; omega)
                        have hBe := hBr
                        clear hgo hi
                        have hfin : ∀ b : Bool, Q (.returned (.bool b)) w0 := fun b => by
                          rw [← hQ.out]
                          exact ⟨hBq, b, rfl⟩
                        rcases hcond with hc | ⟨hc1, hc2⟩
                        · go_wp2
                          exact hfin _
                        · go_wp2
                          exact hfin _



      · go_wp2
        go_loopw [3, 5] (fun nv iv wr => ∃ (i : Nat) (n : Int), nv = .int .i64 n ∧ iv = .int .i64 (i : Int) ∧ i ≤ p.tabs.length ∧ Below (W.alloc (.cells #[.string ⟨p.name.toArray⟩, .int .i64 p.year, .slice a3 p.opts.length c3, .slice a4 p.tabs.length c4, .slice a5 p.grps.length c5, .slice a6 p.lns.length c6, .slice a7 p.cks.length c7] 28)).heap.size (W.alloc (.cells #[.string ⟨p.name.toArray⟩, .int .i64 p.year, .slice a3 p.opts.length c3, .slice a4 p.tabs.length c4, .slice a5 p.grps.length c5, .slice a6 p.lns.length c6, .slice a7 p.cks.length c7] 28)) wr) (fun _ iv _ => p.tabs.length - (intOf iv).toNat)
        case atStart => exact ⟨0, _, rfl, rfl, Nat.zero_le _, hBe⟩
        case round =>
          obtain ⟨i, n, rfl, rfl, hi, hBr⟩ := hrel
          obtain ⟨w0, hw00⟩ : ∃ w0, w0 = wr := ⟨wr, rfl⟩
          subst hw00
          have q1 := (bel_cell hBr (show W.heap.size < (W.alloc (.cells #[.string ⟨p.name.toArray⟩, .int .i64 p.year, .slice a3 p.opts.length c3, .slice a4 p.tabs.length c4, .slice a5 p.grps.length c5, .slice a6 p.lns.length c6, .slice a7 p.cks.length c7] 28)).heap.size by rw [hsz]; omega) 3).trans x3
          by_cases hgo : i < p.tabs.length ∧ n ≤ 32768
          · obtain ⟨hlt, hnm⟩ := hgo
            have hlt' : (i : Int) < (p.tabs.length : Int) := by omega
            have hi0 : (0 : Int) ≤ (i : Int) := by omega
            obtain ⟨g, o, hga⟩ := hT.some hlt
            have hFr := row_bel hT hBr (Nat.le_refl _)
            rw [hga] at hFr q1
            clear hga
            obtain ⟨cx, -, -, hEx, hcx⟩ := hFr.item hlt
            have hmem := List.getElem_mem hlt
            generalize p.tabs[i] = x at hEx hcx hmem
            obtain ⟨ax, cx2, rfl, -⟩ := hEx
            have kx1 : w0.cell? ⟨g, o + i * 2 + 1, none⟩ = some (.slice ax x.2.length cx2) := hcx 1 (by decide)
            clear hcx hFr hmem
            go_wp2
            go_roundw
            case rel => exact ⟨i + 1, _, rfl, by go_num, by omega, hBr⟩
            case measure => simp [intOf]; omega
          · have hcond : ¬ ((i : Int) < (p.tabs.length : Int)) ∨ ((i : Int) < (p.tabs.length : Int) ∧ ¬ n ≤ 32768) := by omega
            have hBq := Below.tr hB hBr (by rw [hsz]; omega)
            have hBe := hBr
            clear hgo hi
            rcases hcond with hc | ⟨hc1, hc2⟩
            · go_wp2
              go_loopw [3, 6] (fun nv iv wr => ∃ (i : Nat) (n : Int), nv = .int .i64 n ∧ iv = .int .i64 (i : Int) ∧ i ≤ p.lns.length ∧ Below (W.alloc (.cells #[.string ⟨p.name.toArray⟩, .int .i64 p.year, .slice a3 p.opts.length c3, .slice a4 p.tabs.length c4, .slice a5 p.grps.length c5, .slice a6 p.lns.length c6, .slice a7 p.cks.length c7] 28)).heap.size (W.alloc (.cells #[.string ⟨p.name.toArray⟩, .int .i64 p.year, .slice a3 p.opts.length c3, .slice a4 p.tabs.length c4, .slice a5 p.grps.length c5, .slice a6 p.lns.length c6, .slice a7 p.cks.length c7] 28)) wr) (fun _ iv _ => p.lns.length - (intOf iv).toNat)
              case atStart => exact ⟨0, _, rfl, rfl, Nat.zero_le _, hBe⟩
              case round =>
                obtain ⟨i, n, rfl, rfl, hi, hBr⟩ := hrel
                obtain ⟨w0, hw00⟩ : ∃ w0, w0 = wr := ⟨wr, rfl⟩
                subst hw00
                have q1 := (bel_cell hBr (show W.heap.size < (W.alloc (.cells #[.string ⟨p.name.toArray⟩, .int .i64 p.year, .slice a3 p.opts.length c3, .slice a4 p.tabs.length c4, .slice a5 p.grps.length c5, .slice a6 p.lns.length c6, .slice a7 p.cks.length c7] 28)).heap.size by rw [hsz]; omega) 5).trans x5
                by_cases hgo : i < p.lns.length ∧ n ≤ 32768
                · obtain ⟨hlt, hnm⟩ := hgo
                  have hlt' : (i : Int) < (p.lns.length : Int) := by omega
                  have hi0 : (0 : Int) ≤ (i : Int) := by omega
                  obtain ⟨g, o, hga⟩ := hL.some hlt
                  have hFr := row_bel hL hBr (Nat.le_refl _)
                  rw [hga] at hFr q1
                  clear hga
                  obtain ⟨cx, -, -, hEx, hcx⟩ := hFr.item hlt
                  have hmem := List.getElem_mem hlt
                  generalize p.lns[i] = x at hEx hcx hmem
                  obtain ⟨ax, cx2, rfl, -, hRx⟩ := hEx
                  have kx0 : w0.cell? ⟨g, o + i * 7, none⟩ = some (.string ⟨x.name.toArray⟩) := hcx 0 (by decide)
                  have kx6 : w0.cell? ⟨g, o + i * 7 + 6, none⟩ = some (.slice ax x.cls.length cx2) := hcx 6 (by decide)
                  have hzx := hz.lns.2 x hmem
                  have hzc := hzx.2.1
                  have hgs : g < w0.heap.size := World.block_lt_of_cell? _ _ kx0
                  have hW0 : W.heap.size < w0.heap.size := World.block_lt_of_cell? _ _ q1
                  clear hcx hFr hmem
                  go_wp2
                  go_loopw [3, 7] (fun nv kv wr => ∃ (k : Nat) (m : Int), nv = .int .i64 m ∧ kv = .int .i64 (k : Int) ∧ k ≤ x.cls.length ∧ Below w0.heap.size w0 wr) (fun _ kv _ => x.cls.length - (intOf kv).toNat)
                  case atStart => exact ⟨0, _, rfl, rfl, Nat.zero_le _, Below.refl _ _⟩
                  case round =>
                    obtain ⟨k, m, rfl, rfl, hk, hBk⟩ := hrel
                    have z1 := (bel_cell hBk hW0 5).trans q1
                    have z6 := (bel_cell hBk hgs (o + i * 7 + 6)).trans kx6
                    have hBrk := Below.tr hBr hBk hBr.size
                    by_cases hgk : k < x.cls.length ∧ m ≤ 32768
                    · obtain ⟨hkt, hkm⟩ := hgk
                      have hkt' : (k : Int) < (x.cls.length : Int) := by omega
                      have hk0 : (0 : Int) ≤ (k : Int) := by omega
                      obtain ⟨u, v, hua⟩ := hRx.some hkt
                      have hRk := row_bel hRx hBk (Nat.le_refl _)
                      rw [hua] at hRk z6
                      clear hua
                      obtain ⟨cy, -, -, ⟨a8, c8, b8, d8, rfl, -, -, hFg, hFb⟩, hcy⟩ := hRk.item hkt
                      have hzy := hzx.2.2 _ (List.getElem_mem hkt)
                      generalize x.cls[k] = y at hFg hFb hcy hzy
                      have ky0 : wr.cell? ⟨u, v + k * 12, none⟩ = some (.int .i64 y.pri) := hcy 0 (by decide)
                      have ky1 : wr.cell? ⟨u, v + k * 12 + 1, none⟩ = some (.bool y.guarded) := hcy 1 (by decide)
                      have ky2 : wr.cell? ⟨u, v + k * 12 + 2, none⟩ = some (.int .i64 y.guard.op) := hcy 2 (by decide)
                      have ky3 : wr.cell? ⟨u, v + k * 12 + 3, none⟩ = some (.int .i64 y.guard.num) := hcy 3 (by decide)
                      have ky4 : wr.cell? ⟨u, v + k * 12 + 4, none⟩ = some (.int .i64 y.guard.den) := hcy 4 (by decide)
                      have ky5 : wr.cell? ⟨u, v + k * 12 + 5, none⟩ = some (.int .i64 y.guard.mode) := hcy 5 (by decide)
                      have ky6 : wr.cell? ⟨u, v + k * 12 + 6, none⟩ = some (.slice a8 y.guard.args.len c8) := hcy 6 (by decide)
                      have ky7 : wr.cell? ⟨u, v + k * 12 + 7, none⟩ = some (.int .i64 y.body.op) := hcy 7 (by decide)
                      have ky8 : wr.cell? ⟨u, v + k * 12 + 8, none⟩ = some (.int .i64 y.body.num) := hcy 8 (by decide)
                      have ky9 : wr.cell? ⟨u, v + k * 12 + 9, none⟩ = some (.int .i64 y.body.den) := hcy 9 (by decide)
                      have ky10 : wr.cell? ⟨u, v + k * 12 + 10, none⟩ = some (.int .i64 y.body.mode) := hcy 10 (by decide)
                      have ky11 : wr.cell? ⟨u, v + k * 12 + 11, none⟩ = some (.slice b8 y.body.args.len d8) := hcy 11 (by decide)
                      have hus : u < wr.heap.size := World.block_lt_of_cell? _ _ ky0
                      have hgw : g < wr.heap.size := World.block_lt_of_cell? _ _ z6
                      have hWw : W.heap.size < wr.heap.size := World.block_lt_of_cell? _ _ z1
                      clear hcy hRk
                      have hS0 : wr.drew.cell? ⟨W.heap.size, 5, none⟩ = some (.slice (some ⟨g, o, none⟩) p.lns.length c6) ∧ wr.drew.cell? ⟨g, o + i * 7 + 6, none⟩ = some (.slice (some ⟨u, v, none⟩) x.cls.length cx2) ∧ wr.drew.cell? ⟨u, v + k * 12 + 2, none⟩ = some (.int .i64 y.guard.op) ∧ wr.drew.cell? ⟨u, v + k * 12 + 3, none⟩ = some (.int .i64 y.guard.num) ∧ wr.drew.cell? ⟨u, v + k * 12 + 4, none⟩ = some (.int .i64 y.guard.den) ∧ wr.drew.cell? ⟨u, v + k * 12 + 5, none⟩ = some (.int .i64 y.guard.mode) ∧ wr.drew.cell? ⟨u, v + k * 12 + 6, none⟩ = some (.slice a8 y.guard.args.len c8) ∧ wr.drew.cell? ⟨u, v + k * 12 + 7, none⟩ = some (.int .i64 y.body.op) ∧ wr.drew.cell? ⟨u, v + k * 12 + 8, none⟩ = some (.int .i64 y.body.num) ∧ wr.drew.cell? ⟨u, v + k * 12 + 9, none⟩ = some (.int .i64 y.body.den) ∧ wr.drew.cell? ⟨u, v + k * 12 + 10, none⟩ = some (.int .i64 y.body.mode) ∧ wr.drew.cell? ⟨u, v + k * 12 + 11, none⟩ = some (.slice b8 y.body.args.len d8) := ⟨z1, z6, ky2, ky3, ky4, ky5, ky6, ky7, ky8, ky9, ky10, ky11⟩
                      have hBd : Below wr.heap.size wr wr.drew := (Below.refl _ _).drew
                      have hFb1 := fo_bel hFb hBd (Nat.le_refl _)
                      have hc1 := fun m => nodes_any _ y.guard a8 c8 m wr.drew (Nat.le_refl _) hzy.1 (fo_bel hFg hBd (Nat.le_refl _))
                      have hkeep : ∀ X, Below wr.drew.heap.size wr.drew X → X.cell? ⟨W.heap.size, 5, none⟩ = some (.slice (some ⟨g, o, none⟩) p.lns.length c6) ∧ X.cell? ⟨g, o + i * 7 + 6, none⟩ = some (.slice (some ⟨u, v, none⟩) x.cls.length cx2) ∧ X.cell? ⟨u, v + k * 12 + 2, none⟩ = some (.int .i64 y.guard.op) ∧ X.cell? ⟨u, v + k * 12 + 3, none⟩ = some (.int .i64 y.guard.num) ∧ X.cell? ⟨u, v + k * 12 + 4, none⟩ = some (.int .i64 y.guard.den) ∧ X.cell? ⟨u, v + k * 12 + 5, none⟩ = some (.int .i64 y.guard.mode) ∧ X.cell? ⟨u, v + k * 12 + 6, none⟩ = some (.slice a8 y.guard.args.len c8) ∧ X.cell? ⟨u, v + k * 12 + 7, none⟩ = some (.int .i64 y.body.op) ∧ X.cell? ⟨u, v + k * 12 + 8, none⟩ = some (.int .i64 y.body.num) ∧ X.cell? ⟨u, v + k * 12 + 9, none⟩ = some (.int .i64 y.body.den) ∧ X.cell? ⟨u, v + k * 12 + 10, none⟩ = some (.int .i64 y.body.mode) ∧ X.cell? ⟨u, v + k * 12 + 11, none⟩ = some (.slice b8 y.body.args.len d8) := fun X hX => by
                        have kk := fun {b : Nat} (hb : b < wr.drew.heap.size) (j : Nat) => bel_cell hX hb j
                        exact ⟨(kk hWw _).trans z1, (kk hgw _).trans z6, (kk hus _).trans ky2, (kk hus _).trans ky3, (kk hus _).trans ky4, (kk hus _).trans ky5, (kk hus _).trans ky6, (kk hus _).trans ky7, (kk hus _).trans ky8, (kk hus _).trans ky9, (kk hus _).trans ky10, (kk hus _).trans ky11⟩
                      clear ky0 ky1 ky2 ky3 ky4 ky5 ky6 ky7 ky8 ky9 ky10 ky11
                      go_wp2
                      go_region_held3 (fun X => X.cell? ⟨W.heap.size, 5, none⟩ = some (.slice (some ⟨g, o, none⟩) p.lns.length c6) ∧ X.cell? ⟨g, o + i * 7 + 6, none⟩ = some (.slice (some ⟨u, v, none⟩) x.cls.length cx2) ∧ X.cell? ⟨u, v + k * 12 + 2, none⟩ = some (.int .i64 y.guard.op) ∧ X.cell? ⟨u, v + k * 12 + 3, none⟩ = some (.int .i64 y.guard.num) ∧ X.cell? ⟨u, v + k * 12 + 4, none⟩ = some (.int .i64 y.guard.den) ∧ X.cell? ⟨u, v + k * 12 + 5, none⟩ = some (.int .i64 y.guard.mode) ∧ X.cell? ⟨u, v + k * 12 + 6, none⟩ = some (.slice a8 y.guard.args.len c8) ∧ X.cell? ⟨u, v + k * 12 + 7, none⟩ = some (.int .i64 y.body.op) ∧ X.cell? ⟨u, v + k * 12 + 8, none⟩ = some (.int .i64 y.body.num) ∧ X.cell? ⟨u, v + k * 12 + 9, none⟩ = some (.int .i64 y.body.den) ∧ X.cell? ⟨u, v + k * 12 + 10, none⟩ = some (.int .i64 y.body.mode) ∧ X.cell? ⟨u, v + k * 12 + 11, none⟩ = some (.slice b8 y.body.args.len d8)) (assumption)
                        (first | (go_at_call 13; refine (hc1 _).mono ?_; clear hc1; rintro e w5 ⟨hB5, n5, rfl⟩; have hS5 := hkeep w5 hB5; have hc2 := fun m => nodes_any _ y.body b8 d8 m w5 (Nat.le_refl _) hzy.2 (fo_bel hFb1 hB5 (Nat.le_refl _))) | (go_at_call 13; refine (hc2 _).mono ?_; clear hc2; rintro e w6 ⟨hB6, n6, rfl⟩; have hB56 := Below.tr hB5 hB6 hB5.size; have hS6 := hkeep w6 hB56))
                      have hBn := Below.tr hBk (Below.tr hBd hB56 hBd.size) hBk.size
                      clear hkeep hS0
                      go_wp2
                      go_roundw
                      case rel => exact ⟨k + 1, _, rfl, by go_num, by omega, hBn⟩
                      case measure => simp [intOf]; omega
                    · have hck : ¬ ((k : Int) < (x.cls.length : Int)) ∨ ((k : Int) < (x.cls.length : Int) ∧ ¬ m ≤ 32768) := by omega
                      rcases hck with hc | ⟨hc1, hc2⟩
                      · go_wp2
                        go_roundw
                        case rel => exact ⟨i + 1, _, rfl, by go_num, by omega, hBrk⟩
                        case measure => simp [intOf]; omega
                      · go_wp2
                        go_roundw
                        case rel => exact ⟨i + 1, _, rfl, by go_num, by omega, hBrk⟩
                        case measure => simp [intOf]; omega
                · have hcond : ¬ ((i : Int) < (p.lns.length : Int)) ∨ ((i : Int) < (p.lns.length : Int) ∧ ¬ n ≤ 32768) := by omega
                  have hBq := Below.tr hB hBr (by rw [hsz]; omega)
                  have hBe := hBr
                  clear hgo hi
                  rcases hcond with hc | ⟨hc1, hc2⟩
                  · go_wp2
                    go_loopw [3, 8] (fun nv iv wr => ∃ (i : Nat) (n : Int), nv = .int .i64 n ∧ iv = .int .i64 (i : Int) ∧ i ≤ p.cks.length ∧ Below (W.alloc (.cells #[.string ⟨p.name.toArray⟩, .int .i64 p.year, .slice a3 p.opts.length c3, .slice a4 p.tabs.length c4, .slice a5 p.grps.length c5, .slice a6 p.lns.length c6, .slice a7 p.cks.length c7] 28)).heap.size (W.alloc (.cells #[.string ⟨p.name.toArray⟩, .int .i64 p.year, .slice a3 p.opts.length c3, .slice a4 p.tabs.length c4, .slice a5 p.grps.length c5, .slice a6 p.lns.length c6, .slice a7 p.cks.length c7] 28)) wr) (fun _ iv _ => p.cks.length - (intOf iv).toNat)
                    case atStart => exact ⟨0, _, rfl, rfl, Nat.zero_le _, hBe⟩
                    case round =>
                      obtain ⟨i, n, rfl, rfl, hi, hBr⟩ := hrel
                      obtain ⟨w0, hw00⟩ : ∃ w0, w0 = wr := ⟨wr, rfl⟩
                      subst hw00
                      have q1 := (bel_cell hBr (show W.heap.size < (W.alloc (.cells #[.string ⟨p.name.toArray⟩, .int .i64 p.year, .slice a3 p.opts.length c3, .slice a4 p.tabs.length c4, .slice a5 p.grps.length c5, .slice a6 p.lns.length c6, .slice a7 p.cks.length c7] 28)).heap.size by rw [hsz]; omega) 6).trans x6
                      by_cases hgo : i < p.cks.length ∧ n ≤ 32768
                      · obtain ⟨hlt, hnm⟩ := hgo
                        have hlt' : (i : Int) < (p.cks.length : Int) := by omega
                        have hi0 : (0 : Int) ≤ (i : Int) := by omega
                        obtain ⟨g, o, hga⟩ := hK.some hlt
                        have hFr := row_bel hK hBr (Nat.le_refl _)
                        rw [hga] at hFr q1
                        clear hga
                        obtain ⟨cx, -, -, hEx, hcx⟩ := hFr.item hlt
                        have hmem := List.getElem_mem hlt
                        generalize p.cks[i] = x at hEx hcx hmem
                        obtain ⟨ax, cx2, rfl, -, -, hFx⟩ := hEx
                        have ky0 : w0.cell? ⟨g, o + i * 9, none⟩ = some (.string ⟨x.name.toArray⟩) := hcx 0 (by decide)
                        have ky1 : w0.cell? ⟨g, o + i * 9 + 1, none⟩ = some (.bool x.hard) := hcx 1 (by decide)
                        have ky2 : w0.cell? ⟨g, o + i * 9 + 2, none⟩ = some (.int .i64 x.group) := hcx 2 (by decide)
                        have ky3 : w0.cell? ⟨g, o + i * 9 + 3, none⟩ = some (.int .i64 x.when_.op) := hcx 3 (by decide)
                        have ky4 : w0.cell? ⟨g, o + i * 9 + 4, none⟩ = some (.int .i64 x.when_.num) := hcx 4 (by decide)
                        have ky5 : w0.cell? ⟨g, o + i * 9 + 5, none⟩ = some (.int .i64 x.when_.den) := hcx 5 (by decide)
                        have ky6 : w0.cell? ⟨g, o + i * 9 + 6, none⟩ = some (.int .i64 x.when_.mode) := hcx 6 (by decide)
                        have ky7 : w0.cell? ⟨g, o + i * 9 + 7, none⟩ = some (.slice ax x.when_.args.len cx2) := hcx 7 (by decide)
                        have ky8 : w0.cell? ⟨g, o + i * 9 + 8, none⟩ = some (.string ⟨x.text.toArray⟩) := hcx 8 (by decide)
                        have hzx := hz.cks.2 x hmem
                        have hgs : g < w0.heap.size := World.block_lt_of_cell? _ _ ky0
                        have hW0 : W.heap.size < w0.heap.size := World.block_lt_of_cell? _ _ q1
                        have hS0 : w0.drew.cell? ⟨W.heap.size, 6, none⟩ = some (.slice (some ⟨g, o, none⟩) p.cks.length c7) ∧ w0.drew.cell? ⟨g, o + i * 9, none⟩ = some (.string ⟨x.name.toArray⟩) ∧ w0.drew.cell? ⟨g, o + i * 9 + 3, none⟩ = some (.int .i64 x.when_.op) ∧ w0.drew.cell? ⟨g, o + i * 9 + 4, none⟩ = some (.int .i64 x.when_.num) ∧ w0.drew.cell? ⟨g, o + i * 9 + 5, none⟩ = some (.int .i64 x.when_.den) ∧ w0.drew.cell? ⟨g, o + i * 9 + 6, none⟩ = some (.int .i64 x.when_.mode) ∧ w0.drew.cell? ⟨g, o + i * 9 + 7, none⟩ = some (.slice ax x.when_.args.len cx2) ∧ w0.drew.cell? ⟨g, o + i * 9 + 8, none⟩ = some (.string ⟨x.text.toArray⟩) := ⟨q1, ky0, ky3, ky4, ky5, ky6, ky7, ky8⟩
                        have hBd : Below w0.heap.size w0 w0.drew := (Below.refl _ _).drew
                        have hc1 := fun m => nodes_any _ x.when_ ax cx2 m w0.drew (Nat.le_refl _) hzx.2.2 (fo_bel hFx hBd (Nat.le_refl _))
                        have hkeep : ∀ X, Below w0.drew.heap.size w0.drew X → X.cell? ⟨W.heap.size, 6, none⟩ = some (.slice (some ⟨g, o, none⟩) p.cks.length c7) ∧ X.cell? ⟨g, o + i * 9, none⟩ = some (.string ⟨x.name.toArray⟩) ∧ X.cell? ⟨g, o + i * 9 + 3, none⟩ = some (.int .i64 x.when_.op) ∧ X.cell? ⟨g, o + i * 9 + 4, none⟩ = some (.int .i64 x.when_.num) ∧ X.cell? ⟨g, o + i * 9 + 5, none⟩ = some (.int .i64 x.when_.den) ∧ X.cell? ⟨g, o + i * 9 + 6, none⟩ = some (.int .i64 x.when_.mode) ∧ X.cell? ⟨g, o + i * 9 + 7, none⟩ = some (.slice ax x.when_.args.len cx2) ∧ X.cell? ⟨g, o + i * 9 + 8, none⟩ = some (.string ⟨x.text.toArray⟩) := fun X hX => by
                          have kk := fun {b : Nat} (hb : b < w0.drew.heap.size) (j : Nat) => bel_cell hX hb j
                          exact ⟨(kk hW0 _).trans q1, (kk hgs _).trans ky0, (kk hgs _).trans ky3, (kk hgs _).trans ky4, (kk hgs _).trans ky5, (kk hgs _).trans ky6, (kk hgs _).trans ky7, (kk hgs _).trans ky8⟩
                        clear hcx hFr hmem ky0 ky1 ky2 ky3 ky4 ky5 ky6 ky7 ky8
                        go_wp2
                        go_region_held3 (fun X => X.cell? ⟨W.heap.size, 6, none⟩ = some (.slice (some ⟨g, o, none⟩) p.cks.length c7) ∧ X.cell? ⟨g, o + i * 9, none⟩ = some (.string ⟨x.name.toArray⟩) ∧ X.cell? ⟨g, o + i * 9 + 3, none⟩ = some (.int .i64 x.when_.op) ∧ X.cell? ⟨g, o + i * 9 + 4, none⟩ = some (.int .i64 x.when_.num) ∧ X.cell? ⟨g, o + i * 9 + 5, none⟩ = some (.int .i64 x.when_.den) ∧ X.cell? ⟨g, o + i * 9 + 6, none⟩ = some (.int .i64 x.when_.mode) ∧ X.cell? ⟨g, o + i * 9 + 7, none⟩ = some (.slice ax x.when_.args.len cx2) ∧ X.cell? ⟨g, o + i * 9 + 8, none⟩ = some (.string ⟨x.text.toArray⟩)) (assumption)
                          (first | (go_at_call 13; refine (hc1 _).mono ?_; clear hc1; rintro e w5 ⟨hB5, n5, rfl⟩; have hS5 := hkeep w5 hB5))
                        have hBn := Below.tr hBr (Below.tr hBd hB5 hBd.size) hBr.size
                        clear hkeep hS0
                        go_wp2
                        go_roundw
                        case rel => exact ⟨i + 1, _, rfl, by go_num, by omega, hBn⟩
                        case measure => simp [intOf]; omega
                      · have hcond : ¬ ((i : Int) < (p.cks.length : Int)) ∨ ((i : Int) < (p.cks.length : Int) ∧ ¬ n ≤ 32768) := by omega
                        have hBq := Below.tr hB hBr (by rw [hsz]; omega)
                        have hBe := hBr
                        clear hgo hi
                        have hfin : ∀ b : Bool, Q (.returned (.bool b)) w0 := fun b => by
                          rw [← hQ.out]
                          exact ⟨hBq, b, rfl⟩
                        rcases hcond with hc | ⟨hc1, hc2⟩
                        · go_wp2
                          exact hfin _
                        · go_wp2
                          exact hfin _

                  · go_wp2
                    go_loopw [3, 8] (fun nv iv wr => ∃ (i : Nat) (n : Int), nv = .int .i64 n ∧ iv = .int .i64 (i : Int) ∧ i ≤ p.cks.length ∧ Below (W.alloc (.cells #[.string ⟨p.name.toArray⟩, .int .i64 p.year, .slice a3 p.opts.length c3, .slice a4 p.tabs.length c4, .slice a5 p.grps.length c5, .slice a6 p.lns.length c6, .slice a7 p.cks.length c7] 28)).heap.size (W.alloc (.cells #[.string ⟨p.name.toArray⟩, .int .i64 p.year, .slice a3 p.opts.length c3, .slice a4 p.tabs.length c4, .slice a5 p.grps.length c5, .slice a6 p.lns.length c6, .slice a7 p.cks.length c7] 28)) wr) (fun _ iv _ => p.cks.length - (intOf iv).toNat)
                    case atStart => exact ⟨0, _, rfl, rfl, Nat.zero_le _, hBe⟩
                    case round =>
                      obtain ⟨i, n, rfl, rfl, hi, hBr⟩ := hrel
                      obtain ⟨w0, hw00⟩ : ∃ w0, w0 = wr := ⟨wr, rfl⟩
                      subst hw00
                      have q1 := (bel_cell hBr (show W.heap.size < (W.alloc (.cells #[.string ⟨p.name.toArray⟩, .int .i64 p.year, .slice a3 p.opts.length c3, .slice a4 p.tabs.length c4, .slice a5 p.grps.length c5, .slice a6 p.lns.length c6, .slice a7 p.cks.length c7] 28)).heap.size by rw [hsz]; omega) 6).trans x6
                      by_cases hgo : i < p.cks.length ∧ n ≤ 32768
                      · obtain ⟨hlt, hnm⟩ := hgo
                        have hlt' : (i : Int) < (p.cks.length : Int) := by omega
                        have hi0 : (0 : Int) ≤ (i : Int) := by omega
                        obtain ⟨g, o, hga⟩ := hK.some hlt
                        have hFr := row_bel hK hBr (Nat.le_refl _)
                        rw [hga] at hFr q1
                        clear hga
                        obtain ⟨cx, -, -, hEx, hcx⟩ := hFr.item hlt
                        have hmem := List.getElem_mem hlt
                        generalize p.cks[i] = x at hEx hcx hmem
                        obtain ⟨ax, cx2, rfl, -, -, hFx⟩ := hEx
                        have ky0 : w0.cell? ⟨g, o + i * 9, none⟩ = some (.string ⟨x.name.toArray⟩) := hcx 0 (by decide)
                        have ky1 : w0.cell? ⟨g, o + i * 9 + 1, none⟩ = some (.bool x.hard) := hcx 1 (by decide)
                        have ky2 : w0.cell? ⟨g, o + i * 9 + 2, none⟩ = some (.int .i64 x.group) := hcx 2 (by decide)
                        have ky3 : w0.cell? ⟨g, o + i * 9 + 3, none⟩ = some (.int .i64 x.when_.op) := hcx 3 (by decide)
                        have ky4 : w0.cell? ⟨g, o + i * 9 + 4, none⟩ = some (.int .i64 x.when_.num) := hcx 4 (by decide)
                        have ky5 : w0.cell? ⟨g, o + i * 9 + 5, none⟩ = some (.int .i64 x.when_.den) := hcx 5 (by decide)
                        have ky6 : w0.cell? ⟨g, o + i * 9 + 6, none⟩ = some (.int .i64 x.when_.mode) := hcx 6 (by decide)
                        have ky7 : w0.cell? ⟨g, o + i * 9 + 7, none⟩ = some (.slice ax x.when_.args.len cx2) := hcx 7 (by decide)
                        have ky8 : w0.cell? ⟨g, o + i * 9 + 8, none⟩ = some (.string ⟨x.text.toArray⟩) := hcx 8 (by decide)
                        have hzx := hz.cks.2 x hmem
                        have hgs : g < w0.heap.size := World.block_lt_of_cell? _ _ ky0
                        have hW0 : W.heap.size < w0.heap.size := World.block_lt_of_cell? _ _ q1
                        have hS0 : w0.drew.cell? ⟨W.heap.size, 6, none⟩ = some (.slice (some ⟨g, o, none⟩) p.cks.length c7) ∧ w0.drew.cell? ⟨g, o + i * 9, none⟩ = some (.string ⟨x.name.toArray⟩) ∧ w0.drew.cell? ⟨g, o + i * 9 + 3, none⟩ = some (.int .i64 x.when_.op) ∧ w0.drew.cell? ⟨g, o + i * 9 + 4, none⟩ = some (.int .i64 x.when_.num) ∧ w0.drew.cell? ⟨g, o + i * 9 + 5, none⟩ = some (.int .i64 x.when_.den) ∧ w0.drew.cell? ⟨g, o + i * 9 + 6, none⟩ = some (.int .i64 x.when_.mode) ∧ w0.drew.cell? ⟨g, o + i * 9 + 7, none⟩ = some (.slice ax x.when_.args.len cx2) ∧ w0.drew.cell? ⟨g, o + i * 9 + 8, none⟩ = some (.string ⟨x.text.toArray⟩) := ⟨q1, ky0, ky3, ky4, ky5, ky6, ky7, ky8⟩
                        have hBd : Below w0.heap.size w0 w0.drew := (Below.refl _ _).drew
                        have hc1 := fun m => nodes_any _ x.when_ ax cx2 m w0.drew (Nat.le_refl _) hzx.2.2 (fo_bel hFx hBd (Nat.le_refl _))
                        have hkeep : ∀ X, Below w0.drew.heap.size w0.drew X → X.cell? ⟨W.heap.size, 6, none⟩ = some (.slice (some ⟨g, o, none⟩) p.cks.length c7) ∧ X.cell? ⟨g, o + i * 9, none⟩ = some (.string ⟨x.name.toArray⟩) ∧ X.cell? ⟨g, o + i * 9 + 3, none⟩ = some (.int .i64 x.when_.op) ∧ X.cell? ⟨g, o + i * 9 + 4, none⟩ = some (.int .i64 x.when_.num) ∧ X.cell? ⟨g, o + i * 9 + 5, none⟩ = some (.int .i64 x.when_.den) ∧ X.cell? ⟨g, o + i * 9 + 6, none⟩ = some (.int .i64 x.when_.mode) ∧ X.cell? ⟨g, o + i * 9 + 7, none⟩ = some (.slice ax x.when_.args.len cx2) ∧ X.cell? ⟨g, o + i * 9 + 8, none⟩ = some (.string ⟨x.text.toArray⟩) := fun X hX => by
                          have kk := fun {b : Nat} (hb : b < w0.drew.heap.size) (j : Nat) => bel_cell hX hb j
                          exact ⟨(kk hW0 _).trans q1, (kk hgs _).trans ky0, (kk hgs _).trans ky3, (kk hgs _).trans ky4, (kk hgs _).trans ky5, (kk hgs _).trans ky6, (kk hgs _).trans ky7, (kk hgs _).trans ky8⟩
                        clear hcx hFr hmem ky0 ky1 ky2 ky3 ky4 ky5 ky6 ky7 ky8
                        go_wp2
                        go_region_held3 (fun X => X.cell? ⟨W.heap.size, 6, none⟩ = some (.slice (some ⟨g, o, none⟩) p.cks.length c7) ∧ X.cell? ⟨g, o + i * 9, none⟩ = some (.string ⟨x.name.toArray⟩) ∧ X.cell? ⟨g, o + i * 9 + 3, none⟩ = some (.int .i64 x.when_.op) ∧ X.cell? ⟨g, o + i * 9 + 4, none⟩ = some (.int .i64 x.when_.num) ∧ X.cell? ⟨g, o + i * 9 + 5, none⟩ = some (.int .i64 x.when_.den) ∧ X.cell? ⟨g, o + i * 9 + 6, none⟩ = some (.int .i64 x.when_.mode) ∧ X.cell? ⟨g, o + i * 9 + 7, none⟩ = some (.slice ax x.when_.args.len cx2) ∧ X.cell? ⟨g, o + i * 9 + 8, none⟩ = some (.string ⟨x.text.toArray⟩)) (assumption)
                          (first | (go_at_call 13; refine (hc1 _).mono ?_; clear hc1; rintro e w5 ⟨hB5, n5, rfl⟩; have hS5 := hkeep w5 hB5))
                        have hBn := Below.tr hBr (Below.tr hBd hB5 hBd.size) hBr.size
                        clear hkeep hS0
                        go_wp2
                        go_roundw
                        case rel => exact ⟨i + 1, _, rfl, by go_num, by omega, hBn⟩
                        case measure => simp [intOf]; omega
                      · have hcond : ¬ ((i : Int) < (p.cks.length : Int)) ∨ ((i : Int) < (p.cks.length : Int) ∧ ¬ n ≤ 32768) := by omega
                        have hBq := Below.tr hB hBr (by rw [hsz]; omega)
                        have hBe := hBr
                        clear hgo hi
                        have hfin : ∀ b : Bool, Q (.returned (.bool b)) w0 := fun b => by
                          rw [← hQ.out]
                          exact ⟨hBq, b, rfl⟩
                        rcases hcond with hc | ⟨hc1, hc2⟩
                        · go_wp2
                          exact hfin _
                        · go_wp2
                          exact hfin _


            · go_wp2
              go_loopw [3, 6] (fun nv iv wr => ∃ (i : Nat) (n : Int), nv = .int .i64 n ∧ iv = .int .i64 (i : Int) ∧ i ≤ p.lns.length ∧ Below (W.alloc (.cells #[.string ⟨p.name.toArray⟩, .int .i64 p.year, .slice a3 p.opts.length c3, .slice a4 p.tabs.length c4, .slice a5 p.grps.length c5, .slice a6 p.lns.length c6, .slice a7 p.cks.length c7] 28)).heap.size (W.alloc (.cells #[.string ⟨p.name.toArray⟩, .int .i64 p.year, .slice a3 p.opts.length c3, .slice a4 p.tabs.length c4, .slice a5 p.grps.length c5, .slice a6 p.lns.length c6, .slice a7 p.cks.length c7] 28)) wr) (fun _ iv _ => p.lns.length - (intOf iv).toNat)
              case atStart => exact ⟨0, _, rfl, rfl, Nat.zero_le _, hBe⟩
              case round =>
                obtain ⟨i, n, rfl, rfl, hi, hBr⟩ := hrel
                obtain ⟨w0, hw00⟩ : ∃ w0, w0 = wr := ⟨wr, rfl⟩
                subst hw00
                have q1 := (bel_cell hBr (show W.heap.size < (W.alloc (.cells #[.string ⟨p.name.toArray⟩, .int .i64 p.year, .slice a3 p.opts.length c3, .slice a4 p.tabs.length c4, .slice a5 p.grps.length c5, .slice a6 p.lns.length c6, .slice a7 p.cks.length c7] 28)).heap.size by rw [hsz]; omega) 5).trans x5
                by_cases hgo : i < p.lns.length ∧ n ≤ 32768
                · obtain ⟨hlt, hnm⟩ := hgo
                  have hlt' : (i : Int) < (p.lns.length : Int) := by omega
                  have hi0 : (0 : Int) ≤ (i : Int) := by omega
                  obtain ⟨g, o, hga⟩ := hL.some hlt
                  have hFr := row_bel hL hBr (Nat.le_refl _)
                  rw [hga] at hFr q1
                  clear hga
                  obtain ⟨cx, -, -, hEx, hcx⟩ := hFr.item hlt
                  have hmem := List.getElem_mem hlt
                  generalize p.lns[i] = x at hEx hcx hmem
                  obtain ⟨ax, cx2, rfl, -, hRx⟩ := hEx
                  have kx0 : w0.cell? ⟨g, o + i * 7, none⟩ = some (.string ⟨x.name.toArray⟩) := hcx 0 (by decide)
                  have kx6 : w0.cell? ⟨g, o + i * 7 + 6, none⟩ = some (.slice ax x.cls.length cx2) := hcx 6 (by decide)
                  have hzx := hz.lns.2 x hmem
                  have hzc := hzx.2.1
                  have hgs : g < w0.heap.size := World.block_lt_of_cell? _ _ kx0
                  have hW0 : W.heap.size < w0.heap.size := World.block_lt_of_cell? _ _ q1
                  clear hcx hFr hmem
                  go_wp2
                  go_loopw [3, 7] (fun nv kv wr => ∃ (k : Nat) (m : Int), nv = .int .i64 m ∧ kv = .int .i64 (k : Int) ∧ k ≤ x.cls.length ∧ Below w0.heap.size w0 wr) (fun _ kv _ => x.cls.length - (intOf kv).toNat)
                  case atStart => exact ⟨0, _, rfl, rfl, Nat.zero_le _, Below.refl _ _⟩
                  case round =>
                    obtain ⟨k, m, rfl, rfl, hk, hBk⟩ := hrel
                    have z1 := (bel_cell hBk hW0 5).trans q1
                    have z6 := (bel_cell hBk hgs (o + i * 7 + 6)).trans kx6
                    have hBrk := Below.tr hBr hBk hBr.size
                    by_cases hgk : k < x.cls.length ∧ m ≤ 32768
                    · obtain ⟨hkt, hkm⟩ := hgk
                      have hkt' : (k : Int) < (x.cls.length : Int) := by omega
                      have hk0 : (0 : Int) ≤ (k : Int) := by omega
                      obtain ⟨u, v, hua⟩ := hRx.some hkt
                      have hRk := row_bel hRx hBk (Nat.le_refl _)
                      rw [hua] at hRk z6
                      clear hua
                      obtain ⟨cy, -, -, ⟨a8, c8, b8, d8, rfl, -, -, hFg, hFb⟩, hcy⟩ := hRk.item hkt
                      have hzy := hzx.2.2 _ (List.getElem_mem hkt)
                      generalize x.cls[k] = y at hFg hFb hcy hzy
                      have ky0 : wr.cell? ⟨u, v + k * 12, none⟩ = some (.int .i64 y.pri) := hcy 0 (by decide)
                      have ky1 : wr.cell? ⟨u, v + k * 12 + 1, none⟩ = some (.bool y.guarded) := hcy 1 (by decide)
                      have ky2 : wr.cell? ⟨u, v + k * 12 + 2, none⟩ = some (.int .i64 y.guard.op) := hcy 2 (by decide)
                      have ky3 : wr.cell? ⟨u, v + k * 12 + 3, none⟩ = some (.int .i64 y.guard.num) := hcy 3 (by decide)
                      have ky4 : wr.cell? ⟨u, v + k * 12 + 4, none⟩ = some (.int .i64 y.guard.den) := hcy 4 (by decide)
                      have ky5 : wr.cell? ⟨u, v + k * 12 + 5, none⟩ = some (.int .i64 y.guard.mode) := hcy 5 (by decide)
                      have ky6 : wr.cell? ⟨u, v + k * 12 + 6, none⟩ = some (.slice a8 y.guard.args.len c8) := hcy 6 (by decide)
                      have ky7 : wr.cell? ⟨u, v + k * 12 + 7, none⟩ = some (.int .i64 y.body.op) := hcy 7 (by decide)
                      have ky8 : wr.cell? ⟨u, v + k * 12 + 8, none⟩ = some (.int .i64 y.body.num) := hcy 8 (by decide)
                      have ky9 : wr.cell? ⟨u, v + k * 12 + 9, none⟩ = some (.int .i64 y.body.den) := hcy 9 (by decide)
                      have ky10 : wr.cell? ⟨u, v + k * 12 + 10, none⟩ = some (.int .i64 y.body.mode) := hcy 10 (by decide)
                      have ky11 : wr.cell? ⟨u, v + k * 12 + 11, none⟩ = some (.slice b8 y.body.args.len d8) := hcy 11 (by decide)
                      have hus : u < wr.heap.size := World.block_lt_of_cell? _ _ ky0
                      have hgw : g < wr.heap.size := World.block_lt_of_cell? _ _ z6
                      have hWw : W.heap.size < wr.heap.size := World.block_lt_of_cell? _ _ z1
                      clear hcy hRk
                      have hS0 : wr.drew.cell? ⟨W.heap.size, 5, none⟩ = some (.slice (some ⟨g, o, none⟩) p.lns.length c6) ∧ wr.drew.cell? ⟨g, o + i * 7 + 6, none⟩ = some (.slice (some ⟨u, v, none⟩) x.cls.length cx2) ∧ wr.drew.cell? ⟨u, v + k * 12 + 2, none⟩ = some (.int .i64 y.guard.op) ∧ wr.drew.cell? ⟨u, v + k * 12 + 3, none⟩ = some (.int .i64 y.guard.num) ∧ wr.drew.cell? ⟨u, v + k * 12 + 4, none⟩ = some (.int .i64 y.guard.den) ∧ wr.drew.cell? ⟨u, v + k * 12 + 5, none⟩ = some (.int .i64 y.guard.mode) ∧ wr.drew.cell? ⟨u, v + k * 12 + 6, none⟩ = some (.slice a8 y.guard.args.len c8) ∧ wr.drew.cell? ⟨u, v + k * 12 + 7, none⟩ = some (.int .i64 y.body.op) ∧ wr.drew.cell? ⟨u, v + k * 12 + 8, none⟩ = some (.int .i64 y.body.num) ∧ wr.drew.cell? ⟨u, v + k * 12 + 9, none⟩ = some (.int .i64 y.body.den) ∧ wr.drew.cell? ⟨u, v + k * 12 + 10, none⟩ = some (.int .i64 y.body.mode) ∧ wr.drew.cell? ⟨u, v + k * 12 + 11, none⟩ = some (.slice b8 y.body.args.len d8) := ⟨z1, z6, ky2, ky3, ky4, ky5, ky6, ky7, ky8, ky9, ky10, ky11⟩
                      have hBd : Below wr.heap.size wr wr.drew := (Below.refl _ _).drew
                      have hFb1 := fo_bel hFb hBd (Nat.le_refl _)
                      have hc1 := fun m => nodes_any _ y.guard a8 c8 m wr.drew (Nat.le_refl _) hzy.1 (fo_bel hFg hBd (Nat.le_refl _))
                      have hkeep : ∀ X, Below wr.drew.heap.size wr.drew X → X.cell? ⟨W.heap.size, 5, none⟩ = some (.slice (some ⟨g, o, none⟩) p.lns.length c6) ∧ X.cell? ⟨g, o + i * 7 + 6, none⟩ = some (.slice (some ⟨u, v, none⟩) x.cls.length cx2) ∧ X.cell? ⟨u, v + k * 12 + 2, none⟩ = some (.int .i64 y.guard.op) ∧ X.cell? ⟨u, v + k * 12 + 3, none⟩ = some (.int .i64 y.guard.num) ∧ X.cell? ⟨u, v + k * 12 + 4, none⟩ = some (.int .i64 y.guard.den) ∧ X.cell? ⟨u, v + k * 12 + 5, none⟩ = some (.int .i64 y.guard.mode) ∧ X.cell? ⟨u, v + k * 12 + 6, none⟩ = some (.slice a8 y.guard.args.len c8) ∧ X.cell? ⟨u, v + k * 12 + 7, none⟩ = some (.int .i64 y.body.op) ∧ X.cell? ⟨u, v + k * 12 + 8, none⟩ = some (.int .i64 y.body.num) ∧ X.cell? ⟨u, v + k * 12 + 9, none⟩ = some (.int .i64 y.body.den) ∧ X.cell? ⟨u, v + k * 12 + 10, none⟩ = some (.int .i64 y.body.mode) ∧ X.cell? ⟨u, v + k * 12 + 11, none⟩ = some (.slice b8 y.body.args.len d8) := fun X hX => by
                        have kk := fun {b : Nat} (hb : b < wr.drew.heap.size) (j : Nat) => bel_cell hX hb j
                        exact ⟨(kk hWw _).trans z1, (kk hgw _).trans z6, (kk hus _).trans ky2, (kk hus _).trans ky3, (kk hus _).trans ky4, (kk hus _).trans ky5, (kk hus _).trans ky6, (kk hus _).trans ky7, (kk hus _).trans ky8, (kk hus _).trans ky9, (kk hus _).trans ky10, (kk hus _).trans ky11⟩
                      clear ky0 ky1 ky2 ky3 ky4 ky5 ky6 ky7 ky8 ky9 ky10 ky11
                      go_wp2
                      go_region_held3 (fun X => X.cell? ⟨W.heap.size, 5, none⟩ = some (.slice (some ⟨g, o, none⟩) p.lns.length c6) ∧ X.cell? ⟨g, o + i * 7 + 6, none⟩ = some (.slice (some ⟨u, v, none⟩) x.cls.length cx2) ∧ X.cell? ⟨u, v + k * 12 + 2, none⟩ = some (.int .i64 y.guard.op) ∧ X.cell? ⟨u, v + k * 12 + 3, none⟩ = some (.int .i64 y.guard.num) ∧ X.cell? ⟨u, v + k * 12 + 4, none⟩ = some (.int .i64 y.guard.den) ∧ X.cell? ⟨u, v + k * 12 + 5, none⟩ = some (.int .i64 y.guard.mode) ∧ X.cell? ⟨u, v + k * 12 + 6, none⟩ = some (.slice a8 y.guard.args.len c8) ∧ X.cell? ⟨u, v + k * 12 + 7, none⟩ = some (.int .i64 y.body.op) ∧ X.cell? ⟨u, v + k * 12 + 8, none⟩ = some (.int .i64 y.body.num) ∧ X.cell? ⟨u, v + k * 12 + 9, none⟩ = some (.int .i64 y.body.den) ∧ X.cell? ⟨u, v + k * 12 + 10, none⟩ = some (.int .i64 y.body.mode) ∧ X.cell? ⟨u, v + k * 12 + 11, none⟩ = some (.slice b8 y.body.args.len d8)) (assumption)
                        (first | (go_at_call 13; refine (hc1 _).mono ?_; clear hc1; rintro e w5 ⟨hB5, n5, rfl⟩; have hS5 := hkeep w5 hB5; have hc2 := fun m => nodes_any _ y.body b8 d8 m w5 (Nat.le_refl _) hzy.2 (fo_bel hFb1 hB5 (Nat.le_refl _))) | (go_at_call 13; refine (hc2 _).mono ?_; clear hc2; rintro e w6 ⟨hB6, n6, rfl⟩; have hB56 := Below.tr hB5 hB6 hB5.size; have hS6 := hkeep w6 hB56))
                      have hBn := Below.tr hBk (Below.tr hBd hB56 hBd.size) hBk.size
                      clear hkeep hS0
                      go_wp2
                      go_roundw
                      case rel => exact ⟨k + 1, _, rfl, by go_num, by omega, hBn⟩
                      case measure => simp [intOf]; omega
                    · have hck : ¬ ((k : Int) < (x.cls.length : Int)) ∨ ((k : Int) < (x.cls.length : Int) ∧ ¬ m ≤ 32768) := by omega
                      rcases hck with hc | ⟨hc1, hc2⟩
                      · go_wp2
                        go_roundw
                        case rel => exact ⟨i + 1, _, rfl, by go_num, by omega, hBrk⟩
                        case measure => simp [intOf]; omega
                      · go_wp2
                        go_roundw
                        case rel => exact ⟨i + 1, _, rfl, by go_num, by omega, hBrk⟩
                        case measure => simp [intOf]; omega
                · have hcond : ¬ ((i : Int) < (p.lns.length : Int)) ∨ ((i : Int) < (p.lns.length : Int) ∧ ¬ n ≤ 32768) := by omega
                  have hBq := Below.tr hB hBr (by rw [hsz]; omega)
                  have hBe := hBr
                  clear hgo hi
                  rcases hcond with hc | ⟨hc1, hc2⟩
                  · go_wp2
                    go_loopw [3, 8] (fun nv iv wr => ∃ (i : Nat) (n : Int), nv = .int .i64 n ∧ iv = .int .i64 (i : Int) ∧ i ≤ p.cks.length ∧ Below (W.alloc (.cells #[.string ⟨p.name.toArray⟩, .int .i64 p.year, .slice a3 p.opts.length c3, .slice a4 p.tabs.length c4, .slice a5 p.grps.length c5, .slice a6 p.lns.length c6, .slice a7 p.cks.length c7] 28)).heap.size (W.alloc (.cells #[.string ⟨p.name.toArray⟩, .int .i64 p.year, .slice a3 p.opts.length c3, .slice a4 p.tabs.length c4, .slice a5 p.grps.length c5, .slice a6 p.lns.length c6, .slice a7 p.cks.length c7] 28)) wr) (fun _ iv _ => p.cks.length - (intOf iv).toNat)
                    case atStart => exact ⟨0, _, rfl, rfl, Nat.zero_le _, hBe⟩
                    case round =>
                      obtain ⟨i, n, rfl, rfl, hi, hBr⟩ := hrel
                      obtain ⟨w0, hw00⟩ : ∃ w0, w0 = wr := ⟨wr, rfl⟩
                      subst hw00
                      have q1 := (bel_cell hBr (show W.heap.size < (W.alloc (.cells #[.string ⟨p.name.toArray⟩, .int .i64 p.year, .slice a3 p.opts.length c3, .slice a4 p.tabs.length c4, .slice a5 p.grps.length c5, .slice a6 p.lns.length c6, .slice a7 p.cks.length c7] 28)).heap.size by rw [hsz]; omega) 6).trans x6
                      by_cases hgo : i < p.cks.length ∧ n ≤ 32768
                      · obtain ⟨hlt, hnm⟩ := hgo
                        have hlt' : (i : Int) < (p.cks.length : Int) := by omega
                        have hi0 : (0 : Int) ≤ (i : Int) := by omega
                        obtain ⟨g, o, hga⟩ := hK.some hlt
                        have hFr := row_bel hK hBr (Nat.le_refl _)
                        rw [hga] at hFr q1
                        clear hga
                        obtain ⟨cx, -, -, hEx, hcx⟩ := hFr.item hlt
                        have hmem := List.getElem_mem hlt
                        generalize p.cks[i] = x at hEx hcx hmem
                        obtain ⟨ax, cx2, rfl, -, -, hFx⟩ := hEx
                        have ky0 : w0.cell? ⟨g, o + i * 9, none⟩ = some (.string ⟨x.name.toArray⟩) := hcx 0 (by decide)
                        have ky1 : w0.cell? ⟨g, o + i * 9 + 1, none⟩ = some (.bool x.hard) := hcx 1 (by decide)
                        have ky2 : w0.cell? ⟨g, o + i * 9 + 2, none⟩ = some (.int .i64 x.group) := hcx 2 (by decide)
                        have ky3 : w0.cell? ⟨g, o + i * 9 + 3, none⟩ = some (.int .i64 x.when_.op) := hcx 3 (by decide)
                        have ky4 : w0.cell? ⟨g, o + i * 9 + 4, none⟩ = some (.int .i64 x.when_.num) := hcx 4 (by decide)
                        have ky5 : w0.cell? ⟨g, o + i * 9 + 5, none⟩ = some (.int .i64 x.when_.den) := hcx 5 (by decide)
                        have ky6 : w0.cell? ⟨g, o + i * 9 + 6, none⟩ = some (.int .i64 x.when_.mode) := hcx 6 (by decide)
                        have ky7 : w0.cell? ⟨g, o + i * 9 + 7, none⟩ = some (.slice ax x.when_.args.len cx2) := hcx 7 (by decide)
                        have ky8 : w0.cell? ⟨g, o + i * 9 + 8, none⟩ = some (.string ⟨x.text.toArray⟩) := hcx 8 (by decide)
                        have hzx := hz.cks.2 x hmem
                        have hgs : g < w0.heap.size := World.block_lt_of_cell? _ _ ky0
                        have hW0 : W.heap.size < w0.heap.size := World.block_lt_of_cell? _ _ q1
                        have hS0 : w0.drew.cell? ⟨W.heap.size, 6, none⟩ = some (.slice (some ⟨g, o, none⟩) p.cks.length c7) ∧ w0.drew.cell? ⟨g, o + i * 9, none⟩ = some (.string ⟨x.name.toArray⟩) ∧ w0.drew.cell? ⟨g, o + i * 9 + 3, none⟩ = some (.int .i64 x.when_.op) ∧ w0.drew.cell? ⟨g, o + i * 9 + 4, none⟩ = some (.int .i64 x.when_.num) ∧ w0.drew.cell? ⟨g, o + i * 9 + 5, none⟩ = some (.int .i64 x.when_.den) ∧ w0.drew.cell? ⟨g, o + i * 9 + 6, none⟩ = some (.int .i64 x.when_.mode) ∧ w0.drew.cell? ⟨g, o + i * 9 + 7, none⟩ = some (.slice ax x.when_.args.len cx2) ∧ w0.drew.cell? ⟨g, o + i * 9 + 8, none⟩ = some (.string ⟨x.text.toArray⟩) := ⟨q1, ky0, ky3, ky4, ky5, ky6, ky7, ky8⟩
                        have hBd : Below w0.heap.size w0 w0.drew := (Below.refl _ _).drew
                        have hc1 := fun m => nodes_any _ x.when_ ax cx2 m w0.drew (Nat.le_refl _) hzx.2.2 (fo_bel hFx hBd (Nat.le_refl _))
                        have hkeep : ∀ X, Below w0.drew.heap.size w0.drew X → X.cell? ⟨W.heap.size, 6, none⟩ = some (.slice (some ⟨g, o, none⟩) p.cks.length c7) ∧ X.cell? ⟨g, o + i * 9, none⟩ = some (.string ⟨x.name.toArray⟩) ∧ X.cell? ⟨g, o + i * 9 + 3, none⟩ = some (.int .i64 x.when_.op) ∧ X.cell? ⟨g, o + i * 9 + 4, none⟩ = some (.int .i64 x.when_.num) ∧ X.cell? ⟨g, o + i * 9 + 5, none⟩ = some (.int .i64 x.when_.den) ∧ X.cell? ⟨g, o + i * 9 + 6, none⟩ = some (.int .i64 x.when_.mode) ∧ X.cell? ⟨g, o + i * 9 + 7, none⟩ = some (.slice ax x.when_.args.len cx2) ∧ X.cell? ⟨g, o + i * 9 + 8, none⟩ = some (.string ⟨x.text.toArray⟩) := fun X hX => by
                          have kk := fun {b : Nat} (hb : b < w0.drew.heap.size) (j : Nat) => bel_cell hX hb j
                          exact ⟨(kk hW0 _).trans q1, (kk hgs _).trans ky0, (kk hgs _).trans ky3, (kk hgs _).trans ky4, (kk hgs _).trans ky5, (kk hgs _).trans ky6, (kk hgs _).trans ky7, (kk hgs _).trans ky8⟩
                        clear hcx hFr hmem ky0 ky1 ky2 ky3 ky4 ky5 ky6 ky7 ky8
                        go_wp2
                        go_region_held3 (fun X => X.cell? ⟨W.heap.size, 6, none⟩ = some (.slice (some ⟨g, o, none⟩) p.cks.length c7) ∧ X.cell? ⟨g, o + i * 9, none⟩ = some (.string ⟨x.name.toArray⟩) ∧ X.cell? ⟨g, o + i * 9 + 3, none⟩ = some (.int .i64 x.when_.op) ∧ X.cell? ⟨g, o + i * 9 + 4, none⟩ = some (.int .i64 x.when_.num) ∧ X.cell? ⟨g, o + i * 9 + 5, none⟩ = some (.int .i64 x.when_.den) ∧ X.cell? ⟨g, o + i * 9 + 6, none⟩ = some (.int .i64 x.when_.mode) ∧ X.cell? ⟨g, o + i * 9 + 7, none⟩ = some (.slice ax x.when_.args.len cx2) ∧ X.cell? ⟨g, o + i * 9 + 8, none⟩ = some (.string ⟨x.text.toArray⟩)) (assumption)
                          (first | (go_at_call 13; refine (hc1 _).mono ?_; clear hc1; rintro e w5 ⟨hB5, n5, rfl⟩; have hS5 := hkeep w5 hB5))
                        have hBn := Below.tr hBr (Below.tr hBd hB5 hBd.size) hBr.size
                        clear hkeep hS0
                        go_wp2
                        go_roundw
                        case rel => exact ⟨i + 1, _, rfl, by go_num, by omega, hBn⟩
                        case measure => simp [intOf]; omega
                      · have hcond : ¬ ((i : Int) < (p.cks.length : Int)) ∨ ((i : Int) < (p.cks.length : Int) ∧ ¬ n ≤ 32768) := by omega
                        have hBq := Below.tr hB hBr (by rw [hsz]; omega)
                        have hBe := hBr
                        clear hgo hi
                        have hfin : ∀ b : Bool, Q (.returned (.bool b)) w0 := fun b => by
                          rw [← hQ.out]
                          exact ⟨hBq, b, rfl⟩
                        rcases hcond with hc | ⟨hc1, hc2⟩
                        · go_wp2
                          exact hfin _
                        · go_wp2
                          exact hfin _

                  · go_wp2
                    go_loopw [3, 8] (fun nv iv wr => ∃ (i : Nat) (n : Int), nv = .int .i64 n ∧ iv = .int .i64 (i : Int) ∧ i ≤ p.cks.length ∧ Below (W.alloc (.cells #[.string ⟨p.name.toArray⟩, .int .i64 p.year, .slice a3 p.opts.length c3, .slice a4 p.tabs.length c4, .slice a5 p.grps.length c5, .slice a6 p.lns.length c6, .slice a7 p.cks.length c7] 28)).heap.size (W.alloc (.cells #[.string ⟨p.name.toArray⟩, .int .i64 p.year, .slice a3 p.opts.length c3, .slice a4 p.tabs.length c4, .slice a5 p.grps.length c5, .slice a6 p.lns.length c6, .slice a7 p.cks.length c7] 28)) wr) (fun _ iv _ => p.cks.length - (intOf iv).toNat)
                    case atStart => exact ⟨0, _, rfl, rfl, Nat.zero_le _, hBe⟩
                    case round =>
                      obtain ⟨i, n, rfl, rfl, hi, hBr⟩ := hrel
                      obtain ⟨w0, hw00⟩ : ∃ w0, w0 = wr := ⟨wr, rfl⟩
                      subst hw00
                      have q1 := (bel_cell hBr (show W.heap.size < (W.alloc (.cells #[.string ⟨p.name.toArray⟩, .int .i64 p.year, .slice a3 p.opts.length c3, .slice a4 p.tabs.length c4, .slice a5 p.grps.length c5, .slice a6 p.lns.length c6, .slice a7 p.cks.length c7] 28)).heap.size by rw [hsz]; omega) 6).trans x6
                      by_cases hgo : i < p.cks.length ∧ n ≤ 32768
                      · obtain ⟨hlt, hnm⟩ := hgo
                        have hlt' : (i : Int) < (p.cks.length : Int) := by omega
                        have hi0 : (0 : Int) ≤ (i : Int) := by omega
                        obtain ⟨g, o, hga⟩ := hK.some hlt
                        have hFr := row_bel hK hBr (Nat.le_refl _)
                        rw [hga] at hFr q1
                        clear hga
                        obtain ⟨cx, -, -, hEx, hcx⟩ := hFr.item hlt
                        have hmem := List.getElem_mem hlt
                        generalize p.cks[i] = x at hEx hcx hmem
                        obtain ⟨ax, cx2, rfl, -, -, hFx⟩ := hEx
                        have ky0 : w0.cell? ⟨g, o + i * 9, none⟩ = some (.string ⟨x.name.toArray⟩) := hcx 0 (by decide)
                        have ky1 : w0.cell? ⟨g, o + i * 9 + 1, none⟩ = some (.bool x.hard) := hcx 1 (by decide)
                        have ky2 : w0.cell? ⟨g, o + i * 9 + 2, none⟩ = some (.int .i64 x.group) := hcx 2 (by decide)
                        have ky3 : w0.cell? ⟨g, o + i * 9 + 3, none⟩ = some (.int .i64 x.when_.op) := hcx 3 (by decide)
                        have ky4 : w0.cell? ⟨g, o + i * 9 + 4, none⟩ = some (.int .i64 x.when_.num) := hcx 4 (by decide)
                        have ky5 : w0.cell? ⟨g, o + i * 9 + 5, none⟩ = some (.int .i64 x.when_.den) := hcx 5 (by decide)
                        have ky6 : w0.cell? ⟨g, o + i * 9 + 6, none⟩ = some (.int .i64 x.when_.mode) := hcx 6 (by decide)
                        have ky7 : w0.cell? ⟨g, o + i * 9 + 7, none⟩ = some (.slice ax x.when_.args.len cx2) := hcx 7 (by decide)
                        have ky8 : w0.cell? ⟨g, o + i * 9 + 8, none⟩ = some (.string ⟨x.text.toArray⟩) := hcx 8 (by decide)
                        have hzx := hz.cks.2 x hmem
                        have hgs : g < w0.heap.size := World.block_lt_of_cell? _ _ ky0
                        have hW0 : W.heap.size < w0.heap.size := World.block_lt_of_cell? _ _ q1
                        have hS0 : w0.drew.cell? ⟨W.heap.size, 6, none⟩ = some (.slice (some ⟨g, o, none⟩) p.cks.length c7) ∧ w0.drew.cell? ⟨g, o + i * 9, none⟩ = some (.string ⟨x.name.toArray⟩) ∧ w0.drew.cell? ⟨g, o + i * 9 + 3, none⟩ = some (.int .i64 x.when_.op) ∧ w0.drew.cell? ⟨g, o + i * 9 + 4, none⟩ = some (.int .i64 x.when_.num) ∧ w0.drew.cell? ⟨g, o + i * 9 + 5, none⟩ = some (.int .i64 x.when_.den) ∧ w0.drew.cell? ⟨g, o + i * 9 + 6, none⟩ = some (.int .i64 x.when_.mode) ∧ w0.drew.cell? ⟨g, o + i * 9 + 7, none⟩ = some (.slice ax x.when_.args.len cx2) ∧ w0.drew.cell? ⟨g, o + i * 9 + 8, none⟩ = some (.string ⟨x.text.toArray⟩) := ⟨q1, ky0, ky3, ky4, ky5, ky6, ky7, ky8⟩
                        have hBd : Below w0.heap.size w0 w0.drew := (Below.refl _ _).drew
                        have hc1 := fun m => nodes_any _ x.when_ ax cx2 m w0.drew (Nat.le_refl _) hzx.2.2 (fo_bel hFx hBd (Nat.le_refl _))
                        have hkeep : ∀ X, Below w0.drew.heap.size w0.drew X → X.cell? ⟨W.heap.size, 6, none⟩ = some (.slice (some ⟨g, o, none⟩) p.cks.length c7) ∧ X.cell? ⟨g, o + i * 9, none⟩ = some (.string ⟨x.name.toArray⟩) ∧ X.cell? ⟨g, o + i * 9 + 3, none⟩ = some (.int .i64 x.when_.op) ∧ X.cell? ⟨g, o + i * 9 + 4, none⟩ = some (.int .i64 x.when_.num) ∧ X.cell? ⟨g, o + i * 9 + 5, none⟩ = some (.int .i64 x.when_.den) ∧ X.cell? ⟨g, o + i * 9 + 6, none⟩ = some (.int .i64 x.when_.mode) ∧ X.cell? ⟨g, o + i * 9 + 7, none⟩ = some (.slice ax x.when_.args.len cx2) ∧ X.cell? ⟨g, o + i * 9 + 8, none⟩ = some (.string ⟨x.text.toArray⟩) := fun X hX => by
                          have kk := fun {b : Nat} (hb : b < w0.drew.heap.size) (j : Nat) => bel_cell hX hb j
                          exact ⟨(kk hW0 _).trans q1, (kk hgs _).trans ky0, (kk hgs _).trans ky3, (kk hgs _).trans ky4, (kk hgs _).trans ky5, (kk hgs _).trans ky6, (kk hgs _).trans ky7, (kk hgs _).trans ky8⟩
                        clear hcx hFr hmem ky0 ky1 ky2 ky3 ky4 ky5 ky6 ky7 ky8
                        go_wp2
                        go_region_held3 (fun X => X.cell? ⟨W.heap.size, 6, none⟩ = some (.slice (some ⟨g, o, none⟩) p.cks.length c7) ∧ X.cell? ⟨g, o + i * 9, none⟩ = some (.string ⟨x.name.toArray⟩) ∧ X.cell? ⟨g, o + i * 9 + 3, none⟩ = some (.int .i64 x.when_.op) ∧ X.cell? ⟨g, o + i * 9 + 4, none⟩ = some (.int .i64 x.when_.num) ∧ X.cell? ⟨g, o + i * 9 + 5, none⟩ = some (.int .i64 x.when_.den) ∧ X.cell? ⟨g, o + i * 9 + 6, none⟩ = some (.int .i64 x.when_.mode) ∧ X.cell? ⟨g, o + i * 9 + 7, none⟩ = some (.slice ax x.when_.args.len cx2) ∧ X.cell? ⟨g, o + i * 9 + 8, none⟩ = some (.string ⟨x.text.toArray⟩)) (assumption)
                          (first | (go_at_call 13; refine (hc1 _).mono ?_; clear hc1; rintro e w5 ⟨hB5, n5, rfl⟩; have hS5 := hkeep w5 hB5))
                        have hBn := Below.tr hBr (Below.tr hBd hB5 hBd.size) hBr.size
                        clear hkeep hS0
                        go_wp2
                        go_roundw
                        case rel => exact ⟨i + 1, _, rfl, by go_num, by omega, hBn⟩
                        case measure => simp [intOf]; omega
                      · have hcond : ¬ ((i : Int) < (p.cks.length : Int)) ∨ ((i : Int) < (p.cks.length : Int) ∧ ¬ n ≤ 32768) := by omega
                        have hBq := Below.tr hB hBr (by rw [hsz]; omega)
                        have hBe := hBr
                        clear hgo hi
                        have hfin : ∀ b : Bool, Q (.returned (.bool b)) w0 := fun b => by
                          rw [← hQ.out]
                          exact ⟨hBq, b, rfl⟩
                        rcases hcond with hc | ⟨hc1, hc2⟩
                        · go_wp2
                          exact hfin _
                        · go_wp2
                          exact hfin _



end Go.Proofs.YtmklkcefbabhbaaGreat

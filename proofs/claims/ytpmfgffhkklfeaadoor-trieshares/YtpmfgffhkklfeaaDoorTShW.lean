import Derived.Test.YtpmfgffhkklfeaaDoorTShP
import Derived.Test.YtpmfgffhkklfeaaDoorTOne
import Derived.Deep.RegionHeld3
import Derived.Deep.DeepCutAuto
import Derived.Deep.CutBlock
import Derived.Deep.QuietTactic
import Derived.BigQuiet
namespace Go.Proofs.YtpmfgffhkklfeaaDoor
open Go.RowKit

/-- The number by which a key's prefix is taken. -/
def Pv (k : Nat) : Nat := 16 ^ (8 - k) % 4294967296
theorem pv_step {k : Nat} (h : k ≤ 7) : Pv k = (Pv (k + 1) * 16) % 4294967296 := by
  unfold Pv
  rw [show 8 - k = (8 - (k + 1)) + 1 from by omega, Nat.pow_succ, Nat.mod_mul_mod]
theorem pv_pos {k : Nat} (h1 : 1 ≤ k) (h2 : k ≤ 8) : Pv k = 16 ^ (8 - k) := by
  unfold Pv
  refine Nat.mod_eq_of_lt ?_
  have : 16 ^ (8 - k) ≤ 16 ^ 7 := Nat.pow_le_pow_right (by decide) (by omega)
  have h7 : 16 ^ 7 < 4294967296 := by decide
  omega

set_option maxRecDepth 4000 in
set_option maxHeartbeats 1000000 in
theorem nodes_law (vl : Value) (L : List (Nat × (Int × Int))) (hl : L.length ≤ 5000) (hk : ∀ i (h : i < L.length), L[i].1 < 4294967296) (w : World) (h : EntsAt w vl L) :
    Calls Tryd.prog 10 #[vl] w fun e w' => e = .returned (.int .i64 (nds 8 none L : Int)) ∧ Below w.heap.size w w' := by
  obtain ⟨aa, ca, rfl, hda⟩ := h
  go_enter Tryd.func10, Tryd.ntmps10
  go_wp2
  go_loopw [3, 4] (fun n i wr => ∃ j c : Nat, j ≤ L.length ∧ i = .int .i64 j ∧ n = .int .i64 (c : Int) ∧ c = nds 8 none (L.take j) ∧ c ≤ 8 * j ∧ Below w.heap.size w wr) (fun _ i _ => L.length - (intOf i).toNat)
  case atStart => exact ⟨0, 0, by omega, rfl, rfl, rfl, by omega, Below.refl _ _⟩
  case round =>
    obtain ⟨j, c, hj, rfl, rfl, hc, hc8, hB⟩ := hrel
    by_cases hlt : j < L.length
    · have hlt' : (j : Int) < L.length := by omega
      have hj0 : (0 : Int) ≤ (j : Int) := by omega
      have hc2 : Hid (nds 8 none (L.take (j + 1)) = c + st 8 (prv L j) L[j].1) := by
        unfold Hid
        rw [nds_take 8 hlt, hc]
      have hst := st_le 8 (prv L j) L[j].1
      have hk0 := hk j hlt
      clear hc
      obtain ⟨kk, hkk⟩ : ∃ kk, L[j].1 = kk := ⟨_, rfl⟩
      obtain ⟨o, ho⟩ : ∃ o, prv L j = o := ⟨_, rfl⟩
      have hcell : ∃ g off, aa = some ⟨g, off, none⟩ ∧ wr.cell? ⟨g, off + j * 3, none⟩ = some (.int .u32 (kk : Int)) ∧ (j = 0 ∧ o = none ∨ ∃ m pk, j = m + 1 ∧ o = some pk ∧ pk < 4294967296 ∧ wr.cell? ⟨g, off + m * 3, none⟩ = some (.int .u32 (pk : Int))) := by
        rcases hda with h0 | ⟨g, off, rfl, hg, hcs⟩
        · rw [h0] at hlt; simp at hlt
        · refine ⟨g, off, rfl, ?_, ?_⟩
          · rw [← hkk]
            exact (hB.cell (p := ⟨g, off + j * 3, none⟩) hg).trans (hcs j hlt).1
          · cases j with
            | zero => exact .inl ⟨rfl, by rw [← ho]; rfl⟩
            | succ m =>
              refine .inr ⟨m, L[m].1, rfl, ?_, hk m (by omega), (hB.cell (p := ⟨g, off + m * 3, none⟩) hg).trans (hcs m (by omega)).1⟩
              rw [← ho]
              unfold prv
              rw [if_neg (by omega), Nat.add_sub_cancel, List.getElem?_eq_getElem (by omega)]
              rfl
      rw [hkk] at hc2 hst hk0
      rw [ho] at hc2 hst
      clear hda hkk ho
      obtain ⟨g, off, rfl, c1, hpr⟩ := hcell
      by_cases hjz : j = 0
      · subst hjz
        have ho0 : o = none := by
          rcases hpr with ⟨-, h⟩ | ⟨m, pk, h, -⟩
          · exact h
          · omega
        subst ho0
        clear hpr
        have hc0 : c = 0 := by omega
        subst hc0
        rw [st_none] at hc2
        rw [show (((0 : Nat)) : Int) = 0 from rfl] at *
        obtain ⟨W0, hW0⟩ : ∃ z, z = wr := ⟨_, rfl⟩
        subst hW0
        go_wp2_with fail
        go_loopw [3, 5] (fun n k wx => ∃ q : Nat, q ≤ 8 ∧ k = .int .i64 q ∧ n = .int .i64 (q : Int) ∧ Below W0.heap.size W0 wx) (fun _ k _ => 8 - (intOf k).toNat)
        case atStart => exact ⟨0, by omega, rfl, rfl, Below.refl _ _⟩
        case round =>
          obtain ⟨q, hq, rfl, rfl, hX⟩ := hrel
          obtain ⟨X, hX0⟩ : ∃ z, z = wr := ⟨_, rfl⟩
          subst hX0
          by_cases hq8 : q < 8
          · have hq8' : (q : Int) < 8 := by omega
            have hq0 : (0 : Int) ≤ (q : Int) := by omega
            go_wp2_with fail
            go_loopw [6, 7] (fun p jj wx => ∃ z : Nat, q ≤ z ∧ z ≤ 8 ∧ jj = .int .i64 z ∧ p = .int .u32 (Pv z : Int) ∧ wx = X) (fun _ jj _ => (intOf jj).toNat)
            case atStart => exact ⟨8, hq, by omega, rfl, rfl, rfl⟩
            case round =>
              obtain ⟨z, hz1, hz2, rfl, rfl, rfl⟩ := hrel
              by_cases hzq : q < z
              · have hzq' : (q : Int) < (z : Int) := by omega
                have hps := pv_step (k := z - 1) (by omega)
                have hlt4 : Pv z < 4294967296 := Nat.mod_lt _ (by decide)
                obtain ⟨pz, hpz0⟩ : ∃ pz, Pv z = pz := ⟨_, rfl⟩
                have hpz : Hid (Pv (z - 1 + 1) = pz) := by
                  unfold Hid
                  rw [← hpz0]
                  congr 1
                  omega
                rw [hpz0] at hlt4 ⊢
                clear hpz0
                go_wp2_with fail
                go_roundw
                case rel => exact ⟨z - 1, by omega, by omega, by congr 1; omega, by rw [hps, hpz.out]; congr 1, trivial⟩
                case measure => simp [intOf]; omega
              · have hzq' : ¬ (q : Int) < (z : Int) := by omega
                obtain rfl : z = q := by omega
                by_cases hz0 : z = 0
                · subst hz0
                  go_wp2_with fail
                  go_roundw
                  case rel => exact ⟨1, by omega, by go_num, by go_num, hX⟩
                  case measure => simp [intOf]
                · have hzb : ((z : Int) == 0) = false := by simp; omega
                  go_wp2_with fail
                  go_quiet (fail)
                  go_wp2
                  go_roundw
                  case rel => exact ⟨z + 1, by omega, by go_num, by go_num, below_step hX (below_drewN (Below.refl _ _) nq)⟩
                  case measure => simp [intOf]; omega
          · have hq8' : ¬ (q : Int) < 8 := by omega
            obtain rfl : q = 8 := by omega
            go_wp2_with fail
            go_roundw
            case rel => exact ⟨1, 8, by omega, by go_num, by go_num, by rw [hc2.out], by omega, below_step hB hX⟩
            case measure => simp [intOf]; omega
      · obtain ⟨W0, hW0⟩ : ∃ z, z = wr := ⟨_, rfl⟩
        subst hW0
        go_wp2_with fail
        go_loopw [3, 5] (fun n k wx => ∃ q d : Nat, q ≤ 8 ∧ k = .int .i64 q ∧ n = .int .i64 (d : Int) ∧ d + st (8 - q) o kk = c + st 8 o kk ∧ Below W0.heap.size W0 wx) (fun _ k _ => 8 - (intOf k).toNat)
        case atStart => exact ⟨0, c, by omega, rfl, rfl, rfl, Below.refl _ _⟩
        case round =>
          obtain ⟨q, d, hq, rfl, rfl, hd, hX⟩ := hrel
          obtain ⟨X, hX0⟩ : ∃ z, z = wr := ⟨_, rfl⟩
          subst hX0
          have c1 := (hX.cell (p := ⟨g, off + j * 3, none⟩) (World.block_lt_of_cell? _ _ c1)).trans c1
          have hpr : j = 0 ∧ o = none ∨ ∃ m pk, j = m + 1 ∧ o = some pk ∧ pk < 4294967296 ∧ X.cell? ⟨g, off + m * 3, none⟩ = some (.int .u32 (pk : Int)) := by
            rcases hpr with h | ⟨m, pk, h1, h2, h3, h4⟩
            · exact .inl h
            · exact .inr ⟨m, pk, h1, h2, h3, (hX.cell (p := ⟨g, off + m * 3, none⟩) (World.block_lt_of_cell? _ _ h4)).trans h4⟩
          by_cases hq8 : q < 8
          · have hq8' : (q : Int) < 8 := by omega
            have hq0 : (0 : Int) ≤ (q : Int) := by omega
            have hd' : Hid (d + st (8 - q) o kk = c + st 8 o kk) := hd
            have hdb : d ≤ c + 8 := by omega
            clear hd
            go_wp2_with fail
            go_loopw [6, 7] (fun p jj wx => ∃ z : Nat, q ≤ z ∧ z ≤ 8 ∧ jj = .int .i64 z ∧ p = .int .u32 (Pv z : Int) ∧ wx = X) (fun _ jj _ => (intOf jj).toNat)
            case atStart => exact ⟨8, hq, by omega, rfl, rfl, rfl⟩
            case round =>
              obtain ⟨z, hz1, hz2, rfl, rfl, rfl⟩ := hrel
              by_cases hzq : q < z
              · have hzq' : (q : Int) < (z : Int) := by omega
                have hps := pv_step (k := z - 1) (by omega)
                have hlt4 : Pv z < 4294967296 := Nat.mod_lt _ (by decide)
                obtain ⟨pz, hpz0⟩ : ∃ pz, Pv z = pz := ⟨_, rfl⟩
                have hpz : Hid (Pv (z - 1 + 1) = pz) := by
                  unfold Hid
                  rw [← hpz0]
                  congr 1
                  omega
                rw [hpz0] at hlt4 ⊢
                clear hpz0
                go_wp2_with fail
                go_roundw
                case rel => exact ⟨z - 1, by omega, by omega, by congr 1; omega, by rw [hps, hpz.out]; congr 1, trivial⟩
                case measure => simp [intOf]; omega
              · have hzq' : ¬ (q : Int) < (z : Int) := by omega
                obtain rfl : z = q := by omega
                by_cases hz0 : z = 0
                · subst hz0
                  rcases hpr with ⟨rfl, rfl⟩ | ⟨m, pk, rfl, rfl, hpk, c2⟩
                  · exact absurd rfl hjz
                  · have e8 : Hid (st 8 (some pk) kk = st 7 (some pk) kk) := st_small 7 pk kk (by omega) (by omega)
                    go_wp2_with fail
                    go_roundw
                    case rel => exact ⟨1, d, by omega, by go_num, rfl, by have := hd'.out; have := e8.out; simp only [Nat.sub_zero] at *; show d + st 7 (some pk) kk = _; omega, hX⟩
                    case measure => simp [intOf]
                · have hzb : ((z : Int) == 0) = false := by simp; omega
                  have hP : Hid (Pv z = 16 ^ (8 - z)) := pv_pos (by omega) (by omega)
                  have hstep : Hid (st (8 - z) o kk = st (8 - (z + 1)) o kk + if o.map (· / 16 ^ (8 - z)) = some (kk / 16 ^ (8 - z)) then 0 else 1) := by
                    unfold Hid
                    rw [show 8 - z = (8 - (z + 1)) + 1 from by omega]
                    rfl
                  rcases hpr with ⟨hj00, rfl⟩ | ⟨m, pk, hjm, rfl, hpk, c2⟩
                  · exact absurd hj00 hjz
                  · have hj00 : ((j : Int) == 0) = false := by simp; omega
                    have hm0 : (0 : Int) ≤ (m : Int) := by omega
                    have hms : wrap64 ((j : Int) - 1) = (m : Int) := by unfold wrap64; omega
                    have hmi : IntKind.i64.wrap ((j : Int) - 1) = (m : Int) := by rw [IntKind.wrap_i64]; omega
                    have hml : (m : Int) < L.length := by omega
                    obtain ⟨pz, hpz⟩ : ∃ pz, Pv z = pz := ⟨_, rfl⟩
                    have hpz' : Hid (pz = 16 ^ (8 - z)) := by unfold Hid; rw [← hpz]; exact hP.out
                    have hpos : (pz : Int) ≠ 0 := by
                      have : 0 < 16 ^ (8 - z) := Nat.pow_pos (by decide)
                      have := hpz'.out
                      omega
                    have hposb : ((pz : Int) == 0) = false := by simpa using hpos
                    rw [hpz]
                    have q1 : ((pk : Int) / (pz : Int) % 4294967296) = ((pk / pz : Nat) : Int) := by
                      rw [← Int.natCast_ediv]
                      have hd := Nat.div_le_self pk pz
                      generalize pk / pz = t at *
                      omega
                    have q2 : ((kk : Int) / (pz : Int) % 4294967296) = ((kk / pz : Nat) : Int) := by
                      rw [← Int.natCast_ediv]
                      have hd := Nat.div_le_self kk pz
                      generalize kk / pz = t at *
                      omega
                    clear hpz hP hjm
                    by_cases hE : pk / pz = kk / pz
                    · have hne : (((pk : Int) / (pz : Int) % 4294967296) != ((kk : Int) / (pz : Int) % 4294967296)) = false := by
                        rw [q1, q2, hE]
                        simp
                      have hst2 : Hid (st (8 - z) (some pk) kk = st (8 - (z + 1)) (some pk) kk) := by
                        unfold Hid
                        rw [hstep.out, if_pos (by simp only [Option.map_some]; rw [← hpz'.out, hE])]
                        omega
                      clear q1 q2 hstep hE
                      go_wp2_with fail
                      go_quiet (fail)
                      go_wp2
                      go_roundw
                      case rel => exact ⟨z + 1, d, by omega, by go_num, rfl, by have h1 := hd'.out; have h2 := hst2.out; omega, below_step hX (below_drewN (Below.refl _ _) nq)⟩
                      case measure => simp [intOf]; omega
                    · have hne : (((pk : Int) / (pz : Int) % 4294967296) != ((kk : Int) / (pz : Int) % 4294967296)) = true := by
                        rw [q1, q2]
                        simp
                        omega
                      have hst2 : Hid (st (8 - z) (some pk) kk = st (8 - (z + 1)) (some pk) kk + 1) := by
                        unfold Hid
                        rw [hstep.out, if_neg (by simp only [Option.map_some]; rw [← hpz'.out]; exact fun e => hE (Option.some.inj e))]
                      clear q1 q2 hstep hE
                      go_wp2_with fail
                      go_quiet (fail)
                      go_wp2
                      go_roundw
                      case rel => exact ⟨z + 1, d + 1, by omega, by go_num, by go_num, by have h1 := hd'.out; have h2 := hst2.out; omega, below_step hX (below_drewN (Below.refl _ _) nq)⟩
                      case measure => simp [intOf]; omega
          · have hq8' : ¬ (q : Int) < 8 := by omega
            obtain rfl : q = 8 := by omega
            have hd' : Hid (d = c + st 8 o kk) := hd
            clear hd
            go_wp2_with fail
            go_roundw
            case rel => exact ⟨j + 1, d, by omega, by go_num, rfl, by rw [hc2.out]; exact hd'.out, by have := hd'.out; omega, below_step hB hX⟩
            case measure => simp [intOf]; omega
    · have hlt' : ¬ (j : Int) < L.length := by omega
      have hF : Hid (nds 8 none L = c) := by
        unfold Hid
        rw [hc, List.take_of_length_le (by omega)]
      clear hc
      go_wp2
      go_ret
      exact ⟨by rw [hF.out]; rfl, hB⟩

end Go.Proofs.YtpmfgffhkklfeaaDoor

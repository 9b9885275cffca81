import Derived.Test.YtpmfgffhkklfeaaDoorTShO
import Derived.Test.YtpmfgffhkklfeaaDoorTShR
import Derived.Test.YtpmfgffhkklfeaaDoorTDiff
import Derived.Test.YtpmfgffhkklfeaaDoorTDifM2
import Derived.Deep.RegionHeld3
import Derived.Deep.DeepCutAuto
import Derived.Deep.CutBlock
import Derived.Deep.QuietTactic
import Derived.BigQuiet
namespace Go.Proofs.YtpmfgffhkklfeaaDoor
open Go.RowKit

/-- Every key that is there was put. -/
theorem scr_keys : ∀ (L : List (Nat × (Int × (Int × Bool)))) (E : List (Nat × (Int × Int))) (e : Nat × (Int × Int)), e ∈ scr E L → e ∈ E ∨ ∃ p ∈ L, p.1 = e.1
  | [], E, e, h => .inl h
  | p :: L, E, e, h => by
    have h' : e ∈ scr (stepL E p.1 (p.2.1, p.2.2.1) p.2.2.2) L := h
    rcases scr_keys L _ e h' with h1 | ⟨q, hq, hk⟩
    · unfold stepL at h1
      split at h1
      · exact .inl (List.mem_filter.1 h1).1
      · rcases mem_ins.1 h1 with rfl | ⟨-, h2⟩
        · exact .inr ⟨p, by simp, rfl⟩
        · exact .inl h2
    · exact .inr ⟨q, by simp [hq], hk⟩
theorem dif_keys {a b : Tr} (ha : a.wf 7) (hb : b.wf 7) {L : List (Nat × (Int × (Int × Bool)))} {i j : Nat} (ea : a.ents 7 0 = scr [] (L.take i)) (eb : b.ents 7 0 = scr [] (L.take j)) {c : Ch} (hc : c ∈ a.dif b 7 0) : ∃ p ∈ L, p.1 = c.1 := by
  obtain ⟨r, hr, hne, rfl⟩ := mem_dif.1 hc
  have hr' : r < 4294967296 := by simpa using hr
  show ∃ p ∈ L, p.1 = 0 + r
  rw [Nat.zero_add]
  have key : ∀ {t : Tr} {v : Int × Int} {k : Nat}, t.wf 7 → t.ents 7 0 = scr [] (L.take k) → t.get 7 r = some v → ∃ p ∈ L, p.1 = r := fun {t v k} hw he hg => by
    have hm := (mem_of_get hw hr').2 hg
    rw [he] at hm
    rcases scr_keys _ _ _ hm with h | ⟨p, hp, hk⟩
    · cases h
    · exact ⟨p, List.mem_of_mem_take hp, hk⟩
  cases ga : a.get 7 r with
  | some v => exact key ha ea ga
  | none =>
    cases gb : b.get 7 r with
    | some v => exact key hb eb gb
    | none => exact absurd (ga.trans gb.symm) hne

def fndP (L : List (Nat × (Int × (Int × Bool)))) (id j : Nat) : Bool := (L.take j).any fun e => e.1 == id
theorem fndP_succ {L : List (Nat × (Int × (Int × Bool)))} {id j : Nat} (h : j < L.length) : fndP L id (j + 1) = (fndP L id j || (L[j].1 == id)) := by
  unfold fndP
  rw [List.take_succ_eq_append_getElem h, List.any_append]
  simp
theorem fndP_all {L : List (Nat × (Int × (Int × Bool)))} {id : Nat} (h : ∃ p ∈ L, p.1 = id) : fndP L id L.length = true := by
  unfold fndP
  rw [List.take_length, List.any_eq_true]
  obtain ⟨p, hp, hk⟩ := h
  exact ⟨p, hp, by simp [hk]⟩

theorem chs_id {X : World} {a : Option Addr} {n c : Nat} {D : List Ch} (h : ChsAt X (.slice a n c) D) (k : Nat) (hk : k < D.length) : ∃ g off, a = some ⟨g, off, none⟩ ∧ g < X.heap.size ∧ X.cell? ⟨g, off + k * 7, none⟩ = some (.int .u32 (D[k].1 : Int)) := by
  obtain ⟨a', c', h1, h2⟩ := h
  obtain ⟨rfl, -, -⟩ := Value.slice.inj h1
  rcases h2 with h2 | ⟨g, off, rfl, hg, h3⟩
  · rw [h2] at hk; simp at hk
  · exact ⟨g, off, rfl, hg, h3 k hk 0 _ rfl⟩

set_option maxRecDepth 8000 in
set_option maxHeartbeats 2000000 in
theorem grows_walk (vl : Value) (L : List (Nat × (Int × (Int × Bool)))) (n : Int) (w : World) (hL0 : PutsAt w vl L ∧ L.length ≤ 9223372036854775807) (hn : -9223372036854775808 ≤ n ∧ n ≤ 9223372036854775807) :
    Calls Tryd.prog 4 #[vl, .int .i64 n] w fun e w' => e = .returned (.bool true) ∧ Below w.heap.size w w' := by
  obtain ⟨hL, hlen⟩ := hL0
  have hmade := made_frs vl L n w hL
  obtain ⟨aa, ca, rfl, hda⟩ := hL
  go_enter Tryd.func4, Tryd.ntmps4
  go_upto_if 33 with (first | (go_at_call 5; refine hmade.mono ?_; rintro e w1 ⟨mb, t, ab, ta, rfl, hM1, hE1, hA1, hEa1, hF1, hb1⟩; have hE1' : Hid _ := hE1; have hEa1' : Hid _ := hEa1; have hF1' : Hid _ := hF1; clear hE1 hEa1 hF1) | (go_at_call 6; refine (known_true _).mono ?_; rintro e w2 ⟨rfl, hb2⟩))
  go_cut [7] (fun v wx => v = .int .i64 ((min L.length 200 : Nat) : Int) ∧ wx = w2)
  case first =>
    by_cases h2 : 200 < L.length
    · have h2' : (200 : Int) < L.length := by omega
      go_wp2_with fail
      go_meet
      exact ⟨by rw [Nat.min_eq_right (by omega)]; rfl, rfl⟩
    · have h2' : ¬ (200 : Int) < L.length := by omega
      go_wp2_with fail
      go_meet
      exact ⟨by rw [Nat.min_eq_left (by omega)], rfl⟩
  case rest =>
    obtain ⟨rfl, rfl⟩ := hcut
    have hkk : min L.length 200 ≤ 200 := Nat.min_le_right _ _
    have hat := atN_le n (min L.length 200)
    have hatd : atN n (min L.length 200) = if 1 ≤ n ∧ n ≤ ((min L.length 200 : Nat) : Int) then n.toNat else 0 := rfl
    generalize min L.length 200 = kk at *
    obtain ⟨K, hK⟩ : ∃ K, kk - atN n kk = K := ⟨_, rfl⟩
    rw [hK] at hF1'
    generalize atN n kk = na at *
    go_upto_region 7 with fail
    go_cut [40] (fun v wx => v = .bool (decide (1 ≤ n ∧ n ≤ (kk : Int))) ∧ wx = wc)
    case first =>
      by_cases g1 : 1 ≤ n
      · by_cases g2 : n ≤ (kk : Int)
        · go_wp2_with fail
          go_meet
          exact ⟨by rw [decide_eq_true (by omega)], rfl⟩
        · go_wp2_with fail
          go_meet
          exact ⟨by rw [decide_eq_false (by omega)], rfl⟩
      · go_wp2_with fail
        go_meet
        exact ⟨by rw [decide_eq_false (by omega)], rfl⟩
    case rest =>
      obtain ⟨rfl, rfl⟩ := hcut
      go_upto_if 40 with fail
      go_cut [7] (fun v wx => v = .int .i64 (K : Int) ∧ wx = wc)
      case first =>
        by_cases g : 1 ≤ n ∧ n ≤ (kk : Int)
        · rw [if_pos g] at hatd
          have hd1 : decide (1 ≤ n ∧ n ≤ (kk : Int)) = true := decide_eq_true g
          have hsub : (kk : Int) - n = (K : Int) := by omega
          rw [hd1]
          clear hd1 hK hat hatd
          go_wp2_with fail
          go_meet
          exact ⟨by first | rfl | rw [hsub], rfl⟩
        · rw [if_neg g] at hatd
          have hd1 : decide (1 ≤ n ∧ n ≤ (kk : Int)) = false := decide_eq_false g
          have hKk : Hid (K = kk) := by unfold Hid; omega
          rw [hd1]
          clear hd1 hK hat hatd
          go_wp2_with fail
          go_meet
          exact ⟨by rw [hKk.out], rfl⟩
      case rest =>
        obtain ⟨rfl, rfl⟩ := hcut
        have hK200 : K ≤ 200 := by omega
        have hM2 := hM1.later hb2
        have hA2 := hA1.later hb2
        have hB2 := below_step hb1 hb2
        obtain ⟨D, hD⟩ : ∃ D, ta.dif t 7 0 = D := ⟨_, rfl⟩
        have hD' : Hid (ta.dif t 7 0 = D) := hD
        have hDl : D.length ≤ 5000 := by
          have h1 := dif_len hA2.2.2.2.2 hM2.2.2.2.2 0
          rw [hD] at h1
          have h2 := scr_len [] (L.take 200)
          have h3 := scr_len [] (L.take na)
          have h4 : (L.take 200).length ≤ 200 := by rw [List.length_take]; omega
          have h5 : (L.take na).length ≤ 200 := by rw [List.length_take]; omega
          rw [hE1'.out, hEa1'.out] at h1
          simp only [List.length_nil] at h2 h3
          omega
        have hkeys : Hid (∀ i (h : i < D.length), ∃ p ∈ L, p.1 = D[i].1) := by
          unfold Hid
          intro i h
          refine dif_keys hA2.2.2.2.2 hM2.2.2.2.2 hEa1'.out hE1'.out (c := D[i]) ?_
          rw [hD'.out]
          exact List.getElem_mem h
        have hids : ∀ i (h : i < D.length), D[i].1 < 4294967296 := fun i h => by
          obtain ⟨r, hr, -, hc⟩ := mem_dif.1 (by rw [hD'.out]; exact List.getElem_mem h : D[i] ∈ ta.dif t 7 0)
          have hr' : r < 4294967296 := by simpa using hr
          rw [hc]
          show 0 + r < _
          omega
        have hsh := mshared_any ab mb ta t wc hA2 hM2
        have hfr := hF1'.out
        obtain ⟨sm, hsm⟩ : ∃ z : Int, z = (t.sme ta : Int) := ⟨_, rfl⟩
        obtain ⟨fr, hfr2⟩ : ∃ z : Int, z = (t.frs ta : Int) := ⟨_, rfl⟩
        rw [← hsm, ← hfr2] at hsh
        have hle : ¬ 8 * (K : Int) < fr := by omega
        clear hsm hfr hfr2 hD hK hat hatd hF1' hM1 hA1 hmade hb2
        have hch := fun W h1 h2 => changes_any ab mb ta t D hD'.out hDl W h1 h2
        clear hD'
        go_upto_if 53 with (first | (go_at_call 9; refine hsh.mono ?_; rintro e w3 ⟨rfl, hb3⟩; have hA3 := hA2.later hb3; have hM3 := hM2.later hb3; have hB3 := below_step hB2 hb3))
        go_upto_region 12 with fail
        go_upto_block 0 with (first | (go_at_call 13; refine (hch _ hA3 hM3).mono ?_; rintro e w4 ⟨da, dc, rfl, hC4, hb4⟩; have hB4 := below_step hB3 hb4))
        clear hsh hle hA2 hM2 hA3 hM3 hb3 hb4
        have hda4 : L = [] ∨ ∃ g off, aa = some ⟨g, off, none⟩ ∧ g < w4.heap.size ∧ ∀ i (h : i < L.length), w4.cell? ⟨g, off + i * 4, none⟩ = some (.int .u32 (L[i].1 : Int)) := by
          rcases hda with h | ⟨g, off, h1, h2, h3⟩
          · exact .inl h
          · exact .inr ⟨g, off, h1, Nat.lt_of_lt_of_le h2 hB4.size, fun i hi => (hB4.cell (p := ⟨g, off + i * 4, none⟩) h2).trans (h3 i hi).2.1⟩
        clear hda hch
        go_wp2_with fail
        go_loopw [11] (fun i wr => ∃ a : Nat, a ≤ D.length ∧ i = .int .i64 a ∧ Below w4.heap.size w4 wr) (fun i _ => D.length - (intOf i).toNat)
        case atStart => exact ⟨0, by omega, rfl, Below.refl _ _⟩
        case round =>
          obtain ⟨a, ha, rfl, hB⟩ := hrel
          by_cases hlt : a < D.length
          · have hlt' : (a : Int) < D.length := by omega
            have ha0 : (0 : Int) ≤ (a : Int) := by omega
            obtain ⟨g, off, rfl, hg, q0⟩ := chs_id hC4 a hlt
            have q0 := (hB.cell (p := ⟨g, off + a * 7, none⟩) hg).trans q0
            have hg := Nat.lt_of_lt_of_le hg hB.size
            have hfa : Hid (fndP L D[a].1 L.length = true) := fndP_all (hkeys.out a hlt)
            have hid := hids a hlt
            obtain ⟨id, he⟩ : ∃ z, D[a].1 = z := ⟨_, rfl⟩
            rw [he] at q0 hfa hid
            clear he
            obtain ⟨W0, hW0⟩ : ∃ z, z = wr := ⟨_, rfl⟩
            subst hW0
            go_wp2_with fail
            go_loopw [12, 13] (fun f i X => ∃ n : Nat, n ≤ L.length ∧ i = .int .i64 n ∧ f = .bool (fndP L id n) ∧ Below W0.heap.size W0 X) (fun _ i _ => L.length - (intOf i).toNat)
            case atStart => exact ⟨0, by omega, rfl, by simp [fndP], Below.refl _ _⟩
            case round =>
              obtain ⟨n, hn', rfl, rfl, hBn⟩ := hrel
              by_cases hnl : n < L.length
              · have hnl' : (n : Int) < L.length := by omega
                have hn0 : (0 : Int) ≤ (n : Int) := by omega
                rcases hda4 with h0 | ⟨qg, qo, rfl, hqg, hcs⟩
                · rw [h0] at hnl; simp at hnl
                have a0 := ((below_step hB hBn).cell (p := ⟨qg, qo + n * 4, none⟩) hqg).trans (hcs n hnl)
                have q0 := (hBn.cell (p := ⟨g, off + a * 7, none⟩) hg).trans q0
                have hHs : Hid (fndP L id (n + 1) = (fndP L id n || (L[n].1 == id))) := fndP_succ hnl
                obtain ⟨eid, heid⟩ : ∃ z, L[n].1 = z := ⟨_, rfl⟩
                rw [heid] at a0 hHs
                clear heid hcs
                generalize fndP L id n = fb at *
                cases fb with
                | true =>
                  go_wp2_with fail
                  go_quiet (fail)
                  go_wp2
                  go_roundw
                  case rel => exact ⟨n + 1, by omega, by go_num, by rw [hHs.out]; rfl, below_step hBn (below_drewN (Below.refl _ _) nq)⟩
                  case measure => simp [intOf]; omega
                | false =>
                  by_cases hei : eid = id
                  · have hee : ((eid : Int) == (id : Int)) = true := by rw [hei]; simp
                    have hHt : Hid (fndP L id (n + 1) = true) := by unfold Hid; rw [hHs.out, hei]; simp
                    clear hei hHs
                    go_wp2_with fail
                    go_quiet (fail)
                    go_wp2
                    go_roundw
                    case rel => exact ⟨n + 1, by omega, by go_num, by rw [hHt.out], below_step hBn (below_drewN (Below.refl _ _) nq)⟩
                    case measure => simp [intOf]; omega
                  · have hee : ((eid : Int) == (id : Int)) = false := by simp; omega
                    have hHt : Hid (fndP L id (n + 1) = false) := by unfold Hid; rw [hHs.out]; simp [hei]
                    clear hei hHs
                    go_wp2_with fail
                    go_quiet (fail)
                    go_wp2
                    go_roundw
                    case rel => exact ⟨n + 1, by omega, by go_num, by rw [hHt.out], below_step hBn (below_drewN (Below.refl _ _) nq)⟩
                    case measure => simp [intOf]; omega
              · have hnl' : ¬ (n : Int) < L.length := by omega
                obtain rfl : n = L.length := by omega
                rw [hfa.out]
                clear hfa
                go_wp2_with fail
                go_roundw
                case rel => exact ⟨a + 1, by omega, by go_num, below_step hB hBn⟩
                case measure => simp [intOf]; omega
          · have hlt' : ¬ (a : Int) < D.length := by omega
            go_wp2_with fail
            go_ret
            exact ⟨rfl, below_step hB4 hB⟩

end Go.Proofs.YtpmfgffhkklfeaaDoor

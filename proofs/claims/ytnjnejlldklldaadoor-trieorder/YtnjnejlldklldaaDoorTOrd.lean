import Derived.Test.YtnjnejlldklldaaDoorTOrdM
import Derived.Test.YtnjnejlldklldaaDoorTDifM2
import Derived.Test.YtnjnejlldklldaaDoorTSameE
import Derived.Deep.RegionHeld3
import Derived.Deep.DeepCutAuto
import Derived.Deep.CutBlock
import Derived.Deep.QuietTactic
import Derived.BigQuiet
namespace Go.Proofs.YtnjnejlldklldaaDoor
open Go.RowKit

theorem own_capO {w : World} {base n size c : Nat} {e : TypeId} {a : Option Addr} {xs : List Value} (h : w.ownsRow base e size (.slice a n c) n xs) : n ≤ c := by
  obtain ⟨-, h | ⟨g, cap, cur, hv, -, -, hc, -⟩⟩ := h
  · obtain ⟨-, rfl, -⟩ := Value.slice.inj h.1
    exact Nat.zero_le _
  · obtain ⟨-, -, rfl⟩ := Value.slice.inj hv
    exact hc
theorem laid_ents (vl : Value) (L : List (Nat × (Int × Int))) (hR : Rises L) (hl : L.length ≤ 1000000) (id : Nat) (x y : Int) (w : World) (h : EntsAt w vl L) :
    Calls Tryd.prog 15 #[vl, .agg #[.int .u32 (id : Int), .int .i64 x, .int .i64 y, .bool false]] w fun e w' => ∃ a c, e = .returned (.slice a (ins L id (x, y)).length c) ∧ EntsAt w' (.slice a (ins L id (x, y)).length c) (ins L id (x, y)) ∧ (ins L id (x, y)).length ≤ c ∧ Below w.heap.size w w' := by
  refine (laid_any vl L hR hl id x y false w h).mono ?_
  rintro e w' ⟨ev, rfl, hown, hb⟩
  have e1 : stepL L id (x, y) false = ins L id (x, y) := by unfold stepL; simp
  rw [e1] at hown
  obtain ⟨a, c, rfl, hd⟩ := ents_of_own hown
  exact ⟨a, c, rfl, ⟨a, c, rfl, hd⟩, own_capO hown, hb⟩
theorem ents_cellsO {X : World} {a : Option Addr} {n c : Nat} {L : List (Nat × (Int × Int))} (h : EntsAt X (.slice a n c) L) (k : Nat) (hk : k < L.length) : ∃ g off, a = some ⟨g, off, none⟩ ∧ g < X.heap.size ∧ X.cell? ⟨g, off + k * 3, none⟩ = some (.int .u32 (L[k].1 : Int)) ∧ X.cell? ⟨g, off + k * 3 + 1, none⟩ = some (.int .i64 L[k].2.1) ∧ X.cell? ⟨g, off + k * 3 + 2, none⟩ = some (.int .i64 L[k].2.2) := by
  obtain ⟨a', c', h1, h2⟩ := h
  obtain ⟨rfl, -, -⟩ := Value.slice.inj h1
  rcases h2 with h2 | ⟨g, off, rfl, hg, h3⟩
  · rw [h2] at hk; simp at hk
  · exact ⟨g, off, rfl, hg, h3 k hk⟩

def slLen : Value → Nat
  | .slice _ n _ => n
  | _ => 0
theorem flat3_app (A B : List (Nat × (Int × Int))) : flat3 (A ++ B) = flat3 A ++ flat3 B := by simp [flat3]
theorem flat3_one (L : List (Nat × (Int × Int))) : ∀ u ∈ flat3 L, u.oneCell' = true := by
  intro u hu
  obtain ⟨e, -, he⟩ := List.mem_flatMap.1 hu
  simp at he
  rcases he with rfl | rfl | rfl <;> rfl
theorem flat3_cells {W : World} {g off : Nat} : ∀ (L : List (Nat × (Int × Int))) (o : Nat), (∀ i (h : i < L.length), W.cell? ⟨g, off + (o + i) * 3, none⟩ = some (.int .u32 (L[i].1 : Int)) ∧ W.cell? ⟨g, off + (o + i) * 3 + 1, none⟩ = some (.int .i64 L[i].2.1) ∧ W.cell? ⟨g, off + (o + i) * 3 + 2, none⟩ = some (.int .i64 L[i].2.2)) → ∀ j u, (flat3 L)[j]? = some u → W.cell? ⟨g, off + o * 3 + j, none⟩ = some u
  | [], o, _, j, u, h => by simp [flat3] at h
  | e :: L, o, hc, j, u, h => by
    have h0 := hc 0 (by simp)
    have ih := flat3_cells L (o + 1) (fun i hi => by
      have := hc (i + 1) (by simpa using hi)
      rw [show o + (i + 1) = o + 1 + i from by omega] at this
      simpa using this)
    have e1 : flat3 (e :: L) = .int .u32 (e.1 : Int) :: .int .i64 e.2.1 :: .int .i64 e.2.2 :: flat3 L := by simp [flat3]
    rw [e1] at h
    simp only [List.getElem_cons_zero, Nat.add_zero] at h0
    match j, h with
    | 0, h => simp at h; rw [← h]; exact h0.1
    | 1, h => simp at h; rw [← h]; exact h0.2.1
    | 2, h => simp at h; rw [← h]; exact h0.2.2
    | j + 3, h =>
      have := ih j u (by simpa using h)
      rw [show off + (o + 1) * 3 + j = off + o * 3 + (j + 3) from by omega] at this
      exact this

def fndO (L : List (Nat × (Int × Int))) (id j : Nat) : Bool := (L.take j).any fun e => e.1 == id
theorem fndO_succ {L : List (Nat × (Int × Int))} {id j : Nat} (h : j < L.length) : fndO L id (j + 1) = (fndO L id j || (L[j].1 == id)) := by
  unfold fndO
  rw [List.take_succ_eq_append_getElem h, List.any_append]
  simp
theorem fndO_all (L : List (Nat × (Int × Int))) (id : Nat) : fndO L id L.length = true ↔ ∃ o ∈ L, o.1 = id := by
  unfold fndO
  rw [List.take_length, List.any_eq_true]
  simp
theorem list_entsO (mb : Nat) (t : Tr) (E : List (Nat × (Int × Int))) (hE : t.ents 7 0 = E) (hl : E.length ≤ 5000) (w : World) (h : MapT w mb t) : Calls Tryd.prog 13 #[.pointer (some ⟨mb, 0, none⟩), .int .i64 (-1)] w fun e w' => ∃ a c, e = .returned (.slice a E.length c) ∧ EntsAt w' (.slice a E.length c) E ∧ Below w.heap.size w w' := by
  subst hE
  refine (list_all mb t hl w h).mono ?_
  rintro e w' ⟨ev, rfl, hown, hb⟩
  obtain ⟨a, c, rfl, hd⟩ := ents_of_own hown
  exact ⟨a, c, rfl, ⟨a, c, rfl, hd⟩, hb⟩
theorem add_at (g off j : Nat) : (⟨g, off, none⟩ : Addr).add j = ⟨g, off + j, none⟩ := by simp [Addr.add]
set_option maxRecDepth 8000 in
set_option maxHeartbeats 2000000 in
theorem order_walk (vl : Value) (L : List (Nat × (Int × (Int × Bool)))) (vo : Value) (O : List Int) (vn : Value) (M : List (Nat × (Int × (Int × Bool)))) (w : World) (hL : PutsAt w vl L) (hO : NumsAt w vo O) (hM : PutsAt w vn M) :
    Calls Tryd.prog 4 #[vl, vo, vn] w fun e w' => e = .returned (.bool true) ∧ Below w.heap.size w w' := by
  obtain ⟨aa, ca, rfl, hda⟩ := hL
  obtain ⟨ob, oc, rfl, hdo⟩ := hO
  obtain ⟨an, cn, rfl, hdn⟩ := hM
  go_enter Tryd.func4, Tryd.ntmps4
  go_upto_block 0 with (first | (go_at_call 8; refine (known_true _).mono ?_; rintro e w1 ⟨rfl, hb1⟩))
  go_cut [7] (fun v wx => ∃ (own : List (Nat × (Int × Int))) (oa : Option Addr) (oc : Nat), v = .slice oa own.length oc ∧ EntsAt wx (.slice oa own.length oc) own ∧ Rises own ∧ own.length ≤ 60 ∧ (∀ e ∈ own, e.1 < 4294967296) ∧ own.length ≤ oc ∧ Below w1.heap.size w1 wx)
  case first =>
    go_wp2_with fail
    go_loopw [7, 8] (fun v i wr => ∃ (j : Nat) (own : List (Nat × (Int × Int))) (oa : Option Addr) (oc : Nat), j ≤ 60 ∧ j ≤ L.length ∧ i = .int .i64 j ∧ v = .slice oa own.length oc ∧ EntsAt wr (.slice oa own.length oc) own ∧ Rises own ∧ own.length ≤ j ∧ (∀ e ∈ own, e.1 < 4294967296) ∧ own.length ≤ oc ∧ Below w1.heap.size w1 wr) (fun _ i _ => L.length - (intOf i).toNat)
    case atStart => exact ⟨0, [], none, 0, by omega, by omega, rfl, rfl, ⟨none, 0, rfl, .inl rfl⟩, List.Pairwise.nil, by simp, fun e he => (by cases he), by simp, Below.refl _ _⟩
    case round =>
      obtain ⟨j, own, oa, oc', hj60, hj, rfl, rfl, hE, hR, hlen, hkeys, hcap0, hB⟩ := hrel
      by_cases hlt : j < L.length ∧ j < 60
      · obtain ⟨hlt, h60⟩ := hlt
        have hlt' : (j : Int) < L.length := by omega
        have h60' : (j : Int) < 60 := by omega
        have hj0 : (0 : Int) ≤ (j : Int) := by omega
        rcases hda with h0 | ⟨ga, oo, rfl, hga, hca⟩
        · rw [h0] at hlt; simp at hlt
        obtain ⟨hid, q0, q1, q2, -⟩ := hca j hlt
        obtain ⟨⟨id, x, y, gone⟩, he⟩ : ∃ e, L[j] = e := ⟨_, rfl⟩
        rw [he] at hid q0 q1 q2
        simp only at hid q0 q1 q2
        have hmk : ∀ X, Below wr.heap.size wr X → X.cell? ⟨ga, oo + j * 4, none⟩ = some (.int .u32 (id : Int)) ∧ X.cell? ⟨ga, oo + j * 4 + 1, none⟩ = some (.int .i64 x) ∧ X.cell? ⟨ga, oo + j * 4 + 2, none⟩ = some (.int .i64 y) := fun X hX => by
          have hXw := below_step (below_step hb1 hB) hX
          exact ⟨(hXw.cell (p := ⟨ga, _, none⟩) hga).trans q0, (hXw.cell (p := ⟨ga, _, none⟩) hga).trans q1, (hXw.cell (p := ⟨ga, _, none⟩) hga).trans q2⟩
        have hBd := (Below.refl wr.heap.size wr).drew
        have hS := hmk _ hBd
        have hla := laid_ents (.slice oa own.length oc') own hR (by omega) id x y wr.drew (hE.later hBd)
        have hR2 := rises_ins hR id (x, y)
        have hl2 := ins_len own id (x, y)
        have hk2 : ∀ e ∈ ins own id (x, y), e.1 < 4294967296 := fun e he => by
          rcases mem_ins.1 he with rfl | ⟨-, h⟩
          · exact hid
          · exact hkeys e h
        clear hca he q0 q1 q2
        go_wp2_with fail
        go_region_held3 (fun X => X.cell? ⟨ga, oo + j * 4, none⟩ = some (.int .u32 (id : Int)) ∧ X.cell? ⟨ga, oo + j * 4 + 1, none⟩ = some (.int .i64 x) ∧ X.cell? ⟨ga, oo + j * 4 + 2, none⟩ = some (.int .i64 y)) (with_reducible assumption)
          (first | (go_at_call 15; refine hla.mono ?_; rintro e w5 ⟨na, nc, rfl, hE5, hc5, hb5⟩; have hS5 := hmk _ (below_step hBd hb5)))
        have hBn := below_step (below_step hB hBd) hb5
        clear hmk hS hS5 hla hBd hb5
        go_wp2
        go_roundw
        case rel => exact ⟨j + 1, ins own id (x, y), na, nc, by omega, by omega, by go_num, rfl, hE5, hR2, by omega, hk2, hc5, hBn⟩
        case measure => simp [intOf]; omega
      · have hx : ¬ (j : Int) < L.length ∨ ((j : Int) < L.length ∧ ¬ (j : Int) < 60) := by omega
        rcases hx with hx | ⟨hx, hx2⟩
        all_goals
          go_wp2_with fail
          go_meet
          exact ⟨own, oa, oc', rfl, hE, hR, by omega, hkeys, hcap0, hB⟩
  case rest =>
    obtain ⟨own, oa, oc', rfl, hE, hR, hlen, hkeys, hcap0, hB⟩ := hcut
    obtain ⟨wA, hwA⟩ : ∃ z, z = wc := ⟨_, rfl⟩
    subst hwA
    have hBwA := below_step hb1 hB
    clear hB hb1 hda
    go_upto_block 2 with (go_at_call 16; refine (empty_any _).mono ?_; rintro e w2 ⟨rfl, hM2, hb2⟩)
    go_cut [9] (fun v wx => ∃ (ma : Nat) (ta : Tr), v = .pointer (some ⟨ma, 0, none⟩) ∧ MapT wx ma ta ∧ ta.ents 7 0 = own ∧ Below wA.heap.size wA wx)
    case first =>
      go_wp2_with fail
      go_loopw [9, 10] (fun v i wr => ∃ (j ma : Nat) (ta : Tr), j ≤ own.length ∧ i = .int .i64 j ∧ v = .pointer (some ⟨ma, 0, none⟩) ∧ MapT wr ma ta ∧ ta.ents 7 0 = own.take j ∧ Below wA.heap.size wA wr) (fun _ i _ => own.length - (intOf i).toNat)
      case atStart => exact ⟨0, _, .nil, by omega, rfl, rfl, hM2, rfl, hb2⟩
      case round =>
        obtain ⟨j, ma, ta, hj, rfl, rfl, hMa, hEa, hB⟩ := hrel
        clear hM2 hb2
        have hEa' : Hid (ta.ents 7 0 = own.take j) := hEa
        clear hEa
        by_cases hlt : j < own.length
        · have hlt' : (j : Int) < own.length := by omega
          have hj0 : (0 : Int) ≤ (j : Int) := by omega
          obtain ⟨g, off, rfl, hg, q0, q1, q2⟩ := ents_cellsO hE j hlt
          have hid := hkeys _ (List.getElem_mem hlt)
          have hti : Hid (ins (own.take j) own[j].1 own[j].2 = own.take (j + 1)) := take_ins hR hlt
          obtain ⟨⟨id, x, y⟩, he⟩ : ∃ e, own[j] = e := ⟨_, rfl⟩
          rw [he] at hid q0 q1 q2 hti
          simp only at hid q0 q1 q2 hti
          have hmk : ∀ X, Below wr.heap.size wr X → X.cell? ⟨g, off + j * 3, none⟩ = some (.int .u32 (id : Int)) ∧ X.cell? ⟨g, off + j * 3 + 1, none⟩ = some (.int .i64 x) ∧ X.cell? ⟨g, off + j * 3 + 2, none⟩ = some (.int .i64 y) := fun X hX => by
            have hXw := below_step hB hX
            exact ⟨(hXw.cell (p := ⟨g, _, none⟩) hg).trans q0, (hXw.cell (p := ⟨g, _, none⟩) hg).trans q1, (hXw.cell (p := ⟨g, _, none⟩) hg).trans q2⟩
          have hBd := (Below.refl wr.heap.size wr).drew
          have hS := hmk _ hBd
          have hpu := mput_any ma id hid (x, y) ta wr.drew (hMa.later hBd)
          clear he q0 q1 q2
          go_wp2_with fail
          go_region_held3 (fun X => X.cell? ⟨g, off + j * 3, none⟩ = some (.int .u32 (id : Int)) ∧ X.cell? ⟨g, off + j * 3 + 1, none⟩ = some (.int .i64 x) ∧ X.cell? ⟨g, off + j * 3 + 2, none⟩ = some (.int .i64 y)) (with_reducible assumption)
            (first | (go_at_call 17; refine hpu.mono ?_; rintro e w5 ⟨mb5, t5, rfl, hM5, hE5, hb5⟩; have hS5 := hmk _ (below_step hBd hb5)))
          have hBn := below_step (below_step hB hBd) hb5
          have hE6 : Hid (t5.ents 7 0 = own.take (j + 1)) := by
            unfold Hid
            rw [hE5, hEa'.out, hti.out]
          clear hmk hS hS5 hpu hBd hb5 hE5
          go_wp2
          go_roundw
          case rel => exact ⟨j + 1, mb5, t5, by omega, by go_num, rfl, hM5, hE6.out, hBn⟩
          case measure => simp [intOf]; omega
        · have hlt' : ¬ (j : Int) < own.length := by omega
          have hF : Hid (ta.ents 7 0 = own) := by
            unfold Hid
            rw [hEa'.out, List.take_of_length_le (by omega)]
          clear hEa'
          go_wp2_with fail
          go_meet
          exact ⟨ma, ta, rfl, hMa, hF.out, hB⟩
    case rest =>
      obtain ⟨ma, ta, rfl, hMa, hEa, hB⟩ := hcut
      obtain ⟨wB, hwB⟩ : ∃ z, z = wc := ⟨_, rfl⟩
      subst hwB
      have hEB := hE.later hB
      have hBwB := below_step hBwA hB
      have hEa' : Hid (ta.ents 7 0 = own) := hEa
      clear hB hE hEa hBwA hM2 hb2
      go_upto_block 4 with (go_at_call 16; refine (empty_any _).mono ?_; rintro e w3 ⟨rfl, hM3, hb3⟩)
      go_cut [11] (fun v wx => ∃ (mb : Nat) (tb : Tr), v = .pointer (some ⟨mb, 0, none⟩) ∧ MapT wx mb tb ∧ tb.ents 7 0 = putL [] (M.take 40) ∧ Below wB.heap.size wB wx)
      case first =>
        go_wp2_with fail
        go_loopw [11, 12] (fun v i wr => ∃ (j mb : Nat) (tb : Tr), j ≤ 40 ∧ j ≤ M.length ∧ i = .int .i64 j ∧ v = .pointer (some ⟨mb, 0, none⟩) ∧ MapT wr mb tb ∧ tb.ents 7 0 = putL [] (M.take j) ∧ Below wB.heap.size wB wr) (fun _ i _ => M.length - (intOf i).toNat)
        case atStart => exact ⟨0, _, .nil, by omega, by omega, rfl, rfl, hM3, rfl, hb3⟩
        case round =>
          obtain ⟨j, mb, tb, hj40, hj, rfl, rfl, hMb, hEb, hB⟩ := hrel
          clear hM3 hb3
          have hEb' : Hid (tb.ents 7 0 = putL [] (M.take j)) := hEb
          clear hEb
          by_cases hlt : j < M.length ∧ j < 40
          · obtain ⟨hlt, h40⟩ := hlt
            have hlt' : (j : Int) < M.length := by omega
            have h40' : (j : Int) < 40 := by omega
            have hj0 : (0 : Int) ≤ (j : Int) := by omega
            rcases hdn with h0 | ⟨gn, on, rfl, hgn, hcn⟩
            · rw [h0] at hlt; simp at hlt
            obtain ⟨hid, q0, q1, q2, -⟩ := hcn j hlt
            have hts : Hid (putL [] (M.take (j + 1)) = ins (putL [] (M.take j)) M[j].1 (M[j].2.1, M[j].2.2.1)) := by
              unfold Hid
              rw [take_step hlt, putL_snoc]
            obtain ⟨⟨id, x, y, gone⟩, he⟩ : ∃ e, M[j] = e := ⟨_, rfl⟩
            rw [he] at hid q0 q1 q2 hts
            simp only at hid q0 q1 q2 hts
            have hmk : ∀ X, Below wr.heap.size wr X → X.cell? ⟨gn, on + j * 4, none⟩ = some (.int .u32 (id : Int)) ∧ X.cell? ⟨gn, on + j * 4 + 1, none⟩ = some (.int .i64 x) ∧ X.cell? ⟨gn, on + j * 4 + 2, none⟩ = some (.int .i64 y) := fun X hX => by
              have hXw := below_step (below_step hBwB hB) hX
              exact ⟨(hXw.cell (p := ⟨gn, _, none⟩) hgn).trans q0, (hXw.cell (p := ⟨gn, _, none⟩) hgn).trans q1, (hXw.cell (p := ⟨gn, _, none⟩) hgn).trans q2⟩
            have hBd := (Below.refl wr.heap.size wr).drew
            have hS := hmk _ hBd
            have hpu := mput_any mb id hid (x, y) tb wr.drew (hMb.later hBd)
            clear he q0 q1 q2 hcn
            go_wp2_with fail
            go_region_held3 (fun X => X.cell? ⟨gn, on + j * 4, none⟩ = some (.int .u32 (id : Int)) ∧ X.cell? ⟨gn, on + j * 4 + 1, none⟩ = some (.int .i64 x) ∧ X.cell? ⟨gn, on + j * 4 + 2, none⟩ = some (.int .i64 y)) (with_reducible assumption)
              (first | (go_at_call 17; refine hpu.mono ?_; rintro e w5 ⟨mb5, t5, rfl, hM5, hE5, hb5⟩; have hS5 := hmk _ (below_step hBd hb5)))
            have hBn := below_step (below_step hB hBd) hb5
            have hE6 : Hid (t5.ents 7 0 = putL [] (M.take (j + 1))) := by
              unfold Hid
              rw [hE5, hEb'.out, hts.out]
            clear hmk hS hS5 hpu hBd hb5 hE5
            go_wp2
            go_roundw
            case rel => exact ⟨j + 1, mb5, t5, by omega, by omega, by go_num, rfl, hM5, hE6.out, hBn⟩
            case measure => simp [intOf]; omega
          · have hx : ¬ (j : Int) < M.length ∨ ((j : Int) < M.length ∧ ¬ (j : Int) < 40) := by omega
            have hF : Hid (tb.ents 7 0 = putL [] (M.take 40)) := by
              unfold Hid
              rw [hEb'.out]
              by_cases h : j = 40
              · rw [h]
              · rw [List.take_of_length_le (by omega), List.take_of_length_le (by omega)]
            clear hEb' hlt
            rcases hx with hx | ⟨hx, hx2⟩
            all_goals
              go_wp2_with fail
              go_meet
              exact ⟨mb, tb, rfl, hMb, hF.out, hB⟩
      case rest =>
        obtain ⟨mb, tb, rfl, hMb, hEb, hB⟩ := hcut
        obtain ⟨wC, hwC⟩ : ∃ z, z = wc := ⟨_, rfl⟩
        subst hwC
        obtain ⟨E3, hE3⟩ : ∃ E, putL [] (M.take 40) = E := ⟨_, rfl⟩
        rw [hE3] at hEb
        have hEC := hEB.later hB
        have hMaC := hMa.later hB
        have hBwC := below_step hBwB hB
        clear hB hEB hMa hBwB hM3 hb3
        go_upto_block 6 with fail
        have hEb' : Hid (tb.ents 7 0 = E3) := hEb
        have hE3' : Hid (putL [] (M.take 40) = E3) := hE3
        clear hEb hE3
        obtain ⟨i0, hi, hz0, hz1, hz2⟩ := info_parts infoE
        have hcapO : own.length ≤ oc' := hcap0
        go_cut [11] (fun v wx => ∃ (mb : Nat) (tb : Tr), v = .pointer (some ⟨mb, 0, none⟩) ∧ MapT wx mb tb ∧ Over own [] E3 (tb.ents 7 0) ∧ Below wC.heap.size wC wx)
        case first =>
          go_wp2_with fail
          go_loopw [11, 13, 14] (fun v lf i wr => ∃ (nn mb : Nat) (tb : Tr) (F : List (Nat × (Int × Int))) (fa : Option Addr) (fc : Nat), i = .int .i64 nn ∧ v = .pointer (some ⟨mb, 0, none⟩) ∧ lf = .slice fa F.length fc ∧ F.length ≤ fc ∧ EntsAt wr (.slice fa F.length fc) F ∧ F.Sublist own ∧ MapT wr mb tb ∧ Over own F E3 (tb.ents 7 0) ∧ nn + F.length = own.length ∧ Below wC.heap.size wC wr) (fun _ lf _ _ => slLen lf)
          case atStart => exact ⟨0, mb, tb, own, oa, oc', rfl, rfl, rfl, hcapO, hEC, List.Sublist.refl _, hMb, by rw [hEb'.out]; exact over_start own E3, by omega, Below.refl _ _⟩
          case round =>
            obtain ⟨nn, mb1, tb1, F, fa, fc, rfl, rfl, rfl, hfc, hF, hSub, hM1, hOv, hnn, hB⟩ := hrel
            have hOv' : Hid (Over own F E3 (tb1.ents 7 0)) := hOv
            have hNn : Hid (nn + F.length = own.length) := hnn
            have hn60 : nn ≤ 60 := by omega
            have hF60 : F.length ≤ 60 := by omega
            clear hOv hnn hMb hEb'
            by_cases hpos : 0 < F.length
            · have hpos' : (0 : Int) < (F.length : Int) := by omega
              have hne0 : ¬ (F.length : Int) = 0 := by omega
              obtain ⟨g, off, rfl, hg, hcells⟩ : ∃ g off, fa = some ⟨g, off, none⟩ ∧ g < wr.heap.size ∧ ∀ i (h : i < F.length), wr.cell? ⟨g, off + i * 3, none⟩ = some (.int .u32 (F[i].1 : Int)) ∧ wr.cell? ⟨g, off + i * 3 + 1, none⟩ = some (.int .i64 F[i].2.1) ∧ wr.cell? ⟨g, off + i * 3 + 2, none⟩ = some (.int .i64 F[i].2.2) := by
                obtain ⟨a', c', h1, h2⟩ := hF
                obtain ⟨rfl, -, -⟩ := Value.slice.inj h1
                rcases h2 with h2 | h2
                · rw [h2] at hpos; simp at hpos
                · exact h2
              go_upto_if 109 with fail
              go_cut [15] (fun v wx => ∃ i : Nat, i < F.length ∧ v = .int .i64 i ∧ wx = wr)
              case first =>
                by_cases hno : nn < O.length
                · have hno' : (nn : Int) < O.length := by omega
                  have hn0 : (0 : Int) ≤ (nn : Int) := by omega
                  rcases hdo with h0 | ⟨go', oo', rfl, hgo, hco⟩
                  · rw [h0] at hno; simp at hno
                  have cz := ((below_step hBwC hB).cell (p := ⟨go', oo' + nn, none⟩) hgo).trans (hco nn hno)
                  generalize O[nn] = z at cz
                  have ht1 := Int.tmod_lt_of_pos z hpos'
                  have ht2 : -(F.length : Int) < z.tmod (F.length : Int) := by
                    have := Int.lt_tmod_of_pos z hpos'
                    exact this
                  clear hco
                  go_wp2_with fail
                  go_meet
                  obtain ⟨X, hX⟩ : ∃ X, X = (z.tmod (F.length : Int) + (F.length : Int)) % (F.length : Int) := ⟨_, rfl⟩
                  have e0 : 0 ≤ X := by rw [hX]; exact Int.emod_nonneg _ (by omega)
                  have e1 : X < F.length := by rw [hX]; exact Int.emod_lt_of_pos _ hpos'
                  rw [← hX]
                  exact ⟨X.toNat, by omega, by rw [Int.toNat_of_nonneg e0], rfl⟩
                · have hno' : ¬ (nn : Int) < O.length := by omega
                  go_wp2_with fail
                  go_meet
                  exact ⟨0, hpos, rfl, rfl⟩
              case rest =>
                obtain ⟨i, hi1, rfl, rfl⟩ := hcut
                have hi1' : (i : Int) < F.length := by omega
                have hi0 : (0 : Int) ≤ (i : Int) := by omega
                obtain ⟨q0, q1, q2⟩ := hcells i hi1
                have hid : F[i].1 < 4294967296 := hkeys _ (hSub.subset (List.getElem_mem hi1))
                have hOv2 : Hid (Over own (F.take i ++ F.drop (i + 1)) E3 (ins (tb1.ents 7 0) F[i].1 F[i].2)) := over_step hR hSub hOv'.out hi1
                have hSub2 := over_sub hSub i
                obtain ⟨⟨id, x, y⟩, he⟩ : ∃ e, F[i] = e := ⟨_, rfl⟩
                rw [he] at hid q0 q1 q2 hOv2
                simp only at hid q0 q1 q2 hOv2
                have hmk : ∀ X, Below wc.heap.size wc X → X.cell? ⟨g, off + i * 3, none⟩ = some (.int .u32 (id : Int)) ∧ X.cell? ⟨g, off + i * 3 + 1, none⟩ = some (.int .i64 x) ∧ X.cell? ⟨g, off + i * 3 + 2, none⟩ = some (.int .i64 y) := fun X hX =>
                  ⟨(hX.cell (p := ⟨g, _, none⟩) hg).trans q0, (hX.cell (p := ⟨g, _, none⟩) hg).trans q1, (hX.cell (p := ⟨g, _, none⟩) hg).trans q2⟩
                have hBd := (Below.refl wc.heap.size wc).drew
                have hS := hmk _ hBd
                have hpu := mput_any mb1 id hid (x, y) tb1 wc.drew (hM1.later hBd)
                clear he q0 q1 q2 hOv'
                go_wp2_with fail
                go_region_held3 (fun X => X.cell? ⟨g, off + i * 3, none⟩ = some (.int .u32 (id : Int)) ∧ X.cell? ⟨g, off + i * 3 + 1, none⟩ = some (.int .i64 x) ∧ X.cell? ⟨g, off + i * 3 + 2, none⟩ = some (.int .i64 y)) (with_reducible assumption)
                  (first | (go_at_call 17; refine hpu.mono ?_; rintro e w5 ⟨mb5, t5, rfl, hM5, hE5, hb5⟩; have hS5 := hmk _ (below_step hBd hb5)))
                have hB5 := below_step hBd hb5
                have hBn := below_step hB hB5
                have hc5 : ∀ k (h : k < F.length), w5.cell? ⟨g, off + k * 3, none⟩ = some (.int .u32 (F[k].1 : Int)) ∧ w5.cell? ⟨g, off + k * 3 + 1, none⟩ = some (.int .i64 F[k].2.1) ∧ w5.cell? ⟨g, off + k * 3 + 2, none⟩ = some (.int .i64 F[k].2.2) := fun k h =>
                  ⟨(hB5.cell (p := ⟨g, _, none⟩) hg).trans (hcells k h).1, (hB5.cell (p := ⟨g, _, none⟩) hg).trans (hcells k h).2.1, (hB5.cell (p := ⟨g, _, none⟩) hg).trans (hcells k h).2.2⟩
                have hE6 : Hid (Over own (F.take i ++ F.drop (i + 1)) E3 (t5.ents 7 0)) := by
                  unfold Hid
                  rw [hE5]
                  exact hOv2.out
                have hn1 : ∀ j u, (flat3 (F.take i))[j]? = some u → w5.cell? ⟨g, off + j, none⟩ = some u := fun j u hj => by
                  have := flat3_cells (W := w5) (g := g) (off := off) (F.take i) 0 (fun k hk => by
                    have hk' : k < F.length := by simp at hk; omega
                    have := hc5 k hk'
                    rw [Nat.zero_add, List.getElem_take]
                    exact this) j u hj
                  simpa using this
                clear hmk hS hS5 hpu hBd hb5 hE5 hOv2 hcells hM1 hB hF
                have hl1 : (flat3 (F.take i)).length = i * 3 := by rw [flat3_len, List.length_take, Nat.min_eq_left (by omega)]
                have hic : (i : Int) ≤ (fc : Int) := by omega
                have hic1 : (i : Int) + 1 ≤ (fc : Int) := by omega
                have hil1 : (i : Int) + 1 ≤ (F.length : Int) := by omega
                have hfc' : (F.length : Int) ≤ (fc : Int) := by omega
                have hn1' : ∀ j u, (flat3 (F.take i))[j]? = some u → w5.cell? (Addr.add ⟨g, off, none⟩ j) = some u := fun j u hj => by rw [add_at]; exact hn1 j u hj
                have hg5 : g < w5.heap.size := Nat.lt_of_lt_of_le hg hB5.size
                go_upto_region 28 with (at_builtin; refine wpList_append_own _ rfl _ _ 38 rfl w5.heap.size 47 i0 _ 3 24 Tryd.underlying38 hi hz0 hz1 hz2 rfl (by decide) (.slice none 0 0) 0 [] rfl (World.ownsRow_nil _ _ _ _) ⟨g, off, none⟩ i fc (flat3 (F.take i)) rfl hl1 hn1' (flat3_one _) (by unfold maxLen; omega) (by omega) (Nat.le_refl _) ?_; intro v6 w6 hown6 hgrow6 _)
                have hb6 := (Below.refl w5.heap.size w5).grown hgrow6 (Nat.le_refl _) (by simp [Value.ownBlock])
                rw [Nat.zero_add, List.nil_append] at hown6
                have hn2 : ∀ j u, (flat3 (F.drop (i + 1)))[j]? = some u → w6.cell? ⟨g, off + (i + 1) * 3 + j, none⟩ = some u := fun j u hj =>
                  flat3_cells (W := w6) (g := g) (off := off) (F.drop (i + 1)) (i + 1) (fun k hk => by
                    have hk' : i + 1 + k < F.length := by simp at hk; omega
                    have := hc5 (i + 1 + k) hk'
                    rw [List.getElem_drop]
                    exact ⟨(hb6.cell (p := ⟨g, _, none⟩) hg5).trans this.1, (hb6.cell (p := ⟨g, _, none⟩) hg5).trans this.2.1, (hb6.cell (p := ⟨g, _, none⟩) hg5).trans this.2.2⟩) j u hj
                have hl2 : (flat3 (F.drop (i + 1))).length = (F.length - (i + 1)) * 3 := by rw [flat3_len, List.length_drop]
                have hn2' : ∀ j u, (flat3 (F.drop (i + 1)))[j]? = some u → w6.cell? (Addr.add ⟨g, off + (i + 1) * 3, none⟩ j) = some u := fun j u hj => by rw [add_at]; exact hn2 j u hj
                clear hn1 hn1' hn2 hc5 hl1 hgrow6
                have hlen2 : i + (F.length - (i + 1)) = (F.take i ++ F.drop (i + 1)).length := by
                  rw [List.length_append, List.length_take, List.length_drop, Nat.min_eq_left (by omega)]
                have hnn7 : nn + 1 + (F.take i ++ F.drop (i + 1)).length = own.length := by
                  have := hNn.out
                  rw [← hlen2]
                  omega
                have hlt7 : (F.take i ++ F.drop (i + 1)).length < F.length := by
                  rw [← hlen2]
                  omega
                by_cases hfe : fc = i + 1
                · have hem : F.drop (i + 1) = [] := List.drop_of_length_le (by omega)
                  have hn3 : ∀ j u, (flat3 (F.drop (i + 1)))[j]? = some u → w6.cell? (Addr.add ⟨g, off, none⟩ j) = some u := fun j u hj => by
                    rw [hem] at hj
                    simp [flat3] at hj
                  clear hn2' hem
                  go_upto_region 29 with (at_builtin; refine wpList_append_own _ rfl _ _ 38 rfl w5.heap.size 47 i0 _ 3 24 Tryd.underlying38 hi hz0 hz1 hz2 rfl (by decide) v6 i (flat3 (F.take i)) rfl hown6 _ _ _ (flat3 (F.drop (i + 1))) rfl hl2 hn3 (flat3_one _) (by unfold maxLen; omega) (by omega) hb6.size ?_; intro v7 w7 hown7 hgrow7 _)
                  have hb7 := hb6.grown hgrow7 hb6.size (fun k hk => (hown6.lt k hk).1)
                  rw [← flat3_app, hlen2] at hown7
                  obtain ⟨a7, c7, rfl, hd7⟩ := ents_of_own hown7
                  have hcp := own_capO hown7
                  have hM7 := hM5.later hb7
                  have hB7 := below_step hBn hb7
                  clear hgrow7 hown6 hb6 hown7 hb7 hM5 hBn
                  go_wp2_with fail
                  go_roundw
                  case rel => exact ⟨nn + 1, mb5, t5, F.take i ++ F.drop (i + 1), a7, c7, by go_num, rfl, rfl, hcp, ⟨a7, c7, rfl, hd7⟩, hSub2, hM7, hE6.out, hnn7, hB7⟩
                  case measure => first | exact hlt7 | simpa [slLen] using hlt7
                · go_upto_region 29 with (at_builtin; refine wpList_append_own _ rfl _ _ 38 rfl w5.heap.size 47 i0 _ 3 24 Tryd.underlying38 hi hz0 hz1 hz2 rfl (by decide) v6 i (flat3 (F.take i)) rfl hown6 _ _ _ (flat3 (F.drop (i + 1))) rfl hl2 hn2' (flat3_one _) (by unfold maxLen; omega) (by omega) hb6.size ?_; intro v7 w7 hown7 hgrow7 _)
                  have hb7 := hb6.grown hgrow7 hb6.size (fun k hk => (hown6.lt k hk).1)
                  rw [← flat3_app, hlen2] at hown7
                  obtain ⟨a7, c7, rfl, hd7⟩ := ents_of_own hown7
                  have hcp := own_capO hown7
                  have hM7 := hM5.later hb7
                  have hB7 := below_step hBn hb7
                  clear hgrow7 hown6 hb6 hown7 hb7 hM5 hBn
                  go_wp2_with fail
                  go_roundw
                  case rel => exact ⟨nn + 1, mb5, t5, F.take i ++ F.drop (i + 1), a7, c7, by go_num, rfl, rfl, hcp, ⟨a7, c7, rfl, hd7⟩, hSub2, hM7, hE6.out, hnn7, hB7⟩
                  case measure => first | exact hlt7 | simpa [slLen] using hlt7
            · obtain rfl : F = [] := List.eq_nil_of_length_eq_zero (by omega)
              go_wp2_with fail
              go_meet
              exact ⟨mb1, tb1, rfl, hM1, hOv'.out, hB⟩
        case rest =>
          obtain ⟨mb2, tb2, rfl, hM2, hOv, hB⟩ := hcut
          obtain ⟨wD, hwD⟩ : ∃ z, z = wc := ⟨_, rfl⟩
          subst hwD
          have hED := hEC.later hB
          have hMaD := hMaC.later hB
          have hBwD := below_step hBwC hB
          have hG0 : Hid (Gone own E3 (tb2.ents 7 0) []) := gone_start hOv
          clear hB hEC hMaC hBwC hMb hEb' hOv hdo hcapO
          go_upto_block 8 with fail
          go_cut [11] (fun v wx => ∃ (mb : Nat) (tb : Tr), v = .pointer (some ⟨mb, 0, none⟩) ∧ MapT wx mb tb ∧ Gone own E3 (tb.ents 7 0) ((M.take 40).map (·.1)) ∧ Below wD.heap.size wD wx)
          case first =>
            go_wp2_with fail
            go_loopw [11, 17] (fun v i wr => ∃ (j mb : Nat) (tb : Tr), j ≤ 40 ∧ j ≤ M.length ∧ i = .int .i64 j ∧ v = .pointer (some ⟨mb, 0, none⟩) ∧ MapT wr mb tb ∧ Gone own E3 (tb.ents 7 0) ((M.take j).map (·.1)) ∧ Below wD.heap.size wD wr) (fun _ i _ => M.length - (intOf i).toNat)
            case atStart => exact ⟨0, mb2, tb2, by omega, by omega, rfl, rfl, hM2, hG0.out, Below.refl _ _⟩
            case round =>
              obtain ⟨j, mb1, tb1, hj40, hj, rfl, rfl, hM1, hGo, hB⟩ := hrel
              have hGo' : Hid (Gone own E3 (tb1.ents 7 0) ((M.take j).map (·.1))) := hGo
              clear hGo hG0 hM2
              by_cases hlt : j < M.length ∧ j < 40
              · obtain ⟨hlt, h40⟩ := hlt
                have hlt' : (j : Int) < M.length := by omega
                have h40' : (j : Int) < 40 := by omega
                have hj0 : (0 : Int) ≤ (j : Int) := by omega
                rcases hdn with h0 | ⟨gn, on, rfl, hgn, hcn⟩
                · rw [h0] at hlt; simp at hlt
                obtain ⟨hid, q0, -, -, -⟩ := hcn j hlt
                have hts : Hid ((M.take (j + 1)).map (·.1) = (M.take j).map (·.1) ++ [M[j].1]) := by
                  unfold Hid
                  rw [take_step hlt, List.map_append]
                  rfl
                obtain ⟨id, he⟩ : ∃ z, M[j].1 = z := ⟨_, rfl⟩
                rw [he] at hid q0 hts
                clear he
                have q0 := ((below_step hBwD hB).cell (p := ⟨gn, on + j * 4, none⟩) hgn).trans q0
                have hEr := hED.later hB
                clear hcn
                go_upto_block 10 with fail
                go_cut [18] (fun v wx => v = .bool (fndO own id own.length) ∧ Below wr.heap.size wr wx)
                case first =>
                  go_wp2_with fail
                  go_loopw [18, 19] (fun f i X => ∃ n : Nat, n ≤ own.length ∧ i = .int .i64 n ∧ f = .bool (fndO own id n) ∧ Below wr.heap.size wr X) (fun _ i _ => own.length - (intOf i).toNat)
                  case atStart => exact ⟨0, by omega, rfl, by simp [fndO], Below.refl _ _⟩
                  case round =>
                    obtain ⟨n, hn, rfl, rfl, hBn⟩ := hrel
                    by_cases hnl : n < own.length
                    · have hnl' : (n : Int) < own.length := by omega
                      have hn0 : (0 : Int) ≤ (n : Int) := by omega
                      obtain ⟨qg, qo, rfl, hqg, a0, -, -⟩ := ents_cellsO hEr n hnl
                      have a0 := (hBn.cell (p := ⟨qg, qo + n * 3, none⟩) hqg).trans a0
                      have q0 := (hBn.cell (p := ⟨gn, on + j * 4, none⟩) (World.block_lt_of_cell? _ _ q0)).trans q0
                      have hHs : Hid (fndO own id (n + 1) = (fndO own id n || (own[n].1 == id))) := fndO_succ hnl
                      obtain ⟨eid, heid⟩ : ∃ z, own[n].1 = z := ⟨_, rfl⟩
                      rw [heid] at a0 hHs
                      clear heid
                      generalize fndO own id n = fb at *
                      cases fb with
                      | true =>
                        go_wp2_with fail
                        go_quiet (fail)
                        go_wp2
                        go_roundw
                        case rel => exact ⟨n + 1, by omega, by go_num, by rw [hHs.out]; rfl, below_step hBn (below_drewN (Below.refl _ _) nq)⟩
                        case measure => simp [intOf]; omega
                      | false =>
                        by_cases hei : eid = id
                        · have hee : ((eid : Int) == (id : Int)) = true := by rw [hei]; simp
                          go_wp2_with fail
                          go_quiet (fail)
                          go_wp2
                          go_roundw
                          case rel => exact ⟨n + 1, by omega, by go_num, by rw [hHs.out, hei]; simp, below_step hBn (below_drewN (Below.refl _ _) nq)⟩
                          case measure => simp [intOf]; omega
                        · have hee : ((eid : Int) == (id : Int)) = false := by simp; omega
                          go_wp2_with fail
                          go_quiet (fail)
                          go_wp2
                          go_roundw
                          case rel => exact ⟨n + 1, by omega, by go_num, by rw [hHs.out]; simp [hei], below_step hBn (below_drewN (Below.refl _ _) nq)⟩
                          case measure => simp [intOf]; omega
                    · have hnl' : ¬ (n : Int) < own.length := by omega
                      obtain rfl : n = own.length := by omega
                      go_wp2_with fail
                      go_meet
                      exact ⟨rfl, hBn⟩
                case rest =>
                  obtain ⟨rfl, hBn⟩ := hcut
                  have q0 := (hBn.cell (p := ⟨gn, on + j * 4, none⟩) (World.block_lt_of_cell? _ _ q0)).trans q0
                  have hfo : Hid (fndO own id own.length = true ↔ ∃ o ∈ own, o.1 = id) := fndO_all own id
                  have hMc := hM1.later hBn
                  have hBc := below_step hB hBn
                  clear hM1 hB hBn hEr
                  obtain ⟨fb, hfb⟩ : ∃ b, fndO own id own.length = b := ⟨_, rfl⟩
                  rw [hfb] at hfo ⊢
                  clear hfb
                  cases fb with
                  | true =>
                    have hGn : Hid (Gone own E3 (tb1.ents 7 0) ((M.take (j + 1)).map (·.1))) := by
                      unfold Hid
                      rw [hts.out]
                      exact gone_keep hGo'.out (hfo.out.1 rfl)
                    clear hfo hts hGo'
                    go_wp2_with fail
                    go_roundw
                    case rel => exact ⟨j + 1, mb1, tb1, by omega, by omega, by go_num, rfl, hMc, hGn.out, hBc⟩
                    case measure => simp [intOf]; omega
                  | false =>
                    have hno : ∀ o ∈ own, o.1 ≠ id := fun o ho e => by
                      have := hfo.out.2 ⟨o, ho, e⟩
                      cases this
                    have hGn : Hid (Gone own E3 (del (tb1.ents 7 0) id) ((M.take (j + 1)).map (·.1))) := by
                      unfold Hid
                      rw [hts.out]
                      exact gone_drop hGo'.out hno
                    have hdr := mdrop_any mb1 id hid tb1 wc.drew (hMc.later (Below.refl wc.heap.size wc).drew)
                    have hdr0 := mdrop_any mb1 id hid tb1 wc hMc
                    have hBd := (Below.refl wc.heap.size wc).drew
                    clear hfo hts hGo' hno
                    go_wp2_with (first | (go_at_call 18; refine hdr0.mono ?_; rintro e w5 ⟨mb5, t5, rfl, hM5, hE5, hb5⟩; have hBn := below_step hBc hb5) | (go_at_call 18; refine hdr.mono ?_; rintro e w5 ⟨mb5, t5, rfl, hM5, hE5, hb5⟩; have hBn := below_step (below_step hBc hBd) hb5))
                    have hE6 : Hid (Gone own E3 (t5.ents 7 0) ((M.take (j + 1)).map (·.1))) := by
                      unfold Hid
                      rw [hE5]
                      exact hGn.out
                    clear hE5 hGn
                    go_roundw
                    case rel => exact ⟨j + 1, mb5, t5, by omega, by omega, by go_num, rfl, hM5, hE6.out, hBn⟩
                    case measure => simp [intOf]; omega
              · have hx : ¬ (j : Int) < M.length ∨ ((j : Int) < M.length ∧ ¬ (j : Int) < 40) := by omega
                have hF : Hid (Gone own E3 (tb1.ents 7 0) ((M.take 40).map (·.1))) := by
                  unfold Hid
                  have h1 := hGo'.out
                  by_cases h : j = 40
                  · rw [h] at h1; exact h1
                  · rw [List.take_of_length_le (by omega)] at h1
                    rw [List.take_of_length_le (by omega)]
                    exact h1
                clear hGo' hlt
                rcases hx with hx | ⟨hx, hx2⟩
                all_goals
                  go_wp2_with fail
                  go_meet
                  exact ⟨mb1, tb1, rfl, hM1, hF.out, hB⟩
          case rest =>
            obtain ⟨mb3, tb3, rfl, hM3, hGo, hB⟩ := hcut
            have hwb := hM3.2.2.2.2
            have hwa := hMaD.2.2.2.2
            have hEb3 : tb3.ents 7 0 = own := gone_all hR (ents_rises 7 hwb 0) hGo (fun e he => by
              rw [← hE3'.out] at he
              rcases putL_keys [] _ e he with h | ⟨p, hp, hk⟩
              · cases h
              · rw [← hk]; exact List.mem_map_of_mem hp)
            have hMa3 := hMaD.later hB
            have hE3w := hED.later hB
            have hBw := below_step hBwD hB
            have hc3 := changes_any ma mb3 ta tb3 [] ((dif_nil_iff hwa hwb).2 (by rw [hEa'.out, hEb3])) (by simp) wc hMa3 hM3
            rw [show (([] : List Ch)).length = 0 from rfl] at hc3
            have hla : ∀ w, MapT w ma ta → _ := fun w h => list_entsO ma ta own hEa'.out (by omega) w h
            have hlb : ∀ w, MapT w mb3 tb3 → _ := fun w h => list_entsO mb3 tb3 own hEb3 (by omega) w h
            clear hGo hB hG0 hM2 hMaD hED hBwD hwb hwa
            go_wp2_with (first | (go_at_call 19; refine hc3.mono ?_; rintro e w1 ⟨ca1, cc1, rfl, -, hb1⟩; have hMa1 := hMa3.later hb1; have hMb1 := hM3.later hb1; have hEw1 := hE3w.later hb1) | (go_at_call_of 13 (Value.pointer (some (⟨ma, 0, none⟩ : Addr))); refine (hla _ hMa1).mono ?_; rintro e w2 ⟨la, lc, rfl, hL2, hb2⟩; have hMb2 := hMb1.later hb2; have hEw2 := hEw1.later hb2) | (go_at_call_of 13 (Value.pointer (some (⟨mb3, 0, none⟩ : Addr))); refine (hlb _ hMb3).mono ?_; rintro e w4 ⟨ka, kc, rfl, hL4, hb4⟩; have hEw4 := hEw3.later hb4) | (go_at_call_of 20 (Value.slice la own.length lc); refine (same_entries _ _ own (by omega) _ hL2 hEw2).mono ?_; rintro e w3 ⟨rfl, hb3⟩; have hMb3 := hMb2.later hb3; have hEw3 := hEw2.later hb3) | (go_at_call 20; refine (same_entries _ _ own (by omega) _ hL4 hEw4).mono ?_; rintro e w5 ⟨rfl, hb5⟩))
            go_ret
            exact ⟨rfl, below_step (below_step (below_step (below_step (below_step hBw hb1) hb2) hb3) hb4) hb5⟩

end Go.Proofs.YtnjnejlldklldaaDoor

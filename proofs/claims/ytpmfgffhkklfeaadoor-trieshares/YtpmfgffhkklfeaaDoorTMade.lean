import Derived.Test.YtpmfgffhkklfeaaDoorTVer2
namespace Go.Proofs.YtpmfgffhkklfeaaDoor
open Go.RowKit

/-- What a script of puts and drops makes of a list of entries. -/
def scr (E : List (Nat × (Int × Int))) (L : List (Nat × (Int × (Int × Bool)))) : List (Nat × (Int × Int)) := L.foldl (fun E p => stepL E p.1 (p.2.1, p.2.2.1) p.2.2.2) E
theorem scr_snoc (E : List (Nat × (Int × Int))) (L : List (Nat × (Int × (Int × Bool)))) (p : Nat × (Int × (Int × Bool))) : scr E (L ++ [p]) = stepL (scr E L) p.1 (p.2.1, p.2.2.1) p.2.2.2 := by simp [scr]
theorem stepL_len (E : List (Nat × (Int × Int))) (id : Nat) (v : Int × Int) (gone : Bool) : (stepL E id v gone).length ≤ E.length + 1 := by
  have h1 := length_ins E id v
  have h2 := length_del E id
  unfold stepL
  split <;> omega
theorem scr_len (E : List (Nat × (Int × Int))) : ∀ (L : List (Nat × (Int × (Int × Bool)))), (scr E L).length ≤ E.length + L.length
  | [] => by simp [scr]
  | p :: L => by
    have h := scr_len (stepL E p.1 (p.2.1, p.2.2.1) p.2.2.2) L
    have h1 := stepL_len E p.1 (p.2.1, p.2.2.1) p.2.2.2
    show (scr (stepL E p.1 (p.2.1, p.2.2.1) p.2.2.2) L).length ≤ _
    rw [List.length_cons]
    omega
theorem take_step {α : Type} {L : List α} {j : Nat} (h : j < L.length) : L.take (j + 1) = L.take j ++ [L[j]] := List.take_succ_eq_append_getElem h

/-- The place that made hands out as the second. -/
def atN (n : Int) (k : Nat) : Nat := if 1 ≤ n ∧ n ≤ k then n.toNat else 0

/-- What made answers. -/
def MadeP (w : World) (L : List (Nat × (Int × (Int × Bool)))) (n : Int) (e : Ending) (w' : World) : Prop := ∃ (mb : Nat) (t : Tr) (ab : Nat) (ta : Tr), e = .returned (.tuple #[.pointer (some ⟨mb, 0, none⟩), .pointer (some ⟨ab, 0, none⟩)]) ∧ MapT w' mb t ∧ t.ents 7 0 = scr [] (L.take 200) ∧ MapT w' ab ta ∧ ta.ents 7 0 = scr [] (L.take (atN n (min L.length 200))) ∧ Below w.heap.size w w'

set_option maxRecDepth 4000 in
set_option maxHeartbeats 1000000 in
theorem made_any (vl : Value) (L : List (Nat × (Int × (Int × Bool)))) (n : Int) (w : World) (hL : PutsAt w vl L) :
    Calls Tryd.prog 5 #[vl, .int .i64 n] w (MadeP w L n) := by
  obtain ⟨aa, ca, rfl, hda⟩ := hL
  go_enter Tryd.func5, Tryd.ntmps5
  go_wp2_with (first | (go_at_call 14; refine (empty_any _).mono ?_; rintro e w1 ⟨rfl, hM1, hB1⟩))
  go_loopw [6, 7, 8] (fun m at_ i wr => ∃ (j mb ab : Nat) (t ta : Tr), j ≤ 200 ∧ j ≤ L.length ∧ i = .int .i64 j ∧ m = .pointer (some ⟨mb, 0, none⟩) ∧ at_ = .pointer (some ⟨ab, 0, none⟩) ∧ MapT wr mb t ∧ t.ents 7 0 = scr [] (L.take j) ∧ MapT wr ab ta ∧ ta.ents 7 0 = scr [] (L.take (atN n j)) ∧ Below w.heap.size w wr) (fun _ _ i _ => L.length - (intOf i).toNat)
  case atStart => exact ⟨0, _, _, .nil, .nil, by omega, by omega, rfl, rfl, rfl, hM1, rfl, hM1, by rw [show atN n 0 = 0 from by unfold atN; rw [if_neg (by omega)]]; rfl, hB1⟩
  case round =>
    obtain ⟨j, mb, ab, t, ta, hj200, hj, rfl, rfl, rfl, hM, hE, hA, hEa, hB⟩ := hrel
    clear hM1 hB1
    by_cases hlt : j < L.length ∧ j < 200
    · obtain ⟨hlt, h200⟩ := hlt
      have hlt' : (j : Int) < L.length := by omega
      have h200' : (j : Int) < 200 := by omega
      have hj0 : (0 : Int) ≤ (j : Int) := by omega
      rcases hda with h0 | ⟨ga, oa, rfl, hga, hca⟩
      · rw [h0] at hlt; simp at hlt
      obtain ⟨hid, q0, q1, q2, q3⟩ := hca j hlt
      have hts : scr [] (L.take (j + 1)) = stepL (scr [] (L.take j)) L[j].1 (L[j].2.1, L[j].2.2.1) L[j].2.2.2 := by rw [take_step hlt, scr_snoc]
      clear hca
      obtain ⟨e, he⟩ : ∃ e, L[j] = e := ⟨_, rfl⟩
      rw [he] at hid q0 q1 q2 q3 hts
      obtain ⟨id, x, y, gone⟩ := e
      simp only at hid q0 q1 q2 q3 hts
      have hTs : Hid (scr [] (L.take (j + 1)) = stepL (scr [] (L.take j)) id (x, y) gone) := hts
      have hE' : Hid (t.ents 7 0 = scr [] (L.take j)) := hE
      have hEa' : Hid (ta.ents 7 0 = scr [] (L.take (atN n j))) := hEa
      clear he hts hE hEa
      have c0 := (hB.cell (p := ⟨ga, oa + j * 4, none⟩) hga).trans q0
      have c1 := (hB.cell (p := ⟨ga, oa + j * 4 + 1, none⟩) hga).trans q1
      have c2 := (hB.cell (p := ⟨ga, oa + j * 4 + 2, none⟩) hga).trans q2
      have c3 := (hB.cell (p := ⟨ga, oa + j * 4 + 3, none⟩) hga).trans q3
      by_cases hn : (j : Int) + 1 = n
      · have hnb : ((j : Int) + 1 == n) = true := by simpa using hn
        have hat : atN n (j + 1) = j + 1 := by unfold atN; rw [if_pos (by omega)]; omega
        have hAt : Hid (atN n (j + 1) = j + 1) := hat
        clear hn hat
        go_wp2_with (first | (go_at_call 8; refine (one_any mb id hid x y gone t _ hM).mono ?_; rintro e w2 ⟨mb', t', rfl, hM2, hE2, hB2⟩))
        go_roundw
        case rel => exact ⟨j + 1, mb', mb', t', t', by omega, by omega, by go_num, rfl, rfl, hM2, by rw [hE2, hE'.out, hTs.out], hM2, by rw [hAt.out, hE2, hE'.out, hTs.out], below_step hB hB2⟩
        case measure => simp [intOf]; omega
      · have hnb : ((j : Int) + 1 == n) = false := by simpa using hn
        have hat : atN n (j + 1) = atN n j := by unfold atN; split <;> split <;> omega
        have hAt : Hid (atN n (j + 1) = atN n j) := hat
        clear hn hat
        go_wp2_with (first | (go_at_call 8; refine (one_any mb id hid x y gone t _ hM).mono ?_; rintro e w2 ⟨mb', t', rfl, hM2, hE2, hB2⟩))
        go_roundw
        case rel => exact ⟨j + 1, mb', ab, t', ta, by omega, by omega, by go_num, rfl, rfl, hM2, by rw [hE2, hE'.out, hTs.out], hA.later hB2, by rw [hAt.out, hEa'.out], below_step hB hB2⟩
        case measure => simp [intOf]; omega
    · have hx : ¬ (j : Int) < L.length ∨ ((j : Int) < L.length ∧ ¬ (j : Int) < 200) := by omega
      have hjm : min L.length 200 = j := by omega
      have htk : L.take 200 = L.take j := by
        by_cases h : j = 200
        · rw [h]
        · rw [List.take_of_length_le (by omega), List.take_of_length_le (by omega)]
      have hTk : Hid (L.take 200 = L.take j) := htk
      have hJm : Hid (min L.length 200 = j) := hjm
      clear hlt hjm htk
      rcases hx with hx | ⟨hx, hx2⟩
      all_goals
        go_wp2
        exact bodyPost_ret (v := .tuple #[.pointer (some ⟨mb, 0, none⟩), .pointer (some ⟨ab, 0, none⟩)]) (by simp [results, Tryd.results5, go_sem]) rfl ⟨mb, t, ab, ta, rfl, hM, by rw [hTk.out]; exact hE, hA, by rw [hJm.out]; exact hEa, hB⟩

end Go.Proofs.YtpmfgffhkklfeaaDoor

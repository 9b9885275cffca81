import Derived.Test.YtoippgmecnlhcaaGreatDoorTurnWR9
import Derived.Test.YtoippgmecnlhcaaGreatDoorJoin26
import Derived.Test.YtoippgmecnlhcaaGreatDoorTurnWAnyP
import Derived.Test.YtoippgmecnlhcaaGreatDoorTurnWRnd
namespace Go.Proofs.YtoippgmecnlhcaaGreatDoor.Q
open Go.RowKit Go.Shelf

set_option maxRecDepth 4000 in
set_option maxHeartbeats 1000000 in
theorem rscan_any (s : ByteArray) (w : World) (hS : RSgn w) : Calls Tryz.prog 48 #[.string s] w (ScanP s w) := by
  have hu := upto_any s w hS
  have hpost : Hid (∀ e w', (Below w.heap.size w w' ∧ ((∃ pre x, foundL s.data.toList = pre ++ [x] ∧ x.2.2 ≠ 0 ∧ e = .returned (.tuple #[.slice none 0 0, .int .i64 (x.2.1 : Int), .int .i64 (x.2.2 : Int)])) ∨ ((∀ x ∈ foundL s.data.toList, x.2.2 = 0) ∧ ∃ v, e = .returned (.tuple #[v, .int .i64 0, .int .i64 0]) ∧ w'.ownsRow w.heap.size 60 5 v (foundL s.data.toList).length (tokLs (foundL s.data.toList))))) → ScanP s w e w') := fun e w' h => h
  go_enter Tryz.func48, Tryz.ntmps48
  go_wp2_with (first | (go_at_call 62; refine hu.mono ?_; rintro e w1 ⟨hb1, ⟨pre, x, v, hL, hx, hpre, rfl, ho⟩ | ⟨hall, v, rfl, ho⟩⟩))
  · have hne : ((x.2.2 : Int) != 0) = true := by simp; omega
    have hL' : Hid (foundL s.data.toList = pre ++ [x]) := hL
    clear hL hpre
    go_wp2_with fail
    refine bodyPost_ret (v := .tuple #[.slice none 0 0, .int .i64 (x.2.1 : Int), .int .i64 (x.2.2 : Int)]) (by simp [results, Tryz.results48, go_sem]) rfl ?_
    exact hpost.out _ _ ⟨hb1, .inl ⟨pre, x, hL'.out, hx, rfl⟩⟩
  · obtain ⟨lp, lm, lc, rfl⟩ := own_slice ho
    go_wp2_with fail
    refine bodyPost_ret (v := .tuple #[.slice lp lm lc, .int .i64 0, .int .i64 0]) (by simp [results, Tryz.results48, go_sem]) rfl ?_
    exact hpost.out _ _ ⟨hb1, .inr ⟨hall, _, rfl, ho⟩⟩

end Go.Proofs.YtoippgmecnlhcaaGreatDoor.Q


namespace Go.Proofs.YtoippgmecnlhcaaGreatDoor.Q
open Go.RowKit Go.Shelf

/-- A token without its place. -/
def bar (x : Itm) : Itm := (x.1, 0, x.2.2)
theorem new5b (W : World) (o : Obj) (x : Itm) (t : TypeId) : ∀ j u, (tokL (bar x))[j]? = some u → ((W.alloc o).alloc (.cells #[.int .i64 (x.1.1 : Int), .int .i64 0, .string ⟨x.1.2.1.toArray⟩, .int .i64 (x.1.2.2.1 : Int), .int .i64 (x.1.2.2.2 : Int)] t)).cell? ((⟨W.heap.size + 1, 0, none⟩ : Addr).add j) = some u := by
  have h := new5 (W.alloc o) (bar x) t
  rw [show (W.alloc o).heap.size = W.heap.size + 1 from by simp] at h
  exact h
set_option maxRecDepth 4000 in
set_option maxHeartbeats 2000000 in
theorem bare_any (v : Value) (L : List Itm) (hl : L.length ≤ 1000000) (w : World) (hv : TokRow w v L) : Calls Tryz.prog 10 #[v] w fun e w' => Below w.heap.size w w' ∧ ∃ v', e = .returned v' ∧ TokRow w' v' (L.map bar) := by
  obtain ⟨i0, hi, hz0, hz1, hz2⟩ := info_parts infoT
  obtain ⟨aa, ca, rfl, hda⟩ := hv
  go_enter Tryz.func10, Tryz.ntmps10
  go_wp2
  go_loopw [3, 4] (fun mv iv wr => ∃ j : Nat, j ≤ L.length ∧ iv = .int .i64 j ∧ wr.ownsRow w.heap.size 60 5 mv j (tokLs ((L.take j).map bar)) ∧ Below w.heap.size w wr) (fun _ iv _ => L.length - (intOf iv).toNat)
  case atStart => exact ⟨0, by omega, rfl, World.ownsRow_nil _ _ _ _, Below.refl _ _⟩
  case round =>
    obtain ⟨j, hj, rfl, ho, hB⟩ := hrel
    by_cases hlt : j < L.length
    · have hlt' : (j : Int) < L.length := by omega
      have hj0 : (0 : Int) ≤ (j : Int) := by omega
      rcases hda with h0 | ⟨ga, oa, rfl, hga, hca⟩
      · rw [h0] at hlt; simp at hlt
      obtain ⟨a0, a1, a2, a3, a4⟩ := hca j hlt
      have htk : Hid (tokLs ((L.take (j + 1)).map bar) = tokLs ((L.take j).map bar) ++ tokL (bar L[j])) := by
        unfold Hid
        rw [List.take_succ_eq_append_getElem hlt, List.map_append, List.map_singleton, tokLs_snoc]
      generalize L[j] = x at *
      have a0' := (hB.cell (p := ⟨ga, _, none⟩) hga).trans a0
      have a1' := (hB.cell (p := ⟨ga, _, none⟩) hga).trans a1
      have a2' := (hB.cell (p := ⟨ga, _, none⟩) hga).trans a2
      have a3' := (hB.cell (p := ⟨ga, _, none⟩) hga).trans a3
      have a4' := (hB.cell (p := ⟨ga, _, none⟩) hga).trans a4
      clear a0 a1 a2 a3 a4 hca
      have hsz := hB.size
      go_wp2_with (at_builtin; go_loud (refine wpList_append_own _ rfl _ _ 22 rfl w.heap.size 60 i0 _ 5 48 Tryz.underlying22 hi hz0 hz1 hz2 rfl (by decide) _ j _ rfl ((ho.alloc _).alloc _) ⟨wr.heap.size + 1, 0, none⟩ 1 1 (tokL (bar x)) rfl rfl (new5b wr _ x _) (tok_one (bar x)) (by unfold maxLen; omega) (by omega) (by simp; omega) ?_); intro v3 w3 hown3 hgrow3 _)
      have hB3 : Below w.heap.size w w3 := ((hB.alloc hsz _).alloc (by simp; omega) _).grown hgrow3 (by simp; omega) (fun j hj => (ho.lt j hj).1)
      go_roundw
      case rel => exact ⟨j + 1, by omega, by go_num, by rw [htk.out]; exact hown3, hB3⟩
      case measure => simp [intOf]; omega
    · have hlt' : ¬ (j : Int) < L.length := by omega
      obtain rfl : j = L.length := by omega
      rw [List.take_length] at ho
      go_wp2
      go_ret
      refine ⟨hB, _, rfl, tokrow_of_own (base := w.heap.size) ?_⟩
      rw [List.length_map]
      exact ho

end Go.Proofs.YtoippgmecnlhcaaGreatDoor.Q


namespace Go.Proofs.YtoippgmecnlhcaaGreatDoor.Q
open Go.RowKit Go.Shelf

def bz (w : Wd) : Itm := (w, 0, 0)
/-- What can be printed is a row of words. -/
theorem pGo_some : ∀ (L : List Tk) (fr : Bool) (acc T : List UInt8), acc.length ≤ 8000 → pGo fr acc L = some T → ∃ ws : List Wd, L.map ofT = ws.map ofW ∧ Vl (spl dtx) (!fr) ws ∧ T = acc ++ prt (spl dtx) fr ws ∧ T.length ≤ 8000
  | [], fr, acc, T, ha, h => by
    unfold pGo at h
    split at h
    · rename_i hf
      cases h
      exact ⟨[], rfl, by rw [hf]; rfl, by simp [prt], ha⟩
    · cases h
  | t :: L, fr, acc, T, ha, h => by
    unfold pGo at h
    by_cases h1 : fr = true ∧ t.1 = 8
    · rw [if_pos h1] at h
      cases h
    · rw [if_neg h1] at h
      by_cases h2 : (wtK t).2 = false
      · rw [if_pos h2] at h
        cases h
      · rw [if_neg h2] at h
        by_cases h3 : 8000 < ((if fr = true ∨ t.1 = 8 then acc else acc ++ [32]) ++ (wtK t).1).length
        · rw [if_pos h3] at h
          cases h
        · rw [if_neg h3] at h
          obtain ⟨ws, i1, i2, i3, i4⟩ := pGo_some L _ _ T (by omega) h
          have hok : (wtK t).2 = true := by simpa using h2
          by_cases h8 : t.1 = 8
          · have hfr : fr = false := by cases fr with | false => rfl | true => exact absurd ⟨rfl, h8⟩ h1
            subst hfr
            unfold wtK at hok
            rw [if_pos h8] at hok
            obtain ⟨z1, z2, z3⟩ := of_decide_eq_true hok
            rw [decide_eq_true h8] at i2 i3
            refine ⟨(8, [], 0, 0) :: ws, ?_, ?_, ?_, i4⟩
            · rw [List.map_cons, List.map_cons, i1]
              congr 1
              obtain ⟨K, A, Tx, N, D0⟩ := t
              simp only at h8 z1 z2 z3
              subst h8 z1 z2 z3
              rfl
            · exact .inl ⟨rfl, rfl, i2⟩
            · rw [i3, if_pos (.inr h8), prt_end]
              unfold wtK
              rw [if_pos h8, List.append_assoc]
          · unfold wtK at hok
            rw [if_neg h8] at hok
            obtain ⟨w, hw⟩ := Option.isSome_iff_exists.1 hok
            obtain ⟨g1, g2, g3⟩ := okW_some hw
            rw [decide_eq_false h8] at i2 i3
            refine ⟨w :: ws, ?_, .inr ⟨g1, ?_⟩, ?_, i4⟩
            · rw [List.map_cons, List.map_cons, i1, g3]
            · exact i2
            · rw [i3, prt_word _ _ _ _ g1.1, g2]
              unfold wtK
              rw [if_neg h8]
              cases fr with
              | true => rw [if_pos (.inl rfl), if_pos rfl, List.nil_append, List.append_assoc]
              | false => rw [if_neg (by simp [h8]), if_neg (by simp), List.append_assoc, List.append_assoc]

set_option maxRecDepth 4000 in
set_option maxHeartbeats 2000000 in
theorem bare_gen (v : Value) (L : List Tk) (ws : List Wd) (hLw : L.map ofT = ws.map ofW) (hl : L.length ≤ 1000000) (w : World) (hv : TkRow w v L) : Calls Tryz.prog 10 #[v] w fun e w' => Below w.heap.size w w' ∧ ∃ v', e = .returned v' ∧ TokRow w' v' (ws.map bz) := by
  obtain ⟨i0, hi, hz0, hz1, hz2⟩ := info_parts infoT
  obtain ⟨aa, ca, rfl, hda⟩ := hv
  have hln0 : L.length = ws.length := by have := congrArg List.length hLw; simpa using this
  have hle1 : L.length ≤ ws.length := by omega
  have hle2 : ws.length ≤ L.length := by omega
  have hfin : Hid (L.length = (ws.map bz).length) := by unfold Hid; rw [List.length_map]; exact hln0
  clear hln0
  go_enter Tryz.func10, Tryz.ntmps10
  go_wp2
  go_loopw [3, 4] (fun mv iv wr => ∃ j : Nat, j ≤ L.length ∧ iv = .int .i64 j ∧ wr.ownsRow w.heap.size 60 5 mv j (tokLs ((ws.take j).map bz)) ∧ Below w.heap.size w wr) (fun _ iv _ => L.length - (intOf iv).toNat)
  case atStart => exact ⟨0, by omega, rfl, World.ownsRow_nil _ _ _ _, Below.refl _ _⟩
  case round =>
    obtain ⟨j, hj, rfl, ho, hB⟩ := hrel
    by_cases hlt : j < L.length
    · have hlt' : (j : Int) < L.length := by omega
      have hj0 : (0 : Int) ≤ (j : Int) := by omega
      rcases hda with h0 | ⟨ga, oa, rfl, hga, hca⟩
      · rw [h0] at hlt; simp at hlt
      obtain ⟨a0, a1, a2, a3, a4⟩ := hca j hlt
      have hltw : j < ws.length := by omega
      have hxw : ofT L[j] = ofW ws[j] := by
        have h1 : (L.map ofT)[j]? = (ws.map ofW)[j]? := by rw [hLw]
        rw [List.getElem?_map, List.getElem?_map, List.getElem?_eq_getElem hlt, List.getElem?_eq_getElem hltw] at h1
        exact Option.some.inj h1
      have htk : Hid (tokLs ((ws.take (j + 1)).map bz) = tokLs ((ws.take j).map bz) ++ tokL (bz ws[j])) := by
        unfold Hid
        rw [List.take_succ_eq_append_getElem hltw, List.map_append, List.map_singleton, tokLs_snoc]
      generalize L[j] = x at *
      generalize ws[j] = y at *
      obtain ⟨K, A, Tx, N, D0⟩ := x
      obtain ⟨k, tx, n, d⟩ := y
      simp only [ofT, ofW, Prod.mk.injEq] at hxw
      obtain ⟨rfl, rfl, rfl, rfl⟩ := hxw
      have a0' := (hB.cell (p := ⟨ga, _, none⟩) hga).trans a0
      have a1' := (hB.cell (p := ⟨ga, _, none⟩) hga).trans a1
      have a2' := (hB.cell (p := ⟨ga, _, none⟩) hga).trans a2
      have a3' := (hB.cell (p := ⟨ga, _, none⟩) hga).trans a3
      have a4' := (hB.cell (p := ⟨ga, _, none⟩) hga).trans a4
      clear a0 a1 a2 a3 a4 hca
      have hsz := hB.size
      go_wp2_with (at_builtin; go_loud (refine wpList_append_own _ rfl _ _ 22 rfl w.heap.size 60 i0 _ 5 48 Tryz.underlying22 hi hz0 hz1 hz2 rfl (by decide) _ j _ rfl ((ho.alloc _).alloc _) ⟨wr.heap.size + 1, 0, none⟩ 1 1 (tokL (bar (bz (k, Tx, n, d)))) rfl rfl (new5b wr _ (bz (k, Tx, n, d)) _) (tok_one (bar (bz (k, Tx, n, d)))) (by unfold maxLen; omega) (by omega) (by simp; omega) ?_); intro v3 w3 hown3 hgrow3 _)
      have hB3 : Below w.heap.size w w3 := ((hB.alloc hsz _).alloc (by simp; omega) _).grown hgrow3 (by simp; omega) (fun j hj => (ho.lt j hj).1)
      go_roundw
      case rel => exact ⟨j + 1, by omega, by go_num, by rw [htk.out]; exact hown3, hB3⟩
      case measure => simp [intOf]; omega
    · have hlt' : ¬ (j : Int) < L.length := by omega
      obtain rfl : j = L.length := by omega
      rw [List.take_of_length_le hle2] at ho
      go_wp2
      go_ret
      refine ⟨hB, _, rfl, tokrow_of_own (base := w.heap.size) ?_⟩
      rw [← hfin.out]
      exact ho

end Go.Proofs.YtoippgmecnlhcaaGreatDoor.Q


/- WHAT THE DOCUMENT'S Print AND THE PROGRAM'S HAVE IN COMMON. No program. -/
namespace Go.Proofs.YtoippgmecnlhcaaGreatDoor.Q
open Go.Lib (decDigits)

/-- A token that is a word has the word's text. -/
theorem say_spl {t : Tk} {w : Wd} (h : ofT t = ofW w) (hf : Ft w) : sayK t = spl dtx w := by
  obtain ⟨K, A, T, N, D0⟩ := t
  obtain ⟨k, tx, n, d⟩ := w
  simp only [ofT, ofW, Prod.mk.injEq] at h
  obtain ⟨rfl, rfl, rfl, rfl⟩ := h
  rcases hf with ⟨h, hl⟩ | ⟨h, hl⟩ | ⟨h, hn⟩ | ⟨h, hn⟩ | ⟨h, hn, hd0, hd⟩ | ⟨h, hd⟩ | ⟨h, hl, hf⟩
  all_goals (simp only at h; subst h)
  · rfl
  · rfl
  · show X.amtL (n : Int) = decDigits (n / 100) ++ 46 :: X.pad (n % 100) 2
    unfold X.amtL
    rw [if_neg (by omega)]
    simp
  · show Go.Lib.itoa (n : Int) = decDigits n
    unfold Go.Lib.itoa
    rw [if_neg (by omega)]
    simp
  · show (X.pct (n : Int) (d : Int)).getD [] = (X.pctL (100 * n) d).getD []
    simp only at hn hd0 hd
    unfold X.pct
    rw [if_neg (by omega)]
    simp
  · obtain ⟨k, e, hA⟩ := hd
    have := hA.nn
    show (if 0 ≤ (n : Int) ∧ (n : Int) ≤ 109572 then dtx (n : Int).toNat else []) = dtx n
    simp only at this
    rw [if_pos this]
    simp
  · show (X.qt T).getD [] = 34 :: (T.flatMap esq ++ [34])
    simp only at hl hf
    rw [X.qt_good hl (fun c h => hf c h), esq_esc]
    simp
theorem word_skip {s : List UInt8} {w : Wd} {e : Nat} (h : wordS s 0 = .ok (w, e)) : skp s false = 0 := by
  have hc := word_cls h
  cases s with
  | nil => rfl
  | cons c x =>
    have hcc : clsAt (c :: x) 0 = cls c.toNat := rfl
    rw [hcc] at hc
    rw [skp_cons, if_neg (by omega), if_neg (by omega), if_pos ⟨by omega, rfl⟩]
/-- A text that is one word. -/
theorem one_found {s : List UInt8} {w : Wd} (hl : s.length ≤ 8000) (h : wordS s 0 = .ok (w, s.length)) : foundL s = [(w, 0, 0), ((8, [], 0, 0), s.length, 0)] := by
  have hc := word_cls h
  have hcb : clsAt s 0 &&& 130 = 0 := by rcases hc with h | h | h | h <;> rw [h] <;> decide
  have h0 := (wordS_ok (Nat.zero_le _) hcb h).1
  unfold foundL
  rw [if_neg (by omega)]
  have hnx : nx s 0 = 0 := by
    unfold nx
    rw [List.drop_zero, word_skip h]
  have hnl : nx s s.length = s.length := by unfold nx; rw [List.drop_length]; rfl
  rw [hnx, fnd_eq, if_pos hcb, h]
  simp only
  obtain ⟨f, hf⟩ : ∃ f, s.length = f + 1 := ⟨s.length - 1, by omega⟩
  rw [hnl, show foundP s s.length s.length true = foundP s (f + 1) s.length true from by rw [← hf], fnd_eq, clsAt_out (Nat.le_refl _), if_neg (by decide), if_pos rfl, if_pos rfl]
  rfl
theorem fnd_ge (l : List UInt8) : ∀ (f p : Nat) (bg : Bool), p ≤ l.length → ∀ x ∈ foundP l f p bg, x.2.2 = 0 → p ≤ x.2.1
  | 0, p, bg, _, x, hx, _ => by simp [foundP] at hx
  | f + 1, p, bg, hp, x, hx, h0 => by
    rw [fnd_eq] at hx
    split at hx
    · rename_i hc
      cases hw : wordS l p with
      | error qn =>
        obtain ⟨q, n⟩ := qn
        rw [hw] at hx
        obtain rfl := List.mem_singleton.1 hx
        exact absurd h0 (wordS_err hw).1
      | ok we =>
        obtain ⟨w, e⟩ := we
        rw [hw] at hx
        obtain ⟨k1, k2⟩ := wordS_ok hp hc hw
        have g1 := nx_ge l e
        have g2 := nx_le (l := l) (a := e) k2
        rcases List.mem_cons.1 hx with rfl | hx
        · exact Nat.le_refl _
        · have := fnd_ge l f (nx l e) true g2 x hx h0
          omega
    · rcases List.mem_append.1 hx with hx | hx
      · split at hx
        · obtain rfl := List.mem_singleton.1 hx
          exact Nat.le_refl _
        · cases hx
      · split at hx
        · cases hx
        · have g1 := nx_ge l (p + 1)
          have := fnd_ge l f (nx l (p + 1)) false (nx_le (by omega)) x hx h0
          omega
/-- What is found of a token's own text is the token, just where the text is the token. -/
theorem found_ok {t : Tk} {x y : Itm} (h : foundL (sayK t) = [x, y]) (hx : x.2.2 = 0) (h0 : x.2.1 = 0) (hq : ofT t = ofW x.1) : okW t = some x.1 := by
  unfold foundL at h
  split at h
  · cases h
  · rename_i hl
    have hn := nx_le (l := sayK t) (a := 0) (Nat.zero_le _)
    have hge := fnd_ge (sayK t) _ (nx (sayK t) 0) false hn x (by rw [h]; simp) hx
    have hn0 : nx (sayK t) 0 = 0 := by omega
    rw [hn0, fnd_eq] at h
    split at h
    · rename_i hc
      cases hw : wordS (sayK t) 0 with
      | error qn =>
        obtain ⟨q, n⟩ := qn
        rw [hw] at h
        cases h
      | ok we =>
        obtain ⟨w, e⟩ := we
        rw [hw] at h
        simp only [List.cons.injEq] at h
        obtain ⟨rfl, -⟩ := h
        simp only at hq
        have hs := word_spl dtx dtx_back (l := sayK t) (p := 0) (Nat.zero_le _) hw
        rw [← say_spl hq (word_ft hw)] at hs
        have he : e = (sayK t).length := by
          obtain ⟨k1, k2⟩ := wordS_ok (Nat.zero_le _) hc hw
          have := congrArg List.length hs
          unfold slc at this
          rw [List.drop_zero, List.length_take] at this
          omega
        simp only [ofT, ofW, Prod.mk.injEq] at hq
        unfold okW
        rw [hw]
        simp only
        rw [if_pos ⟨he, hq.1.symm, by rw [hq.2], by rw [hq.2], by rw [hq.2]⟩]
    · exfalso
      rename_i hc
      have hxm : x ∈ (if false = true then [(((8, [], 0, 0), 0, 0) : Itm)] else []) ++ (if 0 = (sayK t).length then [] else foundP (sayK t) (sayK t).length (nx (sayK t) (0 + 1)) false) := by rw [h]; simp
      rw [if_neg (by simp), List.nil_append] at hxm
      split at hxm
      · cases hxm
      · have g1 := nx_ge (sayK t) (0 + 1)
        have := fnd_ge (sayK t) _ (nx (sayK t) (0 + 1)) false (nx_le (by omega)) x hxm hx
        omega
theorem okW_found {t : Tk} {w : Wd} (h : okW t = some w) : ∃ k, foundL (sayK t) = [(w, 0, 0), ((8, [], 0, 0), k, 0)] := by
  obtain ⟨h1, h2, h3⟩ := okW_word h
  exact ⟨_, one_found (by omega) h1⟩

/-- What the document's Print makes of any tokens. -/
noncomputable def rGo : Bool → List UInt8 → List Tk → Option (List UInt8)
  | fr, acc, [] => if fr = true ∧ acc.length ≤ 8000 then some acc else none
  | fr, acc, t :: L => if t.1 = 8 then (if fr = true ∨ ¬ (t.2.2.1 = [] ∧ t.2.2.2.1 = 0 ∧ t.2.2.2.2 = 0) then none else rGo true (acc ++ [10]) L)
    else if (okW t).isSome = false then none else if 8000 < ((if fr = true then acc else acc ++ [32]) ++ sayK t).length then none else rGo false ((if fr = true then acc else acc ++ [32]) ++ sayK t) L
theorem rGo_long : ∀ (L : List Tk) (fr : Bool) (acc : List UInt8), 8000 < acc.length → rGo fr acc L = none
  | [], fr, acc, h => by
    unfold rGo
    rw [if_neg (by omega)]
  | t :: L, fr, acc, h => by
    unfold rGo
    split
    · split
      · rfl
      · exact rGo_long L true _ (by rw [List.length_append]; omega)
    · split
      · rfl
      · rw [if_pos (by rw [List.length_append]; split <;> (try rw [List.length_append]) <;> omega)]
theorem rGo_pGo : ∀ (L : List Tk) (fr : Bool) (acc : List UInt8), acc.length ≤ 8000 → rGo fr acc L = pGo fr acc L
  | [], fr, acc, h => by
    unfold rGo pGo
    cases fr <;> simp [h]
  | t :: L, fr, acc, h => by
    unfold rGo pGo
    by_cases h8 : t.1 = 8
    · rw [if_pos h8]
      cases fr with
      | true => rw [if_pos (.inl rfl), if_pos ⟨rfl, h8⟩]
      | false =>
        rw [if_neg (c := false = true ∧ t.1 = 8) (by simp)]
        have hwt : wtK t = ([10], decide (t.2.2.1 = [] ∧ t.2.2.2.1 = 0 ∧ t.2.2.2.2 = 0)) := if_pos h8
        rw [hwt]
        have hi8 : (if false = true ∨ t.1 = 8 then acc else acc ++ [32]) = acc := if_pos (.inr h8)
        by_cases hz : t.2.2.1 = [] ∧ t.2.2.2.1 = 0 ∧ t.2.2.2.2 = 0
        · rw [if_neg (by simp only [Bool.false_eq_true, false_or, Classical.not_not]; exact hz), if_neg (by simp only [decide_eq_true hz]; decide), hi8, decide_eq_true h8]
          by_cases hl : 8000 < (acc ++ [10]).length
          · rw [if_pos hl, rGo_long L true _ hl]
          · rw [if_neg hl, rGo_pGo L true _ (by omega)]
        · rw [if_pos (.inr hz), if_pos (by simp only [decide_eq_false hz])]
    · rw [if_neg h8, if_neg (c := fr = true ∧ t.1 = 8) (fun h => h8 h.2)]
      have hwt : wtK t = (sayK t, (okW t).isSome) := if_neg h8
      rw [hwt, decide_eq_false h8]
      have hif : (if fr = true ∨ t.1 = 8 then acc else acc ++ [32]) = (if fr = true then acc else acc ++ [32]) := by
        cases fr <;> simp [h8]
      rw [hif]
      by_cases hk : (okW t).isSome = false
      · rw [if_pos hk, if_pos hk]
      · rw [if_neg hk, if_neg hk]
        by_cases hl : 8000 < ((if fr = true then acc else acc ++ [32]) ++ sayK t).length
        · rw [if_pos hl, if_pos hl]
        · rw [if_neg hl, if_neg hl, rGo_pGo L false _ (by omega)]
theorem pGo_len : ∀ (L : List Tk) (fr : Bool) (acc T : List UInt8), acc.length ≤ 8000 → pGo fr acc L = some T → acc.length + L.length ≤ 8000
  | [], fr, acc, T, ha, h => by simpa using ha
  | t :: L, fr, acc, T, ha, h => by
    unfold pGo at h
    by_cases h1 : fr = true ∧ t.1 = 8
    · rw [if_pos h1] at h
      cases h
    · rw [if_neg h1] at h
      by_cases h2 : (wtK t).2 = false
      · rw [if_pos h2] at h
        cases h
      · rw [if_neg h2] at h
        by_cases h3 : 8000 < ((if fr = true ∨ t.1 = 8 then acc else acc ++ [32]) ++ (wtK t).1).length
        · rw [if_pos h3] at h
          cases h
        · rw [if_neg h3] at h
          have := pGo_len L _ _ T (by omega) h
          have h1 : 1 ≤ (wtK t).1.length := by
            have hok : (wtK t).2 = true := by simpa using h2
            unfold wtK at hok ⊢
            by_cases h8 : t.1 = 8
            · rw [if_pos h8]; simp
            · rw [if_neg h8] at hok ⊢
              obtain ⟨w, hw⟩ := Option.isSome_iff_exists.1 hok
              exact (okW_word hw).2.2
          have h4 : acc.length ≤ (if fr = true ∨ t.1 = 8 then acc else acc ++ [32]).length := by split <;> (try rw [List.length_append]) <;> omega
          rw [List.length_append] at this
          rw [List.length_cons]
          omega

end Go.Proofs.YtoippgmecnlhcaaGreatDoor.Q

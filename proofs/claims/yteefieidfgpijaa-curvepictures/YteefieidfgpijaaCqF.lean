import Derived.Test.YteefieidfgpijaaCqE
import Derived.Laws.Concat
namespace Go.Proofs.Yteefieidfgpijaa.CF
open Go.RowKit

theorem less_fin {a b : Nat} (ha : a < 4294967296) (hb : b < 4294967296) (fa : a % 2147483648 < 2139095040) (fb : b % 2147483648 < 2139095040) (w : World) : Calls Try.prog 45 #[.int .u32 (a : Int), .int .u32 (b : Int)] w fun e w' => e = .returned (.bool (decide (ordN a < ordN b))) ∧ w' = w := by
  have h := less_any a b ha hb w
  have n1 : nanB a = false := decide_eq_false (by omega)
  have n2 : nanB b = false := decide_eq_false (by omega)
  rw [n1, n2] at h
  exact h
set_option maxRecDepth 8000 in
set_option maxHeartbeats 2000000 in
theorem rdraw_any (D : Dots) (hD : Ok D) (hl : D.length ≤ 9223372036854775806) (wide high en : Int) (T : List Value) (hR : DrR D wide high en T) (a : Option Addr) (c : Nat) (w : World) (hp : RtAt w a D) : Calls Try.prog 35 #[.slice a D.length c, .int .i64 wide, .int .i64 high] w (DrO w en T) := by
  have hio := ordered_any D hl a c w hp
  rcases hR with ⟨h1, rfl, rfl⟩ | ⟨h1, h2, rfl, rfl⟩ | hR
  · clear hp
    have hb : (decide (wide < 2) || decide (72 < wide) || decide (high < 2) || decide (40 < high)) = true := by
      by_cases e1 : wide < 2
      · simp [e1]
      · by_cases e2 : 72 < wide
        · simp [e2]
        · by_cases e3 : high < 2
          · simp [e3]
          · have e4 : 40 < high := by omega
            simp [e4]
    generalize hc1 : decide (wide < 2) = c1 at *
    generalize hc2 : decide (72 < wide) = c2 at *
    generalize hc3 : decide (high < 2) = c3 at *
    generalize hc4 : decide (40 < high) = c4 at *
    clear h1 hio
    cases c1 <;> cases c2 <;> cases c3 <;> cases c4 <;> first | (exact absurd hb (by decide)) | skip
    all_goals
      go_enter Try.func35, Try.ntmps35
      go_wp2
      exact bodyPost_ret (v := .tuple #[.slice none 0 0, .int .i64 174]) (by simp [results, Try.results35, go_sem]) rfl ⟨_, rfl, World.ownsRow_nil _ _ _ _, Below.refl _ _⟩
  · rw [h2] at hio
    have k1 : decide (wide < 2) = false := decide_eq_false (by omega)
    have k2 : decide (72 < wide) = false := decide_eq_false (by omega)
    have k3 : decide (high < 2) = false := decide_eq_false (by omega)
    have k4 : decide (40 < high) = false := decide_eq_false (by omega)
    clear h1
    go_enter Try.func35, Try.ntmps35
    go_wp2_with (go_at_call 44; refine hio.mono ?_; rintro _ w1 ⟨rfl, hB1⟩)
    exact bodyPost_ret (v := .tuple #[.slice none 0 0, .int .i64 172]) (by simp [results, Try.results35, go_sem]) rfl ⟨_, rfl, World.ownsRow_nil _ _ _ _, hB1⟩
  · have h1 : ((2 ≤ wide ∧ wide ≤ 72) ∧ 2 ≤ high ∧ high ≤ 40) ∧ inO D = true := by
      rcases hR with ⟨h1, h2, -⟩ | ⟨w0, n, ⟨rfl, rfl, hw, hn1, hn⟩, h2, -⟩
      · exact ⟨h1, h2⟩
      · exact ⟨by omega, h2⟩
    have h2 := h1.2
    rw [h2] at hio
    have k1 : decide (wide < 2) = false := decide_eq_false (by omega)
    have k2 : decide (72 < wide) = false := decide_eq_false (by omega)
    have k3 : decide (high < 2) = false := decide_eq_false (by omega)
    have k4 : decide (40 < high) = false := decide_eq_false (by omega)
    obtain ⟨⟨l1, l2⟩, g1, g2⟩ := loR_fin hD h2 (Nat.le_refl _)
    have cs := fun X => sub_any (hiR D D.length) (loR D D.length) g1 l1 X
    have cf := fun X => finite_any (subN (hiR D D.length) (loR D D.length)) X
    have ef : decide (subN (hiR D D.length) (loR D D.length) % 2147483648 < 2139095040) = bf (subN (hiP D D.length) (loP D D.length)) := by rw [dif_R hD h2]; rfl
    rw [ef] at cf
    have hfk : Hid (∀ k, k < D.length → (loR D k < 4294967296 ∧ loR D k % 2147483648 < 2139095040) ∧ (hiR D k < 4294967296 ∧ hiR D k % 2147483648 < 2139095040)) := ⟨fun k hk => loR_fin hD h2 (by omega)⟩
    have hfh : Hid (∀ k, k < D.length → hgt D k < 4294967296 ∧ hgt D k % 2147483648 < 2139095040) := ⟨fun k hk => ⟨(hD.getD k).2, (gB_parts (inO_true.1 h2 k hk)).1.2⟩⟩
    replace hR := Hid.mk hR
    have hl1 := Hid.mk (And.intro (And.intro l1 l2) (And.intro g1 g2))
    replace h2 := Hid.mk h2
    clear h1 l1 l2 g1 g2 ef
    go_enter Try.func35, Try.ntmps35
    go_wp2_with (go_at_call 44; refine hio.mono ?_; rintro _ w1 ⟨rfl, hB1⟩)
    clear hio k1 k2 k3 k4
    go_loopw [9, 10, 11] (fun lv gv v wr => ∃ k : Nat, k ≤ D.length ∧ lv = .int .u32 (loR D k : Int) ∧ gv = .int .u32 (hiR D k : Int) ∧ v = .int .i64 (k : Int) ∧ wr = w1) (fun _ _ v _ => D.length - (intOf v).toNat)
    case atStart => exact ⟨0, by omega, rfl, rfl, rfl, rfl⟩
    case round =>
      obtain ⟨k, hk, rfl, rfl, rfl, hwr⟩ := hrel
      subst wr
      by_cases hlt : k < D.length
      · have hlt' : (k : Int) < (D.length : Int) := by omega
        have hk0 : (0 : Int) ≤ (k : Int) := by omega
        obtain ⟨b, off, rfl, hc⟩ := (hp.later hB1).cells hlt
        obtain ⟨-, s1⟩ := hc k hlt
        change w1.cell? _ = some (.int .u32 (hgt D k : Int)) at s1
        obtain ⟨⟨l1, l2⟩, g1, g2⟩ := hfk.out k hlt
        obtain ⟨y1, y2⟩ := hfh.out k hlt
        have c1 := fun X => less_fin y1 l1 y2 l2 X
        have c2 := fun X => less_fin g1 y1 g2 y2 X
        have ek : ((k : Int) == 0) = decide (k = 0) := by
          by_cases e : k = 0
          · subst e; rfl
          · rw [decide_eq_false e, beq_eq_false_iff_ne]; omega
        have el : Hid (loR D (k + 1) = if (decide (k = 0) || decide (ordN (hgt D k) < ordN (loR D k))) = true then hgt D k else loR D k) := ⟨by
          show (if k = 0 ∨ _ then _ else _) = _
          by_cases e : k = 0 ∨ ordN (hgt D k) < ordN (loR D k)
          · rw [if_pos e, if_pos (by simpa using e)]
          · rw [if_neg e, if_neg (by simpa using e)]⟩
        have eg : Hid (hiR D (k + 1) = if (decide (k = 0) || decide (ordN (hiR D k) < ordN (hgt D k))) = true then hgt D k else hiR D k) := ⟨by
          show (if k = 0 ∨ _ then _ else _) = _
          by_cases e : k = 0 ∨ ordN (hiR D k) < ordN (hgt D k)
          · rw [if_pos e, if_pos (by simpa using e)]
          · rw [if_neg e, if_neg (by simpa using e)]⟩
        generalize decide (ordN (hgt D k) < ordN (loR D k)) = b1 at *
        generalize decide (ordN (hiR D k) < ordN (hgt D k)) = b2 at *
        generalize decide (k = 0) = b0 at *
        generalize loR D k = lo at *
        generalize hiR D k = hi at *
        generalize hgt D k = py at *
        clear hc hp hfk hfh l1 l2 g1 g2 y1 y2 cs cf hl1 h2 hD hR
        go_wp2_with (go_at_call 45; fail)
        refine (c1 _).mono ?_
        rintro _ w3 ⟨rfl, hw3⟩
        subst w3
        clear c1
        go_wp2_with (go_at_call 45; fail)
        refine (c2 _).mono ?_
        rintro _ w3 ⟨rfl, hw3⟩
        subst w3
        clear c2
        cases b0 <;> cases b1 <;> cases b2
        all_goals
          go_wp2
          go_roundw
          case rel => exact ⟨k + 1, by omega, by rw [el.out]; rfl, by rw [eg.out]; rfl, by go_num, trivial⟩
          case measure => simp [intOf]; omega
      · obtain rfl : k = D.length := by omega
        have hlt' : ¬ (D.length : Int) < (D.length : Int) := by omega
        clear hfk hfh
        rcases hR.out with ⟨-, -, h3, rfl, rfl⟩ | ⟨w0, n, ⟨rfl, rfl, hw, hn1, hn⟩, -, h3, rfl, rfl⟩
        · rw [h3] at cf
          clear hR h3 h2 hl1 hD hp
          go_wp2_with (first | (go_at_call 46; refine (cs _).mono ?_; rintro _ w3 ⟨rfl, hw3⟩; subst w3) | (go_at_call 47; refine (cf _).mono ?_; rintro _ w3 ⟨rfl, hw3⟩; subst w3))
          exact bodyPost_ret (v := .tuple #[.slice none 0 0, .int .i64 175]) (by simp [results, Try.results35, go_sem]) rfl ⟨_, rfl, World.ownsRow_nil _ _ _ _, hB1⟩
        · rw [h3] at cf
          have hd : Draws D := ⟨hD, h2.out, of_decide_eq_true h3⟩
          obtain ⟨⟨l1, l2⟩, g1, g2⟩ := hl1.out
          obtain ⟨o1, o2⟩ := lo_ord D
          have ca := fun X => less_fin (a := 0) (by decide) l1 (by decide) l2 X
          have cb := fun X => less_fin (b := 0) g1 (by decide) g2 (by decide) X
          have e0 : ordN 0 = 0 := rfl
          rw [e0, o1] at ca
          rw [e0, o2] at cb
          have hmark := fun r cc X (hX : RtAt X a D) => rmark_any D hd hl w0 n r cc hw (loR D D.length) (hiR D D.length) ((n : Int) + 1) (fun k hk X => by have := rrow_any ((n : Int) + 1) (hgt D k) _ _ n rfl hn (btw_R hd (hd.btw hk)) X; rw [row_R hd hn (hd.btw hk)] at this; exact this) a c X hX
          have hzz : Hid ((zerR D n = none ∧ zerI D n = -1 ∧ (0 < D.length → ¬ (ordN (loP D D.length) ≤ 0 ∧ 0 ≤ ordN (hiP D D.length)))) ∨ (0 < D.length ∧ ordN (loP D D.length) ≤ 0 ∧ 0 ≤ ordN (hiP D D.length) ∧ ∀ X, Calls Try.prog 48 #[.int .u32 0, .int .u32 (loR D D.length : Int), .int .u32 (hiR D D.length : Int), .int .i64 ((n : Int) + 1)] X fun e w' => e = .returned (.int .i64 (zerI D n)) ∧ Below X.heap.size X w')) := ⟨by
            unfold zerI
            by_cases hc : 0 < D.length ∧ ordN (loP D D.length) ≤ 0 ∧ 0 ≤ ordN (hiP D D.length)
            · have ez : zerR D n = some (rowN 0 (loP D D.length) (hiP D D.length) n) := if_pos hc
              have hb := hd.btw0 hc.1 hc.2.1 hc.2.2
              rw [ez]
              exact .inr ⟨hc.1, hc.2.1, hc.2.2, fun X => by have := rrow_any ((n : Int) + 1) 0 _ _ n rfl hn (btw_R hd hb) X; rw [row_R hd hn hb] at this; exact this⟩
            · have ez : zerR D n = none := if_neg hc
              rw [ez]
              exact .inl ⟨rfl, rfl, fun h0 h2 => hc ⟨h0, h2⟩⟩⟩
          clear hR h3 h2 hl1 hD l1 l2 g1 g2 o1 o2 e0 hd
          generalize loR D D.length = lR at *
          generalize hiR D D.length = gR at *
          generalize ordN (loP D D.length) = oL at *
          generalize ordN (hiP D D.length) = oG at *
          generalize subN gR lR = dF at *
          obtain ⟨zI, hzI⟩ : ∃ z, z = zerI D n := ⟨_, rfl⟩
          rw [← hzI] at hmark hzz
          clear hzI
          obtain ⟨hg, hhg⟩ : ∃ z : Int, z = (n : Int) + 1 := ⟨_, rfl⟩
          rw [← hhg] at hmark hzz ⊢
          have hhb : hg - 1 = (n : Int) := by omega
          have hhc : 2 ≤ hg ∧ hg ≤ 40 := by omega
          clear hhg
          go_wp2_with (first | (go_at_call 46; refine (cs _).mono ?_; rintro _ w3 ⟨rfl, hw3⟩; subst w3) | (go_at_call 47; refine (cf _).mono ?_; rintro _ w3 ⟨rfl, hw3⟩; subst w3) | (go_at_call 45; fail))
          refine (ca _).mono ?_
          rintro _ w3 ⟨rfl, hw3⟩
          subst w3
          clear ca cs cf
          go_wp2_with (go_at_call 45; fail)
          refine (cb _).mono ?_
          rintro _ w3 ⟨rfl, hw3⟩
          subst w3
          clear cb
          obtain ⟨bt, hbt⟩ : ∃ bt, bt = (decide (0 < D.length) && (!decide (0 < oL) && !decide (oG < 0))) := ⟨_, rfl⟩
          have hbt1 : Hid (bt = true ↔ 0 < D.length ∧ oL ≤ 0 ∧ 0 ≤ oG) := ⟨by
            rw [hbt]
            by_cases q1 : 0 < D.length
            · by_cases q2 : 0 < oL
              · simp [q1, q2]
                try omega
              · by_cases q3 : oG < 0
                · simp [q1, q2, q3]
                  try omega
                · simp [q1, q2, q3]
                  try omega
            · simp [q1]⟩
          generalize decide (0 < oL) = p1 at *
          generalize decide (oG < 0) = p2 at *
          replace hbt := Hid.mk hbt
          go_upto_region 23 with fail
          go_cut [102] (fun bv wx => bv = .bool bt ∧ wx = w1)
          case first =>
            clear hmark hzz hbt1 hp
            by_cases q0 : 0 < D.length
            · have q1 : (0 : Int) < (D.length : Int) := by omega
              have ed := Hid.mk (decide_eq_true q0)
              cases p1 <;> cases p2
              all_goals
                go_wp2
                go_meet
                exact ⟨by rw [hbt.out, ed.out]; rfl, rfl⟩
            · have q1 : ¬ (0 : Int) < (D.length : Int) := by omega
              have ed := Hid.mk (decide_eq_false q0)
              go_wp2
              go_meet
              exact ⟨by rw [hbt.out, ed.out]; rfl, rfl⟩
          case rest =>
            obtain ⟨rfl, hwc⟩ := hcut
            subst wc
            clear hbt
            go_upto_if 102 with fail
            go_cut [18] (fun v wx => v = .int .i64 zI ∧ Below w.heap.size w wx)
            case first =>
              have hz := hzz.out
              clear hmark hzz hp
              cases bt with
              | true =>
                obtain ⟨t1, t2, t3⟩ := hbt1.out.1 rfl
                rcases hz with ⟨-, -, hz⟩ | ⟨-, -, -, hz⟩
                · exact absurd ⟨t2, t3⟩ (hz t1)
                · go_wp2_with (go_at_call 48; refine (hz _).mono ?_; rintro _ w4 ⟨rfl, hB4⟩)
                  go_meet
                  exact ⟨rfl, hB1.trans (hB4.mono hB1.size)⟩
              | false =>
                rcases hz with ⟨-, hz, -⟩ | ⟨t1, t2, t3, -⟩
                · replace hz := Hid.mk hz
                  go_wp2
                  go_meet
                  exact ⟨by rw [hz.out], hB1⟩
                · exact absurd (hbt1.out.2 ⟨t1, t2, t3⟩) (by decide)
            case rest =>
              obtain ⟨rfl, hB2⟩ := hcut
              clear hB1 hzz hbt1
              obtain ⟨i0, hi, hz0, hz1, hz2⟩ := info_parts infoS
              go_wp2_with fail
              go_loopw [19, 20] (fun v x wr => ∃ (k : Nat) (z : Int), k ≤ n + 1 ∧ Hid (z = (n : Int) - (k : Int)) ∧ x = .int .i64 z ∧ wr.ownsRow w.heap.size 9 1 v k (textsL D n w0 k) ∧ Below w.heap.size w wr) (fun _ x _ => (intOf x + 1).toNat)
              case atStart => exact ⟨0, (n : Int), by omega, ⟨by omega⟩, rfl, World.ownsRow_nil _ _ _ _, hB2⟩
              case round =>
                rename World => wa
                obtain ⟨k, z, hk, hz, rfl, ho, hB⟩ := hrel
                have hz' := hz.out
                by_cases hlt : k < n + 1
                · obtain ⟨r, hr⟩ : ∃ r : Nat, z = (r : Int) := ⟨n - k, by omega⟩
                  have hrk : n - k = r := by omega
                  have hts := Hid.mk (textsL_succ D n w0 k)
                  rw [hrk] at hts
                  subst hr
                  have hr0 : (0 : Int) ≤ (r : Int) := by omega
                  have hrb : (r : Int) ≤ 40 := by omega
                  have hmk := fun cc X (hX : RtAt X a D) => hmark r cc X hX
                  replace hz := Hid.mk (And.intro hlt hz')
                  have hk2 : k ≤ 100 := by omega
                  clear hlt hrk hk hz' hB2 hmark hhb
                  go_wp2_with fail
                  go_loopw [21, 22] (fun sv cv wr => ∃ j : Nat, j ≤ w0 ∧ sv = .string (preB D n w0 r j) ∧ cv = .int .i64 (j : Int) ∧ Below wa.heap.size wa wr) (fun _ cv _ => w0 - (intOf cv).toNat)
                  case atStart => exact ⟨0, by omega, rfl, rfl, Below.refl _ _⟩
                  case round =>
                    rename World => wb
                    obtain ⟨j, hj, rfl, rfl, hBb⟩ := hrel
                    have hBw : Below w.heap.size w wb := hB.trans (hBb.mono hB.size)
                    by_cases hjl : j < w0
                    · have hjl' : (j : Int) < (w0 : Int) := by omega
                      have hm := hmk j wb (hp.later hBw)
                      have hsz := preB_size D n w0 r j
                      have hsu := preB_succ D n w0 r j
                      have hs1 : (oneS (markN D n w0 r j)).size = 1 := rfl
                      generalize markN D n w0 r j = mm at *
                      generalize oneS mm = os at *
                      have ha : ((preB D n w0 r j).size : Int) ≤ 8388608 := by omega
                      have hb : (os.size : Int) ≤ 8388608 := by omega
                      generalize preB D n w0 r j = sj at *
                      have hadd := fun X => run_string_add (P := Try.prog) (w := X) sj os ha hb
                      rw [hsu] at hadd
                      have hsz2 : sj.size + os.size ≤ 9223372036854775807 := by omega
                      clear hsz hs1 hmk hp ho hj
                      go_wp2_with (go_at_call 49; refine hm.mono ?_; rintro _ w5 ⟨rfl, hB5⟩)
                      go_roundw
                      case rel => exact ⟨j + 1, by omega, rfl, by go_num, hBb.trans (hB5.mono hBb.size)⟩
                      case measure => simp [intOf]; omega
                    · obtain rfl : j = w0 := by omega
                      have hjl' : ¬ (j : Int) < (j : Int) := by omega
                      have hpa := preB_all D n j r
                      generalize lineB D n j r = s at *
                      rw [hpa]
                      have hob := own_bel ho hBb
                      have hoA := hob.alloc (.cells #[.string s] 9)
                      have hBA : Below w.heap.size w (wb.alloc (.cells #[.string s] 9)) := hBw.alloc hBw.size _
                      have hlv := Hid.mk (fun (i : Nat) hi => (hob.lt i hi).1)
                      clear hpa hmk hp ho hBb hB
                      go_wp2_with (at_builtin; refine wpList_append_own _ rfl _ _ 45 rfl w.heap.size 9 i0 _ 1 16 Try.underlying45 hi hz0 hz1 hz2 rfl (by decide) _ k (textsL D n j k) rfl hoA ⟨wb.heap.size, 0, none⟩ 1 1 [.string s] rfl rfl (lit_at wb _ _) (by simp [Value.oneCell']) (by unfold maxLen; omega) (by omega) hBA.size ?_; intro v' w4 hown' hgrow _; have hB4 := hBA.grown hgrow hBA.size hlv.out)
                      go_roundw
                      case rel => exact ⟨k + 1, (r : Int) - 1, by have := hz.out; omega, ⟨by have := hz.out; omega⟩, by go_num, by rw [hts.out]; exact hown', hB4⟩
                      case measure => simp [intOf]
                · obtain rfl : k = n + 1 := by omega
                  have hlt' : ¬ (0 : Int) ≤ z := by omega
                  clear hz hz' hmark
                  go_wp2
                  exact bodyPost_ret (v := .tuple #[u19, .int .i64 0]) (by simp [results, Try.results35, go_sem]) rfl ⟨_, rfl, by rw [textsL_len]; exact ho, hB⟩
end Go.Proofs.Yteefieidfgpijaa.CF

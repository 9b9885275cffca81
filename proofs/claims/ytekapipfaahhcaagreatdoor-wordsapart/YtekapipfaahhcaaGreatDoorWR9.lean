import Derived.Test.YtekapipfaahhcaaGreatDoorWR8
import Derived.Test.YtekapipfaahhcaaGreatDoorWSc
namespace Go.Proofs.YtekapipfaahhcaaGreatDoor.Q
open Go.RowKit Go.Shelf

theorem nx_cons {l : List UInt8} {a : Nat} (h : a < l.length) : nx l a = a + (if cls l[a].toNat = 4 then 1 + skp (l.drop (a + 1)) true else if cls l[a].toNat = 2 then 0 else if cls l[a].toNat ≠ 1 then 0 else 1 + skp (l.drop (a + 1)) false) := by
  unfold nx
  rw [List.drop_eq_getElem_cons h, skp_cons]
  simp
theorem nx_blank {l : List UInt8} {a : Nat} (h : a < l.length) (hc : cls l[a].toNat = 1) : nx l a = nx l (a + 1) := by
  rw [nx_cons h, hc]
  unfold nx
  simp
  omega
theorem nx_stop {l : List UInt8} {a : Nat} (h : a < l.length) (h1 : cls l[a].toNat ≠ 1) (h4 : cls l[a].toNat ≠ 4) : nx l a = a := by
  rw [nx_cons h, if_neg h4]
  by_cases h2 : cls l[a].toNat = 2
  · rw [if_pos h2, Nat.add_zero]
  · rw [if_neg h2, if_pos h1, Nat.add_zero]
theorem nx_rem {l : List UInt8} {a : Nat} (h : a < l.length) (h4 : cls l[a].toNat = 4) : nx l a = a + skp (l.drop a) true := by
  rw [nx_cons h, if_pos h4, List.drop_eq_getElem_cons h, skp_cons, if_pos h4]
theorem nx_last (l : List UInt8) : nx l l.length = l.length := by
  unfold nx
  simp [skp]
theorem skt_end {l : List UInt8} {p : Nat} (h : l.length ≤ p) : skp (l.drop p) true = 0 := by
  rw [List.drop_eq_nil_of_le h]
  rfl
theorem cls_nl (k : Nat) : cls k = 2 ↔ k = 10 := by
  unfold cls
  constructor
  · intro h
    repeat' split at h
    all_goals omega
  · intro h
    repeat rw [if_neg (by omega)]
    rw [if_pos h]
theorem cls_hash (k : Nat) : cls k = 4 ↔ k = 35 := by
  unfold cls
  constructor
  · intro h
    repeat' split at h
    all_goals omega
  · intro h
    repeat rw [if_neg (by omega)]
    rw [if_pos h]
theorem cls_blank (k : Nat) : cls k = 1 ↔ k = 32 ∨ k = 9 := by
  unfold cls
  constructor
  · intro h
    repeat' split at h
    all_goals omega
  · intro h
    rw [if_pos (by omega)]
theorem skt_nl {l : List UInt8} {p : Nat} (h : p < l.length) (hc : l[p].toNat = 10) : skp (l.drop p) true = 0 := by
  rw [List.drop_eq_getElem_cons h, skp_cons, (cls_nl _).2 hc]
  rfl
theorem skt_on {l : List UInt8} {p : Nat} (h : p < l.length) (hc : l[p].toNat ≠ 10) : skp (l.drop p) true = 1 + skp (l.drop (p + 1)) true := by
  have h2 : cls l[p].toNat ≠ 2 := fun e => hc ((cls_nl _).1 e)
  rw [List.drop_eq_getElem_cons h, skp_cons]
  by_cases h4 : cls l[p].toNat = 4
  · rw [if_pos h4]
  · rw [if_neg h4, if_neg h2, if_neg (by simp)]

theorem grown_of_belowB {W W' : World} (h : Below W.heap.size W W') : W.grownBy W' none := ⟨h.os, h.tape, h.output, h.size, fun k hk _ => h.block k hk⟩
theorem own_laterB {w w' : World} {base n size : Nat} {e : TypeId} {v : Value} {xs : List Value} (h : w.ownsRow base e size v n xs) (hb : Below w.heap.size w w') : w'.ownsRow base e size v n xs := h.kept (grown_of_belowB hb) (by cases v.ownBlock <;> simp)
theorem new5' (W : World) (b : Nat) (hb : W.heap.size = b) (x : Itm) (t : TypeId) : ∀ j u, (tokL x)[j]? = some u → (W.alloc (.cells #[.int .i64 (x.1.1 : Int), .int .i64 (x.2.1 : Int), .string ⟨x.1.2.1.toArray⟩, .int .i64 (x.1.2.2.1 : Int), .int .i64 (x.1.2.2.2 : Int)] t)).cell? ((⟨b, 0, none⟩ : Addr).add j) = some u := by
  subst hb
  exact new5 W x t
theorem idx_byte (s : ByteArray) (l : List UInt8) (hl : s.data.toList = l) (a : Nat) (h : a < l.length) : ∃ k : Nat, l[a].toNat = k ∧ ∀ W, (Instr.index 9 (.string s) (.int .i64 (a : Int))).run Tryz.prog W = .ok (.int .u8 (k : Int)) W := by
  subst hl
  exact ⟨_, rfl, fun W => idx_at s a h W⟩

/-- What Upto answers. -/
def UptoP (s : ByteArray) (w : World) (e : Ending) (w' : World) : Prop := Below w.heap.size w w' ∧
  ((∃ pre x v, foundL s.data.toList = pre ++ [x] ∧ x.2.2 ≠ 0 ∧ (∀ y ∈ pre, y.2.2 = 0) ∧ e = .returned (.tuple #[v, .int .i64 (x.2.1 : Int), .int .i64 (x.2.2 : Int)]) ∧ w'.ownsRow w.heap.size 66 5 v pre.length (tokLs pre)) ∨
  ((∀ x ∈ foundL s.data.toList, x.2.2 = 0) ∧ ∃ v, e = .returned (.tuple #[v, .int .i64 0, .int .i64 0]) ∧ w'.ownsRow w.heap.size 66 5 v (foundL s.data.toList).length (tokLs (foundL s.data.toList))))

set_option maxRecDepth 8000 in
set_option maxHeartbeats 4000000 in
theorem upto_any (s : ByteArray) (w : World) (hS : RSgn w) : Calls Tryz.prog 10 #[.string s] w (UptoP s w) := by
  obtain ⟨i0, hi, hz0, hz1, hz2⟩ := info_parts infoT
  obtain ⟨l, hl⟩ : ∃ l, s.data.toList = l := ⟨_, rfl⟩
  have hls : l.length = s.size := by rw [← hl]; exact size_list s
  obtain ⟨L, hL⟩ : ∃ L, foundL l = L := ⟨_, rfl⟩
  have hLn := foundL_len l
  rw [hL] at hLn
  have hpost : Hid (∀ e w', (Below w.heap.size w w' ∧ ((∃ pre x v, L = pre ++ [x] ∧ x.2.2 ≠ 0 ∧ (∀ y ∈ pre, y.2.2 = 0) ∧ e = .returned (.tuple #[v, .int .i64 (x.2.1 : Int), .int .i64 (x.2.2 : Int)]) ∧ w'.ownsRow w.heap.size 66 5 v pre.length (tokLs pre)) ∨ ((∀ x ∈ L, x.2.2 = 0) ∧ ∃ v, e = .returned (.tuple #[v, .int .i64 0, .int .i64 0]) ∧ w'.ownsRow w.heap.size 66 5 v L.length (tokLs L)))) → UptoP s w e w') := by
    unfold Hid
    intro e w' h
    unfold UptoP
    rw [hl, hL]
    exact h
  unfold foundL at hL
  by_cases hlong : 8000 < l.length
  · rw [if_pos hlong] at hL
    have hlong' : (8000 : Int) < (s.size : Int) := by omega
    go_enter Tryz.func10, Tryz.ntmps10
    go_wp2
    refine bodyPost_ret (v := .tuple #[.slice none 0 0, .int .i64 0, .int .i64 40]) (by simp [results, Tryz.results10, go_sem]) rfl ?_
    exact hpost.out _ _ ⟨Below.refl _ _, .inl ⟨[], ((0, [], 0, 0), 0, 40), _, hL.symm, by decide, fun y hy => by simp at hy, rfl, World.ownsRow_nil _ _ _ _⟩⟩
  · rw [if_neg hlong] at hL
    have hlong' : ¬ (8000 : Int) < (s.size : Int) := by omega
    have hs8 : s.size ≤ 8000 := by omega
    have hn0 := nx_le (l := l) (a := 0) (by omega)
    have hword := fun a ha W hW => rword_any s a ha hs8 W hW
    rw [hl] at hword
    go_enter Tryz.func10, Tryz.ntmps10
    go_wp2
    go_loopw [5, 6, 7] (fun lv bv av wr => ∃ (a : Nat) (bg : Bool) (f : Nat) (done : List Itm), a ≤ s.size ∧ bv = .bool bg ∧ av = .int .i64 (a : Int) ∧ l.length + 1 ≤ f + nx l a ∧ Hid (done ++ foundP l f (nx l a) bg = L) ∧ (∀ y ∈ done, y.2.2 = 0) ∧ wr.ownsRow w.heap.size 66 5 lv done.length (tokLs done) ∧ Below w.heap.size w wr) (fun _ _ av _ => s.size + 1 - (intOf av).toNat)
    case atStart => exact ⟨0, false, l.length + 1, [], by omega, rfl, rfl, by omega, by unfold Hid; exact hL, fun y hy => by simp at hy, World.ownsRow_nil _ _ _ _, Below.refl _ _⟩
    case round =>
      obtain ⟨a, bg, f, done, ha, rfl, rfl, hf, hfl, hok, ho, hB⟩ := hrel
      clear hL
      have hnxl := nx_le (l := l) (a := a) (by omega)
      have hnxg := nx_ge l a
      have hdl : done.length ≤ 16002 := by
        have := congrArg List.length hfl.out
        rw [List.length_append] at this
        omega
      obtain ⟨f, rfl⟩ : ∃ f', f = f' + 1 := ⟨f - 1, by omega⟩
      obtain ⟨lp, lm, lc, rfl⟩ := own_slice ho
      by_cases hend : a < s.size
      · have hend' : (a : Int) < (s.size : Int) := by omega
        have hal : a < l.length := by omega
        obtain ⟨k, hk, hix⟩ := idx_byte s l hl a hal
        by_cases h1 : cls k = 1
        · have hnb := nx_blank hal (by rw [hk]; exact h1)
          rw [hnb] at hf hfl
          have hm : ((k : Int) == 32) = true ∨ (((k : Int) == 32) = false ∧ ((k : Int) == 9) = true) := by
            rcases (cls_blank k).1 h1 with rfl | rfl
            · exact .inl rfl
            · exact .inr ⟨rfl, rfl⟩
          clear hword h1 hk hnb hl
          rcases hm with h32 | ⟨h32, h9⟩
          all_goals
            go_wp2_with fail
            go_roundw
            case rel => exact ⟨a + 1, bg, f + 1, done, by omega, by rfl, by go_num, hf, hfl, hok, ho, hB⟩
            case measure => simp [intOf]; omega
        · have h32 : ((k : Int) == 32) = false := by
            have : k ≠ 32 := fun h => h1 ((cls_blank k).2 (.inl h))
            simp
            omega
          have h9 : ((k : Int) == 9) = false := by
            have : k ≠ 9 := fun h => h1 ((cls_blank k).2 (.inr h))
            simp
            omega
          by_cases h4 : cls k = 4
          · have h35 : ((k : Int) == 35) = true := by rw [(cls_hash k).1 h4]; rfl
            have hnr := nx_rem hal (by rw [hk]; exact h4)
            obtain ⟨q, hq⟩ : ∃ q, nx l a = q := ⟨_, rfl⟩
            rw [hq] at hnr hf hfl hnxl hnxg
            have hidx := fun p hp => idx_byte s l hl p hp
            have hk35 := (cls_hash k).1 h4
            clear hword h1 h4
            go_wp2_with fail
            go_loopw [7] (fun av X => ∃ p : Nat, a ≤ p ∧ p ≤ s.size ∧ av = .int .i64 (p : Int) ∧ p + skp (l.drop p) true = q ∧ X = wr) (fun av _ => s.size + 1 - (intOf av).toNat)
            case atStart => exact ⟨a, by omega, by omega, rfl, hnr.symm, rfl⟩
            case round =>
              obtain ⟨p, hap, hps, rfl, hpq, rfl⟩ := hrel
              by_cases hpe : p < s.size
              · have hpe' : (p : Int) < (s.size : Int) := by omega
                obtain ⟨k2, hk2, hix2⟩ := hidx p (by omega)
                by_cases hnl : k2 = 10
                · have hne : ((k2 : Int) != 10) = false := by rw [hnl]; rfl
                  rw [skt_nl (by omega) (by rw [hk2]; exact hnl), Nat.add_zero] at hpq
                  have hpp : nx l p = p := nx_stop (by omega) (by rw [hk2, hnl]; decide) (by rw [hk2, hnl]; decide)
                  have hap2 : a ≠ p := fun h => by
                    subst h
                    rw [hk] at hk2
                    omega
                  subst hpq
                  have hfl' : Hid (done ++ foundP l (f + 1) (nx l p) bg = L) := by rw [hpp]; exact hfl
                  have hf' : l.length + 1 ≤ f + 1 + nx l p := by rw [hpp]; exact hf
                  clear hfl hf hpp hk2 hnl hidx hnr
                  go_wp2_with fail
                  go_roundw
                  case rel => exact ⟨p, bg, f + 1, done, by omega, by rfl, by rfl, hf', hfl', hok, ho, hB⟩
                  case measure => simp [intOf]; omega
                · have hne : ((k2 : Int) != 10) = true := by simp; omega
                  rw [skt_on (by omega) (by rw [hk2]; exact hnl)] at hpq
                  clear hk2 hnl hidx hnr
                  go_wp2_with fail
                  go_roundw
                  case rel => exact ⟨p + 1, by omega, by omega, by go_num, by omega, trivial⟩
                  case measure => simp [intOf]; omega
              · obtain rfl : p = s.size := by omega
                rw [skt_end (by omega), Nat.add_zero] at hpq
                have hpp : nx l s.size = s.size := by have := nx_last l; rw [hls] at this; exact this
                subst hpq
                have hfl' : Hid (done ++ foundP l (f + 1) (nx l s.size) bg = L) := by rw [hpp]; exact hfl
                have hf' : l.length + 1 ≤ f + 1 + nx l s.size := by rw [hpp]; exact hf
                clear hfl hf hpp hidx hnr
                go_wp2_with fail
                go_roundw
                case rel => exact ⟨s.size, bg, f + 1, done, by omega, by rfl, by rfl, hf', hfl', hok, ho, hB⟩
                case measure => simp [intOf]; omega
          · have h35 : ((k : Int) == 35) = false := by
              have : k ≠ 35 := fun h => h4 ((cls_hash k).2 h)
              simp
              omega
            have hns := nx_stop hal (by rw [hk]; exact h1) (by rw [hk]; exact h4)
            rw [hns] at hf hfl
            unfold Hid foundP at hfl
            rw [clsAt_in hal, hk] at hfl
            by_cases h2 : cls k = 2
            · have h10 : ((k : Int) == 10) = true := by rw [(cls_nl k).1 h2]; rfl
              rw [if_neg (by rw [h2]; decide), if_neg (show ¬ a = l.length from by omega)] at hfl
              have hge := nx_ge l (a + 1)
              clear hword h1 h4 hk h2
              cases bg with
              | false =>
                simp only [Bool.false_eq_true, if_false, List.nil_append] at hfl
                have hfl' : Hid (done ++ foundP l f (nx l (a + 1)) false = L) := hfl
                clear hfl
                go_wp2_with fail
                go_roundw
                case rel => exact ⟨a + 1, false, f, done, by omega, by rfl, by go_num, by omega, hfl', hok, ho, hB⟩
                case measure => simp [intOf]; omega
              | true =>
                have hfl' : Hid ((done ++ [((8, [], 0, 0), a, 0)]) ++ foundP l f (nx l (a + 1)) false = L) := by unfold Hid; rw [← hfl]; simp
                clear hfl
                go_wp2_with (at_builtin; refine wpList_append_own _ rfl _ _ 51 rfl w.heap.size 66 i0 _ 5 48 Tryz.underlying51 hi hz0 hz1 hz2 rfl (by decide) _ done.length (tokLs done) rfl (ho.alloc _) ⟨wr.heap.size, 0, none⟩ 1 1 (tokL ((8, [], 0, 0), a, 0)) rfl rfl (new5 wr ((8, [], 0, 0), a, 0) _) (tok_one _) (by unfold maxLen; omega) (by omega) (by have := hB.size; simp; omega) ?_; intro v3 w3 hown3 hgrow3 _)
                go_roundw
                case rel =>
                  refine ⟨a + 1, false, f, done ++ [((8, [], 0, 0), a, 0)], by omega, by rfl, by go_num, by omega, hfl', ?_, ?_, (hB.alloc hB.size _).grown hgrow3 (by have := hB.size; simp; omega) (fun j hj => (ho.lt j hj).1)⟩
                  · intro y hy
                    rcases List.mem_append.1 hy with hy | hy
                    · exact hok y hy
                    · rw [List.mem_singleton.1 hy]
                  · rw [tokLs_snoc, List.length_append]
                    exact hown3
                case measure => simp [intOf]; omega
            · have h10 : ((k : Int) == 10) = false := by
                have : k ≠ 10 := fun h => h2 ((cls_nl k).2 h)
                simp
                omega
              have hc0 : clsAt l a &&& 130 = 0 := by
                rw [clsAt_in hal, hk]
                rcases cls_all k with h | h | h | h | h | h | h | h
                · rw [h]; rfl
                · exact absurd h h1
                · exact absurd h h2
                · exact absurd h h4
                all_goals rw [h]; rfl
              rw [if_pos (by rw [← hk, ← clsAt_in hal]; exact hc0)] at hfl
              have hwd := hword a hend wr (hS.later hB)
              cases hw : wordS l a with
              | error qn =>
                obtain ⟨q, n⟩ := qn
                rw [hw] at hwd hfl
                dsimp only [refV, tokC] at hwd
                dsimp only at hfl
                have hn := wordS_err hw
                have hn0 : ((n : Int) != 0) = true := by simp; omega
                have hfl' : Hid (L = done ++ [((0, [], 0, 0), q, n)]) := hfl.symm
                clear hfl hw hword hc0 h1 h2 h4 hk
                go_wp2_with (first | (go_at_call 38; refine hwd.mono ?_; rintro e w2 ⟨rfl, hb2⟩))
                refine bodyPost_ret (v := .tuple #[.slice lp lm lc, .int .i64 (q : Int), .int .i64 (n : Int)]) (by simp [results, Tryz.results10, go_sem]) rfl ?_
                exact hpost.out _ _ ⟨(below_step hB hb2).alloc (below_step hB hb2).size _, .inl ⟨done, ((0, [], 0, 0), q, n), _, hfl'.out, hn.1, hok, rfl, (own_laterB ho hb2).alloc _⟩⟩
              | ok we =>
                obtain ⟨wd, e⟩ := we
                rw [hw] at hwd hfl
                dsimp only [refV, tokC] at hwd
                dsimp only at hfl
                have hn := wordS_ok (by omega) hc0 hw
                have hge := nx_ge l e
                have hfl' : Hid ((done ++ [(wd, a, 0)]) ++ foundP l f (nx l e) true = L) := by unfold Hid; rw [← hfl]; simp
                clear hfl hw hword hc0 h1 h2 h4 hk
                go_wp2_with (first | (go_at_call 38; refine hwd.mono ?_; rintro e2 w2 ⟨rfl, hb2⟩; have hB2 := below_step hB hb2; have ho2 := own_laterB ho hb2) | (at_builtin; refine wpList_append_own _ rfl _ _ 51 rfl w.heap.size 66 i0 _ 5 48 Tryz.underlying51 hi hz0 hz1 hz2 rfl (by decide) _ done.length (tokLs done) rfl ((ho2.alloc _).alloc _) ⟨w2.heap.size + 1, 0, none⟩ 1 1 (tokL (wd, a, 0)) rfl rfl (new5' _ _ (by simp) (wd, a, 0) _) (tok_one _) (by unfold maxLen; omega) (by omega) (by have := hB2.size; simp; omega) ?_; intro v3 w3 hown3 hgrow3 _))
                go_roundw
                case rel =>
                  refine ⟨e, true, f, done ++ [(wd, a, 0)], by omega, by rfl, by rfl, by omega, hfl', ?_, ?_, ((hB2.alloc hB2.size _).alloc (by have := hB2.size; simp; omega) _).grown hgrow3 (by have := hB2.size; simp; omega) (fun j hj => (ho.lt j hj).1)⟩
                  · intro y hy
                    rcases List.mem_append.1 hy with hy | hy
                    · exact hok y hy
                    · rw [List.mem_singleton.1 hy]
                  · rw [tokLs_snoc, List.length_append]
                    exact hown3
                case measure => simp [intOf]; omega
      · obtain rfl : a = s.size := by omega
        have hpp : nx l s.size = s.size := by have := nx_last l; rw [hls] at this; exact this
        rw [hpp] at hf hfl
        unfold Hid foundP at hfl
        rw [clsAt_out (by omega), if_neg (by decide), if_pos hls.symm, List.append_nil] at hfl
        clear hword hpp
        cases bg with
        | false =>
          simp only [Bool.false_eq_true, if_false, List.append_nil] at hfl
          subst hfl
          go_wp2_with fail
          refine bodyPost_ret (v := .tuple #[.slice lp lm lc, .int .i64 0, .int .i64 0]) (by simp [results, Tryz.results10, go_sem]) rfl ?_
          exact hpost.out _ _ ⟨hB, .inr ⟨hok, _, rfl, ho⟩⟩
        | true =>
          have hfl' : Hid (done ++ [((8, [], 0, 0), s.size, 0)] = L) := by unfold Hid; rw [← hfl]; simp
          clear hfl
          go_wp2_with (at_builtin; refine wpList_append_own _ rfl _ _ 51 rfl w.heap.size 66 i0 _ 5 48 Tryz.underlying51 hi hz0 hz1 hz2 rfl (by decide) _ done.length (tokLs done) rfl (ho.alloc _) ⟨wr.heap.size, 0, none⟩ 1 1 (tokL ((8, [], 0, 0), s.size, 0)) rfl rfl (new5 wr ((8, [], 0, 0), s.size, 0) _) (tok_one _) (by unfold maxLen; omega) (by omega) (by have := hB.size; simp; omega) ?_; intro v3 w3 hown3 hgrow3 _)
          refine bodyPost_ret (v := .tuple #[v3, .int .i64 0, .int .i64 0]) (by simp [results, Tryz.results10, go_sem]) rfl ?_
          refine hpost.out _ _ ⟨(hB.alloc hB.size _).grown hgrow3 (by have := hB.size; simp; omega) (fun j hj => (ho.lt j hj).1), .inr ⟨?_, _, rfl, ?_⟩⟩
          · rw [← hfl'.out]
            intro y hy
            rcases List.mem_append.1 hy with hy | hy
            · exact hok y hy
            · rw [List.mem_singleton.1 hy]
          · rw [← hfl'.out, tokLs_snoc, List.length_append]
            exact hown3

end Go.Proofs.YtekapipfaahhcaaGreatDoor.Q
